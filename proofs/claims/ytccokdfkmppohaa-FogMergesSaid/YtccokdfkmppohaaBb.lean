/- FogMerges: the reference's Seen. -/
import Derived.Test.YtccokdfkmppohaaBa
namespace Go.Proofs.Ytccokdfkmppohaa
open Go.RowKit Go.Shelf

/-- A row of numbers in memory. -/
def RowR (W : World) (a : Option Addr) (rs : List Int) : Prop := rs = [] ∨ ∃ b, a = some ⟨b, 0, none⟩ ∧ ∀ i z, rs[i]? = some z → W.cell? ⟨b, i, none⟩ = some (.int .i64 z)
theorem rowR_of_own {w : World} {base : Nat} {v : Value} {zs : List Int} (h : w.ownsRow base 3 1 v zs.length (flatR zs)) : ∃ a cap, v = .slice a zs.length cap ∧ RowR w a zs := by
  have hown := h
  rcases h.2 with ⟨rfl, h0⟩ | ⟨g, cap, cur, rfl, hb, hg, _⟩
  · refine ⟨none, 0, by rw [h0], .inl (List.eq_nil_of_length_eq_zero h0)⟩
  · refine ⟨_, cap, rfl, .inr ⟨g, rfl, fun i z hz => ?_⟩⟩
    have a0 := hown.cells (g := g) rfl i (.int .i64 z) (flatR_at hz)
    rw [addr_add, Nat.zero_add] at a0
    exact a0
theorem RowR.cell {W : World} {a : Option Addr} {rs : List Int} (h : RowR W a rs) {k : Nat} (hk : k < rs.length) : ∃ b, a = some ⟨b, 0, none⟩ ∧ W.cell? ⟨b, k, none⟩ = some (.int .i64 rs[k]) := by
  rcases h with h | ⟨b, h1, h2⟩
  · subst h; simp at hk
  · exact ⟨b, h1, h2 k _ (List.getElem?_eq_getElem hk)⟩
theorem RowR.below {W W' : World} {a : Option Addr} {zs : List Int} (h : RowR W a zs) (hb : Below W.heap.size W W') : RowR W' a zs := by
  rcases h with h | ⟨b, h1, h2⟩
  · exact .inl h
  · exact .inr ⟨b, h1, fun i z hz => cell_later hb (h2 i z hz)⟩

/-- How many were seen. -/
def seenR (rs : List Int) : Nat := rs.countP (fun z => decide (0 ≤ z))
theorem seenR_next {rs : List Int} {k : Nat} (hk : k < rs.length) : seenR (rs.take (k + 1)) = seenR (rs.take k) + if 0 ≤ rs[k] then 1 else 0 := by
  unfold seenR
  rw [List.take_succ_eq_append_getElem hk, List.countP_append]
  by_cases h : 0 ≤ rs[k] <;> simp [h]

set_option maxRecDepth 100000 in
set_option maxHeartbeats 3200000 in
theorem rfseen_any (B g : Nat) (X Y : Int) (v : Value) (rs : List Int) (k : Int) (w : World) (m : RFogAt w B g X Y v rs k) (hl : rs.length ≤ 65536) :
    Calls Try.prog 18 #[.pointer (some ⟨g, 0, none⟩)] w fun e w' => e = .returned (.int .i64 (seenR rs : Nat)) ∧ Below w.heap.size w w' := by
  obtain ⟨a, cap, rfl, hr⟩ := rowR_of_own m.2.2
  have c2 := m.c2
  have hA := bl0 w
  have HM := Lib.hid hr
  clear m hr
  go_enter Try.func18, Try.ntmps18
  go_wp2
  go_loopw [3, 4] (fun s i wr => ∃ (j c : Nat), j ≤ rs.length ∧ i = .int .i64 j ∧ s = .int .i64 c ∧ c ≤ j ∧ Hid (c = seenR (rs.take j)) ∧ Below w.heap.size w wr) (fun _ i _ => rs.length - (intOf i).toNat)
  case atStart => exact ⟨0, 0, Nat.zero_le _, rfl, rfl, Nat.le_refl _, Lib.hid (by simp [seenR]), hA⟩
  case round =>
    obtain ⟨j, c, hj, rfl, rfl, hcj, HC, hAr⟩ := hrel
    have d2 := cell_later hAr c2
    clear hA
    by_cases hlt : j < rs.length
    · have hlI : (j : Int) < (rs.length : Int) := by omega
      have hj0 : (0 : Int) ≤ (j : Int) := by omega
      have hl2 : (rs.length : Int) ≤ 65536 := by omega
      obtain ⟨b, rfl, y⟩ := (HM.out).cell hlt
      replace y := cell_later hAr y
      have hn := seenR_next hlt
      obtain ⟨z, hz⟩ : ∃ z, rs[j] = z := ⟨_, rfl⟩
      rw [hz] at y hn
      have hc2 : (c : Int) ≤ 65536 := by omega
      have hc0 : (0 : Int) ≤ (c : Int) := by omega
      by_cases h0 : 0 ≤ z
      · rw [if_pos h0] at hn
        have HN := Lib.hid hn
        have HB := Lib.hid hAr
        clear hn hAr hz
        go_wp2
        go_roundw
        case rel => exact ⟨j + 1, c + 1, by omega, by go_num, by go_num, by omega, Lib.hid (by rw [HN.out, HC.out]), HB.out⟩
        case measure => simp [intOf]; omega
      · have h1 : z < 0 := by omega
        rw [if_neg h0] at hn
        have HN := Lib.hid hn
        have HB := Lib.hid hAr
        clear hn hAr hz h0
        go_wp2
        go_roundw
        case rel => exact ⟨j + 1, c, by omega, by go_num, rfl, by omega, Lib.hid (by rw [HN.out, HC.out]; rfl), HB.out⟩
        case measure => simp [intOf]; omega
    · have hge : (rs.length : Int) ≤ (j : Int) := by omega
      obtain rfl : j = rs.length := by omega
      obtain rfl : c = seenR rs := by
        have e := HC.out
        rwa [List.take_length] at e
      have HB := Lib.hid hAr
      clear hAr hlt hj
      go_wp2
      go_ret
      exact ⟨rfl, HB.out⟩
end Go.Proofs.Ytccokdfkmppohaa
