/- Tables of costs in memory; package sat: width, Via. -/
import Derived.Test.YtgkeifjnnpcleabUg
namespace Go.Proofs.Ytgkeifjnnpcleab
open Go.RowKit

/-- A table of costs in memory: each row by its address, its capacity, and its costs. -/
def TabU (W : World) (a : Option Addr) (ts : List (Option Addr × Nat × List Int)) : Prop :=
  ts = [] ∨ ∃ b o, a = some ⟨b, o, none⟩ ∧ ∀ i t, ts[i]? = some t → W.cell? ⟨b, o + i, none⟩ = some (.slice t.1 t.2.2.length t.2.1) ∧ RowU W t.1 t.2.2
theorem TabU.below {W W' : World} {a : Option Addr} {ts : List (Option Addr × Nat × List Int)} (h : TabU W a ts) (hb : Below W.heap.size W W') : TabU W' a ts := by
  rcases h with h | ⟨b, o, h1, h2⟩
  · exact .inl h
  · exact .inr ⟨b, o, h1, fun i z hz => ⟨cell_later hb (h2 i z hz).1, (h2 i z hz).2.below hb⟩⟩
theorem TabU.cell {W : World} {a : Option Addr} {ts : List (Option Addr × Nat × List Int)} (h : TabU W a ts) {k : Nat} (hk : k < ts.length) :
    ∃ b o c d zs, ts[k] = (c, d, zs) ∧ a = some ⟨b, o, none⟩ ∧ W.cell? ⟨b, o + k, none⟩ = some (.slice c zs.length d) ∧ RowU W c zs := by
  rcases h with rfl | ⟨b, o, h1, h2⟩
  · simp at hk
  · obtain ⟨q1, q2⟩ := h2 k _ (List.getElem?_eq_getElem hk)
    exact ⟨b, o, _, _, _, rfl, h1, q1, q2⟩
def rowsT (ts : List (Option Addr × Nat × List Int)) : List (List Int) := ts.map (fun t => t.2.2)
theorem rowsT_len (ts : List (Option Addr × Nat × List Int)) : (rowsT ts).length = ts.length := by simp [rowsT]
theorem rowsT_at {ts : List (Option Addr × Nat × List Int)} {k : Nat} (hk : k < ts.length) {c : Option Addr} {d : Nat} {zs : List Int} (h : ts[k] = (c, d, zs)) : (rowsT ts)[k]? = some zs := by simp [rowsT, hk, h]
def AllT (rs : List (List Int)) : Prop := ∀ r ∈ rs, AllU r

def wideT (rs : List (List Int)) : Nat := (rs.headD []).length
def evenT (rs : List (List Int)) : Bool := rs.all (fun r => r.length == wideT rs)
def widthT (rs : List (List Int)) : Nat := if evenT rs then wideT rs else 0
theorem widthT_yes {rs : List (List Int)} (h : evenT rs = true) : widthT rs = wideT rs := if_pos h
theorem widthT_no {rs : List (List Int)} (h : evenT rs = false) : widthT rs = 0 := by unfold widthT; rw [h]; rfl
theorem wideT_at {rs : List (List Int)} {z : List Int} (h : rs[0]? = some z) : wideT rs = z.length := by
  cases rs with
  | nil => simp at h
  | cons r l => simp at h; subst h; rfl
theorem evenT_at {rs : List (List Int)} (h : evenT rs = true) {k : Nat} {z : List Int} (hz : rs[k]? = some z) : z.length = wideT rs := by
  have := List.all_eq_true.1 h z (List.mem_of_getElem? hz)
  simpa using this
theorem evenT_no {rs : List (List Int)} {k : Nat} {z : List Int} (hz : rs[k]? = some z) (hne : z.length ≠ wideT rs) : evenT rs = false := by
  rw [Bool.eq_false_iff]
  exact fun h => hne (evenT_at h hz)
theorem evenT_of {rs : List (List Int)} (h : ∀ j z, j < rs.length → rs[j]? = some z → z.length = wideT rs) : evenT rs = true := by
  refine List.all_eq_true.2 fun r hr => ?_
  obtain ⟨j, hj⟩ := List.getElem?_of_mem hr
  simpa using h j r (List.getElem?_eq_some_iff.1 hj).1 hj

/-- What stands at a place of a row by a table. -/
def viaTo (xs : List Int) (rs : List (List Int)) (p k : Nat) : Int := (List.zipWith (fun x r => addC x (r.getD p 0)) (xs.take k) (rs.take k)).foldl minC 18446744073709551615
def viaAt (xs : List Int) (rs : List (List Int)) (p : Nat) : Int := viaTo xs rs p xs.length
def viaC (xs : List Int) (rs : List (List Int)) : List Int := (List.range (wideT rs)).map (viaAt xs rs)
theorem viaTo_succ {xs : List Int} {rs : List (List Int)} {p k : Nat} {z : List Int} (hx : k < xs.length) (hz : rs[k]? = some z) : viaTo xs rs p (k + 1) = minC (viaTo xs rs p k) (addC xs[k] (z.getD p 0)) := by
  have hr := (List.getElem?_eq_some_iff.1 hz).1
  have hz' : rs[k] = z := (List.getElem?_eq_some_iff.1 hz).2
  unfold viaTo
  rw [List.take_succ_eq_append_getElem hx, List.take_succ_eq_append_getElem hr, List.zipWith_append (by simp; omega), List.foldl_append, hz']
  rfl
theorem viaTo_zero (xs : List Int) (rs : List (List Int)) (p : Nat) : viaTo xs rs p 0 = 18446744073709551615 := rfl

set_option maxHeartbeats 800000 in
theorem width_any (a : Option Addr) (cap : Nat) (ts : List (Option Addr × Nat × List Int)) (w : World) (hr : TabU w a ts) (hl : ts.length ≤ 1048576) :
    Calls Try.prog 27 #[.slice a ts.length cap] w fun e w' => e = .returned (.tuple #[.int .i64 (widthT (rowsT ts) : Int), .bool (evenT (rowsT ts))]) ∧ w = w' := by
  have hl2 : (ts.length : Int) ≤ 1048576 := by omega
  by_cases h0 : ts.length = 0
  · obtain rfl : ts = [] := List.eq_nil_of_length_eq_zero h0
    have HE := Lib.hid (show evenT (rowsT []) = true ∧ widthT (rowsT []) = 0 from ⟨rfl, rfl⟩)
    clear h0 hr
    go_enter Try.func27, Try.ntmps27
    go_wp2
    go_ret2
    exact ⟨by rw [HE.out.1, HE.out.2]; rfl, rfl⟩
  · have h01 : ((ts.length : Int) == 0) = false := by rw [beq_eq_false_iff_ne]; omega
    have h02 : (0 : Int) < (ts.length : Int) := by omega
    obtain ⟨b, o, c, d, zs, ht0, rfl, q0, r0⟩ := hr.cell (show 0 < ts.length by omega)
    rw [Nat.add_zero] at q0
    have HW := Lib.hid (wideT_at (rowsT_at (by omega) ht0))
    have HR := Lib.hid hr
    clear h0 ht0 hr
    go_enter Try.func27, Try.ntmps27
    go_wp2
    go_loopw [11] (fun i wr => ∃ k : Nat, k ≤ ts.length ∧ i = .int .i64 k ∧ (∀ j z, j < k → (rowsT ts)[j]? = some z → z.length = wideT (rowsT ts)) ∧ w = wr) (fun i _ => ts.length - (intOf i).toNat)
    case atStart => exact ⟨0, Nat.zero_le _, rfl, fun j z h => by omega, rfl⟩
    case round =>
      obtain ⟨k, hk, rfl, hev, rfl⟩ := hrel
      have HV := Lib.hid hev
      clear hev
      by_cases hlt : k < ts.length
      · have hlt2 : (k : Int) < (ts.length : Int) := by omega
        obtain ⟨b', o', c', d', zs', ht, ha, q, rq⟩ := HR.out.cell hlt
        cases ha
        have HT := Lib.hid (rowsT_at hlt ht)
        clear ht
        by_cases hc : zs'.length = zs.length
        · have hc1 : ((zs'.length : Int) != (zs.length : Int)) = false := by rw [bne_eq_false_iff_eq]; omega
          have HC := Lib.hid hc
          clear hc
          go_wp2
          go_roundw
          case rel => exact ⟨k + 1, by omega, by go_num, fun j z hj hz => (by
            by_cases e : j = k
            · subst e; rw [HT.out] at hz; cases hz; rw [HW.out, HC.out]
            · exact HV.out j z (by omega) hz), by trivial⟩
          case measure => simp [intOf]; omega
        · have hc1 : ((zs'.length : Int) != (zs.length : Int)) = true := by rw [bne_iff_ne]; omega
          have HE := Lib.hid (evenT_no HT.out (by rw [HW.out]; exact hc))
          clear hc
          go_wp2
          go_ret2
          exact ⟨by rw [HE.out, widthT_no HE.out]; rfl, rfl⟩
      · have hge : (ts.length : Int) ≤ (k : Int) := by omega
        have HE := Lib.hid (evenT_of (rs := rowsT ts) (fun j z hj hz => HV.out j z (by rw [rowsT_len] at hj; omega) hz))
        go_wp2
        go_ret2
        exact ⟨by rw [HE.out, widthT_yes HE.out, HW.out]; rfl, rfl⟩

set_option maxHeartbeats 1600000 in
theorem viaat_any (p q : Nat) (a b : Option Addr) (c d : Nat) (xs : List Int) (ts : List (Option Addr × Nat × List Int)) (k : Nat) (w : World) (hl : xs.length ≤ 1048576) (he : xs.length = ts.length) (hev : evenT (rowsT ts) = true) (hk : k < wideT (rowsT ts))
    (c0 : w.cell? ⟨p, 0, none⟩ = some (.slice a xs.length c)) (c1 : w.cell? ⟨q, 0, none⟩ = some (.slice b ts.length d)) (hr : RowU w a xs) (ht : TabU w b ts) (hu : AllU xs) (hut : AllT (rowsT ts)) :
    Calls Try.prog 28 #[.int .i64 (k : Int), .pointer (some ⟨p, 0, none⟩), .pointer (some ⟨q, 0, none⟩)] w fun e w' => e = .returned (.int .u64 (viaAt xs (rowsT ts) k)) ∧ Below w.heap.size w w' := by
  have hl2 : (xs.length : Int) ≤ 1048576 := by omega
  have HEV := Lib.hid hev
  have HE := Lib.hid he
  have HK := Lib.hid hk
  have HT := Lib.hid ht
  have HR := Lib.hid hr
  rw [← he] at c1
  have hk0 : (0 : Int) ≤ (k : Int) := by omega
  clear hev he hk ht hr
  have h0 : inU 18446744073709551615 := inU_inf
  go_enter Try.func28, Try.ntmps28
  go_wp2
  go_loopw [5, 10] (fun v i wr => ∃ j : Nat, j ≤ xs.length ∧ i = .int .i64 j ∧ v = .int .u64 (viaTo xs (rowsT ts) k j) ∧ w = wr) (fun _ i _ => xs.length - (intOf i).toNat)
  case atStart => exact ⟨0, Nat.zero_le _, rfl, rfl, rfl⟩
  case round =>
    obtain ⟨j, hj, rfl, rfl, rfl⟩ := hrel
    by_cases hlt : j < xs.length
    · have hlt2 : (j : Int) < (xs.length : Int) := by omega
      have hj0 : (0 : Int) ≤ (j : Int) := by omega
      have hltt : j < ts.length := by rw [← HE.out]; exact hlt
      obtain ⟨gb, go, rfl, q1⟩ := HR.out.cell hlt
      obtain ⟨b', o', c', d', zs, hz, rfl, q2, rq⟩ := HT.out.cell hltt
      have hzr := rowsT_at hltt hz
      have hkz : k < zs.length := by rw [evenT_at HEV.out hzr]; exact HK.out
      have hkz2 : (k : Int) < (zs.length : Int) := by omega
      obtain ⟨gb2, go2, rfl, q3⟩ := rq.cell hkz
      have HS := Lib.hid (viaTo_succ (p := k) hlt hzr)
      have HZ := Lib.hid (show zs.getD k 0 = zs[k] by simp [hkz])
      have u1 := hu.at hlt
      have u2 := (hut zs (List.mem_of_getElem? hzr)).at hkz
      clear hz hzr rq
      generalize xs[j] = x at *
      generalize zs[k] = z at *
      have HM := Lib.hid (show minC (viaTo xs (rowsT ts) k j) (addC x z) = if addC x z < viaTo xs (rowsT ts) k j then addC x z else viaTo xs (rowsT ts) k j from rfl)
      go_wp2_with (go_at_call 12; (with_reducible refine (add_any _ _ _ (by assumption) (by assumption)).mono ?_); rintro e w' ⟨rfl, rfl⟩)
      all_goals
        go_roundw
        case rel => exact ⟨j + 1, by omega, by go_num, by rw [HS.out, HZ.out, HM.out]; all_goals (first | (rw [if_pos (by omega)]; done) | (rw [if_neg (by omega)]; done)), by trivial⟩
        case measure => simp [intOf]; omega
    · obtain rfl : j = xs.length := by omega
      have hge : (xs.length : Int) ≤ (xs.length : Int) := by omega
      go_wp2
      go_ret
      exact ⟨rfl, bl0 _⟩
end Go.Proofs.Ytgkeifjnnpcleab
