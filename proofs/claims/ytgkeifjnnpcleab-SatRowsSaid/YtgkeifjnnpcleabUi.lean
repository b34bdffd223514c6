/- Package sat: Via. -/
import Derived.Test.YtgkeifjnnpcleabUh
namespace Go.Proofs.Ytgkeifjnnpcleab
open Go.RowKit

theorem enters_via (args : Array Value) (w : World) : (callFunc 28 args).run Try.prog w = .ok (.enter 28 args) w := enters_of Try.func28 (by kernel_rfl) rfl args w
theorem viaC_len (xs : List Int) (rs : List (List Int)) : (viaC xs rs).length = wideT rs := by simp [viaC]

set_option maxHeartbeats 1600000 in
theorem via_yes (a b : Option Addr) (c d : Nat) (xs : List Int) (ts : List (Option Addr × Nat × List Int)) (w : World) (hl : xs.length ≤ 1048576) (hw : wideT (rowsT ts) ≤ 1048576) (he : xs.length = ts.length) (hev : evenT (rowsT ts) = true)
    (hr : RowU w a xs) (ht : TabU w b ts) (hu : AllU xs) (hut : AllT (rowsT ts)) :
    Calls Try.prog 20 #[.slice a xs.length c, .slice b ts.length d] w fun e w' => ∃ z, e = .returned (.tuple #[.slice z (viaC xs (rowsT ts)).length (viaC xs (rowsT ts)).length, .int .i64 0]) ∧ RowU w' z (viaC xs (rowsT ts)) ∧ Below w.heap.size w w' := by
  rw [viaC_len]
  have h1 : ((xs.length : Int) != (ts.length : Int)) = false := by rw [bne_eq_false_iff_eq]; omega
  obtain ⟨w1, hw1⟩ : ∃ w1, (w.alloc (.cells #[.slice a xs.length c] 22)).alloc (.cells #[.slice b ts.length d] 35) = w1 := ⟨_, rfl⟩
  have hb1 : Below w.heap.size w w1 := by rw [← hw1]; exact bl_al (bl_al (bl0 w) _) _
  have c0 : w1.cell? ⟨w.heap.size, 0, none⟩ = some (.slice a xs.length c) := by rw [← hw1]; simp [go_sem]
  have c1 : w1.cell? ⟨w.heap.size + 1, 0, none⟩ = some (.slice b ts.length d) := by rw [← hw1]; simp [go_sem]
  have H1 := Lib.hid hw1
  have HM := hmf
  have HE := Lib.hid he
  have HEV := Lib.hid hev
  have HW := Lib.hid (widthT_yes hev)
  have HT := Lib.hid (ht.below hb1)
  have hlt : ts.length ≤ 1048576 := by omega
  clear hw1 he ht
  go_enter Try.func20, Try.ntmps20
  go_wp2_with fail
  rw [H1.out]
  refine (width_any b d ts _ HT.out hlt).mono ?_
  rintro e w' ⟨rfl, rfl⟩
  rw [HW.out, HEV.out]
  clear hev
  go_wp2_with fail
  refine (row_any 28 #[.pointer (some ⟨w.heap.size, 0, none⟩), .pointer (some ⟨w.heap.size + 1, 0, none⟩)] (wideT (rowsT ts)) (viaAt xs (rowsT ts)) _ hw enters_via ?hat).mono ?_
  case hat =>
    intro k W hk hb
    exact viaat_any w.heap.size (w.heap.size + 1) a b c d xs ts k W hl HE.out HEV.out hk (cell_later hb c0) (cell_later hb c1) ((hr.below hb1).below hb) (HT.out.below hb) hu hut
  rintro e w2 ⟨rfl, hrow, hb2⟩
  have HR := Lib.hid hrow
  clear hrow
  go_wp2
  go_ret2
  exact ⟨_, rfl, HR.out, bl_tr hb1 hb2⟩

set_option maxHeartbeats 1600000 in
theorem via_no (a b : Option Addr) (c d n : Nat) (ts : List (Option Addr × Nat × List Int)) (w : World) (hl : ts.length ≤ 1048576) (hno : n ≠ ts.length ∨ evenT (rowsT ts) = false) (ht : TabU w b ts) :
    Calls Try.prog 20 #[.slice a n c, .slice b ts.length d] w fun e w' => e = .returned (.tuple #[.slice none 0 0, .int .i64 12]) ∧ Below w.heap.size w w' := by
  obtain ⟨w1, hw1⟩ : ∃ w1, (w.alloc (.cells #[.slice a n c] 22)).alloc (.cells #[.slice b ts.length d] 35) = w1 := ⟨_, rfl⟩
  have hb1 : Below w.heap.size w w1 := by rw [← hw1]; exact bl_al (bl_al (bl0 w) _) _
  have c0 : w1.cell? ⟨w.heap.size, 0, none⟩ = some (.slice a n c) := by rw [← hw1]; simp [go_sem]
  have c1 : w1.cell? ⟨w.heap.size + 1, 0, none⟩ = some (.slice b ts.length d) := by rw [← hw1]; simp [go_sem]
  have H1 := Lib.hid hw1
  have HT := Lib.hid (ht.below hb1)
  have HNO := Lib.hid hno
  clear hw1 ht hno
  by_cases he : n = ts.length
  · have hev := HNO.out.resolve_left (fun h => h he)
    have h1 : ((n : Int) != (ts.length : Int)) = false := by rw [bne_eq_false_iff_eq]; omega
    have HEV := Lib.hid hev
    clear he hev
    go_enter Try.func20, Try.ntmps20
    go_wp2_with fail
    rw [H1.out]
    refine (width_any b d ts _ HT.out hl).mono ?_
    rintro e w' ⟨rfl, rfl⟩
    rw [HEV.out]
    go_wp2
    go_ret2
    exact ⟨rfl, hb1⟩
  · have h1 : ((n : Int) != (ts.length : Int)) = true := by rw [bne_iff_ne]; omega
    clear he
    go_enter Try.func20, Try.ntmps20
    go_wp2_with fail
    rw [H1.out]
    refine (width_any b d ts _ HT.out hl).mono ?_
    rintro e w' ⟨rfl, rfl⟩
    go_wp2
    go_ret2
    exact ⟨rfl, hb1⟩

/-- Has a table up to 30 rows of up to 30 costs? -/
def smallT (rs : List (List Int)) : Bool := (rs.take 31).all (fun r => decide (r.length ≤ 30)) && decide (rs.length ≤ 30)
theorem smallT_no {rs : List (List Int)} {k : Nat} {z : List Int} (hk : k < 31) (hz : rs[k]? = some z) (h : 30 < z.length) : smallT rs = false := by
  rw [Bool.eq_false_iff]
  intro h2
  simp only [smallT, Bool.and_eq_true, List.all_eq_true, decide_eq_true_eq] at h2
  have := h2.1 z (List.mem_of_getElem? (i := k) (by rw [List.getElem?_take, if_pos hk]; exact hz))
  omega
theorem smallT_of {rs : List (List Int)} (h : ∀ j z, j < rs.length → j < 31 → rs[j]? = some z → z.length ≤ 30) : smallT rs = decide (rs.length ≤ 30) := by
  unfold smallT
  rw [List.all_eq_true.2 (fun r hr => ?_), Bool.true_and]
  obtain ⟨j, hj⟩ := List.getElem?_of_mem hr
  rw [List.getElem?_take] at hj
  split at hj
  · simpa using h j r (List.getElem?_eq_some_iff.1 hj).1 (by assumption) hj
  · cases hj
theorem smallT_iff {rs : List (List Int)} (h : smallT rs = true) : rs.length ≤ 30 ∧ ∀ z ∈ rs, z.length ≤ 30 := by
  simp only [smallT, Bool.and_eq_true, List.all_eq_true, decide_eq_true_eq] at h
  refine ⟨h.2, fun z hz => h.1 z ?_⟩
  rwa [List.take_of_length_le (by omega)]

set_option maxHeartbeats 800000 in
theorem small_any (a : Option Addr) (cap : Nat) (ts : List (Option Addr × Nat × List Int)) (w : World) (hr : TabU w a ts) :
    Calls Try.prog 17 #[.slice a ts.length cap] w fun e w' => e = .returned (.bool (smallT (rowsT ts))) ∧ w = w' := by
  go_enter Try.func17, Try.ntmps17
  go_wp2
  go_loopw [3] (fun i wr => ∃ k : Nat, k ≤ ts.length ∧ k ≤ 31 ∧ i = .int .i64 k ∧ (∀ j z, j < k → (rowsT ts)[j]? = some z → z.length ≤ 30) ∧ w = wr) (fun i _ => 31 - (intOf i).toNat)
  case atStart => exact ⟨0, Nat.zero_le _, by omega, rfl, fun j z h => by omega, rfl⟩
  case round =>
    obtain ⟨k, hk, hk31, rfl, hev, rfl⟩ := hrel
    have HV := Lib.hid hev
    clear hev
    by_cases hlt : k < ts.length
    · have hlt2 : (k : Int) < (ts.length : Int) := by omega
      have hk0 : (0 : Int) ≤ (k : Int) := by omega
      by_cases h31 : k < 31
      · have h312 : (k : Int) < 31 := by omega
        obtain ⟨b, o, c', d', zs, ht, rfl, q, rq⟩ := hr.cell hlt
        have HT := Lib.hid (rowsT_at hlt ht)
        clear ht hr
        by_cases hc : 30 < zs.length
        · have hc2 : (30 : Int) < (zs.length : Int) := by omega
          have HN := Lib.hid (smallT_no h31 HT.out hc)
          go_wp2
          go_ret
          exact ⟨by rw [HN.out]; rfl, rfl⟩
        · have hc2 : ¬ (30 : Int) < (zs.length : Int) := by omega
          go_wp2
          go_roundw
          case rel => exact ⟨k + 1, by omega, by omega, by go_num, fun j z hj hz => (by
            by_cases e : j = k
            · subst e; rw [HT.out] at hz; cases hz; omega
            · exact HV.out j z (by omega) hz), by trivial⟩
          case measure => simp [intOf]; omega
      · have h312 : ¬ (k : Int) < 31 := by omega
        have HF := Lib.hid (show smallT (rowsT ts) = decide ((ts.length : Int) ≤ 30) by
          rw [smallT_of (fun j z _ h1 h2 => HV.out j z (by omega) h2), rowsT_len, Bool.eq_iff_iff]; simp; omega)
        go_wp2
        all_goals
          go_ret
          exact ⟨by rw [HF.out]; simp <;> omega, rfl⟩
    · have hge : (ts.length : Int) ≤ (k : Int) := by omega
      have HF := Lib.hid (show smallT (rowsT ts) = decide ((ts.length : Int) ≤ 30) by
        rw [smallT_of (fun j z h0 _ h2 => HV.out j z (by rw [rowsT_len] at h0; omega) h2), rowsT_len, Bool.eq_iff_iff]; simp; omega)
      go_wp2
      all_goals
        go_ret
        exact ⟨by rw [HF.out]; simp <;> omega, rfl⟩
end Go.Proofs.Ytgkeifjnnpcleab
