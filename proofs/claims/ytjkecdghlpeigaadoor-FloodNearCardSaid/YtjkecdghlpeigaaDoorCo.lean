/- Least costs: the laws' helpers; the chapter's example. -/
import Derived.Test.YtjkecdghlpeigaaDoorCn
namespace Go.Proofs.YtjkecdghlpeigaaDoor
open Go.RowKit

theorem take_sameC {xs ys : List (Int × Int)} {k : Nat} (hk : k < xs.length) (hk2 : k < ys.length) (h : xs.take k = ys.take k) (e : xs[k] = ys[k]) : xs.take (k + 1) = ys.take (k + 1) := by
  rw [List.take_succ_eq_append_getElem hk, List.take_succ_eq_append_getElem hk2, h, e]
theorem take_allC {xs ys : List (Int × Int)} {k : Nat} (h1 : xs.length ≤ k) (h2 : xs.length = ys.length) (h : xs.take k = ys.take k) : xs = ys := by
  rw [List.take_of_length_le h1, List.take_of_length_le (by omega)] at h
  exact h
set_option maxHeartbeats 2000000 in
theorem cells_any (a a2 : Option Addr) (cap cap2 : Nat) (xs ys : List (Int × Int)) (w : World) (hr : RowC w a xs) (hr2 : RowC w a2 ys) (hl : xs.length ≤ 1048576) :
    Calls Tryd.prog 23 #[.slice a xs.length cap, .slice a2 ys.length cap2] w fun e w' => e = .returned (.bool (decide (xs = ys))) ∧ Below w.heap.size w w' := by
  have hl2 : (xs.length : Int) ≤ 1048576 := by omega
  by_cases he : xs.length = ys.length
  · have h1 : ((xs.length : Int) != (ys.length : Int)) = false := by rw [bne_eq_false_iff_eq]; omega
    have HE := Lib.hid he
    clear he
    have hA0 := bl0 w
    go_enter Tryd.func23, Tryd.ntmps23
    go_wp2
    go_loopw [5] (fun i wr => ∃ k : Nat, k ≤ xs.length ∧ i = .int .i64 k ∧ xs.take k = ys.take k ∧ Below w.heap.size w wr) (fun i _ => xs.length - (intOf i).toNat)
    case atStart => exact ⟨0, Nat.zero_le _, rfl, rfl, hA0⟩
    case round =>
      obtain ⟨k, hk, rfl, ht, hB⟩ := hrel
      have HT := Lib.hid ht
      clear hA0 ht
      by_cases hlt : k < xs.length
      · have hlt2 : (k : Int) < (xs.length : Int) := by omega
        have hk0 : (0 : Int) ≤ (k : Int) := by omega
        have hlty : k < ys.length := by rw [← HE.out]; exact hlt
        obtain ⟨gb, go, rfl, q0, q1⟩ := hr.cell hlt
        obtain ⟨gb2, go2, rfl, r0, r1⟩ := hr2.cell hlty
        replace q0 := cell_later hB q0
        replace q1 := cell_later hB q1
        replace r0 := cell_later hB r0
        replace r1 := cell_later hB r1
        have hlty2 : (k : Int) < (ys.length : Int) := by omega
        clear hr hr2
        by_cases hx : xs[k] = ys[k]
        · have HS := Lib.hid (take_sameC hlt hlty HT.out hx)
          rw [← hx] at r0 r1
          clear hx
          generalize xs[k].1 = x at *
          generalize xs[k].2 = y at *
          have b1 := beq_self_eq_true x
          have b2 := beq_self_eq_true y
          go_wp2
          go_quiet (fail)
          go_wp2
          go_roundw
          case rel => exact ⟨k + 1, by omega, by go_num, HS.out, bl_tr hB (bl_drn _ _)⟩
          case measure => simp [intOf]; omega
        · have HS := Lib.hid (show xs ≠ ys by rintro rfl; exact hx rfl)
          by_cases h2 : xs[k].1 = ys[k].1
          · have h3 : (xs[k].2 == ys[k].2) = false := by rw [beq_eq_false_iff_ne]; exact fun e => hx (Prod.ext h2 e)
            rw [← h2] at r0
            clear hx h2
            generalize xs[k].1 = x at *
            generalize xs[k].2 = y at *
            generalize ys[k].2 = y' at *
            have b1 := beq_self_eq_true x
            go_wp2
            go_quiet (fail)
            go_wp2
            go_ret
            exact ⟨ret_bool (by simp [HS.out]), bl_tr hB (bl_drn _ _)⟩
          · have h3 : (xs[k].1 == ys[k].1) = false := by rw [beq_eq_false_iff_ne]; exact h2
            clear hx h2
            generalize xs[k].1 = x at *
            generalize xs[k].2 = y at *
            generalize ys[k].1 = x' at *
            generalize ys[k].2 = y' at *
            go_wp2
            go_quiet (fail)
            go_wp2
            go_ret
            exact ⟨ret_bool (by simp [HS.out]), bl_tr hB (bl_drn _ _)⟩
      · have hge : (xs.length : Int) ≤ (k : Int) := by omega
        have HS := Lib.hid (take_allC (by omega) HE.out HT.out)
        go_wp2
        go_ret
        exact ⟨ret_bool (by simp [HS.out]), hB⟩
  · have h1 : ((xs.length : Int) != (ys.length : Int)) = true := by rw [bne_iff_ne]; omega
    have HE := Lib.hid (show xs ≠ ys from fun e => he (by rw [e]))
    clear he
    go_enter Tryd.func23, Tryd.ntmps23
    go_wp2
    go_ret
    exact ⟨ret_bool (by simp [HE.out]), bl0 _⟩

set_option maxHeartbeats 2000000 in
theorem same8_any (a a2 : Option Addr) (cap cap2 : Nat) (xs ys : List Int) (w : World) (hr : RowU w a xs) (hr2 : RowU w a2 ys) (hl : xs.length ≤ 140737488355328) :
    Calls Tryd.prog 18 #[.slice a xs.length cap, .slice a2 ys.length cap2] w fun e w' => e = .returned (.bool (decide (xs = ys))) ∧ Below w.heap.size w w' := by
  have hl2 : (xs.length : Int) ≤ 140737488355328 := by omega
  by_cases he : xs.length = ys.length
  · have h1 : ((xs.length : Int) != (ys.length : Int)) = false := by rw [bne_eq_false_iff_eq]; omega
    have HE := Lib.hid he
    clear he
    have hA0 := bl0 w
    go_enter Tryd.func18, Tryd.ntmps18
    go_wp2
    go_loopw [5] (fun i wr => ∃ k : Nat, k ≤ xs.length ∧ i = .int .i64 k ∧ xs.take k = ys.take k ∧ Below w.heap.size w wr) (fun i _ => xs.length - (intOf i).toNat)
    case atStart => exact ⟨0, Nat.zero_le _, rfl, rfl, hA0⟩
    case round =>
      obtain ⟨k, hk, rfl, ht, hB⟩ := hrel
      have HT := Lib.hid ht
      clear hA0 ht
      by_cases hlt : k < xs.length
      · have hlt2 : (k : Int) < (xs.length : Int) := by omega
        have hk0 : (0 : Int) ≤ (k : Int) := by omega
        have hlty : k < ys.length := by rw [← HE.out]; exact hlt
        obtain ⟨gb, go, rfl, q⟩ := hr.cell hlt
        rw [← atD_get hlt] at q
        obtain ⟨gb2, go2, rfl, q2⟩ := hr2.cell hlty
        rw [← atD_get hlty] at q2
        replace q := cell_later hB q
        replace q2 := cell_later hB q2
        have hlty2 : (k : Int) < (ys.length : Int) := by omega
        clear hr hr2
        by_cases hx : xs[k] = ys[k]
        · have HS := Lib.hid (take_same hlt hlty HT.out hx)
          have hx2 : (xs[k] != ys[k]) = false := by rw [bne_eq_false_iff_eq]; exact hx
          clear hx
          generalize xs[k] = x at *
          generalize ys[k] = y at *
          go_wp2
          go_quiet (fail)
          go_wp2
          go_roundw
          case rel => exact ⟨k + 1, by omega, by go_num, HS.out, bl_tr hB (bl_drn _ _)⟩
          case measure => simp [intOf]; omega
        · have HS := Lib.hid (not_same_at hlt hlty hx)
          have hx2 : (xs[k] != ys[k]) = true := by rw [bne_iff_ne]; exact hx
          clear hx
          generalize xs[k] = x at *
          generalize ys[k] = y at *
          go_wp2
          go_quiet (fail)
          go_wp2
          go_ret
          exact ⟨ret_bool (by simp [HS.out]), bl_tr hB (bl_drn _ _)⟩
      · have hge : (xs.length : Int) ≤ (k : Int) := by omega
        have HS := Lib.hid (take_all (by omega) HE.out HT.out)
        go_wp2
        go_ret
        exact ⟨ret_bool (by simp [HS.out]), hB⟩
  · have h1 : ((xs.length : Int) != (ys.length : Int)) = true := by rw [bne_iff_ne]; omega
    have HE := Lib.hid (show xs ≠ ys from fun e => he (by rw [e]))
    clear he
    go_enter Tryd.func18, Tryd.ntmps18
    go_wp2
    go_ret
    exact ⟨ret_bool (by simp [HE.out]), bl0 _⟩

set_option maxHeartbeats 400000 in
theorem small8_any (A B : Int) (a : Option Addr) (n cap : Nat) (w : World) :
    Calls Tryd.prog 14 #[.agg #[.int .i64 A, .int .i64 B, .slice a n cap]] w fun e w' => e = .returned (.bool (decide ((n : Int) ≤ 150))) ∧ Below w.heap.size w w' := by
  go_enter Tryd.func14, Tryd.ntmps14
  go_wp2
  go_ret
  exact ⟨rfl, bl_al (bl0 _) _⟩

/-- The example's field, and what is told of it. -/
def zAw : List Int := [1, 2, 1, 1, 9, 1]
def dAw : List Int := [0, 2, 3, 1, 10, 4]
def okAw : Bool := (List.range 6).all fun i => (List.range 6).all fun j => !(nbL 3 2 i).contains j || (decide (atD dAw i ≤ atD dAw j + zAw.getD i 0) && decide (zAw.getD i 0 ≠ 0))
def ofAw : Bool := (List.range 6).all fun i => i == 0 || (List.range 6).any fun j => (nbL 3 2 i).contains j && decide (atD dAw i = atD dAw j + zAw.getD i 0)
def bdAw : Bool := (List.range 6).all fun i => decide (0 ≤ atD dAw i ∧ atD dAw i ≤ 4294967296) && inBx (0, 0, 3, 2) (cellN 3 i) && decide (zAw.getD i 0 ≠ 0)
theorem far_aw : Far (gphB 3 2 (0, 0, 3, 2) zAw) 0 (atD dAw) := by
  have h1 : okAw = true := by kernel_rfl
  have h2 : ofAw = true := by kernel_rfl
  have h3 : bdAw = true := by kernel_rfl
  unfold okAw at h1
  unfold ofAw at h2
  unfold bdAw at h3
  simp only [List.all_eq_true, List.any_eq_true, List.mem_range, Bool.or_eq_true, Bool.and_eq_true, decide_eq_true_eq, Bool.not_eq_true', List.contains_eq_mem, decide_eq_false_iff_not, beq_iff_eq] at h1 h2 h3
  have hlen : zAw.length = 6 := rfl
  have hop : ∀ i, i < 6 → (gphB 3 2 (0, 0, 3, 2) zAw).opn i := fun i hi => gphB_opn.2 ⟨hi, (h3 i hi).1.2, (h3 i hi).2⟩
  have hk : ∀ i, i < 6 → (gphB 3 2 (0, 0, 3, 2) zAw).k i = zAw.getD i 0 := fun i hi => gphB_k (h3 i hi).1.2
  have hno : ∀ i, 6 ≤ i → atD dAw i = 18446744073709551615 := fun i hi => atD_none hi
  refine ⟨fun i => ?_, fun i hi => ?_, fun _ => rfl, fun i j hi hj hn _ => ?_, fun i hi hf => ?_, fun h => absurd (hop 0 (by decide)) h⟩
  · by_cases h : i < 6
    · exact .inr (h3 i h).1.1
    · exact .inl (hno i (by omega))
  · by_cases h : i < 6
    · exact absurd (hop i h) hi
    · exact hno i (by omega)
  · have hi6 := (gphB_opn.1 hi).1
    have hj6 := (gphB_opn.1 hj).1
    rw [hlen] at hi6 hj6
    rw [hk i hi6]
    rcases h1 i hi6 j hj6 with h | h
    · exact absurd hn h
    · exact h.1
  · by_cases h : i < 6
    · rcases h2 i h with h | ⟨j, hj, h4, h5⟩
      · exact absurd h hi
      · refine ⟨j, h4, hop j hj, ?_, by rw [hk i h]; exact h5⟩
        have := (h3 j hj).1.1
        omega
    · exact absurd (hno i (by omega)) hf
theorem path_aw : pathL 3 2 zAw dAw 5 = [(0, 0), (1, 0), (2, 0), (2, 1)] := by kernel_rfl
theorem errW_aw : errW 3 2 6 (0, 0, 3, 2) (0, 0) = 0 := by kernel_rfl
end Go.Proofs.YtjkecdghlpeigaaDoor
