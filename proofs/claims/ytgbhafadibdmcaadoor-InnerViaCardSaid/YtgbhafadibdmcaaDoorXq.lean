/- Tables within a cluster: whether two rows are the same. -/
import Derived.Test.YtgbhafadibdmcaaDoorL1
namespace Go.Proofs.YtgbhafadibdmcaaDoor
open Go.RowKit

theorem take_sameQ {α : Type} {xs ys : List α} {k : Nat} (hk : k < xs.length) (hk2 : k < ys.length) (h : xs.take k = ys.take k) (e : xs[k] = ys[k]) : xs.take (k + 1) = ys.take (k + 1) := by
  rw [List.take_succ_eq_append_getElem hk, List.take_succ_eq_append_getElem hk2, h, e]
theorem take_allQ {α : Type} {xs ys : List α} {k : Nat} (h1 : xs.length ≤ k) (h2 : xs.length = ys.length) (h : xs.take k = ys.take k) : xs = ys := by
  rw [List.take_of_length_le h1, List.take_of_length_le (by omega)] at h
  exact h
set_option maxRecDepth 100000 in
set_option maxHeartbeats 2000000 in
theorem sequal_c (a a2 : Option Addr) (cap cap2 : Nat) (xs ys : List (Int × Int)) (w : World) (hr : RowC w a xs) (hr2 : RowC w a2 ys) (hl : xs.length ≤ 1048576) :
    Calls Tryd.prog 49 #[.slice a xs.length cap, .slice a2 ys.length cap2] w fun e w' => e = .returned (.bool (decide (xs = ys))) ∧ Below w.heap.size w w' := by
  have hl2 : (xs.length : Int) ≤ 1048576 := by omega
  by_cases he : xs.length = ys.length
  · have h1 : ((xs.length : Int) != (ys.length : Int)) = false := by rw [bne_eq_false_iff_eq]; omega
    have HE := Lib.hid he
    clear he
    have hA0 := bl0 w
    go_enter Tryd.func49, Tryd.ntmps49
    go_wp2
    go_loopw [5, 13] (fun _ i wr => ∃ k : Nat, k ≤ xs.length ∧ i = .int .i64 k ∧ xs.take k = ys.take k ∧ Below w.heap.size w wr) (fun _ i _ => xs.length - (intOf i).toNat)
    case atStart => exact ⟨0, Nat.zero_le _, rfl, rfl, hA0⟩
    case round =>
      obtain ⟨k, hk, rfl, ht, hB⟩ := hrel
      have HT := Lib.hid ht
      clear hA0 ht
      by_cases hlt : k < xs.length
      · have hlt2 : (k : Int) < (xs.length : Int) := by omega
        have hk0 : (0 : Int) ≤ (k : Int) := by omega
        have hlty : k < ys.length := by rw [← HE.out]; exact hlt
        obtain ⟨gb, go, rfl, q0, q1⟩ := hr.cell hlt
        obtain ⟨gb2, go2, rfl, r0, r1⟩ := hr2.cell hlty
        replace q0 := cell_later hB q0
        replace q1 := cell_later hB q1
        replace r0 := cell_later hB r0
        replace r1 := cell_later hB r1
        have hlty2 : (k : Int) < (ys.length : Int) := by omega
        clear hr hr2
        by_cases hx : xs[k] = ys[k]
        · have HS := Lib.hid (take_sameQ hlt hlty HT.out hx)
          rw [← hx] at r0 r1
          clear hx
          generalize xs[k].1 = x at *
          generalize xs[k].2 = y at *
          have b1 := beq_self_eq_true x
          have b2 := beq_self_eq_true y
          go_wp2
          go_quiet (fail)
          go_wp2
          go_roundw
          case rel => exact ⟨k + 1, by omega, by go_num, HS.out, bl_tr hB (bl_drn _ _)⟩
          case measure => simp [intOf]; omega
        · have HS := Lib.hid (show xs ≠ ys by rintro rfl; exact hx rfl)
          by_cases h2 : xs[k].1 = ys[k].1
          · have h3 : (xs[k].2 == ys[k].2) = false := by rw [beq_eq_false_iff_ne]; exact fun e => hx (Prod.ext h2 e)
            rw [← h2] at r0
            clear hx h2
            generalize xs[k].1 = x at *
            generalize xs[k].2 = y at *
            generalize ys[k].2 = y' at *
            have b1 := beq_self_eq_true x
            go_wp2
            go_quiet (fail)
            go_wp2
            go_ret
            exact ⟨ret_bool (by simp [HS.out]), bl_tr hB (bl_drn _ _)⟩
          · have h3 : (xs[k].1 == ys[k].1) = false := by rw [beq_eq_false_iff_ne]; exact h2
            clear hx h2
            generalize xs[k].1 = x at *
            generalize xs[k].2 = y at *
            generalize ys[k].1 = x' at *
            generalize ys[k].2 = y' at *
            go_wp2
            go_quiet (fail)
            go_wp2
            go_ret
            exact ⟨ret_bool (by simp [HS.out]), bl_tr hB (bl_drn _ _)⟩
      · have hge : (xs.length : Int) ≤ (k : Int) := by omega
        have HS := Lib.hid (take_allQ (by omega) HE.out HT.out)
        go_wp2
        go_ret
        exact ⟨ret_bool (by simp [HS.out]), hB⟩
  · have h1 : ((xs.length : Int) != (ys.length : Int)) = true := by rw [bne_iff_ne]; omega
    have HE := Lib.hid (show xs ≠ ys from fun e => he (by rw [e]))
    clear he
    go_enter Tryd.func49, Tryd.ntmps49
    go_wp2
    go_ret
    exact ⟨ret_bool (by simp [HE.out]), bl0 _⟩

set_option maxRecDepth 100000 in
set_option maxHeartbeats 2000000 in
theorem sequal_u (a a2 : Option Addr) (cap cap2 : Nat) (xs ys : List Int) (w : World) (hr : RowU w a xs) (hr2 : RowU w a2 ys) (hl : xs.length ≤ 140737488355328) :
    Calls Tryd.prog 51 #[.slice a xs.length cap, .slice a2 ys.length cap2] w fun e w' => e = .returned (.bool (decide (xs = ys))) ∧ Below w.heap.size w w' := by
  have hl2 : (xs.length : Int) ≤ 140737488355328 := by omega
  by_cases he : xs.length = ys.length
  · have h1 : ((xs.length : Int) != (ys.length : Int)) = false := by rw [bne_eq_false_iff_eq]; omega
    have HE := Lib.hid he
    clear he
    have hA0 := bl0 w
    go_enter Tryd.func51, Tryd.ntmps51
    go_wp2
    go_loopw [5, 13] (fun _ i wr => ∃ k : Nat, k ≤ xs.length ∧ i = .int .i64 k ∧ xs.take k = ys.take k ∧ Below w.heap.size w wr) (fun _ i _ => xs.length - (intOf i).toNat)
    case atStart => exact ⟨0, Nat.zero_le _, rfl, rfl, hA0⟩
    case round =>
      obtain ⟨k, hk, rfl, ht, hB⟩ := hrel
      have HT := Lib.hid ht
      clear hA0 ht
      by_cases hlt : k < xs.length
      · have hlt2 : (k : Int) < (xs.length : Int) := by omega
        have hk0 : (0 : Int) ≤ (k : Int) := by omega
        have hlty : k < ys.length := by rw [← HE.out]; exact hlt
        obtain ⟨gb, go, rfl, q⟩ := hr.cell hlt
        rw [← atD_get hlt] at q
        obtain ⟨gb2, go2, rfl, q2⟩ := hr2.cell hlty
        rw [← atD_get hlty] at q2
        replace q := cell_later hB q
        replace q2 := cell_later hB q2
        have hlty2 : (k : Int) < (ys.length : Int) := by omega
        clear hr hr2
        by_cases hx : xs[k] = ys[k]
        · have HS := Lib.hid (take_same hlt hlty HT.out hx)
          have hx2 : (xs[k] != ys[k]) = false := by rw [bne_eq_false_iff_eq]; exact hx
          clear hx
          generalize xs[k] = x at *
          generalize ys[k] = y at *
          go_wp2
          go_quiet (fail)
          go_wp2
          go_roundw
          case rel => exact ⟨k + 1, by omega, by go_num, HS.out, bl_tr hB (bl_drn _ _)⟩
          case measure => simp [intOf]; omega
        · have HS := Lib.hid (not_same_at hlt hlty hx)
          have hx2 : (xs[k] != ys[k]) = true := by rw [bne_iff_ne]; exact hx
          clear hx
          generalize xs[k] = x at *
          generalize ys[k] = y at *
          go_wp2
          go_quiet (fail)
          go_wp2
          go_ret
          exact ⟨ret_bool (by simp [HS.out]), bl_tr hB (bl_drn _ _)⟩
      · have hge : (xs.length : Int) ≤ (k : Int) := by omega
        have HS := Lib.hid (take_all (by omega) HE.out HT.out)
        go_wp2
        go_ret
        exact ⟨ret_bool (by simp [HS.out]), hB⟩
  · have h1 : ((xs.length : Int) != (ys.length : Int)) = true := by rw [bne_iff_ne]; omega
    have HE := Lib.hid (show xs ≠ ys from fun e => he (by rw [e]))
    clear he
    go_enter Tryd.func51, Tryd.ntmps51
    go_wp2
    go_ret
    exact ⟨ret_bool (by simp [HE.out]), bl0 _⟩


set_option maxRecDepth 100000 in
set_option maxHeartbeats 2000000 in
theorem sequal_f (a a2 : Option Addr) (cap cap2 : Nat) (xs ys : List (List Int)) (w : World) (hr : TabR w a xs) (hr2 : TabR w a2 ys) (hl : xs.length ≤ 1048576) (hxl : ∀ r ∈ xs, r.length ≤ 1048576) :
    Calls Tryd.prog 50 #[.slice a xs.length cap, .slice a2 ys.length cap2, .func (.func 51) #[] #[]] w fun e w' => e = .returned (.bool (decide (xs = ys))) ∧ Below w.heap.size w w' := by
  have hl2 : (xs.length : Int) ≤ 1048576 := by omega
  have HS := Lib.hid (fun a a2 c c2 xs ys w h1 h2 hl => sequal_u a a2 c c2 xs ys w h1 h2 hl)
  have HXL := Lib.hid hxl
  clear hxl
  by_cases he : xs.length = ys.length
  · have h1 : ((xs.length : Int) != (ys.length : Int)) = false := by rw [bne_eq_false_iff_eq]; omega
    have HE := Lib.hid he
    clear he
    have hA0 := bl0 w
    go_enter Tryd.func50, Tryd.ntmps50
    go_wp2
    go_loopw [7, 8, 9, 17] (fun _ _ _ i wr => ∃ k : Nat, k ≤ xs.length ∧ i = .int .i64 k ∧ xs.take k = ys.take k ∧ Below w.heap.size w wr) (fun _ _ _ i _ => xs.length - (intOf i).toNat)
    case atStart => exact ⟨0, Nat.zero_le _, rfl, rfl, hA0⟩
    case round =>
      obtain ⟨k, hk, rfl, ht, hB⟩ := hrel
      have HT := Lib.hid ht
      clear hA0 ht
      by_cases hlt : k < xs.length
      · have hlt2 : (k : Int) < (xs.length : Int) := by omega
        have hk0 : (0 : Int) ≤ (k : Int) := by omega
        have hlty : k < ys.length := by rw [← HE.out]; exact hlt
        obtain ⟨gb, go, ra, rc, rfl, q, hq⟩ := (hr.below hB).cell hlt
        obtain ⟨gb2, go2, ra2, rc2, rfl, q2, hq2⟩ := (hr2.below hB).cell hlty
        have hlty2 : (k : Int) < (ys.length : Int) := by omega
        have hxk := HXL.out _ (List.getElem_mem hlt)
        have HQ := Lib.hid hq
        have hA := hB
        have HQ2 := Lib.hid hq2
        have HSK := Lib.hid (fun (e : xs[k] = ys[k]) => take_sameQ hlt hlty HT.out e)
        have HNE := Lib.hid (fun (e : xs[k] ≠ ys[k]) => (show xs ≠ ys by rintro rfl; exact e rfl))
        clear hr hr2 hq hq2
        generalize xs[k] = x at *
        generalize ys[k] = y at *
        go_wp2_with fail
        refine (HS.out _ _ _ _ _ _ _ (HQ.out.below (bl0 _)) (HQ2.out.below (bl0 _)) (by omega)).mono ?_
        rintro e w9 ⟨rfl, hb⟩
        have hk : Below wr.heap.size wr w9 := by first | exact hb | exact bl_tr (bl_al (bl0 _) _) hb | exact bl_tr (bl_dr (bl_al (bl0 _) _)) hb | exact bl_tr (bl_al (bl_al (bl0 _) _) _) hb | exact bl_tr (bl_dr (bl_al (bl_al (bl0 _) _) _)) hb | exact bl_tr (bl_al (bl_al (bl_al (bl0 _) _) _) _) hb | exact bl_tr (bl_dr (bl_al (bl_al (bl_al (bl0 _) _) _) _)) hb | exact bl_tr (bl_al (bl_al (bl_al (bl_al (bl0 _) _) _) _) _) hb | exact bl_tr (bl_dr (bl_al (bl_al (bl_al (bl_al (bl0 _) _) _) _) _)) hb | exact bl_tr (bl_al (bl_al (bl_al (bl_al (bl_al (bl0 _) _) _) _) _) _) hb | exact bl_tr (bl_dr (bl_al (bl_al (bl_al (bl_al (bl_al (bl0 _) _) _) _) _) _)) hb | exact bl_tr (bl_al (bl_al (bl_al (bl_al (bl_al (bl_al (bl0 _) _) _) _) _) _) _) hb | exact bl_tr (bl_dr (bl_al (bl_al (bl_al (bl_al (bl_al (bl_al (bl0 _) _) _) _) _) _) _)) hb | exact bl_tr (bl_dr (bl0 _)) hb
        replace hA := bl_tr hA hk
        clear hb hk
        have hB3 := hA
        by_cases hxy : x = y
        · have HN := Lib.hid (HSK.out hxy)
          rw [decide_eq_true hxy]
          clear hxy q q2
          go_wp2
          go_roundw
          case rel => exact ⟨k + 1, by omega, by go_num, HN.out, hB3⟩
          case measure => simp [intOf]; omega
        · have HN := Lib.hid (HNE.out hxy)
          rw [decide_eq_false hxy]
          clear hxy q q2
          go_wp2
          go_ret
          exact ⟨ret_bool (by simp [HN.out]), hB3⟩
      · have hge : (xs.length : Int) ≤ (k : Int) := by omega
        have HS2 := Lib.hid (take_allQ (by omega) HE.out HT.out)
        go_wp2
        go_ret
        exact ⟨ret_bool (by simp [HS2.out]), hB⟩
  · have h1 : ((xs.length : Int) != (ys.length : Int)) = true := by rw [bne_iff_ne]; omega
    have HE := Lib.hid (show xs ≠ ys from fun e => he (by rw [e]))
    clear he
    go_enter Tryd.func50, Tryd.ntmps50
    go_wp2
    go_ret
    exact ⟨ret_bool (by simp [HE.out]), bl0 _⟩
set_option maxHeartbeats 2000000 in
theorem cells13_q (a a2 : Option Addr) (cap cap2 : Nat) (xs ys : List (Int × Int)) (w : World) (hr : RowC w a xs) (hr2 : RowC w a2 ys) (hl : xs.length ≤ 1048576) :
    Calls Tryd.prog 21 #[.slice a xs.length cap, .slice a2 ys.length cap2] w fun e w' => e = .returned (.bool (decide (xs = ys))) ∧ Below w.heap.size w w' := by
  have hl2 : (xs.length : Int) ≤ 1048576 := by omega
  by_cases he : xs.length = ys.length
  · have h1 : ((xs.length : Int) != (ys.length : Int)) = false := by rw [bne_eq_false_iff_eq]; omega
    have HE := Lib.hid he
    clear he
    have hA0 := bl0 w
    go_enter Tryd.func21, Tryd.ntmps21
    go_wp2
    go_loopw [5] (fun i wr => ∃ k : Nat, k ≤ xs.length ∧ i = .int .i64 k ∧ xs.take k = ys.take k ∧ Below w.heap.size w wr) (fun i _ => xs.length - (intOf i).toNat)
    case atStart => exact ⟨0, Nat.zero_le _, rfl, rfl, hA0⟩
    case round =>
      obtain ⟨k, hk, rfl, ht, hB⟩ := hrel
      have HT := Lib.hid ht
      clear hA0 ht
      by_cases hlt : k < xs.length
      · have hlt2 : (k : Int) < (xs.length : Int) := by omega
        have hk0 : (0 : Int) ≤ (k : Int) := by omega
        have hlty : k < ys.length := by rw [← HE.out]; exact hlt
        obtain ⟨gb, go, rfl, q0, q1⟩ := hr.cell hlt
        obtain ⟨gb2, go2, rfl, r0, r1⟩ := hr2.cell hlty
        replace q0 := cell_later hB q0
        replace q1 := cell_later hB q1
        replace r0 := cell_later hB r0
        replace r1 := cell_later hB r1
        have hlty2 : (k : Int) < (ys.length : Int) := by omega
        clear hr hr2
        by_cases hx : xs[k] = ys[k]
        · have HS := Lib.hid (take_sameQ hlt hlty HT.out hx)
          rw [← hx] at r0 r1
          clear hx
          generalize xs[k].1 = x at *
          generalize xs[k].2 = y at *
          have b1 := beq_self_eq_true x
          have b2 := beq_self_eq_true y
          go_wp2
          go_quiet (fail)
          go_wp2
          go_roundw
          case rel => exact ⟨k + 1, by omega, by go_num, HS.out, bl_tr hB (bl_drn _ _)⟩
          case measure => simp [intOf]; omega
        · have HS := Lib.hid (show xs ≠ ys by rintro rfl; exact hx rfl)
          by_cases h2 : xs[k].1 = ys[k].1
          · have h3 : (xs[k].2 == ys[k].2) = false := by rw [beq_eq_false_iff_ne]; exact fun e => hx (Prod.ext h2 e)
            rw [← h2] at r0
            clear hx h2
            generalize xs[k].1 = x at *
            generalize xs[k].2 = y at *
            generalize ys[k].2 = y' at *
            have b1 := beq_self_eq_true x
            go_wp2
            go_quiet (fail)
            go_wp2
            go_ret
            exact ⟨ret_bool (by simp [HS.out]), bl_tr hB (bl_drn _ _)⟩
          · have h3 : (xs[k].1 == ys[k].1) = false := by rw [beq_eq_false_iff_ne]; exact h2
            clear hx h2
            generalize xs[k].1 = x at *
            generalize xs[k].2 = y at *
            generalize ys[k].1 = x' at *
            generalize ys[k].2 = y' at *
            go_wp2
            go_quiet (fail)
            go_wp2
            go_ret
            exact ⟨ret_bool (by simp [HS.out]), bl_tr hB (bl_drn _ _)⟩
      · have hge : (xs.length : Int) ≤ (k : Int) := by omega
        have HS := Lib.hid (take_allQ (by omega) HE.out HT.out)
        go_wp2
        go_ret
        exact ⟨ret_bool (by simp [HS.out]), hB⟩
  · have h1 : ((xs.length : Int) != (ys.length : Int)) = true := by rw [bne_iff_ne]; omega
    have HE := Lib.hid (show xs ≠ ys from fun e => he (by rw [e]))
    clear he
    go_enter Tryd.func21, Tryd.ntmps21
    go_wp2
    go_ret
    exact ⟨ret_bool (by simp [HE.out]), bl0 _⟩

end Go.Proofs.YtgbhafadibdmcaaDoor
