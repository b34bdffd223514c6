/- PartWhole: the law's walk. -/
import Derived.Test.YtdajddcladapaaaDoorDp
import Derived.Test.YtdajddcladapaaaDoorDq
namespace Go.Proofs.YtdajddcladapaaaDoor
open Go.RowKit

theorem smallP_iff {W H S : Int} : smallP W H S = true ↔ rightP W H S = true ∧ W * H ≤ 400 := by unfold smallP; rw [Bool.and_eq_true, decide_eq_true_eq]

set_option maxRecDepth 100000 in
set_option maxHeartbeats 8000000 in
theorem pwhole_walk (W H S : Int) (w : World) (hs : Stp w) :
    Calls Tryd.prog 6 #[.agg #[.int .i64 W, .int .i64 H, .int .i64 S]] w fun e w' => e = .returned (.bool true) ∧ Below w.heap.size w w' := by
  have hA := bl0 w
  have H0 := Lib.hid (fun w => small11 W H S w)
  cases hsm : smallP W H S
  · rw [hsm] at H0
    clear hsm
    go_enter Tryd.func6, Tryd.ntmps6
    go_wp2_with fail
    refine (H0.out _).mono ?_
    rintro e w1 ⟨rfl, hb⟩
    have hk : Below w.heap.size w w1 := by first | exact hb | exact bl_tr (bl_al (bl0 _) _) hb | exact bl_tr (bl_dr (bl_al (bl0 _) _)) hb | exact bl_tr (bl_al (bl_al (bl0 _) _) _) hb | exact bl_tr (bl_dr (bl_al (bl_al (bl0 _) _) _)) hb | exact bl_tr (bl_al (bl_al (bl_al (bl0 _) _) _) _) hb | exact bl_tr (bl_dr (bl_al (bl_al (bl_al (bl0 _) _) _) _)) hb | exact bl_tr (bl_al (bl_al (bl_al (bl_al (bl0 _) _) _) _) _) hb | exact bl_tr (bl_dr (bl_al (bl_al (bl_al (bl_al (bl0 _) _) _) _) _)) hb | exact bl_tr (bl_al (bl_al (bl_al (bl_al (bl_al (bl0 _) _) _) _) _) _) hb | exact bl_tr (bl_dr (bl_al (bl_al (bl_al (bl_al (bl_al (bl0 _) _) _) _) _) _)) hb | exact bl_tr (bl_al (bl_al (bl_al (bl_al (bl_al (bl_al (bl0 _) _) _) _) _) _) _) hb | exact bl_tr (bl_dr (bl_al (bl_al (bl_al (bl_al (bl_al (bl_al (bl0 _) _) _) _) _) _) _)) hb | exact bl_tr (bl_dr (bl0 _)) hb
    replace hA := bl_tr hA hk
    clear hb hk
    go_wp2_with fail
    refine (awake11 _ (hs.below (by first | exact hA | exact (bl_al hA _) | exact (bl_dr (bl_al hA _)) | exact (bl_al (bl_al hA _) _) | exact (bl_dr (bl_al (bl_al hA _) _)) | exact (bl_al (bl_al (bl_al hA _) _) _) | exact (bl_dr (bl_al (bl_al (bl_al hA _) _) _)) | exact (bl_al (bl_al (bl_al (bl_al hA _) _) _) _) | exact (bl_dr (bl_al (bl_al (bl_al (bl_al hA _) _) _) _)) | exact (bl_al (bl_al (bl_al (bl_al (bl_al hA _) _) _) _) _) | exact (bl_dr (bl_al (bl_al (bl_al (bl_al (bl_al hA _) _) _) _) _)) | exact (bl_al (bl_al (bl_al (bl_al (bl_al (bl_al hA _) _) _) _) _) _) | exact (bl_dr (bl_al (bl_al (bl_al (bl_al (bl_al (bl_al hA _) _) _) _) _) _)) | exact (bl_dr hA)))).mono ?_
    rintro e w2 ⟨rfl, hb⟩
    have hk : Below w1.heap.size w1 w2 := by first | exact hb | exact bl_tr (bl_al (bl0 _) _) hb | exact bl_tr (bl_dr (bl_al (bl0 _) _)) hb | exact bl_tr (bl_al (bl_al (bl0 _) _) _) hb | exact bl_tr (bl_dr (bl_al (bl_al (bl0 _) _) _)) hb | exact bl_tr (bl_al (bl_al (bl_al (bl0 _) _) _) _) hb | exact bl_tr (bl_dr (bl_al (bl_al (bl_al (bl0 _) _) _) _)) hb | exact bl_tr (bl_al (bl_al (bl_al (bl_al (bl0 _) _) _) _) _) hb | exact bl_tr (bl_dr (bl_al (bl_al (bl_al (bl_al (bl0 _) _) _) _) _)) hb | exact bl_tr (bl_al (bl_al (bl_al (bl_al (bl_al (bl0 _) _) _) _) _) _) hb | exact bl_tr (bl_dr (bl_al (bl_al (bl_al (bl_al (bl_al (bl0 _) _) _) _) _) _)) hb | exact bl_tr (bl_al (bl_al (bl_al (bl_al (bl_al (bl_al (bl0 _) _) _) _) _) _) _) hb | exact bl_tr (bl_dr (bl_al (bl_al (bl_al (bl_al (bl_al (bl_al (bl0 _) _) _) _) _) _) _)) hb | exact bl_tr (bl_dr (bl0 _)) hb
    replace hA := bl_tr hA hk
    clear hb hk
    go_wp2
    go_ret
    exact ⟨rfl, hA⟩
  · rw [hsm] at H0
    obtain ⟨hr, h400⟩ := smallP_iff.1 hsm
    obtain ⟨⟨a1, a2, a3, a4⟩, a5, a6⟩ := rightP_iff.1 hr
    obtain ⟨hn, n1, n2⟩ := cntN_eq hr
    have hle := cnt_le hr
    have e2 : cntV W H S = (cntN W H S : Int) := by unfold cntV; rw [if_pos hr, hn]
    have H6 := Lib.hid (fun w => count_p W H S w)
    rw [e2] at H6
    have hend := arP_end hr
    have HBOX := Lib.hid (fun (k : Nat) (hk : k < cntN W H S) w => (show Calls Tryd.prog 11 #[.agg #[.int .i64 W, .int .i64 H, .int .i64 S], .int .i64 k] w fun e w' => e = .returned (.tuple #[.agg #[.int .i64 (bxX S (plcP W S k)), .int .i64 (bxY S (plcP W S k)), .int .i64 (bxW W S (plcP W S k)), .int .i64 (bxH H S (plcP W S k))], .int .i64 0]) ∧ Below w.heap.size w w' by
      have h := tbox_p W H S k w
      have h0 : plcX W H S k = 0 := plcX_yes.2 ⟨hr, by omega, by omega⟩
      have h1 : ∀ j, boxV W H S k j = j := fun j => by unfold boxV; rw [if_pos h0]
      rw [h0, h1, h1, h1, h1] at h
      exact h))
    have HFACT := Lib.hid (fun (k : Nat) (hk : k < cntN W H S) => (show ((0 ≤ bxX S (plcP W S k) ∧ 0 ≤ bxY S (plcP W S k) ∧ 1 ≤ bxW W S (plcP W S k) ∧ 1 ≤ bxH H S (plcP W S k) ∧ bxX S (plcP W S k) + bxW W S (plcP W S k) ≤ W ∧ bxY S (plcP W S k) + bxH H S (plcP W S k) ≤ H) ∧ bxW W S (plcP W S k) ≤ S ∧ bxH H S (plcP W S k) ≤ S) by
      obtain ⟨p1, p2, p3, p4, _⟩ := plc_in (id := (k : Int)) hr (by omega) (by omega)
      obtain ⟨⟨t1, t2, t3, t4⟩, ⟨t5, t6, t7, t8⟩, t9, t10⟩ := bx_bd hr p1 p2 p3 p4
      exact ⟨⟨t1, t3, t5, t7, t9, t10⟩, by unfold bxW; omega, by unfold bxH; omega⟩))
    have HAR := Lib.hid (fun (k : Nat) (hk : k < cntN W H S) => arP_succ hr hk)
    have HARB := Lib.hid (fun (k : Nat) (hk : k ≤ cntN W H S) => arP_bd hr hk)
    have HAR0 := Lib.hid (show arP W H S (plcP W S ((0 : Nat) : Int)) = 0 by
      have : plcP W S ((0 : Nat) : Int) = (0, 0) := by unfold plcP; simp
      rw [this, arP_0 a1 a3])
    have HOF := Lib.hid (fun (c : IC) (hc : onB W H c = true) w => (show Calls Tryd.prog 10 #[.agg #[.int .i64 W, .int .i64 H, .int .i64 S], .agg #[.int .i64 c.1, .int .i64 c.2]] w fun e w' => e = .returned (.tuple #[.int .i64 (ofP W S c), .int .i64 0]) ∧ Below w.heap.size w w' by
      have h := of_p W H S c w
      have h0 : ofX W H S c = 0 := ofX_yes.2 ⟨hr, hc⟩
      have h1 : ofV W H S c = ofP W S c := by unfold ofV; rw [if_pos h0]
      rw [h0, h1] at h
      exact h))
    have HHAS := Lib.hid (fun (c : IC) (hc : onB W H c = true) => (show ∃ k : Nat, k < cntN W H S ∧ ofP W S c = k ∧ ∀ w, Calls Tryd.prog 24 #[.agg #[.int .i64 (bxX S (plcP W S k)), .int .i64 (bxY S (plcP W S k)), .int .i64 (bxW W S (plcP W S k)), .int .i64 (bxH H S (plcP W S k))], .agg #[.int .i64 c.1, .int .i64 c.2]] w fun e w' => e = .returned (.bool true) ∧ Below w.heap.size w w' by
      obtain ⟨o1, o2⟩ := of_bd hr hc
      obtain ⟨k, hk⟩ : ∃ k : Nat, ofP W S c = k := ⟨(ofP W S c).toNat, by omega⟩
      have hlt : k < cntN W H S := by omega
      refine ⟨k, hlt, hk, fun w => ?_⟩
      obtain ⟨p1, p2, p3, p4, _⟩ := plc_in (id := (k : Int)) hr (by omega) (by omega)
      obtain ⟨⟨t1, t2, t3, t4⟩, ⟨t5, t6, t7, t8⟩, t9, t10⟩ := bx_bd hr p1 p2 p3 p4
      obtain ⟨b1, b2, b3, b4, b5, b6, b7, b8⟩ := inB_iff.1 hc
      have h := has8_p (bxX S (plcP W S k)) (bxY S (plcP W S k)) (bxW W S (plcP W S k)) (bxH H S (plcP W S k)) c w ⟨⟨by omega, by omega, by omega, by omega⟩, by omega, by omega, by omega, by omega⟩ ⟨⟨by omega, by omega⟩, by omega, by omega⟩
      have hh := (hasK_iff hr hlt).2 ⟨hc, hk⟩
      rw [show inX (bxX S (plcP W S k)) (bxY S (plcP W S k)) (bxW W S (plcP W S k)) (bxH H S (plcP W S k)) c = true from hh] at h
      exact h))
    have hWH : IntKind.i64.wrap (W * H) = W * H := IntWalk.i64_in _ (by have := Int.mul_nonneg (show 0 ≤ W by omega) (show 0 ≤ H by omega); omega)
    obtain ⟨M, hM⟩ : ∃ M, W * H = M := ⟨_, rfl⟩
    rw [hM] at hWH hend hle h400
    obtain ⟨n, hnn⟩ : ∃ n, cntN W H S = n := ⟨_, rfl⟩
    rw [hnn] at H6 HBOX HFACT HAR HARB HHAS hend hn
    have hn400 : n ≤ 400 := by omega
    have HEND := Lib.hid hend
    clear hend hnn e2 hle hn n1 n2 hsm h400 hr
    go_enter Tryd.func6, Tryd.ntmps6
    go_wp2_with fail
    refine (H0.out _).mono ?_
    rintro e w1 ⟨rfl, hb⟩
    have hk : Below w.heap.size w w1 := by first | exact hb | exact bl_tr (bl_al (bl0 _) _) hb | exact bl_tr (bl_dr (bl_al (bl0 _) _)) hb | exact bl_tr (bl_al (bl_al (bl0 _) _) _) hb | exact bl_tr (bl_dr (bl_al (bl_al (bl0 _) _) _)) hb | exact bl_tr (bl_al (bl_al (bl_al (bl0 _) _) _) _) hb | exact bl_tr (bl_dr (bl_al (bl_al (bl_al (bl0 _) _) _) _)) hb | exact bl_tr (bl_al (bl_al (bl_al (bl_al (bl0 _) _) _) _) _) hb | exact bl_tr (bl_dr (bl_al (bl_al (bl_al (bl_al (bl0 _) _) _) _) _)) hb | exact bl_tr (bl_al (bl_al (bl_al (bl_al (bl_al (bl0 _) _) _) _) _) _) hb | exact bl_tr (bl_dr (bl_al (bl_al (bl_al (bl_al (bl_al (bl0 _) _) _) _) _) _)) hb | exact bl_tr (bl_al (bl_al (bl_al (bl_al (bl_al (bl_al (bl0 _) _) _) _) _) _) _) hb | exact bl_tr (bl_dr (bl_al (bl_al (bl_al (bl_al (bl_al (bl_al (bl0 _) _) _) _) _) _) _)) hb | exact bl_tr (bl_dr (bl0 _)) hb
    replace hA := bl_tr hA hk
    have p0 := cell_later hb (v := .int .i64 W) (a := ⟨w.heap.size, 0, none⟩) (by simp [go_sem])
    have p1 := cell_later hb (v := .int .i64 H) (a := ⟨w.heap.size, 1, none⟩) (by simp [go_sem])
    have p2 := cell_later hb (v := .int .i64 S) (a := ⟨w.heap.size, 2, none⟩) (by simp [go_sem])
    clear hb hk
    have zp0 := blk_lt p0
    have zp1 := blk_lt p1
    have zp2 := blk_lt p2
    go_wp2_with fail
    go_loopw [3, 4, 5, 6] (fun s i _ _ wr => ∃ k : Nat, k ≤ n ∧ i = .int .i64 k ∧ s = .int .i64 (arP W H S (plcP W S k)) ∧ Below w.heap.size w wr ∧ wr.cell? ⟨w.heap.size, 0, none⟩ = some (.int .i64 W) ∧ wr.cell? ⟨w.heap.size, 1, none⟩ = some (.int .i64 H) ∧ wr.cell? ⟨w.heap.size, 2, none⟩ = some (.int .i64 S)) (fun _ i _ _ _ => n - (intOf i).toNat)
    case atStart => exact ⟨0, by omega, rfl, by rw [HAR0.out], hA, p0, p1, p2⟩
    case round =>
      clear p0 p1 p2 hA zp0 zp1 zp2
      obtain ⟨k, hk, rfl, rfl, hA, p0, p1, p2⟩ := hrel
      have zp := blk_lt p0
      have hk0 : (0 : Int) ≤ (k : Int) := by omega
      by_cases hlt : k < n
      · have hlt2 : (k : Int) < (n : Int) := by omega
        have hlt3 : (k : Int) < 500 := by omega
        obtain ⟨hfit, hu, hv⟩ := HFACT.out k hlt
        have hfc := fun w => fits8_p W H _ _ _ _ w ⟨a2, a4⟩ hfit
        have hbox := HBOX.out k hlt
        have har := HAR.out k hlt
        obtain ⟨b1, b2⟩ := HARB.out k (by omega)
        obtain ⟨b3, b4⟩ := HARB.out (k + 1) (by omega)
        rw [show ((k + 1 : Nat) : Int) = (k : Int) + 1 by omega, har] at b3 b4
        obtain ⟨f1, f2, f3, f4, f5, f6⟩ := hfit
        have hm0 := Int.mul_nonneg (show 0 ≤ bxW W S (plcP W S k) by omega) (show 0 ≤ bxH H S (plcP W S k) by omega)
        have hHF := Lib.hid hfc
        have hHB := Lib.hid hbox
        have hHR := Lib.hid har
        clear hfc hbox har
        generalize arP W H S (plcP W S k) = ar at *
        generalize bxX S (plcP W S k) = x at *
        generalize bxY S (plcP W S k) = y at *
        generalize bxW W S (plcP W S k) = u at *
        generalize bxH H S (plcP W S k) = v at *
        have hwm : IntKind.i64.wrap (u * v) = u * v := IntWalk.i64_in _ (by omega)
        have hws : IntKind.i64.wrap (ar + u * v) = ar + u * v := IntWalk.i64_in _ (by omega)
        have g1 : ¬ S < u := by omega
        have g2 : ¬ S < v := by omega
        obtain ⟨m, hmm⟩ : ∃ m, u * v = m := ⟨_, rfl⟩
        rw [hmm] at hwm hws hHR b3 b4 hm0
        go_wp2_with fail
        refine (H6.out _).mono ?_
        rintro e w2 ⟨rfl, hb⟩
        have hk : Below wr.heap.size wr w2 := by first | exact hb | exact bl_tr (bl_al (bl0 _) _) hb | exact bl_tr (bl_dr (bl_al (bl0 _) _)) hb | exact bl_tr (bl_al (bl_al (bl0 _) _) _) hb | exact bl_tr (bl_dr (bl_al (bl_al (bl0 _) _) _)) hb | exact bl_tr (bl_al (bl_al (bl_al (bl0 _) _) _) _) hb | exact bl_tr (bl_dr (bl_al (bl_al (bl_al (bl0 _) _) _) _)) hb | exact bl_tr (bl_al (bl_al (bl_al (bl_al (bl0 _) _) _) _) _) hb | exact bl_tr (bl_dr (bl_al (bl_al (bl_al (bl_al (bl0 _) _) _) _) _)) hb | exact bl_tr (bl_al (bl_al (bl_al (bl_al (bl_al (bl0 _) _) _) _) _) _) hb | exact bl_tr (bl_dr (bl_al (bl_al (bl_al (bl_al (bl_al (bl0 _) _) _) _) _) _)) hb | exact bl_tr (bl_al (bl_al (bl_al (bl_al (bl_al (bl_al (bl0 _) _) _) _) _) _) _) hb | exact bl_tr (bl_dr (bl_al (bl_al (bl_al (bl_al (bl_al (bl_al (bl0 _) _) _) _) _) _) _)) hb | exact bl_tr (bl_dr (bl0 _)) hb
        replace hA := bl_tr hA hk
        replace p0 := cell_later hk p0
        replace p1 := cell_later hk p1
        replace p2 := cell_later hk p2
        clear hb hk
        have zp0 := blk_lt p0
        have zp1 := blk_lt p1
        have zp2 := blk_lt p2
        go_wp2_with fail
        refine (hHB.out _).mono ?_
        rintro e w3 ⟨rfl, hb⟩
        have hk : Below w2.heap.size w2 w3 := by first | exact hb | exact bl_tr (bl_al (bl0 _) _) hb | exact bl_tr (bl_dr (bl_al (bl0 _) _)) hb | exact bl_tr (bl_al (bl_al (bl0 _) _) _) hb | exact bl_tr (bl_dr (bl_al (bl_al (bl0 _) _) _)) hb | exact bl_tr (bl_al (bl_al (bl_al (bl0 _) _) _) _) hb | exact bl_tr (bl_dr (bl_al (bl_al (bl_al (bl0 _) _) _) _)) hb | exact bl_tr (bl_al (bl_al (bl_al (bl_al (bl0 _) _) _) _) _) hb | exact bl_tr (bl_dr (bl_al (bl_al (bl_al (bl_al (bl0 _) _) _) _) _)) hb | exact bl_tr (bl_al (bl_al (bl_al (bl_al (bl_al (bl0 _) _) _) _) _) _) hb | exact bl_tr (bl_dr (bl_al (bl_al (bl_al (bl_al (bl_al (bl0 _) _) _) _) _) _)) hb | exact bl_tr (bl_al (bl_al (bl_al (bl_al (bl_al (bl_al (bl0 _) _) _) _) _) _) _) hb | exact bl_tr (bl_dr (bl_al (bl_al (bl_al (bl_al (bl_al (bl_al (bl0 _) _) _) _) _) _) _)) hb | exact bl_tr (bl_dr (bl0 _)) hb
        replace hA := bl_tr hA hk
        replace p0 := cell_later hk p0
        replace p1 := cell_later hk p1
        replace p2 := cell_later hk p2
        clear hb hk
        have zp0 := blk_lt p0
        have zp1 := blk_lt p1
        have zp2 := blk_lt p2
        go_wp2_with fail
        refine (hHF.out _).mono ?_
        rintro e w4 ⟨rfl, hb⟩
        have hk : Below w3.heap.size w3 w4 := by first | exact hb | exact bl_tr (bl_al (bl0 _) _) hb | exact bl_tr (bl_dr (bl_al (bl0 _) _)) hb | exact bl_tr (bl_al (bl_al (bl0 _) _) _) hb | exact bl_tr (bl_dr (bl_al (bl_al (bl0 _) _) _)) hb | exact bl_tr (bl_al (bl_al (bl_al (bl0 _) _) _) _) hb | exact bl_tr (bl_dr (bl_al (bl_al (bl_al (bl0 _) _) _) _)) hb | exact bl_tr (bl_al (bl_al (bl_al (bl_al (bl0 _) _) _) _) _) hb | exact bl_tr (bl_dr (bl_al (bl_al (bl_al (bl_al (bl0 _) _) _) _) _)) hb | exact bl_tr (bl_al (bl_al (bl_al (bl_al (bl_al (bl0 _) _) _) _) _) _) hb | exact bl_tr (bl_dr (bl_al (bl_al (bl_al (bl_al (bl_al (bl0 _) _) _) _) _) _)) hb | exact bl_tr (bl_al (bl_al (bl_al (bl_al (bl_al (bl_al (bl0 _) _) _) _) _) _) _) hb | exact bl_tr (bl_dr (bl_al (bl_al (bl_al (bl_al (bl_al (bl_al (bl0 _) _) _) _) _) _) _)) hb | exact bl_tr (bl_dr (bl0 _)) hb
        replace hA := bl_tr hA hk
        replace p0 := cell_later hk p0
        replace p1 := cell_later hk p1
        replace p2 := cell_later hk p2
        have b0 := cell_later hb (v := .int .i64 x) (a := ⟨w3.heap.size, 0, none⟩) (by simp [go_sem])
        have b1 := cell_later hb (v := .int .i64 y) (a := ⟨w3.heap.size, 1, none⟩) (by simp [go_sem])
        have b2 := cell_later hb (v := .int .i64 u) (a := ⟨w3.heap.size, 2, none⟩) (by simp [go_sem])
        have b3' := cell_later hb (v := .int .i64 v) (a := ⟨w3.heap.size, 3, none⟩) (by simp [go_sem])
        clear hb hk
        have zp0 := blk_lt p0
        have zp1 := blk_lt p1
        have zp2 := blk_lt p2
        have zb0 := blk_lt b0
        have zb1 := blk_lt b1
        have zb2 := blk_lt b2
        have zb3' := blk_lt b3'
        go_wp2
        go_roundw
        case rel => exact ⟨k + 1, by omega, by go_num, by rw [show ((k + 1 : Nat) : Int) = (k : Int) + 1 by omega, hHR.out], hA, p0, p1, p2⟩
        case measure => simp [intOf]; omega
      · obtain rfl : k = n := by omega
        rw [HEND.out]
        have hge : ¬ (k : Int) < (k : Int) := by omega
        go_wp2_with fail
        refine (H6.out _).mono ?_
        rintro e w2 ⟨rfl, hb⟩
        have hk : Below wr.heap.size wr w2 := by first | exact hb | exact bl_tr (bl_al (bl0 _) _) hb | exact bl_tr (bl_dr (bl_al (bl0 _) _)) hb | exact bl_tr (bl_al (bl_al (bl0 _) _) _) hb | exact bl_tr (bl_dr (bl_al (bl_al (bl0 _) _) _)) hb | exact bl_tr (bl_al (bl_al (bl_al (bl0 _) _) _) _) hb | exact bl_tr (bl_dr (bl_al (bl_al (bl_al (bl0 _) _) _) _)) hb | exact bl_tr (bl_al (bl_al (bl_al (bl_al (bl0 _) _) _) _) _) hb | exact bl_tr (bl_dr (bl_al (bl_al (bl_al (bl_al (bl0 _) _) _) _) _)) hb | exact bl_tr (bl_al (bl_al (bl_al (bl_al (bl_al (bl0 _) _) _) _) _) _) hb | exact bl_tr (bl_dr (bl_al (bl_al (bl_al (bl_al (bl_al (bl0 _) _) _) _) _) _)) hb | exact bl_tr (bl_al (bl_al (bl_al (bl_al (bl_al (bl_al (bl0 _) _) _) _) _) _) _) hb | exact bl_tr (bl_dr (bl_al (bl_al (bl_al (bl_al (bl_al (bl_al (bl0 _) _) _) _) _) _) _)) hb | exact bl_tr (bl_dr (bl0 _)) hb
        replace hA := bl_tr hA hk
        replace p0 := cell_later hk p0
        replace p1 := cell_later hk p1
        replace p2 := cell_later hk p2
        clear hb hk
        have zp0 := blk_lt p0
        have zp1 := blk_lt p1
        have zp2 := blk_lt p2
        go_wp2_with fail
        go_loopw [7, 8, 9, 10, 11, 12, 13] (fun i _ _ _ _ _ _ wr => ∃ y : Nat, (y : Int) ≤ H ∧ i = .int .i64 y ∧ Below w.heap.size w wr ∧ wr.cell? ⟨w.heap.size, 0, none⟩ = some (.int .i64 W) ∧ wr.cell? ⟨w.heap.size, 1, none⟩ = some (.int .i64 H) ∧ wr.cell? ⟨w.heap.size, 2, none⟩ = some (.int .i64 S)) (fun i _ _ _ _ _ _ _ => (H - intOf i).toNat)
        case atStart => exact ⟨0, by omega, rfl, hA, p0, p1, p2⟩
        case round =>
          clear p0 p1 p2 hA zp0 zp1 zp2 zp
          obtain ⟨y, hy, rfl, hA, p0, p1, p2⟩ := hrel
          have zp := blk_lt p0
          have hy0 : (0 : Int) ≤ (y : Int) := by omega
          by_cases hly : (y : Int) < H
          · go_wp2_with fail
            go_loopw [8, 9, 10, 11, 12, 13] (fun i _ _ _ _ _ wr => ∃ x : Nat, (x : Int) ≤ W ∧ i = .int .i64 x ∧ Below w.heap.size w wr ∧ wr.cell? ⟨w.heap.size, 0, none⟩ = some (.int .i64 W) ∧ wr.cell? ⟨w.heap.size, 1, none⟩ = some (.int .i64 H) ∧ wr.cell? ⟨w.heap.size, 2, none⟩ = some (.int .i64 S)) (fun i _ _ _ _ _ _ => (W - intOf i).toNat)
            case atStart => exact ⟨0, by omega, rfl, hA, p0, p1, p2⟩
            case round =>
              clear p0 p1 p2 hA zp
              obtain ⟨x, hx, rfl, hA, p0, p1, p2⟩ := hrel
              have zp := blk_lt p0
              have hx0 : (0 : Int) ≤ (x : Int) := by omega
              by_cases hlx : (x : Int) < W
              · have hon : onB W H ((x : Int), (y : Int)) = true := inB_iff.2 ⟨a1, a2, a3, a4, hx0, hlx, hy0, hly⟩
                obtain ⟨j, hj, hjo, hjh⟩ := HHAS.out _ hon
                have hof := HOF.out _ hon
                rw [hjo] at hof
                have hbx := HBOX.out j hj
                have HJH := Lib.hid hjh
                have HJO := Lib.hid hof
                have HJB := Lib.hid hbx
                clear hon hjo hjh hof hbx
                generalize bxX S (plcP W S j) = bx at *
                generalize bxY S (plcP W S j) = by' at *
                generalize bxW W S (plcP W S j) = bw at *
                generalize bxH H S (plcP W S j) = bh at *
                go_wp2_with fail
                refine (HJO.out _).mono ?_
                rintro e w3 ⟨rfl, hb⟩
                have hk : Below wr.heap.size wr w3 := by first | exact hb | exact bl_tr (bl_al (bl0 _) _) hb | exact bl_tr (bl_dr (bl_al (bl0 _) _)) hb | exact bl_tr (bl_al (bl_al (bl0 _) _) _) hb | exact bl_tr (bl_dr (bl_al (bl_al (bl0 _) _) _)) hb | exact bl_tr (bl_al (bl_al (bl_al (bl0 _) _) _) _) hb | exact bl_tr (bl_dr (bl_al (bl_al (bl_al (bl0 _) _) _) _)) hb | exact bl_tr (bl_al (bl_al (bl_al (bl_al (bl0 _) _) _) _) _) hb | exact bl_tr (bl_dr (bl_al (bl_al (bl_al (bl_al (bl0 _) _) _) _) _)) hb | exact bl_tr (bl_al (bl_al (bl_al (bl_al (bl_al (bl0 _) _) _) _) _) _) hb | exact bl_tr (bl_dr (bl_al (bl_al (bl_al (bl_al (bl_al (bl0 _) _) _) _) _) _)) hb | exact bl_tr (bl_al (bl_al (bl_al (bl_al (bl_al (bl_al (bl0 _) _) _) _) _) _) _) hb | exact bl_tr (bl_dr (bl_al (bl_al (bl_al (bl_al (bl_al (bl_al (bl0 _) _) _) _) _) _) _)) hb | exact bl_tr (bl_dr (bl0 _)) hb
                replace hA := bl_tr hA hk
                replace p0 := cell_later hk p0
                replace p1 := cell_later hk p1
                replace p2 := cell_later hk p2
                have c0 := cell_later hb (v := .int .i64 x) (a := ⟨wr.heap.size, 0, none⟩) (by simp [go_sem])
                have c1 := cell_later hb (v := .int .i64 y) (a := ⟨wr.heap.size, 1, none⟩) (by simp [go_sem])
                clear hb hk
                have zp0 := blk_lt p0
                have zp1 := blk_lt p1
                have zp2 := blk_lt p2
                have zc0 := blk_lt c0
                have zc1 := blk_lt c1
                go_wp2_with fail
                refine (HJB.out _).mono ?_
                rintro e w4 ⟨rfl, hb⟩
                have hk : Below w3.heap.size w3 w4 := by first | exact hb | exact bl_tr (bl_al (bl0 _) _) hb | exact bl_tr (bl_dr (bl_al (bl0 _) _)) hb | exact bl_tr (bl_al (bl_al (bl0 _) _) _) hb | exact bl_tr (bl_dr (bl_al (bl_al (bl0 _) _) _)) hb | exact bl_tr (bl_al (bl_al (bl_al (bl0 _) _) _) _) hb | exact bl_tr (bl_dr (bl_al (bl_al (bl_al (bl0 _) _) _) _)) hb | exact bl_tr (bl_al (bl_al (bl_al (bl_al (bl0 _) _) _) _) _) hb | exact bl_tr (bl_dr (bl_al (bl_al (bl_al (bl_al (bl0 _) _) _) _) _)) hb | exact bl_tr (bl_al (bl_al (bl_al (bl_al (bl_al (bl0 _) _) _) _) _) _) hb | exact bl_tr (bl_dr (bl_al (bl_al (bl_al (bl_al (bl_al (bl0 _) _) _) _) _) _)) hb | exact bl_tr (bl_al (bl_al (bl_al (bl_al (bl_al (bl_al (bl0 _) _) _) _) _) _) _) hb | exact bl_tr (bl_dr (bl_al (bl_al (bl_al (bl_al (bl_al (bl_al (bl0 _) _) _) _) _) _) _)) hb | exact bl_tr (bl_dr (bl0 _)) hb
                replace hA := bl_tr hA hk
                replace p0 := cell_later hk p0
                replace p1 := cell_later hk p1
                replace p2 := cell_later hk p2
                replace c0 := cell_later hk c0
                replace c1 := cell_later hk c1
                clear hb hk
                have zp0 := blk_lt p0
                have zp1 := blk_lt p1
                have zp2 := blk_lt p2
                have zc0 := blk_lt c0
                have zc1 := blk_lt c1
                go_wp2_with fail
                refine (HJH.out _).mono ?_
                rintro e w5 ⟨rfl, hb⟩
                have hk : Below w4.heap.size w4 w5 := by first | exact hb | exact bl_tr (bl_al (bl0 _) _) hb | exact bl_tr (bl_dr (bl_al (bl0 _) _)) hb | exact bl_tr (bl_al (bl_al (bl0 _) _) _) hb | exact bl_tr (bl_dr (bl_al (bl_al (bl0 _) _) _)) hb | exact bl_tr (bl_al (bl_al (bl_al (bl0 _) _) _) _) hb | exact bl_tr (bl_dr (bl_al (bl_al (bl_al (bl0 _) _) _) _)) hb | exact bl_tr (bl_al (bl_al (bl_al (bl_al (bl0 _) _) _) _) _) hb | exact bl_tr (bl_dr (bl_al (bl_al (bl_al (bl_al (bl0 _) _) _) _) _)) hb | exact bl_tr (bl_al (bl_al (bl_al (bl_al (bl_al (bl0 _) _) _) _) _) _) hb | exact bl_tr (bl_dr (bl_al (bl_al (bl_al (bl_al (bl_al (bl0 _) _) _) _) _) _)) hb | exact bl_tr (bl_al (bl_al (bl_al (bl_al (bl_al (bl_al (bl0 _) _) _) _) _) _) _) hb | exact bl_tr (bl_dr (bl_al (bl_al (bl_al (bl_al (bl_al (bl_al (bl0 _) _) _) _) _) _) _)) hb | exact bl_tr (bl_dr (bl0 _)) hb
                replace hA := bl_tr hA hk
                replace p0 := cell_later hk p0
                replace p1 := cell_later hk p1
                replace p2 := cell_later hk p2
                clear hb hk
                have zp0 := blk_lt p0
                have zp1 := blk_lt p1
                have zp2 := blk_lt p2
                go_wp2
                go_roundw
                case rel => exact ⟨x + 1, by omega, by go_num, hA, p0, p1, p2⟩
                case measure => simp [intOf]; omega
              · have hge2 : ¬ (x : Int) < W := hlx
                go_wp2
                go_roundw
                case rel => exact ⟨y + 1, by omega, by go_num, hA, p0, p1, p2⟩
                case measure => simp [intOf]; omega
          · skip
            go_wp2_with fail
            refine (awake11 _ (hs.below (by first | exact hA | exact (bl_al hA _) | exact (bl_dr (bl_al hA _)) | exact (bl_al (bl_al hA _) _) | exact (bl_dr (bl_al (bl_al hA _) _)) | exact (bl_al (bl_al (bl_al hA _) _) _) | exact (bl_dr (bl_al (bl_al (bl_al hA _) _) _)) | exact (bl_al (bl_al (bl_al (bl_al hA _) _) _) _) | exact (bl_dr (bl_al (bl_al (bl_al (bl_al hA _) _) _) _)) | exact (bl_al (bl_al (bl_al (bl_al (bl_al hA _) _) _) _) _) | exact (bl_dr (bl_al (bl_al (bl_al (bl_al (bl_al hA _) _) _) _) _)) | exact (bl_al (bl_al (bl_al (bl_al (bl_al (bl_al hA _) _) _) _) _) _) | exact (bl_dr (bl_al (bl_al (bl_al (bl_al (bl_al (bl_al hA _) _) _) _) _) _)) | exact (bl_dr hA)))).mono ?_
            rintro e w3 ⟨rfl, hb⟩
            have hk : Below wr.heap.size wr w3 := by first | exact hb | exact bl_tr (bl_al (bl0 _) _) hb | exact bl_tr (bl_dr (bl_al (bl0 _) _)) hb | exact bl_tr (bl_al (bl_al (bl0 _) _) _) hb | exact bl_tr (bl_dr (bl_al (bl_al (bl0 _) _) _)) hb | exact bl_tr (bl_al (bl_al (bl_al (bl0 _) _) _) _) hb | exact bl_tr (bl_dr (bl_al (bl_al (bl_al (bl0 _) _) _) _)) hb | exact bl_tr (bl_al (bl_al (bl_al (bl_al (bl0 _) _) _) _) _) hb | exact bl_tr (bl_dr (bl_al (bl_al (bl_al (bl_al (bl0 _) _) _) _) _)) hb | exact bl_tr (bl_al (bl_al (bl_al (bl_al (bl_al (bl0 _) _) _) _) _) _) hb | exact bl_tr (bl_dr (bl_al (bl_al (bl_al (bl_al (bl_al (bl0 _) _) _) _) _) _)) hb | exact bl_tr (bl_al (bl_al (bl_al (bl_al (bl_al (bl_al (bl0 _) _) _) _) _) _) _) hb | exact bl_tr (bl_dr (bl_al (bl_al (bl_al (bl_al (bl_al (bl_al (bl0 _) _) _) _) _) _) _)) hb | exact bl_tr (bl_dr (bl0 _)) hb
            replace hA := bl_tr hA hk
            clear hb hk
            go_wp2
            go_ret
            exact ⟨rfl, hA⟩
end Go.Proofs.YtdajddcladapaaaDoor
