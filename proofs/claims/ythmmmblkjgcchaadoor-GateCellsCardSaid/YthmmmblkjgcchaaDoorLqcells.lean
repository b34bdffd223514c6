/- GateCells: the law's walk. -/
import Derived.Test.YthmmmblkjgcchaaDoorR1
namespace Go.Proofs.YthmmmblkjgcchaaDoor
open Go.RowKit Go.Sort

theorem bx_nat {W H S : Int} {k : Nat} (hr : rightP W H S = true) (h0 : (0 : Int) ≤ k) (h1 : (k : Int) < lieN W S * lieN H S) :
    ∃ (X Y : Int) (U V : Nat), bxF W H S k = ((X, Y), ((U : Int), (V : Int))) ∧ (0 ≤ X ∧ X ≤ 300) ∧ (0 ≤ Y ∧ Y ≤ 300) ∧ U ≤ 16 ∧ V ≤ 16 ∧ ∀ zs, clL W H S k zs = boxT (hasG zs) X Y U V := by
  obtain ⟨a1, a2, a3, a4, a5⟩ := plc_in hr h0 h1
  obtain ⟨⟨b1, b2, b3, b4⟩, ⟨c1, c2, c3, c4⟩, _⟩ := bx_bd hr a1 a2 a3 a4
  refine ⟨bxX S (plcP W S k), bxY S (plcP W S k), (bxW W S (plcP W S k)).toNat, (bxH H S (plcP W S k)).toNat, ?_, by omega, by omega, by omega, by omega, fun zs => clL_box hr h0 h1 zs⟩
  unfold bxF
  rw [show ((bxW W S (plcP W S k)).toNat : Int) = bxW W S (plcP W S k) by omega, show ((bxH H S (plcP W S k)).toNat : Int) = bxH H S (plcP W S k) by omega]
set_option maxRecDepth 100000 in
set_option maxHeartbeats 8000000 in
theorem qcells_walk (W H S : Int) (a : Option Addr) (cap : Nat) (zs : List (IC × IC)) (id : Int) (w : World) (hr : RowPP w a zs) (hs : Stp w) :
    Calls Tryd.prog 5 #[.agg #[.int .i64 W, .int .i64 H, .int .i64 S], .slice a zs.length cap, .int .i64 id] w fun e w' => e = .returned (.bool true) ∧ Below w.heap.size w w' := by
  obtain ⟨i0, hi0, hz0, hz1, hz2⟩ := info_parts Tryd.infoRG
  have hA := bl0 w
  by_cases hsm : zs.length ≤ 60
  case neg =>
    have hl2 : (60 : Int) < (zs.length : Int) := by omega
    clear hsm hr
    go_enter Tryd.func5, Tryd.ntmps5
    go_wp2_with fail
    refine (awake12 _ (hs.below (by first | exact hA | exact (bl_al hA _) | exact (bl_dr (bl_al hA _)) | exact (bl_al (bl_al hA _) _) | exact (bl_dr (bl_al (bl_al hA _) _)) | exact (bl_al (bl_al (bl_al hA _) _) _) | exact (bl_dr (bl_al (bl_al (bl_al hA _) _) _)) | exact (bl_al (bl_al (bl_al (bl_al hA _) _) _) _) | exact (bl_dr (bl_al (bl_al (bl_al (bl_al hA _) _) _) _)) | exact (bl_al (bl_al (bl_al (bl_al (bl_al hA _) _) _) _) _) | exact (bl_dr (bl_al (bl_al (bl_al (bl_al (bl_al hA _) _) _) _) _)) | exact (bl_al (bl_al (bl_al (bl_al (bl_al (bl_al hA _) _) _) _) _) _) | exact (bl_dr (bl_al (bl_al (bl_al (bl_al (bl_al (bl_al hA _) _) _) _) _) _)) | exact (bl_dr hA)))).mono ?_
    rintro e w1 ⟨rfl, hb⟩
    have hk : Below w.heap.size w w1 := by first | exact hb | exact bl_tr (bl_al (bl0 _) _) hb | exact bl_tr (bl_dr (bl_al (bl0 _) _)) hb | exact bl_tr (bl_al (bl_al (bl0 _) _) _) hb | exact bl_tr (bl_dr (bl_al (bl_al (bl0 _) _) _)) hb | exact bl_tr (bl_al (bl_al (bl_al (bl0 _) _) _) _) hb | exact bl_tr (bl_dr (bl_al (bl_al (bl_al (bl0 _) _) _) _)) hb | exact bl_tr (bl_al (bl_al (bl_al (bl_al (bl0 _) _) _) _) _) hb | exact bl_tr (bl_dr (bl_al (bl_al (bl_al (bl_al (bl0 _) _) _) _) _)) hb | exact bl_tr (bl_al (bl_al (bl_al (bl_al (bl_al (bl0 _) _) _) _) _) _) hb | exact bl_tr (bl_dr (bl_al (bl_al (bl_al (bl_al (bl_al (bl0 _) _) _) _) _) _)) hb | exact bl_tr (bl_al (bl_al (bl_al (bl_al (bl_al (bl_al (bl0 _) _) _) _) _) _) _) hb | exact bl_tr (bl_dr (bl_al (bl_al (bl_al (bl_al (bl_al (bl_al (bl0 _) _) _) _) _) _) _)) hb | exact bl_tr (bl_dr (bl0 _)) hb
    replace hA := bl_tr hA hk
    clear hb hk
    go_wp2
    go_ret
    exact ⟨rfl, hA⟩
  case pos =>
  have hl2 : ¬ (60 : Int) < (zs.length : Int) := by omega
  have H1 := Lib.hid (fun w hr => cells_any W H S id a cap zs w hr hsm)
  unfold CelG at H1
  have H2 := Lib.hid (fun w => rright11 W H S w)
  cases hrt : rightP W H S
  · have e1 : plcX W H S id = 1 := by unfold plcX; rw [if_neg (by rw [hrt]; decide)]
    have e2 : clL W H S id zs = [] := by unfold clL; rw [if_neg (by rw [e1]; decide)]
    rw [e1, e2] at H1
    rw [hrt] at H2
    clear e1 e2 hrt
    go_enter Tryd.func5, Tryd.ntmps5
    go_wp2_with fail
    refine (H1.out _ (hr.below (by first | exact hA | exact (bl_al hA _) | exact (bl_dr (bl_al hA _)) | exact (bl_al (bl_al hA _) _) | exact (bl_dr (bl_al (bl_al hA _) _)) | exact (bl_al (bl_al (bl_al hA _) _) _) | exact (bl_dr (bl_al (bl_al (bl_al hA _) _) _)) | exact (bl_al (bl_al (bl_al (bl_al hA _) _) _) _) | exact (bl_dr (bl_al (bl_al (bl_al (bl_al hA _) _) _) _)) | exact (bl_al (bl_al (bl_al (bl_al (bl_al hA _) _) _) _) _) | exact (bl_dr (bl_al (bl_al (bl_al (bl_al (bl_al hA _) _) _) _) _)) | exact (bl_al (bl_al (bl_al (bl_al (bl_al (bl_al hA _) _) _) _) _) _) | exact (bl_dr (bl_al (bl_al (bl_al (bl_al (bl_al (bl_al hA _) _) _) _) _) _)) | exact (bl_dr hA)))).mono ?_
    rintro e w1 ⟨va, vc, rfl, hvc, hrw, hb⟩
    have hk : Below w.heap.size w w1 := by first | exact hb | exact bl_tr (bl_al (bl0 _) _) hb | exact bl_tr (bl_dr (bl_al (bl0 _) _)) hb | exact bl_tr (bl_al (bl_al (bl0 _) _) _) hb | exact bl_tr (bl_dr (bl_al (bl_al (bl0 _) _) _)) hb | exact bl_tr (bl_al (bl_al (bl_al (bl0 _) _) _) _) hb | exact bl_tr (bl_dr (bl_al (bl_al (bl_al (bl0 _) _) _) _)) hb | exact bl_tr (bl_al (bl_al (bl_al (bl_al (bl0 _) _) _) _) _) hb | exact bl_tr (bl_dr (bl_al (bl_al (bl_al (bl_al (bl0 _) _) _) _) _)) hb | exact bl_tr (bl_al (bl_al (bl_al (bl_al (bl_al (bl0 _) _) _) _) _) _) hb | exact bl_tr (bl_dr (bl_al (bl_al (bl_al (bl_al (bl_al (bl0 _) _) _) _) _) _)) hb | exact bl_tr (bl_al (bl_al (bl_al (bl_al (bl_al (bl_al (bl0 _) _) _) _) _) _) _) hb | exact bl_tr (bl_dr (bl_al (bl_al (bl_al (bl_al (bl_al (bl_al (bl0 _) _) _) _) _) _) _)) hb | exact bl_tr (bl_dr (bl0 _)) hb
    replace hA := bl_tr hA hk
    have p0 := cell_later hb (v := .int .i64 W) (a := ⟨w.heap.size, 0, none⟩) (by simp [go_sem])
    have p1 := cell_later hb (v := .int .i64 H) (a := ⟨w.heap.size, 1, none⟩) (by simp [go_sem])
    have p2 := cell_later hb (v := .int .i64 S) (a := ⟨w.heap.size, 2, none⟩) (by simp [go_sem])
    clear hb hk
    have zp0 := blk_lt p0
    have zp1 := blk_lt p1
    have zp2 := blk_lt p2
    go_wp2_with fail
    refine (H2.out _).mono ?_
    rintro e w2 ⟨rfl, hb⟩
    have hk : Below w1.heap.size w1 w2 := by first | exact hb | exact bl_tr (bl_al (bl0 _) _) hb | exact bl_tr (bl_dr (bl_al (bl0 _) _)) hb | exact bl_tr (bl_al (bl_al (bl0 _) _) _) hb | exact bl_tr (bl_dr (bl_al (bl_al (bl0 _) _) _)) hb | exact bl_tr (bl_al (bl_al (bl_al (bl0 _) _) _) _) hb | exact bl_tr (bl_dr (bl_al (bl_al (bl_al (bl0 _) _) _) _)) hb | exact bl_tr (bl_al (bl_al (bl_al (bl_al (bl0 _) _) _) _) _) hb | exact bl_tr (bl_dr (bl_al (bl_al (bl_al (bl_al (bl0 _) _) _) _) _)) hb | exact bl_tr (bl_al (bl_al (bl_al (bl_al (bl_al (bl0 _) _) _) _) _) _) hb | exact bl_tr (bl_dr (bl_al (bl_al (bl_al (bl_al (bl_al (bl0 _) _) _) _) _) _)) hb | exact bl_tr (bl_al (bl_al (bl_al (bl_al (bl_al (bl_al (bl0 _) _) _) _) _) _) _) hb | exact bl_tr (bl_dr (bl_al (bl_al (bl_al (bl_al (bl_al (bl_al (bl0 _) _) _) _) _) _) _)) hb | exact bl_tr (bl_dr (bl0 _)) hb
    replace hA := bl_tr hA hk
    clear hb hk
    go_wp2_with fail
    refine (awake12 _ (hs.below (by first | exact hA | exact (bl_al hA _) | exact (bl_dr (bl_al hA _)) | exact (bl_al (bl_al hA _) _) | exact (bl_dr (bl_al (bl_al hA _) _)) | exact (bl_al (bl_al (bl_al hA _) _) _) | exact (bl_dr (bl_al (bl_al (bl_al hA _) _) _)) | exact (bl_al (bl_al (bl_al (bl_al hA _) _) _) _) | exact (bl_dr (bl_al (bl_al (bl_al (bl_al hA _) _) _) _)) | exact (bl_al (bl_al (bl_al (bl_al (bl_al hA _) _) _) _) _) | exact (bl_dr (bl_al (bl_al (bl_al (bl_al (bl_al hA _) _) _) _) _)) | exact (bl_al (bl_al (bl_al (bl_al (bl_al (bl_al hA _) _) _) _) _) _) | exact (bl_dr (bl_al (bl_al (bl_al (bl_al (bl_al (bl_al hA _) _) _) _) _) _)) | exact (bl_dr hA)))).mono ?_
    rintro e w3 ⟨rfl, hb⟩
    have hk : Below w2.heap.size w2 w3 := by first | exact hb | exact bl_tr (bl_al (bl0 _) _) hb | exact bl_tr (bl_dr (bl_al (bl0 _) _)) hb | exact bl_tr (bl_al (bl_al (bl0 _) _) _) hb | exact bl_tr (bl_dr (bl_al (bl_al (bl0 _) _) _)) hb | exact bl_tr (bl_al (bl_al (bl_al (bl0 _) _) _) _) hb | exact bl_tr (bl_dr (bl_al (bl_al (bl_al (bl0 _) _) _) _)) hb | exact bl_tr (bl_al (bl_al (bl_al (bl_al (bl0 _) _) _) _) _) hb | exact bl_tr (bl_dr (bl_al (bl_al (bl_al (bl_al (bl0 _) _) _) _) _)) hb | exact bl_tr (bl_al (bl_al (bl_al (bl_al (bl_al (bl0 _) _) _) _) _) _) hb | exact bl_tr (bl_dr (bl_al (bl_al (bl_al (bl_al (bl_al (bl0 _) _) _) _) _) _)) hb | exact bl_tr (bl_al (bl_al (bl_al (bl_al (bl_al (bl_al (bl0 _) _) _) _) _) _) _) hb | exact bl_tr (bl_dr (bl_al (bl_al (bl_al (bl_al (bl_al (bl_al (bl0 _) _) _) _) _) _) _)) hb | exact bl_tr (bl_dr (bl0 _)) hb
    replace hA := bl_tr hA hk
    clear hb hk
    go_wp2
    go_ret
    exact ⟨rfl, hA⟩
  · have H3 := Lib.hid (fun w => boxes11 W H S w hrt)
    unfold BxsR at H3
    rw [hrt] at H2
    have hbl := boxL_len W H S
    obtain ⟨hcn, n1, n2⟩ := cntN_eq hrt
    by_cases hin : 0 ≤ id ∧ id < lieN W S * lieN H S
    case neg =>
      have e1 : plcX W H S id = 10 := by unfold plcX; rw [if_pos hrt, if_neg hin]
      have e2 : clL W H S id zs = [] := by unfold clL; rw [if_neg (by rw [e1]; decide)]
      rw [e1, e2] at H1
      have hno : id < 0 ∨ ((0 : Int) ≤ id ∧ ((boxL W H S).length : Int) ≤ id) := by rw [hbl]; omega
      obtain ⟨B, hB⟩ : ∃ B, boxL W H S = B := ⟨_, rfl⟩
      rw [hB] at H3 hno
      clear e1 e2 hrt hin hcn n1 n2 hbl hB
      rcases hno with h0 | ⟨h0, h1⟩
      all_goals
        go_enter Tryd.func5, Tryd.ntmps5
        go_wp2_with fail
        refine (H1.out _ (hr.below (by first | exact hA | exact (bl_al hA _) | exact (bl_dr (bl_al hA _)) | exact (bl_al (bl_al hA _) _) | exact (bl_dr (bl_al (bl_al hA _) _)) | exact (bl_al (bl_al (bl_al hA _) _) _) | exact (bl_dr (bl_al (bl_al (bl_al hA _) _) _)) | exact (bl_al (bl_al (bl_al (bl_al hA _) _) _) _) | exact (bl_dr (bl_al (bl_al (bl_al (bl_al hA _) _) _) _)) | exact (bl_al (bl_al (bl_al (bl_al (bl_al hA _) _) _) _) _) | exact (bl_dr (bl_al (bl_al (bl_al (bl_al (bl_al hA _) _) _) _) _)) | exact (bl_al (bl_al (bl_al (bl_al (bl_al (bl_al hA _) _) _) _) _) _) | exact (bl_dr (bl_al (bl_al (bl_al (bl_al (bl_al (bl_al hA _) _) _) _) _) _)) | exact (bl_dr hA)))).mono ?_
        rintro e w1 ⟨va, vc, rfl, hvc, hrw, hb⟩
        have hk : Below w.heap.size w w1 := by first | exact hb | exact bl_tr (bl_al (bl0 _) _) hb | exact bl_tr (bl_dr (bl_al (bl0 _) _)) hb | exact bl_tr (bl_al (bl_al (bl0 _) _) _) hb | exact bl_tr (bl_dr (bl_al (bl_al (bl0 _) _) _)) hb | exact bl_tr (bl_al (bl_al (bl_al (bl0 _) _) _) _) hb | exact bl_tr (bl_dr (bl_al (bl_al (bl_al (bl0 _) _) _) _)) hb | exact bl_tr (bl_al (bl_al (bl_al (bl_al (bl0 _) _) _) _) _) hb | exact bl_tr (bl_dr (bl_al (bl_al (bl_al (bl_al (bl0 _) _) _) _) _)) hb | exact bl_tr (bl_al (bl_al (bl_al (bl_al (bl_al (bl0 _) _) _) _) _) _) hb | exact bl_tr (bl_dr (bl_al (bl_al (bl_al (bl_al (bl_al (bl0 _) _) _) _) _) _)) hb | exact bl_tr (bl_al (bl_al (bl_al (bl_al (bl_al (bl_al (bl0 _) _) _) _) _) _) _) hb | exact bl_tr (bl_dr (bl_al (bl_al (bl_al (bl_al (bl_al (bl_al (bl0 _) _) _) _) _) _) _)) hb | exact bl_tr (bl_dr (bl0 _)) hb
        replace hA := bl_tr hA hk
        have p0 := cell_later hb (v := .int .i64 W) (a := ⟨w.heap.size, 0, none⟩) (by simp [go_sem])
        have p1 := cell_later hb (v := .int .i64 H) (a := ⟨w.heap.size, 1, none⟩) (by simp [go_sem])
        have p2 := cell_later hb (v := .int .i64 S) (a := ⟨w.heap.size, 2, none⟩) (by simp [go_sem])
        clear hb hk
        have zp0 := blk_lt p0
        have zp1 := blk_lt p1
        have zp2 := blk_lt p2
        go_wp2_with fail
        refine (H2.out _).mono ?_
        rintro e w2 ⟨rfl, hb⟩
        have hk : Below w1.heap.size w1 w2 := by first | exact hb | exact bl_tr (bl_al (bl0 _) _) hb | exact bl_tr (bl_dr (bl_al (bl0 _) _)) hb | exact bl_tr (bl_al (bl_al (bl0 _) _) _) hb | exact bl_tr (bl_dr (bl_al (bl_al (bl0 _) _) _)) hb | exact bl_tr (bl_al (bl_al (bl_al (bl0 _) _) _) _) hb | exact bl_tr (bl_dr (bl_al (bl_al (bl_al (bl0 _) _) _) _)) hb | exact bl_tr (bl_al (bl_al (bl_al (bl_al (bl0 _) _) _) _) _) hb | exact bl_tr (bl_dr (bl_al (bl_al (bl_al (bl_al (bl0 _) _) _) _) _)) hb | exact bl_tr (bl_al (bl_al (bl_al (bl_al (bl_al (bl0 _) _) _) _) _) _) hb | exact bl_tr (bl_dr (bl_al (bl_al (bl_al (bl_al (bl_al (bl0 _) _) _) _) _) _)) hb | exact bl_tr (bl_al (bl_al (bl_al (bl_al (bl_al (bl_al (bl0 _) _) _) _) _) _) _) hb | exact bl_tr (bl_dr (bl_al (bl_al (bl_al (bl_al (bl_al (bl_al (bl0 _) _) _) _) _) _) _)) hb | exact bl_tr (bl_dr (bl0 _)) hb
        replace hA := bl_tr hA hk
        replace p0 := cell_later hk p0
        replace p1 := cell_later hk p1
        replace p2 := cell_later hk p2
        clear hb hk
        have zp0 := blk_lt p0
        have zp1 := blk_lt p1
        have zp2 := blk_lt p2
        go_wp2_with fail
        refine (H3.out _).mono ?_
        rintro e w3 ⟨vb, vc2, rfl, hrb, hb⟩
        have hk : Below w2.heap.size w2 w3 := by first | exact hb | exact bl_tr (bl_al (bl0 _) _) hb | exact bl_tr (bl_dr (bl_al (bl0 _) _)) hb | exact bl_tr (bl_al (bl_al (bl0 _) _) _) hb | exact bl_tr (bl_dr (bl_al (bl_al (bl0 _) _) _)) hb | exact bl_tr (bl_al (bl_al (bl_al (bl0 _) _) _) _) hb | exact bl_tr (bl_dr (bl_al (bl_al (bl_al (bl0 _) _) _) _)) hb | exact bl_tr (bl_al (bl_al (bl_al (bl_al (bl0 _) _) _) _) _) hb | exact bl_tr (bl_dr (bl_al (bl_al (bl_al (bl_al (bl0 _) _) _) _) _)) hb | exact bl_tr (bl_al (bl_al (bl_al (bl_al (bl_al (bl0 _) _) _) _) _) _) hb | exact bl_tr (bl_dr (bl_al (bl_al (bl_al (bl_al (bl_al (bl0 _) _) _) _) _) _)) hb | exact bl_tr (bl_al (bl_al (bl_al (bl_al (bl_al (bl_al (bl0 _) _) _) _) _) _) _) hb | exact bl_tr (bl_dr (bl_al (bl_al (bl_al (bl_al (bl_al (bl_al (bl0 _) _) _) _) _) _) _)) hb | exact bl_tr (bl_dr (bl0 _)) hb
        replace hA := bl_tr hA hk
        clear hb hk
        go_wp2_with fail
        refine (awake12 _ (hs.below (by first | exact hA | exact (bl_al hA _) | exact (bl_dr (bl_al hA _)) | exact (bl_al (bl_al hA _) _) | exact (bl_dr (bl_al (bl_al hA _) _)) | exact (bl_al (bl_al (bl_al hA _) _) _) | exact (bl_dr (bl_al (bl_al (bl_al hA _) _) _)) | exact (bl_al (bl_al (bl_al (bl_al hA _) _) _) _) | exact (bl_dr (bl_al (bl_al (bl_al (bl_al hA _) _) _) _)) | exact (bl_al (bl_al (bl_al (bl_al (bl_al hA _) _) _) _) _) | exact (bl_dr (bl_al (bl_al (bl_al (bl_al (bl_al hA _) _) _) _) _)) | exact (bl_al (bl_al (bl_al (bl_al (bl_al (bl_al hA _) _) _) _) _) _) | exact (bl_dr (bl_al (bl_al (bl_al (bl_al (bl_al (bl_al hA _) _) _) _) _) _)) | exact (bl_dr hA)))).mono ?_
        rintro e w4 ⟨rfl, hb⟩
        have hk : Below w3.heap.size w3 w4 := by first | exact hb | exact bl_tr (bl_al (bl0 _) _) hb | exact bl_tr (bl_dr (bl_al (bl0 _) _)) hb | exact bl_tr (bl_al (bl_al (bl0 _) _) _) hb | exact bl_tr (bl_dr (bl_al (bl_al (bl0 _) _) _)) hb | exact bl_tr (bl_al (bl_al (bl_al (bl0 _) _) _) _) hb | exact bl_tr (bl_dr (bl_al (bl_al (bl_al (bl0 _) _) _) _)) hb | exact bl_tr (bl_al (bl_al (bl_al (bl_al (bl0 _) _) _) _) _) hb | exact bl_tr (bl_dr (bl_al (bl_al (bl_al (bl_al (bl0 _) _) _) _) _)) hb | exact bl_tr (bl_al (bl_al (bl_al (bl_al (bl_al (bl0 _) _) _) _) _) _) hb | exact bl_tr (bl_dr (bl_al (bl_al (bl_al (bl_al (bl_al (bl0 _) _) _) _) _) _)) hb | exact bl_tr (bl_al (bl_al (bl_al (bl_al (bl_al (bl_al (bl0 _) _) _) _) _) _) _) hb | exact bl_tr (bl_dr (bl_al (bl_al (bl_al (bl_al (bl_al (bl_al (bl0 _) _) _) _) _) _) _)) hb | exact bl_tr (bl_dr (bl0 _)) hb
        replace hA := bl_tr hA hk
        clear hb hk
        go_wp2
        go_ret
        exact ⟨rfl, hA⟩
    case pos =>
      obtain ⟨k, rfl⟩ : ∃ k : Nat, id = k := ⟨id.toNat, by omega⟩
      obtain ⟨hk0, hk1⟩ := hin
      have e1 : plcX W H S k = 0 := plcX_yes.2 ⟨hrt, hk0, hk1⟩
      obtain ⟨X, Y, U, V, hbx, hX, hY, hU, hV, hcl⟩ := bx_nat hrt hk0 hk1
      rw [e1, hcl zs] at H1
      have hkb : k < (boxL W H S).length := by rw [hbl]; omega
      have hat := boxL_at hkb
      rw [hbx] at hat
      have H4 := Lib.hid (fun a cap w hr => rcells_any a cap zs X Y U V w hr (by omega) hX hY hU hV)
      unfold CelR at H4
      have hTl : (boxT (hasG zs) X Y U V).length ≤ 1048576 := by
        have := boxT_le (hasG zs) X Y U V
        have := Nat.mul_le_mul hU hV
        omega
      obtain ⟨T, hT⟩ : ∃ T, boxT (hasG zs) X Y U V = T := ⟨_, rfl⟩
      rw [hT] at H1 H4 hTl
      have H5 := Lib.hid (fun a a2 cap cap2 w hr hr2 => cells_t a a2 cap cap2 T w hr hr2 hTl)
      obtain ⟨B, hB⟩ : ∃ B, boxL W H S = B := ⟨_, rfl⟩
      have hkB : k < B.length := by rw [← hB]; exact hkb
      have hkb2 : (k : Int) < (B.length : Int) := by omega
      have hge : ¬ ((B.length : Int) ≤ (k : Int)) := by omega
      have hlt0 : ¬ ((k : Int) < 0) := by omega
      have d1 : decide (B.length ≤ k) = false := decide_eq_false (by omega)
      have d2 : decide ((k : Int) < 0) = false := decide_eq_false hlt0
      have hat2 : B[k] = ((X, Y), ((U : Int), (V : Int))) := by simp only [← hB]; exact hat
      rw [hB] at H3
      clear hT hat hkb hbx hcl e1 hcn n1 n2 hbl hrt hk1 hX hY hU hV hTl hB
      go_enter Tryd.func5, Tryd.ntmps5
      go_wp2_with fail
      refine (H1.out _ (hr.below (by first | exact hA | exact (bl_al hA _) | exact (bl_dr (bl_al hA _)) | exact (bl_al (bl_al hA _) _) | exact (bl_dr (bl_al (bl_al hA _) _)) | exact (bl_al (bl_al (bl_al hA _) _) _) | exact (bl_dr (bl_al (bl_al (bl_al hA _) _) _)) | exact (bl_al (bl_al (bl_al (bl_al hA _) _) _) _) | exact (bl_dr (bl_al (bl_al (bl_al (bl_al hA _) _) _) _)) | exact (bl_al (bl_al (bl_al (bl_al (bl_al hA _) _) _) _) _) | exact (bl_dr (bl_al (bl_al (bl_al (bl_al (bl_al hA _) _) _) _) _)) | exact (bl_al (bl_al (bl_al (bl_al (bl_al (bl_al hA _) _) _) _) _) _) | exact (bl_dr (bl_al (bl_al (bl_al (bl_al (bl_al (bl_al hA _) _) _) _) _) _)) | exact (bl_dr hA)))).mono ?_
      rintro e w1 ⟨va, vc, rfl, hvc, hrw, hb⟩
      have hk : Below w.heap.size w w1 := by first | exact hb | exact bl_tr (bl_al (bl0 _) _) hb | exact bl_tr (bl_dr (bl_al (bl0 _) _)) hb | exact bl_tr (bl_al (bl_al (bl0 _) _) _) hb | exact bl_tr (bl_dr (bl_al (bl_al (bl0 _) _) _)) hb | exact bl_tr (bl_al (bl_al (bl_al (bl0 _) _) _) _) hb | exact bl_tr (bl_dr (bl_al (bl_al (bl_al (bl0 _) _) _) _)) hb | exact bl_tr (bl_al (bl_al (bl_al (bl_al (bl0 _) _) _) _) _) hb | exact bl_tr (bl_dr (bl_al (bl_al (bl_al (bl_al (bl0 _) _) _) _) _)) hb | exact bl_tr (bl_al (bl_al (bl_al (bl_al (bl_al (bl0 _) _) _) _) _) _) hb | exact bl_tr (bl_dr (bl_al (bl_al (bl_al (bl_al (bl_al (bl0 _) _) _) _) _) _)) hb | exact bl_tr (bl_al (bl_al (bl_al (bl_al (bl_al (bl_al (bl0 _) _) _) _) _) _) _) hb | exact bl_tr (bl_dr (bl_al (bl_al (bl_al (bl_al (bl_al (bl_al (bl0 _) _) _) _) _) _) _)) hb | exact bl_tr (bl_dr (bl0 _)) hb
      replace hA := bl_tr hA hk
      have p0 := cell_later hb (v := .int .i64 W) (a := ⟨w.heap.size, 0, none⟩) (by simp [go_sem])
      have p1 := cell_later hb (v := .int .i64 H) (a := ⟨w.heap.size, 1, none⟩) (by simp [go_sem])
      have p2 := cell_later hb (v := .int .i64 S) (a := ⟨w.heap.size, 2, none⟩) (by simp [go_sem])
      clear hb hk
      have zp0 := blk_lt p0
      have zp1 := blk_lt p1
      have zp2 := blk_lt p2
      clear hvc
      go_wp2_with fail
      refine (H2.out _).mono ?_
      rintro e w2 ⟨rfl, hb⟩
      have hk : Below w1.heap.size w1 w2 := by first | exact hb | exact bl_tr (bl_al (bl0 _) _) hb | exact bl_tr (bl_dr (bl_al (bl0 _) _)) hb | exact bl_tr (bl_al (bl_al (bl0 _) _) _) hb | exact bl_tr (bl_dr (bl_al (bl_al (bl0 _) _) _)) hb | exact bl_tr (bl_al (bl_al (bl_al (bl0 _) _) _) _) hb | exact bl_tr (bl_dr (bl_al (bl_al (bl_al (bl0 _) _) _) _)) hb | exact bl_tr (bl_al (bl_al (bl_al (bl_al (bl0 _) _) _) _) _) hb | exact bl_tr (bl_dr (bl_al (bl_al (bl_al (bl_al (bl0 _) _) _) _) _)) hb | exact bl_tr (bl_al (bl_al (bl_al (bl_al (bl_al (bl0 _) _) _) _) _) _) hb | exact bl_tr (bl_dr (bl_al (bl_al (bl_al (bl_al (bl_al (bl0 _) _) _) _) _) _)) hb | exact bl_tr (bl_al (bl_al (bl_al (bl_al (bl_al (bl_al (bl0 _) _) _) _) _) _) _) hb | exact bl_tr (bl_dr (bl_al (bl_al (bl_al (bl_al (bl_al (bl_al (bl0 _) _) _) _) _) _) _)) hb | exact bl_tr (bl_dr (bl0 _)) hb
      replace hA := bl_tr hA hk
      replace hrw := hrw.below hk
      replace p0 := cell_later hk p0
      replace p1 := cell_later hk p1
      replace p2 := cell_later hk p2
      clear hb hk
      have zp0 := blk_lt p0
      have zp1 := blk_lt p1
      have zp2 := blk_lt p2
      go_wp2_with fail
      refine (H3.out _).mono ?_
      rintro e w3 ⟨vb, vc2, rfl, hrb, hb⟩
      have hk : Below w2.heap.size w2 w3 := by first | exact hb | exact bl_tr (bl_al (bl0 _) _) hb | exact bl_tr (bl_dr (bl_al (bl0 _) _)) hb | exact bl_tr (bl_al (bl_al (bl0 _) _) _) hb | exact bl_tr (bl_dr (bl_al (bl_al (bl0 _) _) _)) hb | exact bl_tr (bl_al (bl_al (bl_al (bl0 _) _) _) _) hb | exact bl_tr (bl_dr (bl_al (bl_al (bl_al (bl0 _) _) _) _)) hb | exact bl_tr (bl_al (bl_al (bl_al (bl_al (bl0 _) _) _) _) _) hb | exact bl_tr (bl_dr (bl_al (bl_al (bl_al (bl_al (bl0 _) _) _) _) _)) hb | exact bl_tr (bl_al (bl_al (bl_al (bl_al (bl_al (bl0 _) _) _) _) _) _) hb | exact bl_tr (bl_dr (bl_al (bl_al (bl_al (bl_al (bl_al (bl0 _) _) _) _) _) _)) hb | exact bl_tr (bl_al (bl_al (bl_al (bl_al (bl_al (bl_al (bl0 _) _) _) _) _) _) _) hb | exact bl_tr (bl_dr (bl_al (bl_al (bl_al (bl_al (bl_al (bl_al (bl0 _) _) _) _) _) _) _)) hb | exact bl_tr (bl_dr (bl0 _)) hb
      replace hA := bl_tr hA hk
      replace hrw := hrw.below hk
      clear hb hk
      have HRW := Lib.hid hrw
      have HRB := Lib.hid hrb
      have HA := Lib.hid hA
      have HR := Lib.hid (hr.below hA)
      have HS := Lib.hid (hs.below hA)
      have HAT := Lib.hid hat2
      clear hrb hr hs hA hrw hat2
      go_wp2_with fail
      go_loopw [10, 11] (fun mv iv wr => ∃ i : Nat, i ≤ zs.length ∧ iv = .int .i64 i ∧ wr.ownsRow w3.heap.size 60 4 mv (zs.take i).length (flatPP (zs.take i)) ∧ Below w3.heap.size w3 wr) (fun _ iv _ => zs.length - (intOf iv).toNat)
      case atStart => exact ⟨0, Nat.zero_le _, rfl, by simpa using own_empty4 w3 60 w3.heap.size (Nat.le_refl _), bl_al (bl0 _) _⟩
      case round =>
        obtain ⟨i, hi, rfl, hown, hB0⟩ := hrel
        have hi0' : (0 : Int) ≤ (i : Int) := by omega
        by_cases hlt : i < zs.length
        · have hlt2 : (i : Int) < (zs.length : Int) := by omega
          have hgs : zs.take (i + 1) = zs.take i ++ [zs[i]] := List.take_succ_eq_append_getElem hlt
          obtain ⟨gb, go, rfl, ⟨q0, q1⟩, q2, q3⟩ := (HR.out.below hB0).cell hlt
          obtain ⟨p, hp⟩ : ∃ p, zs[i] = p := ⟨_, rfl⟩
          rw [hp] at q0 q1 q2 q3 hgs
          have HPP := Lib.hid hp
          have hgl : (zs.take i).length ≤ 60 := by rw [List.length_take]; omega
          obtain ⟨G, hG⟩ : ∃ G, zs.take i = G := ⟨_, rfl⟩
          rw [hG] at hown hgs hgl
          have HGS2 := Lib.hid hgs
          clear hp hgs hG
          obtain ⟨v', c', rfl, hcp⟩ := own_shape hown
          go_upto_region 13 with fail
          have hB := bl_dr (bl0 wr)
          have hS := And.intro (And.intro (cell_later hB q0) (cell_later hB q1)) (And.intro (cell_later hB q2) (cell_later hB q3))
          refine (wpIn_wide (n := 11)).1 ?_
          refine ordS_begin (S := (fun W9 => (W9.cell? ⟨gb, go + i * 4, none⟩ = some (.int .i64 p.1.1) ∧ W9.cell? ⟨gb, go + i * 4 + 1, none⟩ = some (.int .i64 p.1.2)) ∧ W9.cell? ⟨gb, go + i * 4 + 2, none⟩ = some (.int .i64 p.2.1) ∧ W9.cell? ⟨gb, go + i * 4 + 3, none⟩ = some (.int .i64 p.2.2))) (by kernel_rfl) hS (fun hH => ?_)
          first
            | (refine' ordS_take (i := 0) (oi := { dst := some 69, op := Op.move (Operand.tmp 10), type := 42, pos := _, after := #[], guard := none }) (v := _) rfl (by kernel_rfl) (by kernel_rfl) (by kernel_rfl) (by kernel_rfl) (fun _ _ _ h => h) (by assumption) (Or.inl ⟨by rfl, ?hy1⟩) (fun _ => rfl) ?rest1
               case hy1 => (intro w hSw; (try dsimp only at hSw); go_simp; try with_reducible rfl))
            | (refine ordS_take (i := 0) (oi := { dst := some 69, op := Op.move (Operand.tmp 10), type := 42, pos := _, after := #[], guard := none }) (v := undef) rfl (by kernel_rfl) (by kernel_rfl) (by kernel_rfl) (by kernel_rfl) (fun _ _ _ h => h) (by assumption) (Or.inr ⟨by rfl, rfl⟩) (fun _ => rfl) ?_)
          try simp only [Act.put, List.setIfInBounds_toArray, List.set_cons_zero, List.set_cons_succ]
          first
            | (refine' ordS_take (i := 1) (oi := { dst := some 70, op := Op.move (Operand.tmp 1), type := 32, pos := _, after := #[], guard := none }) (v := _) rfl (by kernel_rfl) (by kernel_rfl) (by kernel_rfl) (by kernel_rfl) (fun _ _ _ h => h) (by assumption) (Or.inl ⟨by rfl, ?hy2⟩) (fun _ => rfl) ?rest2
               case hy2 => (intro w hSw; (try dsimp only at hSw); go_simp; try with_reducible rfl))
            | (refine ordS_take (i := 1) (oi := { dst := some 70, op := Op.move (Operand.tmp 1), type := 32, pos := _, after := #[], guard := none }) (v := undef) rfl (by kernel_rfl) (by kernel_rfl) (by kernel_rfl) (by kernel_rfl) (fun _ _ _ h => h) (by assumption) (Or.inr ⟨by rfl, rfl⟩) (fun _ => rfl) ?_)
          try simp only [Act.put, List.setIfInBounds_toArray, List.set_cons_zero, List.set_cons_succ]
          first
            | (refine' ordS_take (i := 2) (oi := { dst := some 71, op := Op.move (Operand.tmp 11), type := 3, pos := _, after := #[], guard := none }) (v := _) rfl (by kernel_rfl) (by kernel_rfl) (by kernel_rfl) (by kernel_rfl) (fun _ _ _ h => h) (by assumption) (Or.inl ⟨by rfl, ?hy3⟩) (fun _ => rfl) ?rest3
               case hy3 => (intro w hSw; (try dsimp only at hSw); go_simp; try with_reducible rfl))
            | (refine ordS_take (i := 2) (oi := { dst := some 71, op := Op.move (Operand.tmp 11), type := 3, pos := _, after := #[], guard := none }) (v := undef) rfl (by kernel_rfl) (by kernel_rfl) (by kernel_rfl) (by kernel_rfl) (fun _ _ _ h => h) (by assumption) (Or.inr ⟨by rfl, rfl⟩) (fun _ => rfl) ?_)
          try simp only [Act.put, List.setIfInBounds_toArray, List.set_cons_zero, List.set_cons_succ]
          first
            | (refine' ordS_take (i := 3) (oi := { dst := some 72, op := Op.indexAddr 32 (Operand.tmp 70) (Operand.tmp 71), type := 0, pos := _, after := #[{ on := 1, ground := Ground.data }, { on := 2, ground := Ground.data }], guard := none }) (v := _) rfl (by kernel_rfl) (by kernel_rfl) (by kernel_rfl) (by kernel_rfl) (fun _ _ _ h => h) (by assumption) (Or.inl ⟨by rfl, ?hy4⟩) (fun _ => rfl) ?rest4
               case hy4 => (intro w hSw; (try dsimp only at hSw); go_simp; try with_reducible rfl))
            | (refine ordS_take (i := 3) (oi := { dst := some 72, op := Op.indexAddr 32 (Operand.tmp 70) (Operand.tmp 71), type := 0, pos := _, after := #[{ on := 1, ground := Ground.data }, { on := 2, ground := Ground.data }], guard := none }) (v := undef) rfl (by kernel_rfl) (by kernel_rfl) (by kernel_rfl) (by kernel_rfl) (fun _ _ _ h => h) (by assumption) (Or.inr ⟨by rfl, rfl⟩) (fun _ => rfl) ?_)
          try simp only [Act.put, List.setIfInBounds_toArray, List.set_cons_zero, List.set_cons_succ]
          first
            | (refine' ordS_take (i := 4) (oi := { dst := some 73, op := Op.fieldAddr 59 (Operand.tmp 72) 0, type := 0, pos := _, after := #[{ on := 3, ground := Ground.data }], guard := none }) (v := _) rfl (by kernel_rfl) (by kernel_rfl) (by kernel_rfl) (by kernel_rfl) (fun _ _ _ h => h) (by assumption) (Or.inl ⟨by rfl, ?hy5⟩) (fun _ => rfl) ?rest5
               case hy5 => (intro w hSw; (try dsimp only at hSw); go_simp; try with_reducible rfl))
            | (refine ordS_take (i := 4) (oi := { dst := some 73, op := Op.fieldAddr 59 (Operand.tmp 72) 0, type := 0, pos := _, after := #[{ on := 3, ground := Ground.data }], guard := none }) (v := undef) rfl (by kernel_rfl) (by kernel_rfl) (by kernel_rfl) (by kernel_rfl) (fun _ _ _ h => h) (by assumption) (Or.inr ⟨by rfl, rfl⟩) (fun _ => rfl) ?_)
          try simp only [Act.put, List.setIfInBounds_toArray, List.set_cons_zero, List.set_cons_succ]
          first
            | (refine' ordS_take (i := 5) (oi := { dst := some 74, op := Op.load 57 (Operand.tmp 73), type := 57, pos := _, after := #[{ on := 4, ground := Ground.data }], guard := none }) (v := _) rfl (by kernel_rfl) (by kernel_rfl) (by kernel_rfl) (by kernel_rfl) (fun _ _ _ h => h) (by assumption) (Or.inl ⟨by rfl, ?hy6⟩) (fun _ => rfl) ?rest6
               case hy6 => (intro w hSw; (try dsimp only at hSw); go_simp; try with_reducible rfl))
            | (refine ordS_take (i := 5) (oi := { dst := some 74, op := Op.load 57 (Operand.tmp 73), type := 57, pos := _, after := #[{ on := 4, ground := Ground.data }], guard := none }) (v := undef) rfl (by kernel_rfl) (by kernel_rfl) (by kernel_rfl) (by kernel_rfl) (fun _ _ _ h => h) (by assumption) (Or.inr ⟨by rfl, rfl⟩) (fun _ => rfl) ?_)
          try simp only [Act.put, List.setIfInBounds_toArray, List.set_cons_zero, List.set_cons_succ]
          first
            | (refine' ordS_take (i := 6) (oi := { dst := some 75, op := Op.move (Operand.tmp 1), type := 32, pos := _, after := #[], guard := none }) (v := _) rfl (by kernel_rfl) (by kernel_rfl) (by kernel_rfl) (by kernel_rfl) (fun _ _ _ h => h) (by assumption) (Or.inl ⟨by rfl, ?hy7⟩) (fun _ => rfl) ?rest7
               case hy7 => (intro w hSw; (try dsimp only at hSw); go_simp; try with_reducible rfl))
            | (refine ordS_take (i := 6) (oi := { dst := some 75, op := Op.move (Operand.tmp 1), type := 32, pos := _, after := #[], guard := none }) (v := undef) rfl (by kernel_rfl) (by kernel_rfl) (by kernel_rfl) (by kernel_rfl) (fun _ _ _ h => h) (by assumption) (Or.inr ⟨by rfl, rfl⟩) (fun _ => rfl) ?_)
          try simp only [Act.put, List.setIfInBounds_toArray, List.set_cons_zero, List.set_cons_succ]
          first
            | (refine' ordS_take (i := 7) (oi := { dst := some 76, op := Op.move (Operand.tmp 11), type := 3, pos := _, after := #[], guard := none }) (v := _) rfl (by kernel_rfl) (by kernel_rfl) (by kernel_rfl) (by kernel_rfl) (fun _ _ _ h => h) (by assumption) (Or.inl ⟨by rfl, ?hy8⟩) (fun _ => rfl) ?rest8
               case hy8 => (intro w hSw; (try dsimp only at hSw); go_simp; try with_reducible rfl))
            | (refine ordS_take (i := 7) (oi := { dst := some 76, op := Op.move (Operand.tmp 11), type := 3, pos := _, after := #[], guard := none }) (v := undef) rfl (by kernel_rfl) (by kernel_rfl) (by kernel_rfl) (by kernel_rfl) (fun _ _ _ h => h) (by assumption) (Or.inr ⟨by rfl, rfl⟩) (fun _ => rfl) ?_)
          try simp only [Act.put, List.setIfInBounds_toArray, List.set_cons_zero, List.set_cons_succ]
          first
            | (refine' ordS_take (i := 8) (oi := { dst := some 77, op := Op.indexAddr 32 (Operand.tmp 75) (Operand.tmp 76), type := 0, pos := _, after := #[{ on := 6, ground := Ground.data }, { on := 7, ground := Ground.data }], guard := none }) (v := _) rfl (by kernel_rfl) (by kernel_rfl) (by kernel_rfl) (by kernel_rfl) (fun _ _ _ h => h) (by assumption) (Or.inl ⟨by rfl, ?hy9⟩) (fun _ => rfl) ?rest9
               case hy9 => (intro w hSw; (try dsimp only at hSw); go_simp; try with_reducible rfl))
            | (refine ordS_take (i := 8) (oi := { dst := some 77, op := Op.indexAddr 32 (Operand.tmp 75) (Operand.tmp 76), type := 0, pos := _, after := #[{ on := 6, ground := Ground.data }, { on := 7, ground := Ground.data }], guard := none }) (v := undef) rfl (by kernel_rfl) (by kernel_rfl) (by kernel_rfl) (by kernel_rfl) (fun _ _ _ h => h) (by assumption) (Or.inr ⟨by rfl, rfl⟩) (fun _ => rfl) ?_)
          try simp only [Act.put, List.setIfInBounds_toArray, List.set_cons_zero, List.set_cons_succ]
          first
            | (refine' ordS_take (i := 9) (oi := { dst := some 78, op := Op.fieldAddr 59 (Operand.tmp 77) 1, type := 0, pos := _, after := #[{ on := 8, ground := Ground.data }], guard := none }) (v := _) rfl (by kernel_rfl) (by kernel_rfl) (by kernel_rfl) (by kernel_rfl) (fun _ _ _ h => h) (by assumption) (Or.inl ⟨by rfl, ?hy10⟩) (fun _ => rfl) ?rest10
               case hy10 => (intro w hSw; (try dsimp only at hSw); go_simp; try with_reducible rfl))
            | (refine ordS_take (i := 9) (oi := { dst := some 78, op := Op.fieldAddr 59 (Operand.tmp 77) 1, type := 0, pos := _, after := #[{ on := 8, ground := Ground.data }], guard := none }) (v := undef) rfl (by kernel_rfl) (by kernel_rfl) (by kernel_rfl) (by kernel_rfl) (fun _ _ _ h => h) (by assumption) (Or.inr ⟨by rfl, rfl⟩) (fun _ => rfl) ?_)
          try simp only [Act.put, List.setIfInBounds_toArray, List.set_cons_zero, List.set_cons_succ]
          first
            | (refine' ordS_take (i := 10) (oi := { dst := some 79, op := Op.load 57 (Operand.tmp 78), type := 57, pos := _, after := #[{ on := 9, ground := Ground.data }], guard := none }) (v := _) rfl (by kernel_rfl) (by kernel_rfl) (by kernel_rfl) (by kernel_rfl) (fun _ _ _ h => h) (by assumption) (Or.inl ⟨by rfl, ?hy11⟩) (fun _ => rfl) ?rest11
               case hy11 => (intro w hSw; (try dsimp only at hSw); go_simp; try with_reducible rfl))
            | (refine ordS_take (i := 10) (oi := { dst := some 79, op := Op.load 57 (Operand.tmp 78), type := 57, pos := _, after := #[{ on := 9, ground := Ground.data }], guard := none }) (v := undef) rfl (by kernel_rfl) (by kernel_rfl) (by kernel_rfl) (by kernel_rfl) (fun _ _ _ h => h) (by assumption) (Or.inr ⟨by rfl, rfl⟩) (fun _ => rfl) ?_)
          try simp only [Act.put, List.setIfInBounds_toArray, List.set_cons_zero, List.set_cons_succ]
          first
            | (refine' ordS_take (i := 11) (oi := { dst := some 80, op := Op.build 60 #[(0, Operand.tmp 74), (1, Operand.tmp 79)], type := 60, pos := _, after := #[{ on := 5, ground := Ground.data }, { on := 10, ground := Ground.data }], guard := none }) (v := _) rfl (by kernel_rfl) (by kernel_rfl) (by kernel_rfl) (by kernel_rfl) (fun _ _ _ h => h) (by assumption) (Or.inl ⟨by rfl, ?hy12⟩) (fun _ => rfl) ?rest12
               case hy12 => (intro w hSw; (try dsimp only at hSw); go_simp; try with_reducible rfl))
            | (refine ordS_take (i := 11) (oi := { dst := some 80, op := Op.build 60 #[(0, Operand.tmp 74), (1, Operand.tmp 79)], type := 60, pos := _, after := #[{ on := 5, ground := Ground.data }, { on := 10, ground := Ground.data }], guard := none }) (v := undef) rfl (by kernel_rfl) (by kernel_rfl) (by kernel_rfl) (by kernel_rfl) (fun _ _ _ h => h) (by assumption) (Or.inr ⟨by rfl, rfl⟩) (fun _ => rfl) ?_)
          try simp only [Act.put, List.setIfInBounds_toArray, List.set_cons_zero, List.set_cons_succ]
          obtain ⟨W2, hW2⟩ : ∃ W2, wr.drew = W2 := ⟨_, rfl⟩
          rw [hW2] at hB hS
          rw [hW2]
          clear hW2 hH
          have hown2 := own_later hown hB
          have hA2 := bl_tr hB0 hB
          obtain ⟨⟨s0, s1⟩, s2, s3⟩ := hS
          clear hown q0 q1 q2 q3
          have zs0 := blk_lt s0
          refine ordS_one (i := 12) (o := { dst := some 81, op := Op.buildSlice 42 1 #[(0, Operand.tmp 80)], type := 42, pos := _, after := #[{ on := 11, ground := Ground.data }], guard := none }) (by kernel_rfl) rfl (by rfl) (fun K hK => ?_)
          go_simp
          have hb := bl_al (bl0 W2) (.cells #[.int .i64 p.1.1, .int .i64 p.1.2, .int .i64 p.2.1, .int .i64 p.2.2] 60)
          have hS3 := And.intro (And.intro (cell_later hb s0) (cell_later hb s1)) (And.intro (cell_later hb s2) (cell_later hb s3))
          refine hK _ _ hS3 ?_
          clear hK K
          try simp only [Act.put, List.setIfInBounds_toArray, List.set_cons_zero, List.set_cons_succ]
          refine ordS_append (i := 13) (o := { dst := some 82, op := Op.call { callee := Callee.builtin Builtin.append, args := #[Operand.tmp 69, Operand.tmp 81], argTypes := #[42, 42] }, type := 42, pos := _, after := #[{ on := 0, ground := Ground.data }, { on := 12, ground := Ground.data }], guard := none }) _ (by kernel_rfl) rfl (by rfl) _ _ 42 rfl w3.heap.size 60 i0 (.agg #[.int .i64 0, .int .i64 0, .int .i64 0, .int .i64 0]) 4 32 Tryd.underlying42 hi0 hz0 hz1 hz2 rfl (by decide) _ _ _ rfl (hown2.alloc _) ⟨W2.heap.size, 0, none⟩ 1 1 [.int .i64 p.1.1, .int .i64 p.1.2, .int .i64 p.2.1, .int .i64 p.2.2] rfl rfl ?c1 ?c2 ?c3 ?c4 ?c5 ?_
          case c1 => exact cell_four W2 (.int .i64 p.1.1) (.int .i64 p.1.2) (.int .i64 p.2.1) (.int .i64 p.2.2) 60
          case c2 => (first | exact ⟨rfl, rfl, rfl, rfl⟩ | (intro u' hu; simp at hu; rcases hu with rfl | rfl | rfl | rfl <;> rfl))
          case c3 => unfold maxLen; omega
          case c4 => omega
          case c5 => (have := hA2.size; first | (simp; omega) | omega)
          intro v2 w10 hown' hgrow
          have hB5 : Below w3.heap.size w3 w10 := (bl_al hA2 (.cells #[.int .i64 p.1.1, .int .i64 p.1.2, .int .i64 p.2.1, .int .i64 p.2.2] 60)).grown hgrow (by have := hA2.size; simp; omega) (fun j hj => by have := (hown2.lt j hj).1; omega)
          obtain ⟨g', o', hh, ⟨r0, r1⟩, r2, r3⟩ := (HR.out.below hB5).cell hlt
          cases hh
          rw [HPP.out] at r0 r1 r2 r3
          have hS10 := And.intro (And.intro r0 r1) (And.intro r2 r3)
          refine ⟨hS10, ?_⟩
          try simp only [Act.put, List.setIfInBounds_toArray, List.set_cons_zero, List.set_cons_succ]
          first
            | (refine' ordS_take (i := 14) (oi := { dst := some 10, op := Op.assign (Operand.tmp 82), type := 42, pos := _, after := #[{ on := 13, ground := Ground.data }, { on := 13, ground := Ground.chain }, { on := 0, ground := Ground.phase }, { on := 1, ground := Ground.phase }, { on := 2, ground := Ground.phase }, { on := 3, ground := Ground.phase }, { on := 4, ground := Ground.phase }, { on := 5, ground := Ground.phase }, { on := 6, ground := Ground.phase }, { on := 7, ground := Ground.phase }, { on := 8, ground := Ground.phase }, { on := 9, ground := Ground.phase }, { on := 10, ground := Ground.phase }, { on := 11, ground := Ground.phase }, { on := 12, ground := Ground.phase }, { on := 13, ground := Ground.phase }], guard := none }) (v := _) rfl (by kernel_rfl) (by kernel_rfl) (by kernel_rfl) (by kernel_rfl) (fun _ _ _ h => h) (by assumption) (Or.inl ⟨by rfl, ?hy13⟩) (fun _ => rfl) ?rest13
               case hy13 => (intro w hSw; (try dsimp only at hSw); go_simp; try with_reducible rfl))
            | (refine ordS_take (i := 14) (oi := { dst := some 10, op := Op.assign (Operand.tmp 82), type := 42, pos := _, after := #[{ on := 13, ground := Ground.data }, { on := 13, ground := Ground.chain }, { on := 0, ground := Ground.phase }, { on := 1, ground := Ground.phase }, { on := 2, ground := Ground.phase }, { on := 3, ground := Ground.phase }, { on := 4, ground := Ground.phase }, { on := 5, ground := Ground.phase }, { on := 6, ground := Ground.phase }, { on := 7, ground := Ground.phase }, { on := 8, ground := Ground.phase }, { on := 9, ground := Ground.phase }, { on := 10, ground := Ground.phase }, { on := 11, ground := Ground.phase }, { on := 12, ground := Ground.phase }, { on := 13, ground := Ground.phase }], guard := none }) (v := undef) rfl (by kernel_rfl) (by kernel_rfl) (by kernel_rfl) (by kernel_rfl) (fun _ _ _ h => h) (by assumption) (Or.inr ⟨by rfl, rfl⟩) (fun _ => rfl) ?_)
          try simp only [Act.put, List.setIfInBounds_toArray, List.set_cons_zero, List.set_cons_succ]
          refine ordS_done (by kernel_rfl) ?_
          rw [← flatPP_snoc, ← HGS2.out] at hown'
          have hlen : G.length + 1 = (zs.take (i + 1)).length := by rw [HGS2.out, List.length_append]; rfl
          rw [hlen] at hown'
          clear hgrow hown2 hA2 s0 s1 s2 s3 zs0 hS3 hb hlen hB hS10 r0 r1 r2 r3
          go_wp2
          go_roundw
          case rel => exact ⟨i + 1, by omega, by go_num, hown', hB5⟩
          case measure => simp [intOf]; omega
        · obtain rfl : i = zs.length := by omega
          have hge2 : ¬ (zs.length : Int) < (zs.length : Int) := by omega
          rw [List.take_length] at hown
          obtain ⟨vm, cm, rfl, hcm⟩ := own_shape hown
          have hrm := rowR_of_own hown
          have hrw := HRW.out.below hB0
          obtain ⟨hb0, ho0, rfl, ⟨q0, q1⟩, q2, q3⟩ := (HRB.out.below hB0).cell hkB
          rw [HAT.out] at q0 q1 q2 q3
          simp only at q0 q1 q2 q3
          have hs := HS.out.below hB0
          have hA := bl_tr HA.out hB0
          have zq := blk_lt q0
          clear hown hB0
          go_wp2_with fail
          refine (H4.out _ _ _ hrm).mono ?_
          rintro e w4 ⟨vt, vtc, rfl, hrt2, hb⟩
          have hk : Below wr.heap.size wr w4 := by first | exact hb | exact bl_tr (bl_al (bl0 _) _) hb | exact bl_tr (bl_dr (bl_al (bl0 _) _)) hb | exact bl_tr (bl_al (bl_al (bl0 _) _) _) hb | exact bl_tr (bl_dr (bl_al (bl_al (bl0 _) _) _)) hb | exact bl_tr (bl_al (bl_al (bl_al (bl0 _) _) _) _) hb | exact bl_tr (bl_dr (bl_al (bl_al (bl_al (bl0 _) _) _) _)) hb | exact bl_tr (bl_al (bl_al (bl_al (bl_al (bl0 _) _) _) _) _) hb | exact bl_tr (bl_dr (bl_al (bl_al (bl_al (bl_al (bl0 _) _) _) _) _)) hb | exact bl_tr (bl_al (bl_al (bl_al (bl_al (bl_al (bl0 _) _) _) _) _) _) hb | exact bl_tr (bl_dr (bl_al (bl_al (bl_al (bl_al (bl_al (bl0 _) _) _) _) _) _)) hb | exact bl_tr (bl_al (bl_al (bl_al (bl_al (bl_al (bl_al (bl0 _) _) _) _) _) _) _) hb | exact bl_tr (bl_dr (bl_al (bl_al (bl_al (bl_al (bl_al (bl_al (bl0 _) _) _) _) _) _) _)) hb | exact bl_tr (bl_dr (bl0 _)) hb
          replace hA := bl_tr hA hk
          replace hrw := hrw.below hk
          replace hs := hs.below hk
          clear hb hk
          clear q0 q1 q2 q3 zq
          go_wp2_with fail
          refine (H5.out _ _ _ _ _ hrw hrt2).mono ?_
          rintro e w5 ⟨rfl, hb⟩
          have hk : Below w4.heap.size w4 w5 := by first | exact hb | exact bl_tr (bl_al (bl0 _) _) hb | exact bl_tr (bl_dr (bl_al (bl0 _) _)) hb | exact bl_tr (bl_al (bl_al (bl0 _) _) _) hb | exact bl_tr (bl_dr (bl_al (bl_al (bl0 _) _) _)) hb | exact bl_tr (bl_al (bl_al (bl_al (bl0 _) _) _) _) hb | exact bl_tr (bl_dr (bl_al (bl_al (bl_al (bl0 _) _) _) _)) hb | exact bl_tr (bl_al (bl_al (bl_al (bl_al (bl0 _) _) _) _) _) hb | exact bl_tr (bl_dr (bl_al (bl_al (bl_al (bl_al (bl0 _) _) _) _) _)) hb | exact bl_tr (bl_al (bl_al (bl_al (bl_al (bl_al (bl0 _) _) _) _) _) _) hb | exact bl_tr (bl_dr (bl_al (bl_al (bl_al (bl_al (bl_al (bl0 _) _) _) _) _) _)) hb | exact bl_tr (bl_al (bl_al (bl_al (bl_al (bl_al (bl_al (bl0 _) _) _) _) _) _) _) hb | exact bl_tr (bl_dr (bl_al (bl_al (bl_al (bl_al (bl_al (bl_al (bl0 _) _) _) _) _) _) _)) hb | exact bl_tr (bl_dr (bl0 _)) hb
          replace hA := bl_tr hA hk
          replace hs := hs.below hk
          clear hb hk
          go_wp2_with fail
          refine (awake12 _ hs).mono ?_
          rintro e w6 ⟨rfl, hb⟩
          have hk : Below w5.heap.size w5 w6 := by first | exact hb | exact bl_tr (bl_al (bl0 _) _) hb | exact bl_tr (bl_dr (bl_al (bl0 _) _)) hb | exact bl_tr (bl_al (bl_al (bl0 _) _) _) hb | exact bl_tr (bl_dr (bl_al (bl_al (bl0 _) _) _)) hb | exact bl_tr (bl_al (bl_al (bl_al (bl0 _) _) _) _) hb | exact bl_tr (bl_dr (bl_al (bl_al (bl_al (bl0 _) _) _) _)) hb | exact bl_tr (bl_al (bl_al (bl_al (bl_al (bl0 _) _) _) _) _) hb | exact bl_tr (bl_dr (bl_al (bl_al (bl_al (bl_al (bl0 _) _) _) _) _)) hb | exact bl_tr (bl_al (bl_al (bl_al (bl_al (bl_al (bl0 _) _) _) _) _) _) hb | exact bl_tr (bl_dr (bl_al (bl_al (bl_al (bl_al (bl_al (bl0 _) _) _) _) _) _)) hb | exact bl_tr (bl_al (bl_al (bl_al (bl_al (bl_al (bl_al (bl0 _) _) _) _) _) _) _) hb | exact bl_tr (bl_dr (bl_al (bl_al (bl_al (bl_al (bl_al (bl_al (bl0 _) _) _) _) _) _) _)) hb | exact bl_tr (bl_dr (bl0 _)) hb
          replace hA := bl_tr hA hk
          clear hb hk
          go_wp2
          go_ret
          exact ⟨rfl, hA⟩
end Go.Proofs.YthmmmblkjgcchaaDoor
