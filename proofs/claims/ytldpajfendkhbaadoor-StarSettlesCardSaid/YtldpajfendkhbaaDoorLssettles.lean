/- StarSettles: the law's walk. -/
import Derived.Test.YtldpajfendkhbaaDoorNw
namespace Go.Proofs.YtldpajfendkhbaaDoor
open Go.RowKit

set_option maxRecDepth 100000 in
set_option maxHeartbeats 8000000 in
theorem ssettles_walk (A H : Int) (a : Option Addr) (cap : Nat) (zs : List Int) (F T : IC) (budget : Int) (w : World) (hr : RowH w a zs) (hz : AllH zs) (hs : Stp w) :
    Calls Tryd.prog 6 #[.agg #[.int .i64 A, .int .i64 H, .slice a zs.length cap], .agg #[.int .i64 F.1, .int .i64 F.2, .int .i64 T.1, .int .i64 T.2, .int .i64 budget]] w fun e w' => e = .returned (.bool true) ∧ Below w.heap.size w w' := by
  have hA := bl0 w
  by_cases hsm : zs.length ≤ 150
  case neg =>
    have hd : decide (zs.length ≤ 150) = false := decide_eq_false hsm
    clear hsm
    go_enter Tryd.func6, Tryd.ntmps6
    go_wp2_with fail
    refine (small10_any _ _ _ _ _ _).mono ?_
    rintro e w1 ⟨rfl, hb⟩
    have hk : Below w.heap.size w w1 := by first | exact hb | exact bl_tr (bl_al (bl0 _) _) hb | exact bl_tr (bl_dr (bl_al (bl0 _) _)) hb | exact bl_tr (bl_al (bl_al (bl0 _) _) _) hb | exact bl_tr (bl_dr (bl_al (bl_al (bl0 _) _) _)) hb | exact bl_tr (bl_al (bl_al (bl_al (bl0 _) _) _) _) hb | exact bl_tr (bl_dr (bl_al (bl_al (bl_al (bl0 _) _) _) _)) hb | exact bl_tr (bl_al (bl_al (bl_al (bl_al (bl0 _) _) _) _) _) hb | exact bl_tr (bl_dr (bl_al (bl_al (bl_al (bl_al (bl0 _) _) _) _) _)) hb | exact bl_tr (bl_al (bl_al (bl_al (bl_al (bl_al (bl0 _) _) _) _) _) _) hb | exact bl_tr (bl_dr (bl_al (bl_al (bl_al (bl_al (bl_al (bl0 _) _) _) _) _) _)) hb | exact bl_tr (bl_al (bl_al (bl_al (bl_al (bl_al (bl_al (bl0 _) _) _) _) _) _) _) hb | exact bl_tr (bl_dr (bl_al (bl_al (bl_al (bl_al (bl_al (bl_al (bl0 _) _) _) _) _) _) _)) hb | exact bl_tr (bl_dr (bl0 _)) hb
    replace hA := bl_tr hA hk
    clear hb hk
    rw [hd]
    go_wp2_with fail
    refine (awake10 _ (hs.below hA)).mono ?_
    rintro e w2 ⟨rfl, hb⟩
    have hk : Below w1.heap.size w1 w2 := by first | exact hb | exact bl_tr (bl_al (bl0 _) _) hb | exact bl_tr (bl_dr (bl_al (bl0 _) _)) hb | exact bl_tr (bl_al (bl_al (bl0 _) _) _) hb | exact bl_tr (bl_dr (bl_al (bl_al (bl0 _) _) _)) hb | exact bl_tr (bl_al (bl_al (bl_al (bl0 _) _) _) _) hb | exact bl_tr (bl_dr (bl_al (bl_al (bl_al (bl0 _) _) _) _)) hb | exact bl_tr (bl_al (bl_al (bl_al (bl_al (bl0 _) _) _) _) _) hb | exact bl_tr (bl_dr (bl_al (bl_al (bl_al (bl_al (bl0 _) _) _) _) _)) hb | exact bl_tr (bl_al (bl_al (bl_al (bl_al (bl_al (bl0 _) _) _) _) _) _) hb | exact bl_tr (bl_dr (bl_al (bl_al (bl_al (bl_al (bl_al (bl0 _) _) _) _) _) _)) hb | exact bl_tr (bl_al (bl_al (bl_al (bl_al (bl_al (bl_al (bl0 _) _) _) _) _) _) _) hb | exact bl_tr (bl_dr (bl_al (bl_al (bl_al (bl_al (bl_al (bl_al (bl0 _) _) _) _) _) _) _)) hb | exact bl_tr (bl_dr (bl0 _)) hb
    replace hA := bl_tr hA hk
    clear hb hk
    go_wp2
    go_ret
    exact ⟨rfl, hA⟩
  case pos =>
  have hd : decide (zs.length ≤ 150) = true := decide_eq_true hsm
  obtain ⟨⟨E1, P1, C1, M1⟩, h1⟩ : ∃ t, seekT A H zs F T zs.length = t := ⟨_, rfl⟩
  have HF1 := Lib.hid (fun W h h' => sfind_as A H a cap zs F T zs.length h1 W h hz h')
  have H1 := Lib.hid h1
  have HZ := Lib.hid hz
  have HSM := Lib.hid hsm
  clear h1 hz hsm
  go_enter Tryd.func6, Tryd.ntmps6
  go_wp2_with fail
  refine (small10_any _ _ _ _ _ _).mono ?_
  rintro e w1 ⟨rfl, hb⟩
  have hk : Below w.heap.size w w1 := by first | exact hb | exact bl_tr (bl_al (bl0 _) _) hb | exact bl_tr (bl_dr (bl_al (bl0 _) _)) hb | exact bl_tr (bl_al (bl_al (bl0 _) _) _) hb | exact bl_tr (bl_dr (bl_al (bl_al (bl0 _) _) _)) hb | exact bl_tr (bl_al (bl_al (bl_al (bl0 _) _) _) _) hb | exact bl_tr (bl_dr (bl_al (bl_al (bl_al (bl0 _) _) _) _)) hb | exact bl_tr (bl_al (bl_al (bl_al (bl_al (bl0 _) _) _) _) _) hb | exact bl_tr (bl_dr (bl_al (bl_al (bl_al (bl_al (bl0 _) _) _) _) _)) hb | exact bl_tr (bl_al (bl_al (bl_al (bl_al (bl_al (bl0 _) _) _) _) _) _) hb | exact bl_tr (bl_dr (bl_al (bl_al (bl_al (bl_al (bl_al (bl0 _) _) _) _) _) _)) hb | exact bl_tr (bl_al (bl_al (bl_al (bl_al (bl_al (bl_al (bl0 _) _) _) _) _) _) _) hb | exact bl_tr (bl_dr (bl_al (bl_al (bl_al (bl_al (bl_al (bl_al (bl0 _) _) _) _) _) _) _)) hb | exact bl_tr (bl_dr (bl0 _)) hb
  replace hA := bl_tr hA hk
  have f0 := cell_later hb (v := .int .i64 A) (a := ⟨w.heap.size, 0, none⟩) (by simp [go_sem])
  have f1 := cell_later hb (v := .int .i64 H) (a := ⟨w.heap.size, 1, none⟩) (by simp [go_sem])
  have f2 := cell_later hb (v := .slice a zs.length cap) (a := ⟨w.heap.size, 2, none⟩) (by simp [go_sem])
  have x0 := cell_later hb (v := .int .i64 F.1) (a := ⟨w.heap.size + 1, 0, none⟩) (by simp [go_sem])
  have x1 := cell_later hb (v := .int .i64 F.2) (a := ⟨w.heap.size + 1, 1, none⟩) (by simp [go_sem])
  have x2 := cell_later hb (v := .int .i64 T.1) (a := ⟨w.heap.size + 1, 2, none⟩) (by simp [go_sem])
  have x3 := cell_later hb (v := .int .i64 T.2) (a := ⟨w.heap.size + 1, 3, none⟩) (by simp [go_sem])
  have x4 := cell_later hb (v := .int .i64 budget) (a := ⟨w.heap.size + 1, 4, none⟩) (by simp [go_sem])
  clear hb hk
  have zf0 := blk_lt f0
  have zf1 := blk_lt f1
  have zf2 := blk_lt f2
  have zx0 := blk_lt x0
  have zx1 := blk_lt x1
  have zx2 := blk_lt x2
  have zx3 := blk_lt x3
  have zx4 := blk_lt x4
  rw [hd]
  clear hd
  go_wp2_with fail
  refine (from_any A H a cap zs F _ HZ.out (hr.below (by first | exact hA | exact (bl_al hA _) | exact (bl_dr (bl_al hA _)) | exact (bl_al (bl_al hA _) _) | exact (bl_dr (bl_al (bl_al hA _) _)) | exact (bl_al (bl_al (bl_al hA _) _) _) | exact (bl_dr (bl_al (bl_al (bl_al hA _) _) _)) | exact (bl_al (bl_al (bl_al (bl_al hA _) _) _) _) | exact (bl_dr (bl_al (bl_al (bl_al (bl_al hA _) _) _) _)) | exact (bl_al (bl_al (bl_al (bl_al (bl_al hA _) _) _) _) _) | exact (bl_dr (bl_al (bl_al (bl_al (bl_al (bl_al hA _) _) _) _) _)) | exact (bl_al (bl_al (bl_al (bl_al (bl_al (bl_al hA _) _) _) _) _) _) | exact (bl_dr (bl_al (bl_al (bl_al (bl_al (bl_al (bl_al hA _) _) _) _) _) _)) | exact (bl_dr hA))) (hs.below (by first | exact hA | exact (bl_al hA _) | exact (bl_dr (bl_al hA _)) | exact (bl_al (bl_al hA _) _) | exact (bl_dr (bl_al (bl_al hA _) _)) | exact (bl_al (bl_al (bl_al hA _) _) _) | exact (bl_dr (bl_al (bl_al (bl_al hA _) _) _)) | exact (bl_al (bl_al (bl_al (bl_al hA _) _) _) _) | exact (bl_dr (bl_al (bl_al (bl_al (bl_al hA _) _) _) _)) | exact (bl_al (bl_al (bl_al (bl_al (bl_al hA _) _) _) _) _) | exact (bl_dr (bl_al (bl_al (bl_al (bl_al (bl_al hA _) _) _) _) _)) | exact (bl_al (bl_al (bl_al (bl_al (bl_al (bl_al hA _) _) _) _) _) _) | exact (bl_dr (bl_al (bl_al (bl_al (bl_al (bl_al (bl_al hA _) _) _) _) _) _)) | exact (bl_dr hA)))).mono ?_
  rintro e w2 ⟨⟨b1, cap1, l, rfl, hru, hn1, hy1⟩, hb⟩
  have hk : Below w1.heap.size w1 w2 := by first | exact hb | exact bl_tr (bl_al (bl0 _) _) hb | exact bl_tr (bl_dr (bl_al (bl0 _) _)) hb | exact bl_tr (bl_al (bl_al (bl0 _) _) _) hb | exact bl_tr (bl_dr (bl_al (bl_al (bl0 _) _) _)) hb | exact bl_tr (bl_al (bl_al (bl_al (bl0 _) _) _) _) hb | exact bl_tr (bl_dr (bl_al (bl_al (bl_al (bl0 _) _) _) _)) hb | exact bl_tr (bl_al (bl_al (bl_al (bl_al (bl0 _) _) _) _) _) hb | exact bl_tr (bl_dr (bl_al (bl_al (bl_al (bl_al (bl0 _) _) _) _) _)) hb | exact bl_tr (bl_al (bl_al (bl_al (bl_al (bl_al (bl0 _) _) _) _) _) _) hb | exact bl_tr (bl_dr (bl_al (bl_al (bl_al (bl_al (bl_al (bl0 _) _) _) _) _) _)) hb | exact bl_tr (bl_al (bl_al (bl_al (bl_al (bl_al (bl_al (bl0 _) _) _) _) _) _) _) hb | exact bl_tr (bl_dr (bl_al (bl_al (bl_al (bl_al (bl_al (bl_al (bl0 _) _) _) _) _) _) _)) hb | exact bl_tr (bl_dr (bl0 _)) hb
  replace hA := bl_tr hA hk
  replace f0 := cell_later hk f0
  replace f1 := cell_later hk f1
  replace f2 := cell_later hk f2
  replace x0 := cell_later hk x0
  replace x1 := cell_later hk x1
  replace x2 := cell_later hk x2
  replace x3 := cell_later hk x3
  replace x4 := cell_later hk x4
  clear hb hk
  have zf0 := blk_lt f0
  have zf1 := blk_lt f1
  have zf2 := blk_lt f2
  have zx0 := blk_lt x0
  have zx1 := blk_lt x1
  have zx2 := blk_lt x2
  have zx3 := blk_lt x3
  have zx4 := blk_lt x4
  obtain ⟨Ef, hEf⟩ : ∃ Ef, errW A H zs.length (0, 0, A, H) F = Ef := ⟨_, rfl⟩
  rw [hEf] at hn1 hy1 ⊢
  have HY := Lib.hid hy1
  have HN1 := Lib.hid hn1
  have HEf := Lib.hid hEf
  clear hn1 hy1 hEf
  go_wp2_with fail
  refine (HF1.out _ (hr.below (by first | exact hA | exact (bl_al hA _) | exact (bl_dr (bl_al hA _)) | exact (bl_al (bl_al hA _) _) | exact (bl_dr (bl_al (bl_al hA _) _)) | exact (bl_al (bl_al (bl_al hA _) _) _) | exact (bl_dr (bl_al (bl_al (bl_al hA _) _) _)) | exact (bl_al (bl_al (bl_al (bl_al hA _) _) _) _) | exact (bl_dr (bl_al (bl_al (bl_al (bl_al hA _) _) _) _)) | exact (bl_al (bl_al (bl_al (bl_al (bl_al hA _) _) _) _) _) | exact (bl_dr (bl_al (bl_al (bl_al (bl_al (bl_al hA _) _) _) _) _)) | exact (bl_al (bl_al (bl_al (bl_al (bl_al (bl_al hA _) _) _) _) _) _) | exact (bl_dr (bl_al (bl_al (bl_al (bl_al (bl_al (bl_al hA _) _) _) _) _) _)) | exact (bl_dr hA))) (hs.below (by first | exact hA | exact (bl_al hA _) | exact (bl_dr (bl_al hA _)) | exact (bl_al (bl_al hA _) _) | exact (bl_dr (bl_al (bl_al hA _) _)) | exact (bl_al (bl_al (bl_al hA _) _) _) | exact (bl_dr (bl_al (bl_al (bl_al hA _) _) _)) | exact (bl_al (bl_al (bl_al (bl_al hA _) _) _) _) | exact (bl_dr (bl_al (bl_al (bl_al (bl_al hA _) _) _) _)) | exact (bl_al (bl_al (bl_al (bl_al (bl_al hA _) _) _) _) _) | exact (bl_dr (bl_al (bl_al (bl_al (bl_al (bl_al hA _) _) _) _) _)) | exact (bl_al (bl_al (bl_al (bl_al (bl_al (bl_al hA _) _) _) _) _) _) | exact (bl_dr (bl_al (bl_al (bl_al (bl_al (bl_al (bl_al hA _) _) _) _) _) _)) | exact (bl_dr hA)))).mono ?_
  rintro e w3 ⟨⟨pa1, pc1, rfl, ho1, hl1⟩, hb⟩
  have hk : Below w2.heap.size w2 w3 := by first | exact hb | exact bl_tr (bl_al (bl0 _) _) hb | exact bl_tr (bl_dr (bl_al (bl0 _) _)) hb | exact bl_tr (bl_al (bl_al (bl0 _) _) _) hb | exact bl_tr (bl_dr (bl_al (bl_al (bl0 _) _) _)) hb | exact bl_tr (bl_al (bl_al (bl_al (bl0 _) _) _) _) hb | exact bl_tr (bl_dr (bl_al (bl_al (bl_al (bl0 _) _) _) _)) hb | exact bl_tr (bl_al (bl_al (bl_al (bl_al (bl0 _) _) _) _) _) hb | exact bl_tr (bl_dr (bl_al (bl_al (bl_al (bl_al (bl0 _) _) _) _) _)) hb | exact bl_tr (bl_al (bl_al (bl_al (bl_al (bl_al (bl0 _) _) _) _) _) _) hb | exact bl_tr (bl_dr (bl_al (bl_al (bl_al (bl_al (bl_al (bl0 _) _) _) _) _) _)) hb | exact bl_tr (bl_al (bl_al (bl_al (bl_al (bl_al (bl_al (bl0 _) _) _) _) _) _) _) hb | exact bl_tr (bl_dr (bl_al (bl_al (bl_al (bl_al (bl_al (bl_al (bl0 _) _) _) _) _) _) _)) hb | exact bl_tr (bl_dr (bl0 _)) hb
  replace hA := bl_tr hA hk
  replace hru := hru.below hk
  replace f0 := cell_later hk f0
  replace f1 := cell_later hk f1
  replace f2 := cell_later hk f2
  replace x0 := cell_later hk x0
  replace x1 := cell_later hk x1
  replace x2 := cell_later hk x2
  replace x3 := cell_later hk x3
  replace x4 := cell_later hk x4
  clear hb hk
  have zf0 := blk_lt f0
  have zf1 := blk_lt f1
  have zf2 := blk_lt f2
  have zx0 := blk_lt x0
  have zx1 := blk_lt x1
  have zx2 := blk_lt x2
  have zx3 := blk_lt x3
  have zx4 := blk_lt x4
  clear ho1
  by_cases he : Ef = 0
  case neg =>
    have n1 : (Ef != (0 : Int)) = true := by rw [bne_iff_ne]; exact he
    clear he
    go_wp2_with fail
    refine (awake10 _ (hs.below (by first | exact hA | exact (bl_al hA _) | exact (bl_dr (bl_al hA _)) | exact (bl_al (bl_al hA _) _) | exact (bl_dr (bl_al (bl_al hA _) _)) | exact (bl_al (bl_al (bl_al hA _) _) _) | exact (bl_dr (bl_al (bl_al (bl_al hA _) _) _)) | exact (bl_al (bl_al (bl_al (bl_al hA _) _) _) _) | exact (bl_dr (bl_al (bl_al (bl_al (bl_al hA _) _) _) _)) | exact (bl_al (bl_al (bl_al (bl_al (bl_al hA _) _) _) _) _) | exact (bl_dr (bl_al (bl_al (bl_al (bl_al (bl_al hA _) _) _) _) _)) | exact (bl_al (bl_al (bl_al (bl_al (bl_al (bl_al hA _) _) _) _) _) _) | exact (bl_dr (bl_al (bl_al (bl_al (bl_al (bl_al (bl_al hA _) _) _) _) _) _)) | exact (bl_dr hA)))).mono ?_
    rintro e w4 ⟨rfl, hb⟩
    have hk : Below w3.heap.size w3 w4 := by first | exact hb | exact bl_tr (bl_al (bl0 _) _) hb | exact bl_tr (bl_dr (bl_al (bl0 _) _)) hb | exact bl_tr (bl_al (bl_al (bl0 _) _) _) hb | exact bl_tr (bl_dr (bl_al (bl_al (bl0 _) _) _)) hb | exact bl_tr (bl_al (bl_al (bl_al (bl0 _) _) _) _) hb | exact bl_tr (bl_dr (bl_al (bl_al (bl_al (bl0 _) _) _) _)) hb | exact bl_tr (bl_al (bl_al (bl_al (bl_al (bl0 _) _) _) _) _) hb | exact bl_tr (bl_dr (bl_al (bl_al (bl_al (bl_al (bl0 _) _) _) _) _)) hb | exact bl_tr (bl_al (bl_al (bl_al (bl_al (bl_al (bl0 _) _) _) _) _) _) hb | exact bl_tr (bl_dr (bl_al (bl_al (bl_al (bl_al (bl_al (bl0 _) _) _) _) _) _)) hb | exact bl_tr (bl_al (bl_al (bl_al (bl_al (bl_al (bl_al (bl0 _) _) _) _) _) _) _) hb | exact bl_tr (bl_dr (bl_al (bl_al (bl_al (bl_al (bl_al (bl_al (bl0 _) _) _) _) _) _) _)) hb | exact bl_tr (bl_dr (bl0 _)) hb
    replace hA := bl_tr hA hk
    clear hb hk
    go_wp2
    go_ret
    exact ⟨rfl, hA⟩
  case pos =>
  by_cases hE : E1 = 0
  case neg =>
    have n1 : (Ef != (0 : Int)) = false := by rw [he]; rfl
    have n2 : (E1 != (0 : Int)) = true := by rw [bne_iff_ne]; exact hE
    clear he hE
    go_wp2_with fail
    refine (awake10 _ (hs.below (by first | exact hA | exact (bl_al hA _) | exact (bl_dr (bl_al hA _)) | exact (bl_al (bl_al hA _) _) | exact (bl_dr (bl_al (bl_al hA _) _)) | exact (bl_al (bl_al (bl_al hA _) _) _) | exact (bl_dr (bl_al (bl_al (bl_al hA _) _) _)) | exact (bl_al (bl_al (bl_al (bl_al hA _) _) _) _) | exact (bl_dr (bl_al (bl_al (bl_al (bl_al hA _) _) _) _)) | exact (bl_al (bl_al (bl_al (bl_al (bl_al hA _) _) _) _) _) | exact (bl_dr (bl_al (bl_al (bl_al (bl_al (bl_al hA _) _) _) _) _)) | exact (bl_al (bl_al (bl_al (bl_al (bl_al (bl_al hA _) _) _) _) _) _) | exact (bl_dr (bl_al (bl_al (bl_al (bl_al (bl_al (bl_al hA _) _) _) _) _) _)) | exact (bl_dr hA)))).mono ?_
    rintro e w4 ⟨rfl, hb⟩
    have hk : Below w3.heap.size w3 w4 := by first | exact hb | exact bl_tr (bl_al (bl0 _) _) hb | exact bl_tr (bl_dr (bl_al (bl0 _) _)) hb | exact bl_tr (bl_al (bl_al (bl0 _) _) _) hb | exact bl_tr (bl_dr (bl_al (bl_al (bl0 _) _) _)) hb | exact bl_tr (bl_al (bl_al (bl_al (bl0 _) _) _) _) hb | exact bl_tr (bl_dr (bl_al (bl_al (bl_al (bl0 _) _) _) _)) hb | exact bl_tr (bl_al (bl_al (bl_al (bl_al (bl0 _) _) _) _) _) hb | exact bl_tr (bl_dr (bl_al (bl_al (bl_al (bl_al (bl0 _) _) _) _) _)) hb | exact bl_tr (bl_al (bl_al (bl_al (bl_al (bl_al (bl0 _) _) _) _) _) _) hb | exact bl_tr (bl_dr (bl_al (bl_al (bl_al (bl_al (bl_al (bl0 _) _) _) _) _) _)) hb | exact bl_tr (bl_al (bl_al (bl_al (bl_al (bl_al (bl_al (bl0 _) _) _) _) _) _) _) hb | exact bl_tr (bl_dr (bl_al (bl_al (bl_al (bl_al (bl_al (bl_al (bl0 _) _) _) _) _) _) _)) hb | exact bl_tr (bl_dr (bl0 _)) hb
    replace hA := bl_tr hA hk
    clear hb hk
    go_wp2
    go_ret
    exact ⟨rfl, hA⟩
  case pos =>
  obtain ⟨hll, hfar⟩ := HY.out he
  obtain ⟨hm, hn, hF, hT, hG⟩ := goal_of (d := atD l) HZ.out H1.out (fun hm hn _ => by rw [gphB_all hm hn] at hfar; exact hfar) hE
  subst he hE
  obtain ⟨k1, k2⟩ := hG.counts
  have hcb := hfar.bd (numN A T)
  have hC1 : C1 = atD l (numN A T) := hG.C
  have hfin := hG.fin
  have hplT := on_plB hT
  have HGS := Lib.hid (show ∀ k, k < zs.length → (∀ w, Calls Tryd.prog 19 #[.agg #[.int .i64 (cellN A k).1, .int .i64 (cellN A k).2], .agg #[.int .i64 T.1, .int .i64 T.2]] w fun e w' => e = .returned (.int .u64 (guessI (cellN A k) T)) ∧ Below w.heap.size w w') ∧ 0 ≤ guessI (cellN A k) T ∧ guessI (cellN A k) T ≤ 4194304 from fun k hk => by
    have hp := on_plB (cellN_on hm (show (k : Int) < A * H by omega))
    exact ⟨fun w => guess10_any _ _ w hp hplT, guess_bd hp hplT⟩)
  have HBD := Lib.hid (fun i => hfar.bd i)
  have HIN := Lib.hid (show ∀ w, Calls Tryd.prog 16 #[.agg #[.int .i64 A, .int .i64 H], .agg #[.int .i64 T.1, .int .i64 T.2]] w fun e w' => e = .returned (.bool true) ∧ Below w.heap.size w w' from fun w => by
    have := rin10_any A H T w
    rw [inK10_on hm, hT] at this
    exact this)
  have hA1 := (mayB_iff.1 hm).1
  have K1 := Lib.hid k1
  have K2 := Lib.hid k2
  have hCb : 0 ≤ C1 ∧ C1 ≤ 4294967296 := by omega
  have hA1d : decide (A < 1) = false := decide_eq_false (by omega)
  have HLL := Lib.hid hll
  rw [hll]
  clear k1 k2 hcb hC1 hfin hplT hm hn hF hT hG hfar hll HN1 HEf HY
  go_wp2_with fail
  refine (HIN.out _).mono ?_
  rintro e w4 ⟨rfl, hb⟩
  have hk : Below w3.heap.size w3 w4 := by first | exact hb | exact bl_tr (bl_al (bl0 _) _) hb | exact bl_tr (bl_dr (bl_al (bl0 _) _)) hb | exact bl_tr (bl_al (bl_al (bl0 _) _) _) hb | exact bl_tr (bl_dr (bl_al (bl_al (bl0 _) _) _)) hb | exact bl_tr (bl_al (bl_al (bl_al (bl0 _) _) _) _) hb | exact bl_tr (bl_dr (bl_al (bl_al (bl_al (bl0 _) _) _) _)) hb | exact bl_tr (bl_al (bl_al (bl_al (bl_al (bl0 _) _) _) _) _) hb | exact bl_tr (bl_dr (bl_al (bl_al (bl_al (bl_al (bl0 _) _) _) _) _)) hb | exact bl_tr (bl_al (bl_al (bl_al (bl_al (bl_al (bl0 _) _) _) _) _) _) hb | exact bl_tr (bl_dr (bl_al (bl_al (bl_al (bl_al (bl_al (bl0 _) _) _) _) _) _)) hb | exact bl_tr (bl_al (bl_al (bl_al (bl_al (bl_al (bl_al (bl0 _) _) _) _) _) _) _) hb | exact bl_tr (bl_dr (bl_al (bl_al (bl_al (bl_al (bl_al (bl_al (bl0 _) _) _) _) _) _) _)) hb | exact bl_tr (bl_dr (bl0 _)) hb
  replace hA := bl_tr hA hk
  replace hru := hru.below hk
  replace f0 := cell_later hk f0
  replace f1 := cell_later hk f1
  replace f2 := cell_later hk f2
  replace x0 := cell_later hk x0
  replace x1 := cell_later hk x1
  replace x2 := cell_later hk x2
  replace x3 := cell_later hk x3
  have r0 := cell_later hb (v := .slice pa1 P1.length pc1) (a := ⟨w3.heap.size, 0, none⟩) (by simp [go_sem])
  have r1 := cell_later hb (v := .int .u64 C1) (a := ⟨w3.heap.size, 1, none⟩) (by simp [go_sem])
  have r2 := cell_later hb (v := .int .i64 M1) (a := ⟨w3.heap.size, 2, none⟩) (by simp [go_sem])
  clear hb hk
  have zf0 := blk_lt f0
  have zf1 := blk_lt f1
  have zf2 := blk_lt f2
  have zx0 := blk_lt x0
  have zx1 := blk_lt x1
  have zx2 := blk_lt x2
  have zx3 := blk_lt x3
  have zr0 := blk_lt r0
  have zr1 := blk_lt r1
  have zr2 := blk_lt r2
  have hA4 := Lib.hid hA
  have HA4 := Lib.hid hA
  have hsz4 := blk_lt r0
  clear f1 f2 x0 x1 hA zf1 zf2 zx0 zx1 zx4 hr
  go_wp2_with fail
  go_loopw [9, 10, 11, 12] (fun lv mv iv _ wr => ∃ k : Nat, k ≤ zs.length ∧ iv = .int .i64 k ∧ lv = .int .i64 (lsN (atD l) A T C1 k : Nat) ∧ mv = .int .i64 (msN (atD l) A T C1 k : Nat) ∧ Below w4.heap.size w4 wr) (fun _ _ iv _ _ => zs.length - (intOf iv).toNat)
  case atStart => exact ⟨0, Nat.zero_le _, rfl, rfl, rfl, bl0 _⟩
  case round =>
    obtain ⟨k, hk, rfl, rfl, rfl, hBk⟩ := hrel
    replace f0 := cell_later hBk f0; replace x2 := cell_later hBk x2; replace x3 := cell_later hBk x3
    replace r1 := cell_later hBk r1; replace r2 := cell_later hBk r2
    have hk0 : (0 : Int) ≤ (k : Int) := by omega
    have zf5 := blk_lt f0; have zx5 := blk_lt x2; have zr5 := blk_lt r1
    by_cases hlt : k < zs.length
    · have hlt2 : (k : Int) < (zs.length : Int) := by omega
      have hsm := HSM.out
      have hwk : IntKind.i64.wrap ((k : Int) + 1) = (k : Int) + 1 := by rw [IntWalk.i64_in _ (by omega)]
      obtain ⟨gb, go, rfl, q0⟩ := (hru.below hBk).cell (show k < l.length by rw [HLL.out]; exact hlt)
      obtain ⟨hgs, g1, g2⟩ := HGS.out k hlt
      have HGC := Lib.hid hgs
      have hnl := lsN_next (atD l) A T C1 k
      have hnm := msN_next (atD l) A T C1 k
      have hbd := HBD.out k
      obtain ⟨l1, l2⟩ := lsN_le (atD l) A T C1 k
      obtain ⟨D, hD⟩ : ∃ D, atD l k = D := ⟨_, rfl⟩
      obtain ⟨gk, hgk⟩ : ∃ gk, guessI (cellN A k) T = gk := ⟨_, rfl⟩
      rw [hD, hgk] at hnl hnm
      rw [hD] at q0 hbd
      rw [hgk] at HGC g1 g2
      have HNL := Lib.hid hnl
      have HNM := Lib.hid hnm
      generalize lsN (atD l) A T C1 k = ls at *
      generalize msN (atD l) A T C1 k = ms at *
      have tm : ((k : Int)).tmod A = (k : Int) % A := Int.tmod_eq_emod_of_nonneg hk0
      have td : ((k : Int)).tdiv A = (k : Int) / A := Int.tdiv_eq_ediv_of_nonneg hk0
      have tb1 : IntKind.i64.wrap ((k : Int) / A) = (k : Int) / A := IntWalk.i64_in _ (by have := Int.ediv_nonneg hk0 (show 0 ≤ A by omega); have := Int.ediv_le_self A hk0; omega)
      have ta1 : A ≠ 0 := by omega
      have ta2 : (A == 0) = false := by rw [beq_eq_false_iff_ne]; exact ta1
      have ec : cellN A k = ((k : Int) % A, (k : Int) / A) := rfl
      obtain ⟨cx, hcx⟩ : ∃ cx, cellN A k = cx := ⟨_, rfl⟩
      have ex1 : (k : Int) % A = cx.1 := by rw [← hcx]; rfl
      have ex2 : (k : Int) / A = cx.2 := by rw [← hcx]; rfl
      rw [ex1] at tm
      rw [ex2] at td tb1
      rw [hcx] at HGC
      have HB5 := Lib.hid hBk
      have e1 : IntKind.i64.wrap ((ls : Int) + 1) = (ls : Int) + 1 := by rw [IntWalk.i64_in _ (by omega)]
      have e2 : IntKind.i64.wrap ((ms : Int) + 1) = (ms : Int) + 1 := by rw [IntWalk.i64_in _ (by omega)]
      clear hnl hnm hcx ex1 ex2 ec hD hgk hgs hBk hru hk l1 l2
      go_upto_region 14 with fail
      have hB := bl_dr (bl0 wr)
      go_cut [12] from 69 to 82 (fun s wx => s = .int .u64 gk ∧ Below wr.heap.size wr wx)
      case first =>
        go_region_held3 (fun W => W.cell? ⟨w.heap.size, 0, none⟩ = some (.int .i64 A) ∧ W.cell? ⟨w.heap.size + 1, 2, none⟩ = some (.int .i64 T.1) ∧ W.cell? ⟨w.heap.size + 1, 3, none⟩ = some (.int .i64 T.2))
          (exact ⟨cell_later hB f0, cell_later hB x2, cell_later hB x3⟩)
          ((go_at_call 19; (with_reducible refine (HGC.out _).mono ?_); rintro e w8 ⟨rfl, hb8⟩; replace hB := bl_tr hB hb8; clear hb8))
        all_goals
          go_wp2_with fail
          go_meet
          exact ⟨rfl, hB⟩
      case rest =>
      obtain ⟨rfl, hb⟩ := hcut
      obtain ⟨W6, rfl⟩ : ∃ W6, W6 = wc := ⟨_, rfl⟩
      replace r1 := cell_later hb r1; replace q0 := cell_later hb q0
      have zr6 := blk_lt r1; have zq6 := blk_lt q0
      have HB6 := Lib.hid (bl_tr HB5.out hb)
      clear hb hB tm td tb1 ta1 ta2 f0 x2 x3 r2 zf5 zx5 zr5
      by_cases c1 : D = 18446744073709551615
      · have d1 : (D != (18446744073709551615 : Int)) = false := by rw [bne_eq_false_iff_eq]; exact c1
        have HL2 := Lib.hid (show lsN (atD l) A T C1 (k + 1) = ls by rw [HNL.out, if_neg (fun q => q.1 c1)]; rfl)
        have HM2 := Lib.hid (show msN (atD l) A T C1 (k + 1) = ms by rw [HNM.out, if_neg (fun q => q.1 c1)]; rfl)
        clear c1 hbd g1 g2
        go_upto_region 15 with fail
        go_quiet (fail)
        go_upto_region 17 with fail
        go_quiet (fail)
        go_wp2_with fail
        go_roundw
        case rel => exact ⟨k + 1, by omega, by go_num, by rw [HL2.out], by rw [HM2.out], bl_tr HB6.out (bl_drn _ _)⟩
        case measure => simp [intOf]; omega
      · have d1 : (D != (18446744073709551615 : Int)) = true := by rw [bne_iff_ne]; exact c1
        have e3 : IntKind.u64.wrap (D + gk) = D + gk := by rw [IntKind.wrap_u64]; omega
        by_cases c2 : D + gk < C1
        · have d2 : decide (D + gk < C1) = true := decide_eq_true (by omega)
          have d3 : decide (D + gk ≤ C1) = true := decide_eq_true (by omega)
          have HL2 := Lib.hid (show lsN (atD l) A T C1 (k + 1) = ls + 1 by rw [HNL.out, if_pos ⟨c1, by omega⟩])
          have HM2 := Lib.hid (show msN (atD l) A T C1 (k + 1) = ms + 1 by rw [HNM.out, if_pos ⟨c1, by omega⟩])
          clear c1 hbd g1 g2 c2
          go_upto_region 15 with fail
          go_quiet (fail)
          go_upto_region 17 with fail
          go_quiet (fail)
          go_wp2_with fail
          go_roundw
          case rel => exact ⟨k + 1, by omega, by go_num, by rw [HL2.out]; go_num, by rw [HM2.out]; go_num, bl_tr HB6.out (bl_drn _ _)⟩
          case measure => simp [intOf]; omega
        · by_cases c3 : D + gk ≤ C1
          · have d2 : decide (D + gk < C1) = false := decide_eq_false (by omega)
            have d3 : decide (D + gk ≤ C1) = true := decide_eq_true (by omega)
            have HL2 := Lib.hid (show lsN (atD l) A T C1 (k + 1) = ls by rw [HNL.out, if_neg (fun q => by omega), Nat.add_zero])
            have HM2 := Lib.hid (show msN (atD l) A T C1 (k + 1) = ms + 1 by rw [HNM.out, if_pos ⟨c1, by omega⟩])
            clear c1 hbd g1 g2 c2 c3
            go_upto_region 15 with fail
            go_quiet (fail)
            go_upto_region 17 with fail
            go_quiet (fail)
            go_wp2_with fail
            go_roundw
            case rel => exact ⟨k + 1, by omega, by go_num, by rw [HL2.out], by rw [HM2.out]; go_num, bl_tr HB6.out (bl_drn _ _)⟩
            case measure => simp [intOf]; omega
          · have d2 : decide (D + gk < C1) = false := decide_eq_false (by omega)
            have d3 : decide (D + gk ≤ C1) = false := decide_eq_false (by omega)
            have HL2 := Lib.hid (show lsN (atD l) A T C1 (k + 1) = ls by rw [HNL.out, if_neg (fun q => by omega), Nat.add_zero])
            have HM2 := Lib.hid (show msN (atD l) A T C1 (k + 1) = ms by rw [HNM.out, if_neg (fun q => by omega), Nat.add_zero])
            clear c1 hbd g1 g2 c2 c3
            go_upto_region 15 with fail
            go_quiet (fail)
            go_upto_region 17 with fail
            go_quiet (fail)
            go_wp2_with fail
            go_roundw
            case rel => exact ⟨k + 1, by omega, by go_num, by rw [HL2.out], by rw [HM2.out], bl_tr HB6.out (bl_drn _ _)⟩
            case measure => simp [intOf]; omega
    · obtain rfl : k = zs.length := by omega
      have hge : ¬ (zs.length : Int) < (zs.length : Int) := by omega
      have hA9 := bl_tr HA4.out hBk
      have HAW9 := Lib.hid (awake10 wr (hs.below hA9))
      have d1 : decide ((lsN (atD l) A T C1 zs.length : Int) ≤ M1) = true := decide_eq_true K1.out
      have d2 : decide (M1 ≤ (msN (atD l) A T C1 zs.length : Int)) = true := decide_eq_true K2.out
      generalize lsN (atD l) A T C1 zs.length = ls at *
      generalize msN (atD l) A T C1 zs.length = ms at *
      clear hlt hk
      go_wp2_with fail
      refine HAW9.out.mono ?_
      rintro e wz ⟨rfl, hbz⟩
      replace hA9 := bl_tr hA9 hbz
      go_wp2
      go_ret
      exact ⟨rfl, hA9⟩
end Go.Proofs.YtldpajfendkhbaaDoor
