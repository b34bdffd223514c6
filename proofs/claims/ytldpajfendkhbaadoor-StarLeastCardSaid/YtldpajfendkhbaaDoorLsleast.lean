/- StarLeast: the law's walk. -/
import Derived.Test.YtldpajfendkhbaaDoorNx
namespace Go.Proofs.YtldpajfendkhbaaDoor
open Go.RowKit

set_option maxRecDepth 100000 in
set_option maxHeartbeats 8000000 in
theorem sleast_walk (A H : Int) (a : Option Addr) (cap : Nat) (zs : List Int) (F T : IC) (budget : Int) (w : World) (hr : RowH w a zs) (hz : AllH zs) (hs : Stp w) :
    Calls Tryd.prog 4 #[.agg #[.int .i64 A, .int .i64 H, .slice a zs.length cap], .agg #[.int .i64 F.1, .int .i64 F.2, .int .i64 T.1, .int .i64 T.2, .int .i64 budget]] w fun e w' => e = .returned (.bool true) ∧ Below w.heap.size w w' := by
  have hA := bl0 w
  by_cases hsm : zs.length ≤ 150
  case neg =>
    have hd : decide (zs.length ≤ 150) = false := decide_eq_false hsm
    clear hsm
    go_enter Tryd.func4, Tryd.ntmps4
    go_wp2_with fail
    refine (small10_any _ _ _ _ _ _).mono ?_
    rintro e w1 ⟨rfl, hb⟩
    have hk : Below w.heap.size w w1 := by first | exact hb | exact bl_tr (bl_al (bl0 _) _) hb | exact bl_tr (bl_dr (bl_al (bl0 _) _)) hb | exact bl_tr (bl_al (bl_al (bl0 _) _) _) hb | exact bl_tr (bl_dr (bl_al (bl_al (bl0 _) _) _)) hb | exact bl_tr (bl_al (bl_al (bl_al (bl0 _) _) _) _) hb | exact bl_tr (bl_dr (bl_al (bl_al (bl_al (bl0 _) _) _) _)) hb | exact bl_tr (bl_al (bl_al (bl_al (bl_al (bl0 _) _) _) _) _) hb | exact bl_tr (bl_dr (bl_al (bl_al (bl_al (bl_al (bl0 _) _) _) _) _)) hb | exact bl_tr (bl_al (bl_al (bl_al (bl_al (bl_al (bl0 _) _) _) _) _) _) hb | exact bl_tr (bl_dr (bl_al (bl_al (bl_al (bl_al (bl_al (bl0 _) _) _) _) _) _)) hb | exact bl_tr (bl_al (bl_al (bl_al (bl_al (bl_al (bl_al (bl0 _) _) _) _) _) _) _) hb | exact bl_tr (bl_dr (bl_al (bl_al (bl_al (bl_al (bl_al (bl_al (bl0 _) _) _) _) _) _) _)) hb | exact bl_tr (bl_dr (bl0 _)) hb
    replace hA := bl_tr hA hk
    clear hb hk
    rw [hd]
    go_wp2_with fail
    refine (awake10 _ (hs.below hA)).mono ?_
    rintro e w2 ⟨rfl, hb⟩
    have hk : Below w1.heap.size w1 w2 := by first | exact hb | exact bl_tr (bl_al (bl0 _) _) hb | exact bl_tr (bl_dr (bl_al (bl0 _) _)) hb | exact bl_tr (bl_al (bl_al (bl0 _) _) _) hb | exact bl_tr (bl_dr (bl_al (bl_al (bl0 _) _) _)) hb | exact bl_tr (bl_al (bl_al (bl_al (bl0 _) _) _) _) hb | exact bl_tr (bl_dr (bl_al (bl_al (bl_al (bl0 _) _) _) _)) hb | exact bl_tr (bl_al (bl_al (bl_al (bl_al (bl0 _) _) _) _) _) hb | exact bl_tr (bl_dr (bl_al (bl_al (bl_al (bl_al (bl0 _) _) _) _) _)) hb | exact bl_tr (bl_al (bl_al (bl_al (bl_al (bl_al (bl0 _) _) _) _) _) _) hb | exact bl_tr (bl_dr (bl_al (bl_al (bl_al (bl_al (bl_al (bl0 _) _) _) _) _) _)) hb | exact bl_tr (bl_al (bl_al (bl_al (bl_al (bl_al (bl_al (bl0 _) _) _) _) _) _) _) hb | exact bl_tr (bl_dr (bl_al (bl_al (bl_al (bl_al (bl_al (bl_al (bl0 _) _) _) _) _) _) _)) hb | exact bl_tr (bl_dr (bl0 _)) hb
    replace hA := bl_tr hA hk
    clear hb hk
    go_wp2
    go_ret
    exact ⟨rfl, hA⟩
  case pos =>
  have hd : decide (zs.length ≤ 150) = true := decide_eq_true hsm
  obtain ⟨⟨E1, P1, C1, M1⟩, h1⟩ : ∃ t, seekT A H zs F T zs.length = t := ⟨_, rfl⟩
  have HF1 := Lib.hid (fun W h h' => sfind_as A H a cap zs F T zs.length h1 W h hz h')
  have H1 := Lib.hid h1
  have HZ := Lib.hid hz
  have HSM := Lib.hid hsm
  clear h1 hz hsm
  go_enter Tryd.func4, Tryd.ntmps4
  go_wp2_with fail
  refine (small10_any _ _ _ _ _ _).mono ?_
  rintro e w1 ⟨rfl, hb⟩
  have hk : Below w.heap.size w w1 := by first | exact hb | exact bl_tr (bl_al (bl0 _) _) hb | exact bl_tr (bl_dr (bl_al (bl0 _) _)) hb | exact bl_tr (bl_al (bl_al (bl0 _) _) _) hb | exact bl_tr (bl_dr (bl_al (bl_al (bl0 _) _) _)) hb | exact bl_tr (bl_al (bl_al (bl_al (bl0 _) _) _) _) hb | exact bl_tr (bl_dr (bl_al (bl_al (bl_al (bl0 _) _) _) _)) hb | exact bl_tr (bl_al (bl_al (bl_al (bl_al (bl0 _) _) _) _) _) hb | exact bl_tr (bl_dr (bl_al (bl_al (bl_al (bl_al (bl0 _) _) _) _) _)) hb | exact bl_tr (bl_al (bl_al (bl_al (bl_al (bl_al (bl0 _) _) _) _) _) _) hb | exact bl_tr (bl_dr (bl_al (bl_al (bl_al (bl_al (bl_al (bl0 _) _) _) _) _) _)) hb | exact bl_tr (bl_al (bl_al (bl_al (bl_al (bl_al (bl_al (bl0 _) _) _) _) _) _) _) hb | exact bl_tr (bl_dr (bl_al (bl_al (bl_al (bl_al (bl_al (bl_al (bl0 _) _) _) _) _) _) _)) hb | exact bl_tr (bl_dr (bl0 _)) hb
  replace hA := bl_tr hA hk
  have f0 := cell_later hb (v := .int .i64 A) (a := ⟨w.heap.size, 0, none⟩) (by simp [go_sem])
  have f1 := cell_later hb (v := .int .i64 H) (a := ⟨w.heap.size, 1, none⟩) (by simp [go_sem])
  have f2 := cell_later hb (v := .slice a zs.length cap) (a := ⟨w.heap.size, 2, none⟩) (by simp [go_sem])
  have x0 := cell_later hb (v := .int .i64 F.1) (a := ⟨w.heap.size + 1, 0, none⟩) (by simp [go_sem])
  have x1 := cell_later hb (v := .int .i64 F.2) (a := ⟨w.heap.size + 1, 1, none⟩) (by simp [go_sem])
  have x2 := cell_later hb (v := .int .i64 T.1) (a := ⟨w.heap.size + 1, 2, none⟩) (by simp [go_sem])
  have x3 := cell_later hb (v := .int .i64 T.2) (a := ⟨w.heap.size + 1, 3, none⟩) (by simp [go_sem])
  have x4 := cell_later hb (v := .int .i64 budget) (a := ⟨w.heap.size + 1, 4, none⟩) (by simp [go_sem])
  clear hb hk
  have zf0 := blk_lt f0
  have zf1 := blk_lt f1
  have zf2 := blk_lt f2
  have zx0 := blk_lt x0
  have zx1 := blk_lt x1
  have zx2 := blk_lt x2
  have zx3 := blk_lt x3
  have zx4 := blk_lt x4
  rw [hd]
  clear hd
  go_wp2_with fail
  refine (from_any A H a cap zs F _ HZ.out (hr.below (by first | exact hA | exact (bl_al hA _) | exact (bl_dr (bl_al hA _)) | exact (bl_al (bl_al hA _) _) | exact (bl_dr (bl_al (bl_al hA _) _)) | exact (bl_al (bl_al (bl_al hA _) _) _) | exact (bl_dr (bl_al (bl_al (bl_al hA _) _) _)) | exact (bl_al (bl_al (bl_al (bl_al hA _) _) _) _) | exact (bl_dr (bl_al (bl_al (bl_al (bl_al hA _) _) _) _)) | exact (bl_al (bl_al (bl_al (bl_al (bl_al hA _) _) _) _) _) | exact (bl_dr (bl_al (bl_al (bl_al (bl_al (bl_al hA _) _) _) _) _)) | exact (bl_al (bl_al (bl_al (bl_al (bl_al (bl_al hA _) _) _) _) _) _) | exact (bl_dr (bl_al (bl_al (bl_al (bl_al (bl_al (bl_al hA _) _) _) _) _) _)) | exact (bl_dr hA))) (hs.below (by first | exact hA | exact (bl_al hA _) | exact (bl_dr (bl_al hA _)) | exact (bl_al (bl_al hA _) _) | exact (bl_dr (bl_al (bl_al hA _) _)) | exact (bl_al (bl_al (bl_al hA _) _) _) | exact (bl_dr (bl_al (bl_al (bl_al hA _) _) _)) | exact (bl_al (bl_al (bl_al (bl_al hA _) _) _) _) | exact (bl_dr (bl_al (bl_al (bl_al (bl_al hA _) _) _) _)) | exact (bl_al (bl_al (bl_al (bl_al (bl_al hA _) _) _) _) _) | exact (bl_dr (bl_al (bl_al (bl_al (bl_al (bl_al hA _) _) _) _) _)) | exact (bl_al (bl_al (bl_al (bl_al (bl_al (bl_al hA _) _) _) _) _) _) | exact (bl_dr (bl_al (bl_al (bl_al (bl_al (bl_al (bl_al hA _) _) _) _) _) _)) | exact (bl_dr hA)))).mono ?_
  rintro e w2 ⟨⟨b1, cap1, l, rfl, hru, hn1, hy1⟩, hb⟩
  have hk : Below w1.heap.size w1 w2 := by first | exact hb | exact bl_tr (bl_al (bl0 _) _) hb | exact bl_tr (bl_dr (bl_al (bl0 _) _)) hb | exact bl_tr (bl_al (bl_al (bl0 _) _) _) hb | exact bl_tr (bl_dr (bl_al (bl_al (bl0 _) _) _)) hb | exact bl_tr (bl_al (bl_al (bl_al (bl0 _) _) _) _) hb | exact bl_tr (bl_dr (bl_al (bl_al (bl_al (bl0 _) _) _) _)) hb | exact bl_tr (bl_al (bl_al (bl_al (bl_al (bl0 _) _) _) _) _) hb | exact bl_tr (bl_dr (bl_al (bl_al (bl_al (bl_al (bl0 _) _) _) _) _)) hb | exact bl_tr (bl_al (bl_al (bl_al (bl_al (bl_al (bl0 _) _) _) _) _) _) hb | exact bl_tr (bl_dr (bl_al (bl_al (bl_al (bl_al (bl_al (bl0 _) _) _) _) _) _)) hb | exact bl_tr (bl_al (bl_al (bl_al (bl_al (bl_al (bl_al (bl0 _) _) _) _) _) _) _) hb | exact bl_tr (bl_dr (bl_al (bl_al (bl_al (bl_al (bl_al (bl_al (bl0 _) _) _) _) _) _) _)) hb | exact bl_tr (bl_dr (bl0 _)) hb
  replace hA := bl_tr hA hk
  replace f0 := cell_later hk f0
  replace f1 := cell_later hk f1
  replace f2 := cell_later hk f2
  replace x0 := cell_later hk x0
  replace x1 := cell_later hk x1
  replace x2 := cell_later hk x2
  replace x3 := cell_later hk x3
  replace x4 := cell_later hk x4
  clear hb hk
  have zf0 := blk_lt f0
  have zf1 := blk_lt f1
  have zf2 := blk_lt f2
  have zx0 := blk_lt x0
  have zx1 := blk_lt x1
  have zx2 := blk_lt x2
  have zx3 := blk_lt x3
  have zx4 := blk_lt x4
  obtain ⟨Ef, hEf⟩ : ∃ Ef, errW A H zs.length (0, 0, A, H) F = Ef := ⟨_, rfl⟩
  rw [hEf] at hn1 hy1 ⊢
  have HY := Lib.hid hy1
  have HEf := Lib.hid hEf
  clear hn1 hy1 hEf
  go_wp2_with fail
  refine (HF1.out _ (hr.below (by first | exact hA | exact (bl_al hA _) | exact (bl_dr (bl_al hA _)) | exact (bl_al (bl_al hA _) _) | exact (bl_dr (bl_al (bl_al hA _) _)) | exact (bl_al (bl_al (bl_al hA _) _) _) | exact (bl_dr (bl_al (bl_al (bl_al hA _) _) _)) | exact (bl_al (bl_al (bl_al (bl_al hA _) _) _) _) | exact (bl_dr (bl_al (bl_al (bl_al (bl_al hA _) _) _) _)) | exact (bl_al (bl_al (bl_al (bl_al (bl_al hA _) _) _) _) _) | exact (bl_dr (bl_al (bl_al (bl_al (bl_al (bl_al hA _) _) _) _) _)) | exact (bl_al (bl_al (bl_al (bl_al (bl_al (bl_al hA _) _) _) _) _) _) | exact (bl_dr (bl_al (bl_al (bl_al (bl_al (bl_al (bl_al hA _) _) _) _) _) _)) | exact (bl_dr hA))) (hs.below (by first | exact hA | exact (bl_al hA _) | exact (bl_dr (bl_al hA _)) | exact (bl_al (bl_al hA _) _) | exact (bl_dr (bl_al (bl_al hA _) _)) | exact (bl_al (bl_al (bl_al hA _) _) _) | exact (bl_dr (bl_al (bl_al (bl_al hA _) _) _)) | exact (bl_al (bl_al (bl_al (bl_al hA _) _) _) _) | exact (bl_dr (bl_al (bl_al (bl_al (bl_al hA _) _) _) _)) | exact (bl_al (bl_al (bl_al (bl_al (bl_al hA _) _) _) _) _) | exact (bl_dr (bl_al (bl_al (bl_al (bl_al (bl_al hA _) _) _) _) _)) | exact (bl_al (bl_al (bl_al (bl_al (bl_al (bl_al hA _) _) _) _) _) _) | exact (bl_dr (bl_al (bl_al (bl_al (bl_al (bl_al (bl_al hA _) _) _) _) _) _)) | exact (bl_dr hA)))).mono ?_
  rintro e w3 ⟨⟨pa1, pc1, rfl, ho1, hl1⟩, hb⟩
  have hk : Below w2.heap.size w2 w3 := by first | exact hb | exact bl_tr (bl_al (bl0 _) _) hb | exact bl_tr (bl_dr (bl_al (bl0 _) _)) hb | exact bl_tr (bl_al (bl_al (bl0 _) _) _) hb | exact bl_tr (bl_dr (bl_al (bl_al (bl0 _) _) _)) hb | exact bl_tr (bl_al (bl_al (bl_al (bl0 _) _) _) _) hb | exact bl_tr (bl_dr (bl_al (bl_al (bl_al (bl0 _) _) _) _)) hb | exact bl_tr (bl_al (bl_al (bl_al (bl_al (bl0 _) _) _) _) _) hb | exact bl_tr (bl_dr (bl_al (bl_al (bl_al (bl_al (bl0 _) _) _) _) _)) hb | exact bl_tr (bl_al (bl_al (bl_al (bl_al (bl_al (bl0 _) _) _) _) _) _) hb | exact bl_tr (bl_dr (bl_al (bl_al (bl_al (bl_al (bl_al (bl0 _) _) _) _) _) _)) hb | exact bl_tr (bl_al (bl_al (bl_al (bl_al (bl_al (bl_al (bl0 _) _) _) _) _) _) _) hb | exact bl_tr (bl_dr (bl_al (bl_al (bl_al (bl_al (bl_al (bl_al (bl0 _) _) _) _) _) _) _)) hb | exact bl_tr (bl_dr (bl0 _)) hb
  replace hA := bl_tr hA hk
  replace hru := hru.below hk
  replace f0 := cell_later hk f0
  replace f1 := cell_later hk f1
  replace f2 := cell_later hk f2
  replace x0 := cell_later hk x0
  replace x1 := cell_later hk x1
  replace x2 := cell_later hk x2
  replace x3 := cell_later hk x3
  replace x4 := cell_later hk x4
  clear hb hk
  have zf0 := blk_lt f0
  have zf1 := blk_lt f1
  have zf2 := blk_lt f2
  have zx0 := blk_lt x0
  have zx1 := blk_lt x1
  have zx2 := blk_lt x2
  have zx3 := blk_lt x3
  have zx4 := blk_lt x4
  have hp1 := own_rowS ho1
  clear ho1
  by_cases he : Ef = 0
  case neg =>
    have n1 : (Ef != (0 : Int)) = true := by rw [bne_iff_ne]; exact he
    obtain ⟨q1, q2⟩ := least_off H1.out (by rw [HEf.out]; exact he)
    rw [HEf.out] at q1
    subst q1 q2
    have n2 : (E1 == E1) = true := by simp
    clear he
    go_wp2_with fail
    refine (awake10 _ (hs.below (by first | exact hA | exact (bl_al hA _) | exact (bl_dr (bl_al hA _)) | exact (bl_al (bl_al hA _) _) | exact (bl_dr (bl_al (bl_al hA _) _)) | exact (bl_al (bl_al (bl_al hA _) _) _) | exact (bl_dr (bl_al (bl_al (bl_al hA _) _) _)) | exact (bl_al (bl_al (bl_al (bl_al hA _) _) _) _) | exact (bl_dr (bl_al (bl_al (bl_al (bl_al hA _) _) _) _)) | exact (bl_al (bl_al (bl_al (bl_al (bl_al hA _) _) _) _) _) | exact (bl_dr (bl_al (bl_al (bl_al (bl_al (bl_al hA _) _) _) _) _)) | exact (bl_al (bl_al (bl_al (bl_al (bl_al (bl_al hA _) _) _) _) _) _) | exact (bl_dr (bl_al (bl_al (bl_al (bl_al (bl_al (bl_al hA _) _) _) _) _) _)) | exact (bl_dr hA)))).mono ?_
    rintro e w4 ⟨rfl, hb⟩
    have hk : Below w3.heap.size w3 w4 := by first | exact hb | exact bl_tr (bl_al (bl0 _) _) hb | exact bl_tr (bl_dr (bl_al (bl0 _) _)) hb | exact bl_tr (bl_al (bl_al (bl0 _) _) _) hb | exact bl_tr (bl_dr (bl_al (bl_al (bl0 _) _) _)) hb | exact bl_tr (bl_al (bl_al (bl_al (bl0 _) _) _) _) hb | exact bl_tr (bl_dr (bl_al (bl_al (bl_al (bl0 _) _) _) _)) hb | exact bl_tr (bl_al (bl_al (bl_al (bl_al (bl0 _) _) _) _) _) hb | exact bl_tr (bl_dr (bl_al (bl_al (bl_al (bl_al (bl0 _) _) _) _) _)) hb | exact bl_tr (bl_al (bl_al (bl_al (bl_al (bl_al (bl0 _) _) _) _) _) _) hb | exact bl_tr (bl_dr (bl_al (bl_al (bl_al (bl_al (bl_al (bl0 _) _) _) _) _) _)) hb | exact bl_tr (bl_al (bl_al (bl_al (bl_al (bl_al (bl_al (bl0 _) _) _) _) _) _) _) hb | exact bl_tr (bl_dr (bl_al (bl_al (bl_al (bl_al (bl_al (bl_al (bl0 _) _) _) _) _) _) _)) hb | exact bl_tr (bl_dr (bl0 _)) hb
    replace hA := bl_tr hA hk
    clear hb hk
    go_wp2
    go_ret
    exact ⟨rfl, hA⟩
  case pos =>
  obtain ⟨hll, hfar⟩ := HY.out he
  obtain ⟨⟨hm, hn, hF⟩, hcase⟩ := least_on (d := atD l) HZ.out H1.out (by rw [HEf.out]; exact he) (fun hm hn => by rw [gphB_all hm hn] at hfar; exact hfar)
  subst he
  rcases hcase with ⟨hT, q1, q2⟩ | ⟨hT, hcase⟩
  case inl =>
    subst q1 q2
    have HIN := Lib.hid (show ∀ w, Calls Tryd.prog 16 #[.agg #[.int .i64 A, .int .i64 H], .agg #[.int .i64 T.1, .int .i64 T.2]] w fun e w' => e = .returned (.bool false) ∧ Below w.heap.size w w' from fun w => by
      have := rin10_any A H T w
      rw [inK10_on hm, hT] at this
      exact this)
    clear hm hn hF hT hll hfar HY
    go_wp2_with fail
    refine (HIN.out _).mono ?_
    rintro e w4 ⟨rfl, hb⟩
    have hk : Below w3.heap.size w3 w4 := by first | exact hb | exact bl_tr (bl_al (bl0 _) _) hb | exact bl_tr (bl_dr (bl_al (bl0 _) _)) hb | exact bl_tr (bl_al (bl_al (bl0 _) _) _) hb | exact bl_tr (bl_dr (bl_al (bl_al (bl0 _) _) _)) hb | exact bl_tr (bl_al (bl_al (bl_al (bl0 _) _) _) _) hb | exact bl_tr (bl_dr (bl_al (bl_al (bl_al (bl0 _) _) _) _)) hb | exact bl_tr (bl_al (bl_al (bl_al (bl_al (bl0 _) _) _) _) _) hb | exact bl_tr (bl_dr (bl_al (bl_al (bl_al (bl_al (bl0 _) _) _) _) _)) hb | exact bl_tr (bl_al (bl_al (bl_al (bl_al (bl_al (bl0 _) _) _) _) _) _) hb | exact bl_tr (bl_dr (bl_al (bl_al (bl_al (bl_al (bl_al (bl0 _) _) _) _) _) _)) hb | exact bl_tr (bl_al (bl_al (bl_al (bl_al (bl_al (bl_al (bl0 _) _) _) _) _) _) _) hb | exact bl_tr (bl_dr (bl_al (bl_al (bl_al (bl_al (bl_al (bl_al (bl0 _) _) _) _) _) _) _)) hb | exact bl_tr (bl_dr (bl0 _)) hb
    replace hA := bl_tr hA hk
    replace f0 := cell_later hk f0
    replace f1 := cell_later hk f1
    replace f2 := cell_later hk f2
    replace x0 := cell_later hk x0
    replace x1 := cell_later hk x1
    replace x2 := cell_later hk x2
    replace x3 := cell_later hk x3
    have r0 := cell_later hb (v := .slice pa1 0 pc1) (a := ⟨w3.heap.size, 0, none⟩) (by simp [go_sem])
    have r1 := cell_later hb (v := .int .u64 C1) (a := ⟨w3.heap.size, 1, none⟩) (by simp [go_sem])
    have r2 := cell_later hb (v := .int .i64 M1) (a := ⟨w3.heap.size, 2, none⟩) (by simp [go_sem])
    clear hb hk
    have zf0 := blk_lt f0
    have zf1 := blk_lt f1
    have zf2 := blk_lt f2
    have zx0 := blk_lt x0
    have zx1 := blk_lt x1
    have zx2 := blk_lt x2
    have zx3 := blk_lt x3
    have zr0 := blk_lt r0
    have zr1 := blk_lt r1
    have zr2 := blk_lt r2
    go_wp2_with fail
    refine (awake10 _ (hs.below hA)).mono ?_
    rintro e w5 ⟨rfl, hb⟩
    have hk : Below w4.heap.size w4 w5 := by first | exact hb | exact bl_tr (bl_al (bl0 _) _) hb | exact bl_tr (bl_dr (bl_al (bl0 _) _)) hb | exact bl_tr (bl_al (bl_al (bl0 _) _) _) hb | exact bl_tr (bl_dr (bl_al (bl_al (bl0 _) _) _)) hb | exact bl_tr (bl_al (bl_al (bl_al (bl0 _) _) _) _) hb | exact bl_tr (bl_dr (bl_al (bl_al (bl_al (bl0 _) _) _) _)) hb | exact bl_tr (bl_al (bl_al (bl_al (bl_al (bl0 _) _) _) _) _) hb | exact bl_tr (bl_dr (bl_al (bl_al (bl_al (bl_al (bl0 _) _) _) _) _)) hb | exact bl_tr (bl_al (bl_al (bl_al (bl_al (bl_al (bl0 _) _) _) _) _) _) hb | exact bl_tr (bl_dr (bl_al (bl_al (bl_al (bl_al (bl_al (bl0 _) _) _) _) _) _)) hb | exact bl_tr (bl_al (bl_al (bl_al (bl_al (bl_al (bl_al (bl0 _) _) _) _) _) _) _) hb | exact bl_tr (bl_dr (bl_al (bl_al (bl_al (bl_al (bl_al (bl_al (bl0 _) _) _) _) _) _) _)) hb | exact bl_tr (bl_dr (bl0 _)) hb
    replace hA := bl_tr hA hk
    clear hb hk
    go_wp2
    go_ret
    exact ⟨rfl, hA⟩
  case inr =>
  obtain ⟨g1, g2⟩ := num_onS hT
  have hTn := numN_int hT
  obtain ⟨k, hk⟩ : ∃ k, numN A T = k := ⟨_, rfl⟩
  rw [hk] at g2 hTn
  have hkl : k < zs.length := by omega
  have hk0 : (0 : Int) ≤ (k : Int) := by omega
  have hk1 : (k : Int) < (zs.length : Int) := by omega
  have d1 : decide ((k : Int) < 0) = false := decide_eq_false (by omega)
  have d2 : decide ((zs.length : Int) ≤ (k : Int)) = false := decide_eq_false (by omega)
  have d3 : decide (zs.length ≤ k) = false := decide_eq_false (by omega)
  obtain ⟨gl, gol, rfl, ql⟩ := (hru).cell (show k < l.length by rw [hll]; exact hkl)
  obtain ⟨gb, go, rfl, qk⟩ := (hr.below hA).cell hkl
  rw [show zs[k] = zs.getD k 0 by rw [List.getD_eq_getElem?_getD, List.getElem?_eq_getElem hkl]; rfl] at qk
  have zql := blk_lt ql
  have zqk := blk_lt qk
  rw [hll]
  have HLL := Lib.hid hll
  have HM := Lib.hid hm
  have HN := Lib.hid hn
  have HR := Lib.hid hr
  have HKE := Lib.hid hk
  have HC := Lib.hid hcase
  clear hm hn hF hT hll hfar HY hTn hr hk hcase HF1
  rcases HC.out with ⟨q1, q2, q3, q4, q5⟩ | hG
  case inl =>
    rw [HKE.out] at q5
    rw [q5] at ql
    subst q1 q2 q3
    have HQ4 := Lib.hid q4
    clear q4 q5
    obtain ⟨zk, hzk⟩ : ∃ zk, zs.getD k 0 = zk := ⟨_, rfl⟩
    have HZK := Lib.hid (show zs.getD (numN A T) 0 = zk by rw [HKE.out]; exact hzk)
    rw [hzk] at qk
    clear hzk
    go_upto_region 13 with fail
    have hal := bl_al (bl0 w3) (.cells #[.slice pa1 0 pc1, .int .u64 0, .int .i64 M1] 36)
    obtain ⟨W4, hW4⟩ : ∃ W4, w3.alloc (.cells #[.slice pa1 0 pc1, .int .u64 0, .int .i64 M1] 36) = W4 := ⟨_, rfl⟩
    have r0 : W4.cell? ⟨w3.heap.size, 0, none⟩ = some (.slice pa1 0 pc1) := by rw [← hW4]; simp [go_sem]
    have r1 : W4.cell? ⟨w3.heap.size, 1, none⟩ = some (.int .u64 0) := by rw [← hW4]; simp [go_sem]
    have r2 : W4.cell? ⟨w3.heap.size, 2, none⟩ = some (.int .i64 M1) := by rw [← hW4]; simp [go_sem]
    rw [hW4] at hal ⊢
    clear hW4
    replace hA := bl_tr hA hal
    replace f2 := cell_later hal f2
    replace qk := cell_later hal qk
    replace hru := hru.below hal
    have HA4 := Lib.hid hA
    clear hal hA f0 f1 x0 x1 x2 x3 x4 ql zql zqk hp1 hl1 d1 d2 d3 g1 g2 zf0 zf1 zf2 zx0 zx1 zx2 zx3 zx4 HC
    go_wp2_with fail
    go_loopw [10, 11] (fun rv iv wr => ∃ i : Nat, i ≤ zs.length ∧ iv = .int .i64 i ∧ rv = .int .i64 (reachN A zs T (atD l) i : Nat) ∧ Below W4.heap.size W4 wr) (fun _ iv _ => zs.length - (intOf iv).toNat)
    case atStart => exact ⟨0, Nat.zero_le _, rfl, rfl, bl0 _⟩
    case round =>
      obtain ⟨i, hi, rfl, rfl, hBk⟩ := hrel
      replace f2 := cell_later hBk f2
      replace qk := cell_later hBk qk
      replace r0 := cell_later hBk r0; replace r1 := cell_later hBk r1; replace r2 := cell_later hBk r2
      have hi0 : (0 : Int) ≤ (i : Int) := by omega
      have zf5 := blk_lt f2; have zr5 := blk_lt r1; have zq5 := blk_lt qk
      by_cases hlt : i < zs.length
      · have hlt2 : (i : Int) < (zs.length : Int) := by omega
        have hsm := HSM.out
        have hwi : IntKind.i64.wrap ((i : Int) + 1) = (i : Int) + 1 := by rw [IntWalk.i64_in _ (by omega)]
        obtain ⟨gb2, go2, e2, q0⟩ := (hru.below hBk).cell (show i < l.length by rw [HLL.out]; exact hlt)
        cases e2
        have hnl := reachN_next A zs T (atD l) i
        have hle := reachN_le A zs T (atD l) i
        obtain ⟨D, hD⟩ : ∃ D, atD l i = D := ⟨_, rfl⟩
        rw [hD, HZK.out] at hnl
        rw [hD] at q0
        have HNL := Lib.hid hnl
        generalize reachN A zs T (atD l) i = rs at *
        have e1 : IntKind.i64.wrap ((rs : Int) + 1) = (rs : Int) + 1 := by rw [IntWalk.i64_in _ (by omega)]
        have zq6 := blk_lt q0
        have HB5 := Lib.hid hBk
        clear hnl hD hBk hru hi hle hsm r0 r1 r2
        by_cases c1 : D = 18446744073709551615
        · have d1 : (D != (18446744073709551615 : Int)) = false := by rw [bne_eq_false_iff_eq]; exact c1
          have HL2 := Lib.hid (show reachN A zs T (atD l) (i + 1) = rs by rw [HNL.out, if_neg (fun q => q.1 c1)]; rfl)
          clear c1
          go_wp2_with fail
          go_roundw
          case rel => exact ⟨i + 1, by omega, by go_num, by rw [HL2.out], HB5.out⟩
          case measure => simp [intOf]; omega
        · have d1 : (D != (18446744073709551615 : Int)) = true := by rw [bne_iff_ne]; exact c1
          by_cases c2 : zk = 0
          · have d2 : (zk != (0 : Int)) = false := by rw [bne_eq_false_iff_eq]; exact c2
            have HL2 := Lib.hid (show reachN A zs T (atD l) (i + 1) = rs by rw [HNL.out, if_neg (fun q => q.2 c2)]; rfl)
            clear c1 c2
            go_wp2_with fail
            go_roundw
            case rel => exact ⟨i + 1, by omega, by go_num, by rw [HL2.out], HB5.out⟩
            case measure => simp [intOf]; omega
          · have d2 : (zk != (0 : Int)) = true := by rw [bne_iff_ne]; exact c2
            have HL2 := Lib.hid (show reachN A zs T (atD l) (i + 1) = rs + 1 by rw [HNL.out, if_pos ⟨c1, c2⟩])
            clear c1 c2
            go_wp2_with fail
            go_roundw
            case rel => exact ⟨i + 1, by omega, by go_num, by rw [HL2.out]; go_num, HB5.out⟩
            case measure => simp [intOf]; omega
      · obtain rfl : i = zs.length := by omega
        have hge : ¬ (zs.length : Int) < (zs.length : Int) := by omega
        have hA9 := bl_tr HA4.out hBk
        have HAW9 := Lib.hid (awake10 wr (hs.below hA9))
        have d1 : (M1 == (reachN A zs T (atD l) zs.length : Int)) = true := by rw [beq_iff_eq]; exact HQ4.out
        generalize reachN A zs T (atD l) zs.length = rs at *
        clear hlt hi
        go_wp2_with fail
        refine HAW9.out.mono ?_
        rintro e wz ⟨rfl, hbz⟩
        replace hA9 := bl_tr hA9 hbz
        go_wp2
        go_ret
        exact ⟨rfl, hA9⟩
  case inr =>
    have hGC : C1 = atD l (numN A T) := hG.C
    have hGE : E1 = 0 := hG.E
    have hfin := hG.fin
    rw [HKE.out] at hGC hfin
    rw [← hGC] at ql hfin
    subst hGE
    obtain ⟨p1, p2⟩ := path_ok HM.out HN.out hG
    have p1' : pathE A H zs P1 (chkF A H zs.length) = 0 := p1
    have p2' : costP A H zs P1 = C1 := p2
    have HCK := Lib.hid (fun W h1 h2 h3 => check_path A H (some ⟨gb, go, none⟩) pa1 cap pc1 zs P1 W h1 h2 h3 (by omega))
    have HCO := Lib.hid (fun W h1 h2 h3 => cost_path A H (some ⟨gb, go, none⟩) pa1 cap pc1 zs P1 W h1 HZ.out h2 h3 (by omega))
    rw [p1'] at HCK
    rw [p1', p2'] at HCO
    obtain ⟨m, hm1, hm2, hm3, _, _⟩ := hG.num
    have hM1 : M1 = (m : Int) := hm1
    have hlen : P1.length ≤ m := hm2
    have hpos : 0 < P1.length := hG.path.pos
    have hF0 : cK P1 0 = F := hG.first
    have hT0 : cK P1 (P1.length - 1) = T := hG.last
    have HF0 := Lib.hid (show P1[0] = F by rw [cK_get hpos]; exact hF0)
    have HT0 := Lib.hid (show P1[P1.length - 1] = T by rw [cK_get (by omega)]; exact hT0)
    have n1 : (C1 == (18446744073709551615 : Int)) = false := by rw [beq_eq_false_iff_ne]; exact hfin
    have n2 : (C1 != C1) = false := by simp
    have n3 : decide ((P1.length : Int) < 1) = false := decide_eq_false (by omega)
    have n4 : decide ((P1.length : Int) ≤ M1) = true := decide_eq_true (by omega)
    have n5 : decide (M1 ≤ (zs.length : Int)) = true := decide_eq_true (by omega)
    clear hG hGC hfin p1 p2 p1' p2' hm1 hm2 hm3 hM1 hlen hF0 hT0 HC
    go_wp2_with fail
    refine (HCO.out _ (HR.out.below (by first | exact hA | exact (bl_al hA _) | exact (bl_dr (bl_al hA _)) | exact (bl_al (bl_al hA _) _) | exact (bl_dr (bl_al (bl_al hA _) _)) | exact (bl_al (bl_al (bl_al hA _) _) _) | exact (bl_dr (bl_al (bl_al (bl_al hA _) _) _)) | exact (bl_al (bl_al (bl_al (bl_al hA _) _) _) _) | exact (bl_dr (bl_al (bl_al (bl_al (bl_al hA _) _) _) _)) | exact (bl_al (bl_al (bl_al (bl_al (bl_al hA _) _) _) _) _) | exact (bl_dr (bl_al (bl_al (bl_al (bl_al (bl_al hA _) _) _) _) _)) | exact (bl_al (bl_al (bl_al (bl_al (bl_al (bl_al hA _) _) _) _) _) _) | exact (bl_dr (bl_al (bl_al (bl_al (bl_al (bl_al (bl_al hA _) _) _) _) _) _)) | exact (bl_dr hA))) (hp1.below (bl_al (bl0 _) _)) (hs.below (by first | exact hA | exact (bl_al hA _) | exact (bl_dr (bl_al hA _)) | exact (bl_al (bl_al hA _) _) | exact (bl_dr (bl_al (bl_al hA _) _)) | exact (bl_al (bl_al (bl_al hA _) _) _) | exact (bl_dr (bl_al (bl_al (bl_al hA _) _) _)) | exact (bl_al (bl_al (bl_al (bl_al hA _) _) _) _) | exact (bl_dr (bl_al (bl_al (bl_al (bl_al hA _) _) _) _)) | exact (bl_al (bl_al (bl_al (bl_al (bl_al hA _) _) _) _) _) | exact (bl_dr (bl_al (bl_al (bl_al (bl_al (bl_al hA _) _) _) _) _)) | exact (bl_al (bl_al (bl_al (bl_al (bl_al (bl_al hA _) _) _) _) _) _) | exact (bl_dr (bl_al (bl_al (bl_al (bl_al (bl_al (bl_al hA _) _) _) _) _) _)) | exact (bl_dr hA)))).mono ?_
    rintro e w4 ⟨rfl, hb⟩
    have hk : Below w3.heap.size w3 w4 := by first | exact hb | exact bl_tr (bl_al (bl0 _) _) hb | exact bl_tr (bl_dr (bl_al (bl0 _) _)) hb | exact bl_tr (bl_al (bl_al (bl0 _) _) _) hb | exact bl_tr (bl_dr (bl_al (bl_al (bl0 _) _) _)) hb | exact bl_tr (bl_al (bl_al (bl_al (bl0 _) _) _) _) hb | exact bl_tr (bl_dr (bl_al (bl_al (bl_al (bl0 _) _) _) _)) hb | exact bl_tr (bl_al (bl_al (bl_al (bl_al (bl0 _) _) _) _) _) hb | exact bl_tr (bl_dr (bl_al (bl_al (bl_al (bl_al (bl0 _) _) _) _) _)) hb | exact bl_tr (bl_al (bl_al (bl_al (bl_al (bl_al (bl0 _) _) _) _) _) _) hb | exact bl_tr (bl_dr (bl_al (bl_al (bl_al (bl_al (bl_al (bl0 _) _) _) _) _) _)) hb | exact bl_tr (bl_al (bl_al (bl_al (bl_al (bl_al (bl_al (bl0 _) _) _) _) _) _) _) hb | exact bl_tr (bl_dr (bl_al (bl_al (bl_al (bl_al (bl_al (bl_al (bl0 _) _) _) _) _) _) _)) hb | exact bl_tr (bl_dr (bl0 _)) hb
    replace hA := bl_tr hA hk
    replace hp1 := hp1.below hk
    replace f0 := cell_later hk f0
    replace f1 := cell_later hk f1
    replace f2 := cell_later hk f2
    replace x0 := cell_later hk x0
    replace x1 := cell_later hk x1
    replace x2 := cell_later hk x2
    replace x3 := cell_later hk x3
    replace ql := cell_later hk ql
    have r0 := cell_later hb (v := .slice pa1 P1.length pc1) (a := ⟨w3.heap.size, 0, none⟩) (by simp [go_sem])
    have r1 := cell_later hb (v := .int .u64 C1) (a := ⟨w3.heap.size, 1, none⟩) (by simp [go_sem])
    have r2 := cell_later hb (v := .int .i64 M1) (a := ⟨w3.heap.size, 2, none⟩) (by simp [go_sem])
    clear hb hk
    have zf0 := blk_lt f0
    have zf1 := blk_lt f1
    have zf2 := blk_lt f2
    have zx0 := blk_lt x0
    have zx1 := blk_lt x1
    have zx2 := blk_lt x2
    have zx3 := blk_lt x3
    have zql := blk_lt ql
    have zr0 := blk_lt r0
    have zr1 := blk_lt r1
    have zr2 := blk_lt r2
    have HP1 := Lib.hid hp1
    obtain ⟨gp, op, rfl, q0, q1⟩ := hp1.cell hpos
    obtain ⟨gp2, op2, e2, q2, q3⟩ := hp1.cell (show P1.length - 1 < P1.length by omega)
    obtain ⟨rfl, rfl⟩ : gp = gp2 ∧ op = op2 := by injection e2 with r4; injection r4 with r5 r6; exact ⟨r5, r6⟩
    clear e2
    rw [HF0.out] at q0 q1
    rw [Nat.zero_mul, Nat.add_zero] at q0 q1
    rw [HT0.out] at q2 q3
    have l0 : (0 : Int) < (P1.length : Int) := by omega
    have l2 : IntKind.i64.wrap ((P1.length : Int) - 1) = ((P1.length - 1 : Nat) : Int) := by rw [IntWalk.i64_in _ (by omega)]; omega
    have l3 : P1.length - 1 < P1.length := by omega
    have l4 : ((P1.length - 1 : Nat) : Int) < (P1.length : Int) := by omega
    have hcF := fun w => eql_cell F F w
    have hcT := fun w => eql_cell T T w
    rw [decide_eq_true rfl] at hcF hcT
    clear hp1 d1 d2 d3 g1 g2
    go_upto_region 21 with fail
    go_quiet (fail)
    go_upto_region 23 with fail
    obtain ⟨W5, hW5⟩ : ∃ W5, w4.drewN nq = W5 := ⟨_, rfl⟩
    have hdr := bl_drn w4 nq
    rw [hW5] at hdr ⊢
    clear hW5
    replace hA := bl_tr hA hdr
    replace f0 := cell_later hdr f0; replace f1 := cell_later hdr f1; replace f2 := cell_later hdr f2
    replace x0 := cell_later hdr x0; replace x1 := cell_later hdr x1; replace x2 := cell_later hdr x2; replace x3 := cell_later hdr x3
    replace r0 := cell_later hdr r0; replace r1 := cell_later hdr r1; replace r2 := cell_later hdr r2
    replace q0 := cell_later hdr q0; replace q1 := cell_later hdr q1; replace q2 := cell_later hdr q2; replace q3 := cell_later hdr q3
    have HP5 := Lib.hid (HP1.out.below hdr)
    have HA5 := Lib.hid hA
    clear hdr hA HCO n1 n2 n3
    have hB := bl_dr (bl0 W5)
    go_region_held3 (fun W => (W.cell? ⟨w.heap.size, 0, none⟩ = some (.int .i64 A) ∧ W.cell? ⟨w.heap.size, 1, none⟩ = some (.int .i64 H) ∧ W.cell? ⟨w.heap.size, 2, none⟩ = some (.slice (some ⟨gb, go, none⟩) zs.length cap)) ∧ (W.cell? ⟨w.heap.size + 1, 0, none⟩ = some (.int .i64 F.1) ∧ W.cell? ⟨w.heap.size + 1, 1, none⟩ = some (.int .i64 F.2) ∧ W.cell? ⟨w.heap.size + 1, 2, none⟩ = some (.int .i64 T.1) ∧ W.cell? ⟨w.heap.size + 1, 3, none⟩ = some (.int .i64 T.2)) ∧ (W.cell? ⟨w3.heap.size, 0, none⟩ = some (.slice (some ⟨gp, op, none⟩) P1.length pc1) ∧ W.cell? ⟨w3.heap.size, 2, none⟩ = some (.int .i64 M1)) ∧ W.cell? ⟨gp, op, none⟩ = some (.int .i64 F.1) ∧ W.cell? ⟨gp, op + 1, none⟩ = some (.int .i64 F.2) ∧ W.cell? ⟨gp, op + (P1.length - 1) * 2, none⟩ = some (.int .i64 T.1) ∧ W.cell? ⟨gp, op + (P1.length - 1) * 2 + 1, none⟩ = some (.int .i64 T.2))
      (exact ⟨⟨cell_later hB f0, cell_later hB f1, cell_later hB f2⟩, ⟨cell_later hB x0, cell_later hB x1, cell_later hB x2, cell_later hB x3⟩, ⟨cell_later hB r0, cell_later hB r2⟩, cell_later hB q0, cell_later hB q1, cell_later hB q2, cell_later hB q3⟩)
      (first
      | (go_at_call 18; (with_reducible refine (HCK.out _ (HR.out.below (bl_tr HA5.out hB)) (HP5.out.below hB) (hs.below (bl_tr HA5.out hB))).mono ?_); rintro e w8 ⟨rfl, hb8⟩; replace hB := bl_tr hB hb8; clear hb8)
      | (go_at_call 10; (with_reducible refine (awake10 _ (hs.below (bl_tr HA5.out hB))).mono ?_); rintro e w8 ⟨rfl, hb8⟩; replace hB := bl_tr hB hb8; clear hb8))
    all_goals
      have hA9 := bl_tr HA5.out hB
      go_wp2_with fail
      go_ret
      exact ⟨rfl, hA9⟩
end Go.Proofs.YtldpajfendkhbaaDoor
