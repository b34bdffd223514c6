/- GeomSteps: the law's walk where the first cell is off the map, and the whole. -/
import Derived.Test.YtdacoeehhpnkbaaDoorLstepsb
import Derived.Deep.RegionWith
namespace Go.Proofs.YtdacoeehhpnkbaaDoor
open Go.RowKit


set_option maxRecDepth 100000 in
set_option maxHeartbeats 6400000 in
theorem steps_off (W H X Y Z V d : Int) (w : World) (hs : Stp w) (hi : inB W H X Y = false) (h0 : 0 ≤ d) (h4 : d < 4) : Calls
    Tryd.prog 4 #[.agg #[.int .i64 W, .int .i64 H], .agg #[.int .i64 X, .int .i64 Y, .int .i64 Z, .int .i64 V], .int .i64 d] w (OkS w) := by
  cases hp : plainB X Y
  · have hq : (plainB X Y && plainB Z V) = false := by simp [hp]
    have hA := bl0 w
    go_enter Tryd.func4, Tryd.ntmps4
    go_wp2_with fail
    refine (step_off _ _ _ _ _ _ h0 h4 hi).mono ?_
    rintro e w1 ⟨rfl, hb⟩
    have hk : Below w.heap.size w w1 := by first | exact hb | exact bl_tr (bl_al (bl0 _) _) hb | exact bl_tr (bl_dr (bl_al (bl0 _) _)) hb | exact bl_tr (bl_al (bl_al (bl0 _) _) _) hb | exact bl_tr (bl_dr (bl_al (bl_al (bl0 _) _) _)) hb | exact bl_tr (bl_al (bl_al (bl_al (bl0 _) _) _) _) hb | exact bl_tr (bl_dr (bl_al (bl_al (bl_al (bl0 _) _) _) _)) hb | exact bl_tr (bl_al (bl_al (bl_al (bl_al (bl0 _) _) _) _) _) hb | exact bl_tr (bl_dr (bl_al (bl_al (bl_al (bl_al (bl0 _) _) _) _) _)) hb | exact bl_tr (bl_al (bl_al (bl_al (bl_al (bl_al (bl0 _) _) _) _) _) _) hb | exact bl_tr (bl_dr (bl_al (bl_al (bl_al (bl_al (bl_al (bl0 _) _) _) _) _) _)) hb | exact bl_tr (bl_al (bl_al (bl_al (bl_al (bl_al (bl_al (bl0 _) _) _) _) _) _) _) hb | exact bl_tr (bl_dr (bl_al (bl_al (bl_al (bl_al (bl_al (bl_al (bl0 _) _) _) _) _) _) _)) hb | exact bl_tr (bl_dr (bl0 _)) hb
    replace hA := bl_tr hA hk
    have s0 := cell_later hb (v := .int .i64 W) (a := ⟨w.heap.size, 0, none⟩) (by simp [go_sem])
    have s1 := cell_later hb (v := .int .i64 H) (a := ⟨w.heap.size, 1, none⟩) (by simp [go_sem])
    have t2 := cell_later hb (v := .int .i64 Z) (a := ⟨w.heap.size + 1, 2, none⟩) (by simp [go_sem])
    have t3 := cell_later hb (v := .int .i64 V) (a := ⟨w.heap.size + 1, 3, none⟩) (by simp [go_sem])
    have x0 := cell_later hb (v := .int .i64 X) (a := ⟨w.heap.size + 1 + 1, 0, none⟩) (by simp [go_sem])
    have x1 := cell_later hb (v := .int .i64 Y) (a := ⟨w.heap.size + 1 + 1, 1, none⟩) (by simp [go_sem])
    clear hb hk
    have zs0 := blk_lt s0
    have zs1 := blk_lt s1
    have zt2 := blk_lt t2
    have zt3 := blk_lt t3
    have zx0 := blk_lt x0
    have zx1 := blk_lt x1
    go_wp2_with fail
    refine (beside_no _ _ _ _ _ hi).mono ?_
    rintro e wb ⟨rfl, hb⟩
    have hk : Below w1.heap.size w1 wb := by first | exact hb | exact bl_tr (bl_al (bl0 _) _) hb | exact bl_tr (bl_dr (bl_al (bl0 _) _)) hb | exact bl_tr (bl_al (bl_al (bl0 _) _) _) hb | exact bl_tr (bl_dr (bl_al (bl_al (bl0 _) _) _)) hb | exact bl_tr (bl_al (bl_al (bl_al (bl0 _) _) _) _) hb | exact bl_tr (bl_dr (bl_al (bl_al (bl_al (bl0 _) _) _) _)) hb | exact bl_tr (bl_al (bl_al (bl_al (bl_al (bl0 _) _) _) _) _) hb | exact bl_tr (bl_dr (bl_al (bl_al (bl_al (bl_al (bl0 _) _) _) _) _)) hb | exact bl_tr (bl_al (bl_al (bl_al (bl_al (bl_al (bl0 _) _) _) _) _) _) hb | exact bl_tr (bl_dr (bl_al (bl_al (bl_al (bl_al (bl_al (bl0 _) _) _) _) _) _)) hb | exact bl_tr (bl_al (bl_al (bl_al (bl_al (bl_al (bl_al (bl0 _) _) _) _) _) _) _) hb | exact bl_tr (bl_dr (bl_al (bl_al (bl_al (bl_al (bl_al (bl_al (bl0 _) _) _) _) _) _) _)) hb | exact bl_tr (bl_dr (bl0 _)) hb
    replace hA := bl_tr hA hk
    replace s0 := cell_later hk s0
    replace s1 := cell_later hk s1
    replace t2 := cell_later hk t2
    replace t3 := cell_later hk t3
    replace x0 := cell_later hk x0
    replace x1 := cell_later hk x1
    have c0 := cell_later hb (v := .int .i64 0) (a := ⟨w1.heap.size, 0, none⟩) (by simp [go_sem])
    have c1 := cell_later hb (v := .int .i64 0) (a := ⟨w1.heap.size, 1, none⟩) (by simp [go_sem])
    clear hb hk
    have zs0 := blk_lt s0
    have zs1 := blk_lt s1
    have zt2 := blk_lt t2
    have zt3 := blk_lt t3
    have zx0 := blk_lt x0
    have zx1 := blk_lt x1
    have zc0 := blk_lt c0
    have zc1 := blk_lt c1
    go_wp2_with fail
    refine (dir_no _ _ _ _ _ hq).mono ?_
    rintro e m1 ⟨rfl, hb⟩
    have hk : Below wb.heap.size wb m1 := by first | exact hb | exact bl_tr (bl_al (bl0 _) _) hb | exact bl_tr (bl_dr (bl_al (bl0 _) _)) hb | exact bl_tr (bl_al (bl_al (bl0 _) _) _) hb | exact bl_tr (bl_dr (bl_al (bl_al (bl0 _) _) _)) hb | exact bl_tr (bl_al (bl_al (bl_al (bl0 _) _) _) _) hb | exact bl_tr (bl_dr (bl_al (bl_al (bl_al (bl0 _) _) _) _)) hb | exact bl_tr (bl_al (bl_al (bl_al (bl_al (bl0 _) _) _) _) _) hb | exact bl_tr (bl_dr (bl_al (bl_al (bl_al (bl_al (bl0 _) _) _) _) _)) hb | exact bl_tr (bl_al (bl_al (bl_al (bl_al (bl_al (bl0 _) _) _) _) _) _) hb | exact bl_tr (bl_dr (bl_al (bl_al (bl_al (bl_al (bl_al (bl0 _) _) _) _) _) _)) hb | exact bl_tr (bl_al (bl_al (bl_al (bl_al (bl_al (bl_al (bl0 _) _) _) _) _) _) _) hb | exact bl_tr (bl_dr (bl_al (bl_al (bl_al (bl_al (bl_al (bl_al (bl0 _) _) _) _) _) _) _)) hb | exact bl_tr (bl_dr (bl0 _)) hb
    replace hA := bl_tr hA hk
    replace s0 := cell_later hk s0
    replace s1 := cell_later hk s1
    replace t2 := cell_later hk t2
    replace t3 := cell_later hk t3
    replace x0 := cell_later hk x0
    replace x1 := cell_later hk x1
    replace c0 := cell_later hk c0
    replace c1 := cell_later hk c1
    clear hb hk
    have zs0 := blk_lt s0
    have zs1 := blk_lt s1
    have zt2 := blk_lt t2
    have zt3 := blk_lt t3
    have zx0 := blk_lt x0
    have zx1 := blk_lt x1
    have zc0 := blk_lt c0
    have zc1 := blk_lt c1
    go_wp2_with fail
    refine (rplain_any _ _ _).mono ?_
    rintro e wm ⟨rfl, hb⟩
    have hk : Below m1.heap.size m1 wm := by first | exact hb | exact bl_tr (bl_al (bl0 _) _) hb | exact bl_tr (bl_dr (bl_al (bl0 _) _)) hb | exact bl_tr (bl_al (bl_al (bl0 _) _) _) hb | exact bl_tr (bl_dr (bl_al (bl_al (bl0 _) _) _)) hb | exact bl_tr (bl_al (bl_al (bl_al (bl0 _) _) _) _) hb | exact bl_tr (bl_dr (bl_al (bl_al (bl_al (bl0 _) _) _) _)) hb | exact bl_tr (bl_al (bl_al (bl_al (bl_al (bl0 _) _) _) _) _) hb | exact bl_tr (bl_dr (bl_al (bl_al (bl_al (bl_al (bl0 _) _) _) _) _)) hb | exact bl_tr (bl_al (bl_al (bl_al (bl_al (bl_al (bl0 _) _) _) _) _) _) hb | exact bl_tr (bl_dr (bl_al (bl_al (bl_al (bl_al (bl_al (bl0 _) _) _) _) _) _)) hb | exact bl_tr (bl_al (bl_al (bl_al (bl_al (bl_al (bl_al (bl0 _) _) _) _) _) _) _) hb | exact bl_tr (bl_dr (bl_al (bl_al (bl_al (bl_al (bl_al (bl_al (bl0 _) _) _) _) _) _) _)) hb | exact bl_tr (bl_dr (bl0 _)) hb
    replace hA := bl_tr hA hk
    replace s0 := cell_later hk s0
    replace s1 := cell_later hk s1
    replace t2 := cell_later hk t2
    replace t3 := cell_later hk t3
    replace x0 := cell_later hk x0
    replace x1 := cell_later hk x1
    replace c0 := cell_later hk c0
    replace c1 := cell_later hk c1
    clear hb hk
    have zs0 := blk_lt s0
    have zs1 := blk_lt s1
    have zt2 := blk_lt t2
    have zt3 := blk_lt t3
    have zx0 := blk_lt x0
    have zx1 := blk_lt x1
    have zc0 := blk_lt c0
    have zc1 := blk_lt c1
    go_wp2_with fail
    refine (rin_any _ _ _ _ _).mono ?_
    rintro e wz ⟨rfl, hb⟩
    have hk : Below wm.heap.size wm wz := by first | exact hb | exact bl_tr (bl_al (bl0 _) _) hb | exact bl_tr (bl_dr (bl_al (bl0 _) _)) hb | exact bl_tr (bl_al (bl_al (bl0 _) _) _) hb | exact bl_tr (bl_dr (bl_al (bl_al (bl0 _) _) _)) hb | exact bl_tr (bl_al (bl_al (bl_al (bl0 _) _) _) _) hb | exact bl_tr (bl_dr (bl_al (bl_al (bl_al (bl0 _) _) _) _)) hb | exact bl_tr (bl_al (bl_al (bl_al (bl_al (bl0 _) _) _) _) _) hb | exact bl_tr (bl_dr (bl_al (bl_al (bl_al (bl_al (bl0 _) _) _) _) _)) hb | exact bl_tr (bl_al (bl_al (bl_al (bl_al (bl_al (bl0 _) _) _) _) _) _) hb | exact bl_tr (bl_dr (bl_al (bl_al (bl_al (bl_al (bl_al (bl0 _) _) _) _) _) _)) hb | exact bl_tr (bl_al (bl_al (bl_al (bl_al (bl_al (bl_al (bl0 _) _) _) _) _) _) _) hb | exact bl_tr (bl_dr (bl_al (bl_al (bl_al (bl_al (bl_al (bl_al (bl0 _) _) _) _) _) _) _)) hb | exact bl_tr (bl_dr (bl0 _)) hb
    replace hA := bl_tr hA hk
    replace s0 := cell_later hk s0
    replace s1 := cell_later hk s1
    replace x0 := cell_later hk x0
    replace x1 := cell_later hk x1
    replace c0 := cell_later hk c0
    replace c1 := cell_later hk c1
    clear hb hk
    have zs0 := blk_lt s0
    have zs1 := blk_lt s1
    have zx0 := blk_lt x0
    have zx1 := blk_lt x1
    have zc0 := blk_lt c0
    have zc1 := blk_lt c1
    have hk := bl0 wz
    go_wp2
    first
    | go_region_with (go_at_call 14; refine (rin_any _ _ _ _ _).mono ?_; rintro e y3 ⟨rfl, hb⟩; replace hk := bl_tr (bl_dr hk) hb; clear hb)
    | fail
    all_goals
      replace hA := bl_tr hA hk
      replace c0 := cell_later hk c0
      replace c1 := cell_later hk c1
      clear hk
      go_wp2_with fail
      refine (awake_any _ (hs.below (by first | exact hA | exact (bl_al hA _) | exact (bl_dr (bl_al hA _)) | exact (bl_al (bl_al hA _) _) | exact (bl_dr (bl_al (bl_al hA _) _)) | exact (bl_al (bl_al (bl_al hA _) _) _) | exact (bl_dr (bl_al (bl_al (bl_al hA _) _) _)) | exact (bl_al (bl_al (bl_al (bl_al hA _) _) _) _) | exact (bl_dr (bl_al (bl_al (bl_al (bl_al hA _) _) _) _)) | exact (bl_al (bl_al (bl_al (bl_al (bl_al hA _) _) _) _) _) | exact (bl_dr (bl_al (bl_al (bl_al (bl_al (bl_al hA _) _) _) _) _)) | exact (bl_al (bl_al (bl_al (bl_al (bl_al (bl_al hA _) _) _) _) _) _) | exact (bl_dr (bl_al (bl_al (bl_al (bl_al (bl_al (bl_al hA _) _) _) _) _) _)) | exact (bl_dr hA)))).mono ?_
      rintro e wx ⟨rfl, hb⟩
      have hk : Below y3.heap.size y3 wx := by first | exact hb | exact bl_tr (bl_al (bl0 _) _) hb | exact bl_tr (bl_dr (bl_al (bl0 _) _)) hb | exact bl_tr (bl_al (bl_al (bl0 _) _) _) hb | exact bl_tr (bl_dr (bl_al (bl_al (bl0 _) _) _)) hb | exact bl_tr (bl_al (bl_al (bl_al (bl0 _) _) _) _) hb | exact bl_tr (bl_dr (bl_al (bl_al (bl_al (bl0 _) _) _) _)) hb | exact bl_tr (bl_al (bl_al (bl_al (bl_al (bl0 _) _) _) _) _) hb | exact bl_tr (bl_dr (bl_al (bl_al (bl_al (bl_al (bl0 _) _) _) _) _)) hb | exact bl_tr (bl_al (bl_al (bl_al (bl_al (bl_al (bl0 _) _) _) _) _) _) hb | exact bl_tr (bl_dr (bl_al (bl_al (bl_al (bl_al (bl_al (bl0 _) _) _) _) _) _)) hb | exact bl_tr (bl_al (bl_al (bl_al (bl_al (bl_al (bl_al (bl0 _) _) _) _) _) _) _) hb | exact bl_tr (bl_dr (bl_al (bl_al (bl_al (bl_al (bl_al (bl_al (bl0 _) _) _) _) _) _) _)) hb | exact bl_tr (bl_dr (bl0 _)) hb
      replace hA := bl_tr hA hk
      clear hb hk
      go_wp2
      go_ret
      exact ⟨rfl, hA⟩
  cases hp2 : plainB Z V
  · have hq : (plainB X Y && plainB Z V) = false := by simp [hp2]
    have hA := bl0 w
    go_enter Tryd.func4, Tryd.ntmps4
    go_wp2_with fail
    refine (step_off _ _ _ _ _ _ h0 h4 hi).mono ?_
    rintro e w1 ⟨rfl, hb⟩
    have hk : Below w.heap.size w w1 := by first | exact hb | exact bl_tr (bl_al (bl0 _) _) hb | exact bl_tr (bl_dr (bl_al (bl0 _) _)) hb | exact bl_tr (bl_al (bl_al (bl0 _) _) _) hb | exact bl_tr (bl_dr (bl_al (bl_al (bl0 _) _) _)) hb | exact bl_tr (bl_al (bl_al (bl_al (bl0 _) _) _) _) hb | exact bl_tr (bl_dr (bl_al (bl_al (bl_al (bl0 _) _) _) _)) hb | exact bl_tr (bl_al (bl_al (bl_al (bl_al (bl0 _) _) _) _) _) hb | exact bl_tr (bl_dr (bl_al (bl_al (bl_al (bl_al (bl0 _) _) _) _) _)) hb | exact bl_tr (bl_al (bl_al (bl_al (bl_al (bl_al (bl0 _) _) _) _) _) _) hb | exact bl_tr (bl_dr (bl_al (bl_al (bl_al (bl_al (bl_al (bl0 _) _) _) _) _) _)) hb | exact bl_tr (bl_al (bl_al (bl_al (bl_al (bl_al (bl_al (bl0 _) _) _) _) _) _) _) hb | exact bl_tr (bl_dr (bl_al (bl_al (bl_al (bl_al (bl_al (bl_al (bl0 _) _) _) _) _) _) _)) hb | exact bl_tr (bl_dr (bl0 _)) hb
    replace hA := bl_tr hA hk
    have s0 := cell_later hb (v := .int .i64 W) (a := ⟨w.heap.size, 0, none⟩) (by simp [go_sem])
    have s1 := cell_later hb (v := .int .i64 H) (a := ⟨w.heap.size, 1, none⟩) (by simp [go_sem])
    have t2 := cell_later hb (v := .int .i64 Z) (a := ⟨w.heap.size + 1, 2, none⟩) (by simp [go_sem])
    have t3 := cell_later hb (v := .int .i64 V) (a := ⟨w.heap.size + 1, 3, none⟩) (by simp [go_sem])
    have x0 := cell_later hb (v := .int .i64 X) (a := ⟨w.heap.size + 1 + 1, 0, none⟩) (by simp [go_sem])
    have x1 := cell_later hb (v := .int .i64 Y) (a := ⟨w.heap.size + 1 + 1, 1, none⟩) (by simp [go_sem])
    clear hb hk
    have zs0 := blk_lt s0
    have zs1 := blk_lt s1
    have zt2 := blk_lt t2
    have zt3 := blk_lt t3
    have zx0 := blk_lt x0
    have zx1 := blk_lt x1
    go_wp2_with fail
    refine (beside_no _ _ _ _ _ hi).mono ?_
    rintro e wb ⟨rfl, hb⟩
    have hk : Below w1.heap.size w1 wb := by first | exact hb | exact bl_tr (bl_al (bl0 _) _) hb | exact bl_tr (bl_dr (bl_al (bl0 _) _)) hb | exact bl_tr (bl_al (bl_al (bl0 _) _) _) hb | exact bl_tr (bl_dr (bl_al (bl_al (bl0 _) _) _)) hb | exact bl_tr (bl_al (bl_al (bl_al (bl0 _) _) _) _) hb | exact bl_tr (bl_dr (bl_al (bl_al (bl_al (bl0 _) _) _) _)) hb | exact bl_tr (bl_al (bl_al (bl_al (bl_al (bl0 _) _) _) _) _) hb | exact bl_tr (bl_dr (bl_al (bl_al (bl_al (bl_al (bl0 _) _) _) _) _)) hb | exact bl_tr (bl_al (bl_al (bl_al (bl_al (bl_al (bl0 _) _) _) _) _) _) hb | exact bl_tr (bl_dr (bl_al (bl_al (bl_al (bl_al (bl_al (bl0 _) _) _) _) _) _)) hb | exact bl_tr (bl_al (bl_al (bl_al (bl_al (bl_al (bl_al (bl0 _) _) _) _) _) _) _) hb | exact bl_tr (bl_dr (bl_al (bl_al (bl_al (bl_al (bl_al (bl_al (bl0 _) _) _) _) _) _) _)) hb | exact bl_tr (bl_dr (bl0 _)) hb
    replace hA := bl_tr hA hk
    replace s0 := cell_later hk s0
    replace s1 := cell_later hk s1
    replace t2 := cell_later hk t2
    replace t3 := cell_later hk t3
    replace x0 := cell_later hk x0
    replace x1 := cell_later hk x1
    have c0 := cell_later hb (v := .int .i64 0) (a := ⟨w1.heap.size, 0, none⟩) (by simp [go_sem])
    have c1 := cell_later hb (v := .int .i64 0) (a := ⟨w1.heap.size, 1, none⟩) (by simp [go_sem])
    clear hb hk
    have zs0 := blk_lt s0
    have zs1 := blk_lt s1
    have zt2 := blk_lt t2
    have zt3 := blk_lt t3
    have zx0 := blk_lt x0
    have zx1 := blk_lt x1
    have zc0 := blk_lt c0
    have zc1 := blk_lt c1
    go_wp2_with fail
    refine (dir_no _ _ _ _ _ hq).mono ?_
    rintro e m1 ⟨rfl, hb⟩
    have hk : Below wb.heap.size wb m1 := by first | exact hb | exact bl_tr (bl_al (bl0 _) _) hb | exact bl_tr (bl_dr (bl_al (bl0 _) _)) hb | exact bl_tr (bl_al (bl_al (bl0 _) _) _) hb | exact bl_tr (bl_dr (bl_al (bl_al (bl0 _) _) _)) hb | exact bl_tr (bl_al (bl_al (bl_al (bl0 _) _) _) _) hb | exact bl_tr (bl_dr (bl_al (bl_al (bl_al (bl0 _) _) _) _)) hb | exact bl_tr (bl_al (bl_al (bl_al (bl_al (bl0 _) _) _) _) _) hb | exact bl_tr (bl_dr (bl_al (bl_al (bl_al (bl_al (bl0 _) _) _) _) _)) hb | exact bl_tr (bl_al (bl_al (bl_al (bl_al (bl_al (bl0 _) _) _) _) _) _) hb | exact bl_tr (bl_dr (bl_al (bl_al (bl_al (bl_al (bl_al (bl0 _) _) _) _) _) _)) hb | exact bl_tr (bl_al (bl_al (bl_al (bl_al (bl_al (bl_al (bl0 _) _) _) _) _) _) _) hb | exact bl_tr (bl_dr (bl_al (bl_al (bl_al (bl_al (bl_al (bl_al (bl0 _) _) _) _) _) _) _)) hb | exact bl_tr (bl_dr (bl0 _)) hb
    replace hA := bl_tr hA hk
    replace s0 := cell_later hk s0
    replace s1 := cell_later hk s1
    replace t2 := cell_later hk t2
    replace t3 := cell_later hk t3
    replace x0 := cell_later hk x0
    replace x1 := cell_later hk x1
    replace c0 := cell_later hk c0
    replace c1 := cell_later hk c1
    clear hb hk
    have zs0 := blk_lt s0
    have zs1 := blk_lt s1
    have zt2 := blk_lt t2
    have zt3 := blk_lt t3
    have zx0 := blk_lt x0
    have zx1 := blk_lt x1
    have zc0 := blk_lt c0
    have zc1 := blk_lt c1
    go_wp2_with fail
    refine (rplain_any _ _ _).mono ?_
    rintro e m2 ⟨rfl, hb⟩
    have hk : Below m1.heap.size m1 m2 := by first | exact hb | exact bl_tr (bl_al (bl0 _) _) hb | exact bl_tr (bl_dr (bl_al (bl0 _) _)) hb | exact bl_tr (bl_al (bl_al (bl0 _) _) _) hb | exact bl_tr (bl_dr (bl_al (bl_al (bl0 _) _) _)) hb | exact bl_tr (bl_al (bl_al (bl_al (bl0 _) _) _) _) hb | exact bl_tr (bl_dr (bl_al (bl_al (bl_al (bl0 _) _) _) _)) hb | exact bl_tr (bl_al (bl_al (bl_al (bl_al (bl0 _) _) _) _) _) hb | exact bl_tr (bl_dr (bl_al (bl_al (bl_al (bl_al (bl0 _) _) _) _) _)) hb | exact bl_tr (bl_al (bl_al (bl_al (bl_al (bl_al (bl0 _) _) _) _) _) _) hb | exact bl_tr (bl_dr (bl_al (bl_al (bl_al (bl_al (bl_al (bl0 _) _) _) _) _) _)) hb | exact bl_tr (bl_al (bl_al (bl_al (bl_al (bl_al (bl_al (bl0 _) _) _) _) _) _) _) hb | exact bl_tr (bl_dr (bl_al (bl_al (bl_al (bl_al (bl_al (bl_al (bl0 _) _) _) _) _) _) _)) hb | exact bl_tr (bl_dr (bl0 _)) hb
    replace hA := bl_tr hA hk
    replace s0 := cell_later hk s0
    replace s1 := cell_later hk s1
    replace t2 := cell_later hk t2
    replace t3 := cell_later hk t3
    replace x0 := cell_later hk x0
    replace x1 := cell_later hk x1
    replace c0 := cell_later hk c0
    replace c1 := cell_later hk c1
    clear hb hk
    have zs0 := blk_lt s0
    have zs1 := blk_lt s1
    have zt2 := blk_lt t2
    have zt3 := blk_lt t3
    have zx0 := blk_lt x0
    have zx1 := blk_lt x1
    have zc0 := blk_lt c0
    have zc1 := blk_lt c1
    go_wp2_with fail
    refine (rplain_any _ _ _).mono ?_
    rintro e wm ⟨rfl, hb⟩
    have hk : Below m2.heap.size m2 wm := by first | exact hb | exact bl_tr (bl_al (bl0 _) _) hb | exact bl_tr (bl_dr (bl_al (bl0 _) _)) hb | exact bl_tr (bl_al (bl_al (bl0 _) _) _) hb | exact bl_tr (bl_dr (bl_al (bl_al (bl0 _) _) _)) hb | exact bl_tr (bl_al (bl_al (bl_al (bl0 _) _) _) _) hb | exact bl_tr (bl_dr (bl_al (bl_al (bl_al (bl0 _) _) _) _)) hb | exact bl_tr (bl_al (bl_al (bl_al (bl_al (bl0 _) _) _) _) _) hb | exact bl_tr (bl_dr (bl_al (bl_al (bl_al (bl_al (bl0 _) _) _) _) _)) hb | exact bl_tr (bl_al (bl_al (bl_al (bl_al (bl_al (bl0 _) _) _) _) _) _) hb | exact bl_tr (bl_dr (bl_al (bl_al (bl_al (bl_al (bl_al (bl0 _) _) _) _) _) _)) hb | exact bl_tr (bl_al (bl_al (bl_al (bl_al (bl_al (bl_al (bl0 _) _) _) _) _) _) _) hb | exact bl_tr (bl_dr (bl_al (bl_al (bl_al (bl_al (bl_al (bl_al (bl0 _) _) _) _) _) _) _)) hb | exact bl_tr (bl_dr (bl0 _)) hb
    replace hA := bl_tr hA hk
    replace s0 := cell_later hk s0
    replace s1 := cell_later hk s1
    replace t2 := cell_later hk t2
    replace t3 := cell_later hk t3
    replace x0 := cell_later hk x0
    replace x1 := cell_later hk x1
    replace c0 := cell_later hk c0
    replace c1 := cell_later hk c1
    clear hb hk
    have zs0 := blk_lt s0
    have zs1 := blk_lt s1
    have zt2 := blk_lt t2
    have zt3 := blk_lt t3
    have zx0 := blk_lt x0
    have zx1 := blk_lt x1
    have zc0 := blk_lt c0
    have zc1 := blk_lt c1
    go_wp2_with fail
    refine (rin_any _ _ _ _ _).mono ?_
    rintro e wz ⟨rfl, hb⟩
    have hk : Below wm.heap.size wm wz := by first | exact hb | exact bl_tr (bl_al (bl0 _) _) hb | exact bl_tr (bl_dr (bl_al (bl0 _) _)) hb | exact bl_tr (bl_al (bl_al (bl0 _) _) _) hb | exact bl_tr (bl_dr (bl_al (bl_al (bl0 _) _) _)) hb | exact bl_tr (bl_al (bl_al (bl_al (bl0 _) _) _) _) hb | exact bl_tr (bl_dr (bl_al (bl_al (bl_al (bl0 _) _) _) _)) hb | exact bl_tr (bl_al (bl_al (bl_al (bl_al (bl0 _) _) _) _) _) hb | exact bl_tr (bl_dr (bl_al (bl_al (bl_al (bl_al (bl0 _) _) _) _) _)) hb | exact bl_tr (bl_al (bl_al (bl_al (bl_al (bl_al (bl0 _) _) _) _) _) _) hb | exact bl_tr (bl_dr (bl_al (bl_al (bl_al (bl_al (bl_al (bl0 _) _) _) _) _) _)) hb | exact bl_tr (bl_al (bl_al (bl_al (bl_al (bl_al (bl_al (bl0 _) _) _) _) _) _) _) hb | exact bl_tr (bl_dr (bl_al (bl_al (bl_al (bl_al (bl_al (bl_al (bl0 _) _) _) _) _) _) _)) hb | exact bl_tr (bl_dr (bl0 _)) hb
    replace hA := bl_tr hA hk
    replace s0 := cell_later hk s0
    replace s1 := cell_later hk s1
    replace x0 := cell_later hk x0
    replace x1 := cell_later hk x1
    replace c0 := cell_later hk c0
    replace c1 := cell_later hk c1
    clear hb hk
    have zs0 := blk_lt s0
    have zs1 := blk_lt s1
    have zx0 := blk_lt x0
    have zx1 := blk_lt x1
    have zc0 := blk_lt c0
    have zc1 := blk_lt c1
    have hk := bl0 wz
    go_wp2
    first
    | go_region_with (go_at_call 14; refine (rin_any _ _ _ _ _).mono ?_; rintro e y3 ⟨rfl, hb⟩; replace hk := bl_tr (bl_dr hk) hb; clear hb)
    | fail
    all_goals
      replace hA := bl_tr hA hk
      replace c0 := cell_later hk c0
      replace c1 := cell_later hk c1
      clear hk
      go_wp2_with fail
      refine (awake_any _ (hs.below (by first | exact hA | exact (bl_al hA _) | exact (bl_dr (bl_al hA _)) | exact (bl_al (bl_al hA _) _) | exact (bl_dr (bl_al (bl_al hA _) _)) | exact (bl_al (bl_al (bl_al hA _) _) _) | exact (bl_dr (bl_al (bl_al (bl_al hA _) _) _)) | exact (bl_al (bl_al (bl_al (bl_al hA _) _) _) _) | exact (bl_dr (bl_al (bl_al (bl_al (bl_al hA _) _) _) _)) | exact (bl_al (bl_al (bl_al (bl_al (bl_al hA _) _) _) _) _) | exact (bl_dr (bl_al (bl_al (bl_al (bl_al (bl_al hA _) _) _) _) _)) | exact (bl_al (bl_al (bl_al (bl_al (bl_al (bl_al hA _) _) _) _) _) _) | exact (bl_dr (bl_al (bl_al (bl_al (bl_al (bl_al (bl_al hA _) _) _) _) _) _)) | exact (bl_dr hA)))).mono ?_
      rintro e wx ⟨rfl, hb⟩
      have hk : Below y3.heap.size y3 wx := by first | exact hb | exact bl_tr (bl_al (bl0 _) _) hb | exact bl_tr (bl_dr (bl_al (bl0 _) _)) hb | exact bl_tr (bl_al (bl_al (bl0 _) _) _) hb | exact bl_tr (bl_dr (bl_al (bl_al (bl0 _) _) _)) hb | exact bl_tr (bl_al (bl_al (bl_al (bl0 _) _) _) _) hb | exact bl_tr (bl_dr (bl_al (bl_al (bl_al (bl0 _) _) _) _)) hb | exact bl_tr (bl_al (bl_al (bl_al (bl_al (bl0 _) _) _) _) _) hb | exact bl_tr (bl_dr (bl_al (bl_al (bl_al (bl_al (bl0 _) _) _) _) _)) hb | exact bl_tr (bl_al (bl_al (bl_al (bl_al (bl_al (bl0 _) _) _) _) _) _) hb | exact bl_tr (bl_dr (bl_al (bl_al (bl_al (bl_al (bl_al (bl0 _) _) _) _) _) _)) hb | exact bl_tr (bl_al (bl_al (bl_al (bl_al (bl_al (bl_al (bl0 _) _) _) _) _) _) _) hb | exact bl_tr (bl_dr (bl_al (bl_al (bl_al (bl_al (bl_al (bl_al (bl0 _) _) _) _) _) _) _)) hb | exact bl_tr (bl_dr (bl0 _)) hb
      replace hA := bl_tr hA hk
      clear hb hk
      go_wp2
      go_ret
      exact ⟨rfl, hA⟩
  · rcases dirI_cases (Z - X) (V - Y) with hD | hD0
    · have HD := Lib.hid hD
      clear hD
      have hA := bl0 w
      go_enter Tryd.func4, Tryd.ntmps4
      go_wp2_with fail
      refine (step_off _ _ _ _ _ _ h0 h4 hi).mono ?_
      rintro e w1 ⟨rfl, hb⟩
      have hk : Below w.heap.size w w1 := by first | exact hb | exact bl_tr (bl_al (bl0 _) _) hb | exact bl_tr (bl_dr (bl_al (bl0 _) _)) hb | exact bl_tr (bl_al (bl_al (bl0 _) _) _) hb | exact bl_tr (bl_dr (bl_al (bl_al (bl0 _) _) _)) hb | exact bl_tr (bl_al (bl_al (bl_al (bl0 _) _) _) _) hb | exact bl_tr (bl_dr (bl_al (bl_al (bl_al (bl0 _) _) _) _)) hb | exact bl_tr (bl_al (bl_al (bl_al (bl_al (bl0 _) _) _) _) _) hb | exact bl_tr (bl_dr (bl_al (bl_al (bl_al (bl_al (bl0 _) _) _) _) _)) hb | exact bl_tr (bl_al (bl_al (bl_al (bl_al (bl_al (bl0 _) _) _) _) _) _) hb | exact bl_tr (bl_dr (bl_al (bl_al (bl_al (bl_al (bl_al (bl0 _) _) _) _) _) _)) hb | exact bl_tr (bl_al (bl_al (bl_al (bl_al (bl_al (bl_al (bl0 _) _) _) _) _) _) _) hb | exact bl_tr (bl_dr (bl_al (bl_al (bl_al (bl_al (bl_al (bl_al (bl0 _) _) _) _) _) _) _)) hb | exact bl_tr (bl_dr (bl0 _)) hb
      replace hA := bl_tr hA hk
      have s0 := cell_later hb (v := .int .i64 W) (a := ⟨w.heap.size, 0, none⟩) (by simp [go_sem])
      have s1 := cell_later hb (v := .int .i64 H) (a := ⟨w.heap.size, 1, none⟩) (by simp [go_sem])
      have t2 := cell_later hb (v := .int .i64 Z) (a := ⟨w.heap.size + 1, 2, none⟩) (by simp [go_sem])
      have t3 := cell_later hb (v := .int .i64 V) (a := ⟨w.heap.size + 1, 3, none⟩) (by simp [go_sem])
      have x0 := cell_later hb (v := .int .i64 X) (a := ⟨w.heap.size + 1 + 1, 0, none⟩) (by simp [go_sem])
      have x1 := cell_later hb (v := .int .i64 Y) (a := ⟨w.heap.size + 1 + 1, 1, none⟩) (by simp [go_sem])
      clear hb hk
      have zs0 := blk_lt s0
      have zs1 := blk_lt s1
      have zt2 := blk_lt t2
      have zt3 := blk_lt t3
      have zx0 := blk_lt x0
      have zx1 := blk_lt x1
      go_wp2_with fail
      refine (beside_no _ _ _ _ _ hi).mono ?_
      rintro e wb ⟨rfl, hb⟩
      have hk : Below w1.heap.size w1 wb := by first | exact hb | exact bl_tr (bl_al (bl0 _) _) hb | exact bl_tr (bl_dr (bl_al (bl0 _) _)) hb | exact bl_tr (bl_al (bl_al (bl0 _) _) _) hb | exact bl_tr (bl_dr (bl_al (bl_al (bl0 _) _) _)) hb | exact bl_tr (bl_al (bl_al (bl_al (bl0 _) _) _) _) hb | exact bl_tr (bl_dr (bl_al (bl_al (bl_al (bl0 _) _) _) _)) hb | exact bl_tr (bl_al (bl_al (bl_al (bl_al (bl0 _) _) _) _) _) hb | exact bl_tr (bl_dr (bl_al (bl_al (bl_al (bl_al (bl0 _) _) _) _) _)) hb | exact bl_tr (bl_al (bl_al (bl_al (bl_al (bl_al (bl0 _) _) _) _) _) _) hb | exact bl_tr (bl_dr (bl_al (bl_al (bl_al (bl_al (bl_al (bl0 _) _) _) _) _) _)) hb | exact bl_tr (bl_al (bl_al (bl_al (bl_al (bl_al (bl_al (bl0 _) _) _) _) _) _) _) hb | exact bl_tr (bl_dr (bl_al (bl_al (bl_al (bl_al (bl_al (bl_al (bl0 _) _) _) _) _) _) _)) hb | exact bl_tr (bl_dr (bl0 _)) hb
      replace hA := bl_tr hA hk
      replace s0 := cell_later hk s0
      replace s1 := cell_later hk s1
      replace t2 := cell_later hk t2
      replace t3 := cell_later hk t3
      replace x0 := cell_later hk x0
      replace x1 := cell_later hk x1
      have c0 := cell_later hb (v := .int .i64 0) (a := ⟨w1.heap.size, 0, none⟩) (by simp [go_sem])
      have c1 := cell_later hb (v := .int .i64 0) (a := ⟨w1.heap.size, 1, none⟩) (by simp [go_sem])
      clear hb hk
      have zs0 := blk_lt s0
      have zs1 := blk_lt s1
      have zt2 := blk_lt t2
      have zt3 := blk_lt t3
      have zx0 := blk_lt x0
      have zx1 := blk_lt x1
      have zc0 := blk_lt c0
      have zc1 := blk_lt c1
      go_wp2_with fail
      refine (dir_none _ _ _ _ _ (hs.below (by first | exact hA | exact (bl_al hA _) | exact (bl_dr (bl_al hA _)) | exact (bl_al (bl_al hA _) _) | exact (bl_dr (bl_al (bl_al hA _) _)) | exact (bl_al (bl_al (bl_al hA _) _) _) | exact (bl_dr (bl_al (bl_al (bl_al hA _) _) _)) | exact (bl_al (bl_al (bl_al (bl_al hA _) _) _) _) | exact (bl_dr (bl_al (bl_al (bl_al (bl_al hA _) _) _) _)) | exact (bl_al (bl_al (bl_al (bl_al (bl_al hA _) _) _) _) _) | exact (bl_dr (bl_al (bl_al (bl_al (bl_al (bl_al hA _) _) _) _) _)) | exact (bl_al (bl_al (bl_al (bl_al (bl_al (bl_al hA _) _) _) _) _) _) | exact (bl_dr (bl_al (bl_al (bl_al (bl_al (bl_al (bl_al hA _) _) _) _) _) _)) | exact (bl_dr hA))) hp hp2 HD.out).mono ?_
      rintro e m1 ⟨rfl, hb⟩
      have hk : Below wb.heap.size wb m1 := by first | exact hb | exact bl_tr (bl_al (bl0 _) _) hb | exact bl_tr (bl_dr (bl_al (bl0 _) _)) hb | exact bl_tr (bl_al (bl_al (bl0 _) _) _) hb | exact bl_tr (bl_dr (bl_al (bl_al (bl0 _) _) _)) hb | exact bl_tr (bl_al (bl_al (bl_al (bl0 _) _) _) _) hb | exact bl_tr (bl_dr (bl_al (bl_al (bl_al (bl0 _) _) _) _)) hb | exact bl_tr (bl_al (bl_al (bl_al (bl_al (bl0 _) _) _) _) _) hb | exact bl_tr (bl_dr (bl_al (bl_al (bl_al (bl_al (bl0 _) _) _) _) _)) hb | exact bl_tr (bl_al (bl_al (bl_al (bl_al (bl_al (bl0 _) _) _) _) _) _) hb | exact bl_tr (bl_dr (bl_al (bl_al (bl_al (bl_al (bl_al (bl0 _) _) _) _) _) _)) hb | exact bl_tr (bl_al (bl_al (bl_al (bl_al (bl_al (bl_al (bl0 _) _) _) _) _) _) _) hb | exact bl_tr (bl_dr (bl_al (bl_al (bl_al (bl_al (bl_al (bl_al (bl0 _) _) _) _) _) _) _)) hb | exact bl_tr (bl_dr (bl0 _)) hb
      replace hA := bl_tr hA hk
      replace s0 := cell_later hk s0
      replace s1 := cell_later hk s1
      replace t2 := cell_later hk t2
      replace t3 := cell_later hk t3
      replace x0 := cell_later hk x0
      replace x1 := cell_later hk x1
      replace c0 := cell_later hk c0
      replace c1 := cell_later hk c1
      clear hb hk
      have zs0 := blk_lt s0
      have zs1 := blk_lt s1
      have zt2 := blk_lt t2
      have zt3 := blk_lt t3
      have zx0 := blk_lt x0
      have zx1 := blk_lt x1
      have zc0 := blk_lt c0
      have zc1 := blk_lt c1
      go_wp2_with fail
      refine (rplain_any _ _ _).mono ?_
      rintro e m2 ⟨rfl, hb⟩
      have hk : Below m1.heap.size m1 m2 := by first | exact hb | exact bl_tr (bl_al (bl0 _) _) hb | exact bl_tr (bl_dr (bl_al (bl0 _) _)) hb | exact bl_tr (bl_al (bl_al (bl0 _) _) _) hb | exact bl_tr (bl_dr (bl_al (bl_al (bl0 _) _) _)) hb | exact bl_tr (bl_al (bl_al (bl_al (bl0 _) _) _) _) hb | exact bl_tr (bl_dr (bl_al (bl_al (bl_al (bl0 _) _) _) _)) hb | exact bl_tr (bl_al (bl_al (bl_al (bl_al (bl0 _) _) _) _) _) hb | exact bl_tr (bl_dr (bl_al (bl_al (bl_al (bl_al (bl0 _) _) _) _) _)) hb | exact bl_tr (bl_al (bl_al (bl_al (bl_al (bl_al (bl0 _) _) _) _) _) _) hb | exact bl_tr (bl_dr (bl_al (bl_al (bl_al (bl_al (bl_al (bl0 _) _) _) _) _) _)) hb | exact bl_tr (bl_al (bl_al (bl_al (bl_al (bl_al (bl_al (bl0 _) _) _) _) _) _) _) hb | exact bl_tr (bl_dr (bl_al (bl_al (bl_al (bl_al (bl_al (bl_al (bl0 _) _) _) _) _) _) _)) hb | exact bl_tr (bl_dr (bl0 _)) hb
      replace hA := bl_tr hA hk
      replace s0 := cell_later hk s0
      replace s1 := cell_later hk s1
      replace t2 := cell_later hk t2
      replace t3 := cell_later hk t3
      replace x0 := cell_later hk x0
      replace x1 := cell_later hk x1
      replace c0 := cell_later hk c0
      replace c1 := cell_later hk c1
      clear hb hk
      have zs0 := blk_lt s0
      have zs1 := blk_lt s1
      have zt2 := blk_lt t2
      have zt3 := blk_lt t3
      have zx0 := blk_lt x0
      have zx1 := blk_lt x1
      have zc0 := blk_lt c0
      have zc1 := blk_lt c1
      go_wp2_with fail
      refine (rplain_any _ _ _).mono ?_
      rintro e m3 ⟨rfl, hb⟩
      have hk : Below m2.heap.size m2 m3 := by first | exact hb | exact bl_tr (bl_al (bl0 _) _) hb | exact bl_tr (bl_dr (bl_al (bl0 _) _)) hb | exact bl_tr (bl_al (bl_al (bl0 _) _) _) hb | exact bl_tr (bl_dr (bl_al (bl_al (bl0 _) _) _)) hb | exact bl_tr (bl_al (bl_al (bl_al (bl0 _) _) _) _) hb | exact bl_tr (bl_dr (bl_al (bl_al (bl_al (bl0 _) _) _) _)) hb | exact bl_tr (bl_al (bl_al (bl_al (bl_al (bl0 _) _) _) _) _) hb | exact bl_tr (bl_dr (bl_al (bl_al (bl_al (bl_al (bl0 _) _) _) _) _)) hb | exact bl_tr (bl_al (bl_al (bl_al (bl_al (bl_al (bl0 _) _) _) _) _) _) hb | exact bl_tr (bl_dr (bl_al (bl_al (bl_al (bl_al (bl_al (bl0 _) _) _) _) _) _)) hb | exact bl_tr (bl_al (bl_al (bl_al (bl_al (bl_al (bl_al (bl0 _) _) _) _) _) _) _) hb | exact bl_tr (bl_dr (bl_al (bl_al (bl_al (bl_al (bl_al (bl_al (bl0 _) _) _) _) _) _) _)) hb | exact bl_tr (bl_dr (bl0 _)) hb
      replace hA := bl_tr hA hk
      replace s0 := cell_later hk s0
      replace s1 := cell_later hk s1
      replace t2 := cell_later hk t2
      replace t3 := cell_later hk t3
      replace x0 := cell_later hk x0
      replace x1 := cell_later hk x1
      replace c0 := cell_later hk c0
      replace c1 := cell_later hk c1
      clear hb hk
      have zs0 := blk_lt s0
      have zs1 := blk_lt s1
      have zt2 := blk_lt t2
      have zt3 := blk_lt t3
      have zx0 := blk_lt x0
      have zx1 := blk_lt x1
      have zc0 := blk_lt c0
      have zc1 := blk_lt c1
      go_wp2_with fail
      refine (rdir_is _ _ _ _ _ _ hp HD.out).mono ?_
      rintro e wm ⟨rfl, hb⟩
      have hk : Below m3.heap.size m3 wm := by first | exact hb | exact bl_tr (bl_al (bl0 _) _) hb | exact bl_tr (bl_dr (bl_al (bl0 _) _)) hb | exact bl_tr (bl_al (bl_al (bl0 _) _) _) hb | exact bl_tr (bl_dr (bl_al (bl_al (bl0 _) _) _)) hb | exact bl_tr (bl_al (bl_al (bl_al (bl0 _) _) _) _) hb | exact bl_tr (bl_dr (bl_al (bl_al (bl_al (bl0 _) _) _) _)) hb | exact bl_tr (bl_al (bl_al (bl_al (bl_al (bl0 _) _) _) _) _) hb | exact bl_tr (bl_dr (bl_al (bl_al (bl_al (bl_al (bl0 _) _) _) _) _)) hb | exact bl_tr (bl_al (bl_al (bl_al (bl_al (bl_al (bl0 _) _) _) _) _) _) hb | exact bl_tr (bl_dr (bl_al (bl_al (bl_al (bl_al (bl_al (bl0 _) _) _) _) _) _)) hb | exact bl_tr (bl_al (bl_al (bl_al (bl_al (bl_al (bl_al (bl0 _) _) _) _) _) _) _) hb | exact bl_tr (bl_dr (bl_al (bl_al (bl_al (bl_al (bl_al (bl_al (bl0 _) _) _) _) _) _) _)) hb | exact bl_tr (bl_dr (bl0 _)) hb
      replace hA := bl_tr hA hk
      replace s0 := cell_later hk s0
      replace s1 := cell_later hk s1
      replace t2 := cell_later hk t2
      replace t3 := cell_later hk t3
      replace x0 := cell_later hk x0
      replace x1 := cell_later hk x1
      replace c0 := cell_later hk c0
      replace c1 := cell_later hk c1
      clear hb hk
      have zs0 := blk_lt s0
      have zs1 := blk_lt s1
      have zt2 := blk_lt t2
      have zt3 := blk_lt t3
      have zx0 := blk_lt x0
      have zx1 := blk_lt x1
      have zc0 := blk_lt c0
      have zc1 := blk_lt c1
      go_wp2_with fail
      refine (rin_any _ _ _ _ _).mono ?_
      rintro e wz ⟨rfl, hb⟩
      have hk : Below wm.heap.size wm wz := by first | exact hb | exact bl_tr (bl_al (bl0 _) _) hb | exact bl_tr (bl_dr (bl_al (bl0 _) _)) hb | exact bl_tr (bl_al (bl_al (bl0 _) _) _) hb | exact bl_tr (bl_dr (bl_al (bl_al (bl0 _) _) _)) hb | exact bl_tr (bl_al (bl_al (bl_al (bl0 _) _) _) _) hb | exact bl_tr (bl_dr (bl_al (bl_al (bl_al (bl0 _) _) _) _)) hb | exact bl_tr (bl_al (bl_al (bl_al (bl_al (bl0 _) _) _) _) _) hb | exact bl_tr (bl_dr (bl_al (bl_al (bl_al (bl_al (bl0 _) _) _) _) _)) hb | exact bl_tr (bl_al (bl_al (bl_al (bl_al (bl_al (bl0 _) _) _) _) _) _) hb | exact bl_tr (bl_dr (bl_al (bl_al (bl_al (bl_al (bl_al (bl0 _) _) _) _) _) _)) hb | exact bl_tr (bl_al (bl_al (bl_al (bl_al (bl_al (bl_al (bl0 _) _) _) _) _) _) _) hb | exact bl_tr (bl_dr (bl_al (bl_al (bl_al (bl_al (bl_al (bl_al (bl0 _) _) _) _) _) _) _)) hb | exact bl_tr (bl_dr (bl0 _)) hb
      replace hA := bl_tr hA hk
      replace s0 := cell_later hk s0
      replace s1 := cell_later hk s1
      replace x0 := cell_later hk x0
      replace x1 := cell_later hk x1
      replace c0 := cell_later hk c0
      replace c1 := cell_later hk c1
      clear hb hk
      have zs0 := blk_lt s0
      have zs1 := blk_lt s1
      have zx0 := blk_lt x0
      have zx1 := blk_lt x1
      have zc0 := blk_lt c0
      have zc1 := blk_lt c1
      have hk := bl0 wz
      go_wp2
      first
      | go_region_with (go_at_call 14; refine (rin_any _ _ _ _ _).mono ?_; rintro e y3 ⟨rfl, hb⟩; replace hk := bl_tr (bl_dr hk) hb; clear hb)
      | fail
      all_goals
        replace hA := bl_tr hA hk
        replace c0 := cell_later hk c0
        replace c1 := cell_later hk c1
        clear hk
        go_wp2_with fail
        refine (awake_any _ (hs.below (by first | exact hA | exact (bl_al hA _) | exact (bl_dr (bl_al hA _)) | exact (bl_al (bl_al hA _) _) | exact (bl_dr (bl_al (bl_al hA _) _)) | exact (bl_al (bl_al (bl_al hA _) _) _) | exact (bl_dr (bl_al (bl_al (bl_al hA _) _) _)) | exact (bl_al (bl_al (bl_al (bl_al hA _) _) _) _) | exact (bl_dr (bl_al (bl_al (bl_al (bl_al hA _) _) _) _)) | exact (bl_al (bl_al (bl_al (bl_al (bl_al hA _) _) _) _) _) | exact (bl_dr (bl_al (bl_al (bl_al (bl_al (bl_al hA _) _) _) _) _)) | exact (bl_al (bl_al (bl_al (bl_al (bl_al (bl_al hA _) _) _) _) _) _) | exact (bl_dr (bl_al (bl_al (bl_al (bl_al (bl_al (bl_al hA _) _) _) _) _) _)) | exact (bl_dr hA)))).mono ?_
        rintro e wx ⟨rfl, hb⟩
        have hk : Below y3.heap.size y3 wx := by first | exact hb | exact bl_tr (bl_al (bl0 _) _) hb | exact bl_tr (bl_dr (bl_al (bl0 _) _)) hb | exact bl_tr (bl_al (bl_al (bl0 _) _) _) hb | exact bl_tr (bl_dr (bl_al (bl_al (bl0 _) _) _)) hb | exact bl_tr (bl_al (bl_al (bl_al (bl0 _) _) _) _) hb | exact bl_tr (bl_dr (bl_al (bl_al (bl_al (bl0 _) _) _) _)) hb | exact bl_tr (bl_al (bl_al (bl_al (bl_al (bl0 _) _) _) _) _) hb | exact bl_tr (bl_dr (bl_al (bl_al (bl_al (bl_al (bl0 _) _) _) _) _)) hb | exact bl_tr (bl_al (bl_al (bl_al (bl_al (bl_al (bl0 _) _) _) _) _) _) hb | exact bl_tr (bl_dr (bl_al (bl_al (bl_al (bl_al (bl_al (bl0 _) _) _) _) _) _)) hb | exact bl_tr (bl_al (bl_al (bl_al (bl_al (bl_al (bl_al (bl0 _) _) _) _) _) _) _) hb | exact bl_tr (bl_dr (bl_al (bl_al (bl_al (bl_al (bl_al (bl_al (bl0 _) _) _) _) _) _) _)) hb | exact bl_tr (bl_dr (bl0 _)) hb
        replace hA := bl_tr hA hk
        clear hb hk
        go_wp2
        go_ret
        exact ⟨rfl, hA⟩
    · obtain ⟨Di, hD⟩ : ∃ Di, dirI (Z - X) (V - Y) = Di := ⟨_, rfl⟩
      rw [hD] at hD0
      have HD := Lib.hid hD
      clear hD
      have hA := bl0 w
      go_enter Tryd.func4, Tryd.ntmps4
      go_wp2_with fail
      refine (step_off _ _ _ _ _ _ h0 h4 hi).mono ?_
      rintro e w1 ⟨rfl, hb⟩
      have hk : Below w.heap.size w w1 := by first | exact hb | exact bl_tr (bl_al (bl0 _) _) hb | exact bl_tr (bl_dr (bl_al (bl0 _) _)) hb | exact bl_tr (bl_al (bl_al (bl0 _) _) _) hb | exact bl_tr (bl_dr (bl_al (bl_al (bl0 _) _) _)) hb | exact bl_tr (bl_al (bl_al (bl_al (bl0 _) _) _) _) hb | exact bl_tr (bl_dr (bl_al (bl_al (bl_al (bl0 _) _) _) _)) hb | exact bl_tr (bl_al (bl_al (bl_al (bl_al (bl0 _) _) _) _) _) hb | exact bl_tr (bl_dr (bl_al (bl_al (bl_al (bl_al (bl0 _) _) _) _) _)) hb | exact bl_tr (bl_al (bl_al (bl_al (bl_al (bl_al (bl0 _) _) _) _) _) _) hb | exact bl_tr (bl_dr (bl_al (bl_al (bl_al (bl_al (bl_al (bl0 _) _) _) _) _) _)) hb | exact bl_tr (bl_al (bl_al (bl_al (bl_al (bl_al (bl_al (bl0 _) _) _) _) _) _) _) hb | exact bl_tr (bl_dr (bl_al (bl_al (bl_al (bl_al (bl_al (bl_al (bl0 _) _) _) _) _) _) _)) hb | exact bl_tr (bl_dr (bl0 _)) hb
      replace hA := bl_tr hA hk
      have s0 := cell_later hb (v := .int .i64 W) (a := ⟨w.heap.size, 0, none⟩) (by simp [go_sem])
      have s1 := cell_later hb (v := .int .i64 H) (a := ⟨w.heap.size, 1, none⟩) (by simp [go_sem])
      have t2 := cell_later hb (v := .int .i64 Z) (a := ⟨w.heap.size + 1, 2, none⟩) (by simp [go_sem])
      have t3 := cell_later hb (v := .int .i64 V) (a := ⟨w.heap.size + 1, 3, none⟩) (by simp [go_sem])
      have x0 := cell_later hb (v := .int .i64 X) (a := ⟨w.heap.size + 1 + 1, 0, none⟩) (by simp [go_sem])
      have x1 := cell_later hb (v := .int .i64 Y) (a := ⟨w.heap.size + 1 + 1, 1, none⟩) (by simp [go_sem])
      clear hb hk
      have zs0 := blk_lt s0
      have zs1 := blk_lt s1
      have zt2 := blk_lt t2
      have zt3 := blk_lt t3
      have zx0 := blk_lt x0
      have zx1 := blk_lt x1
      go_wp2_with fail
      refine (beside_no _ _ _ _ _ hi).mono ?_
      rintro e wb ⟨rfl, hb⟩
      have hk : Below w1.heap.size w1 wb := by first | exact hb | exact bl_tr (bl_al (bl0 _) _) hb | exact bl_tr (bl_dr (bl_al (bl0 _) _)) hb | exact bl_tr (bl_al (bl_al (bl0 _) _) _) hb | exact bl_tr (bl_dr (bl_al (bl_al (bl0 _) _) _)) hb | exact bl_tr (bl_al (bl_al (bl_al (bl0 _) _) _) _) hb | exact bl_tr (bl_dr (bl_al (bl_al (bl_al (bl0 _) _) _) _)) hb | exact bl_tr (bl_al (bl_al (bl_al (bl_al (bl0 _) _) _) _) _) hb | exact bl_tr (bl_dr (bl_al (bl_al (bl_al (bl_al (bl0 _) _) _) _) _)) hb | exact bl_tr (bl_al (bl_al (bl_al (bl_al (bl_al (bl0 _) _) _) _) _) _) hb | exact bl_tr (bl_dr (bl_al (bl_al (bl_al (bl_al (bl_al (bl0 _) _) _) _) _) _)) hb | exact bl_tr (bl_al (bl_al (bl_al (bl_al (bl_al (bl_al (bl0 _) _) _) _) _) _) _) hb | exact bl_tr (bl_dr (bl_al (bl_al (bl_al (bl_al (bl_al (bl_al (bl0 _) _) _) _) _) _) _)) hb | exact bl_tr (bl_dr (bl0 _)) hb
      replace hA := bl_tr hA hk
      replace s0 := cell_later hk s0
      replace s1 := cell_later hk s1
      replace t2 := cell_later hk t2
      replace t3 := cell_later hk t3
      replace x0 := cell_later hk x0
      replace x1 := cell_later hk x1
      have c0 := cell_later hb (v := .int .i64 0) (a := ⟨w1.heap.size, 0, none⟩) (by simp [go_sem])
      have c1 := cell_later hb (v := .int .i64 0) (a := ⟨w1.heap.size, 1, none⟩) (by simp [go_sem])
      clear hb hk
      have zs0 := blk_lt s0
      have zs1 := blk_lt s1
      have zt2 := blk_lt t2
      have zt3 := blk_lt t3
      have zx0 := blk_lt x0
      have zx1 := blk_lt x1
      have zc0 := blk_lt c0
      have zc1 := blk_lt c1
      go_wp2_with fail
      refine (dir_found _ _ _ _ _ _ (hs.below (by first | exact hA | exact (bl_al hA _) | exact (bl_dr (bl_al hA _)) | exact (bl_al (bl_al hA _) _) | exact (bl_dr (bl_al (bl_al hA _) _)) | exact (bl_al (bl_al (bl_al hA _) _) _) | exact (bl_dr (bl_al (bl_al (bl_al hA _) _) _)) | exact (bl_al (bl_al (bl_al (bl_al hA _) _) _) _) | exact (bl_dr (bl_al (bl_al (bl_al (bl_al hA _) _) _) _)) | exact (bl_al (bl_al (bl_al (bl_al (bl_al hA _) _) _) _) _) | exact (bl_dr (bl_al (bl_al (bl_al (bl_al (bl_al hA _) _) _) _) _)) | exact (bl_al (bl_al (bl_al (bl_al (bl_al (bl_al hA _) _) _) _) _) _) | exact (bl_dr (bl_al (bl_al (bl_al (bl_al (bl_al (bl_al hA _) _) _) _) _) _)) | exact (bl_dr hA))) hp hp2 HD.out hD0).mono ?_
      rintro e m1 ⟨rfl, hb⟩
      have hk : Below wb.heap.size wb m1 := by first | exact hb | exact bl_tr (bl_al (bl0 _) _) hb | exact bl_tr (bl_dr (bl_al (bl0 _) _)) hb | exact bl_tr (bl_al (bl_al (bl0 _) _) _) hb | exact bl_tr (bl_dr (bl_al (bl_al (bl0 _) _) _)) hb | exact bl_tr (bl_al (bl_al (bl_al (bl0 _) _) _) _) hb | exact bl_tr (bl_dr (bl_al (bl_al (bl_al (bl0 _) _) _) _)) hb | exact bl_tr (bl_al (bl_al (bl_al (bl_al (bl0 _) _) _) _) _) hb | exact bl_tr (bl_dr (bl_al (bl_al (bl_al (bl_al (bl0 _) _) _) _) _)) hb | exact bl_tr (bl_al (bl_al (bl_al (bl_al (bl_al (bl0 _) _) _) _) _) _) hb | exact bl_tr (bl_dr (bl_al (bl_al (bl_al (bl_al (bl_al (bl0 _) _) _) _) _) _)) hb | exact bl_tr (bl_al (bl_al (bl_al (bl_al (bl_al (bl_al (bl0 _) _) _) _) _) _) _) hb | exact bl_tr (bl_dr (bl_al (bl_al (bl_al (bl_al (bl_al (bl_al (bl0 _) _) _) _) _) _) _)) hb | exact bl_tr (bl_dr (bl0 _)) hb
      replace hA := bl_tr hA hk
      replace s0 := cell_later hk s0
      replace s1 := cell_later hk s1
      replace t2 := cell_later hk t2
      replace t3 := cell_later hk t3
      replace x0 := cell_later hk x0
      replace x1 := cell_later hk x1
      replace c0 := cell_later hk c0
      replace c1 := cell_later hk c1
      clear hb hk
      have zs0 := blk_lt s0
      have zs1 := blk_lt s1
      have zt2 := blk_lt t2
      have zt3 := blk_lt t3
      have zx0 := blk_lt x0
      have zx1 := blk_lt x1
      have zc0 := blk_lt c0
      have zc1 := blk_lt c1
      go_wp2_with fail
      refine (rplain_any _ _ _).mono ?_
      rintro e m2 ⟨rfl, hb⟩
      have hk : Below m1.heap.size m1 m2 := by first | exact hb | exact bl_tr (bl_al (bl0 _) _) hb | exact bl_tr (bl_dr (bl_al (bl0 _) _)) hb | exact bl_tr (bl_al (bl_al (bl0 _) _) _) hb | exact bl_tr (bl_dr (bl_al (bl_al (bl0 _) _) _)) hb | exact bl_tr (bl_al (bl_al (bl_al (bl0 _) _) _) _) hb | exact bl_tr (bl_dr (bl_al (bl_al (bl_al (bl0 _) _) _) _)) hb | exact bl_tr (bl_al (bl_al (bl_al (bl_al (bl0 _) _) _) _) _) hb | exact bl_tr (bl_dr (bl_al (bl_al (bl_al (bl_al (bl0 _) _) _) _) _)) hb | exact bl_tr (bl_al (bl_al (bl_al (bl_al (bl_al (bl0 _) _) _) _) _) _) hb | exact bl_tr (bl_dr (bl_al (bl_al (bl_al (bl_al (bl_al (bl0 _) _) _) _) _) _)) hb | exact bl_tr (bl_al (bl_al (bl_al (bl_al (bl_al (bl_al (bl0 _) _) _) _) _) _) _) hb | exact bl_tr (bl_dr (bl_al (bl_al (bl_al (bl_al (bl_al (bl_al (bl0 _) _) _) _) _) _) _)) hb | exact bl_tr (bl_dr (bl0 _)) hb
      replace hA := bl_tr hA hk
      replace s0 := cell_later hk s0
      replace s1 := cell_later hk s1
      replace t2 := cell_later hk t2
      replace t3 := cell_later hk t3
      replace x0 := cell_later hk x0
      replace x1 := cell_later hk x1
      replace c0 := cell_later hk c0
      replace c1 := cell_later hk c1
      clear hb hk
      have zs0 := blk_lt s0
      have zs1 := blk_lt s1
      have zt2 := blk_lt t2
      have zt3 := blk_lt t3
      have zx0 := blk_lt x0
      have zx1 := blk_lt x1
      have zc0 := blk_lt c0
      have zc1 := blk_lt c1
      go_wp2_with fail
      refine (rplain_any _ _ _).mono ?_
      rintro e m3 ⟨rfl, hb⟩
      have hk : Below m2.heap.size m2 m3 := by first | exact hb | exact bl_tr (bl_al (bl0 _) _) hb | exact bl_tr (bl_dr (bl_al (bl0 _) _)) hb | exact bl_tr (bl_al (bl_al (bl0 _) _) _) hb | exact bl_tr (bl_dr (bl_al (bl_al (bl0 _) _) _)) hb | exact bl_tr (bl_al (bl_al (bl_al (bl0 _) _) _) _) hb | exact bl_tr (bl_dr (bl_al (bl_al (bl_al (bl0 _) _) _) _)) hb | exact bl_tr (bl_al (bl_al (bl_al (bl_al (bl0 _) _) _) _) _) hb | exact bl_tr (bl_dr (bl_al (bl_al (bl_al (bl_al (bl0 _) _) _) _) _)) hb | exact bl_tr (bl_al (bl_al (bl_al (bl_al (bl_al (bl0 _) _) _) _) _) _) hb | exact bl_tr (bl_dr (bl_al (bl_al (bl_al (bl_al (bl_al (bl0 _) _) _) _) _) _)) hb | exact bl_tr (bl_al (bl_al (bl_al (bl_al (bl_al (bl_al (bl0 _) _) _) _) _) _) _) hb | exact bl_tr (bl_dr (bl_al (bl_al (bl_al (bl_al (bl_al (bl_al (bl0 _) _) _) _) _) _) _)) hb | exact bl_tr (bl_dr (bl0 _)) hb
      replace hA := bl_tr hA hk
      replace s0 := cell_later hk s0
      replace s1 := cell_later hk s1
      replace t2 := cell_later hk t2
      replace t3 := cell_later hk t3
      replace x0 := cell_later hk x0
      replace x1 := cell_later hk x1
      replace c0 := cell_later hk c0
      replace c1 := cell_later hk c1
      clear hb hk
      have zs0 := blk_lt s0
      have zs1 := blk_lt s1
      have zt2 := blk_lt t2
      have zt3 := blk_lt t3
      have zx0 := blk_lt x0
      have zx1 := blk_lt x1
      have zc0 := blk_lt c0
      have zc1 := blk_lt c1
      go_wp2_with fail
      refine (rdir_is _ _ _ _ _ _ hp HD.out).mono ?_
      rintro e wm ⟨rfl, hb⟩
      have hk : Below m3.heap.size m3 wm := by first | exact hb | exact bl_tr (bl_al (bl0 _) _) hb | exact bl_tr (bl_dr (bl_al (bl0 _) _)) hb | exact bl_tr (bl_al (bl_al (bl0 _) _) _) hb | exact bl_tr (bl_dr (bl_al (bl_al (bl0 _) _) _)) hb | exact bl_tr (bl_al (bl_al (bl_al (bl0 _) _) _) _) hb | exact bl_tr (bl_dr (bl_al (bl_al (bl_al (bl0 _) _) _) _)) hb | exact bl_tr (bl_al (bl_al (bl_al (bl_al (bl0 _) _) _) _) _) hb | exact bl_tr (bl_dr (bl_al (bl_al (bl_al (bl_al (bl0 _) _) _) _) _)) hb | exact bl_tr (bl_al (bl_al (bl_al (bl_al (bl_al (bl0 _) _) _) _) _) _) hb | exact bl_tr (bl_dr (bl_al (bl_al (bl_al (bl_al (bl_al (bl0 _) _) _) _) _) _)) hb | exact bl_tr (bl_al (bl_al (bl_al (bl_al (bl_al (bl_al (bl0 _) _) _) _) _) _) _) hb | exact bl_tr (bl_dr (bl_al (bl_al (bl_al (bl_al (bl_al (bl_al (bl0 _) _) _) _) _) _) _)) hb | exact bl_tr (bl_dr (bl0 _)) hb
      replace hA := bl_tr hA hk
      replace s0 := cell_later hk s0
      replace s1 := cell_later hk s1
      replace t2 := cell_later hk t2
      replace t3 := cell_later hk t3
      replace x0 := cell_later hk x0
      replace x1 := cell_later hk x1
      replace c0 := cell_later hk c0
      replace c1 := cell_later hk c1
      clear hb hk
      have zs0 := blk_lt s0
      have zs1 := blk_lt s1
      have zt2 := blk_lt t2
      have zt3 := blk_lt t3
      have zx0 := blk_lt x0
      have zx1 := blk_lt x1
      have zc0 := blk_lt c0
      have zc1 := blk_lt c1
      go_wp2_with fail
      refine (rin_any _ _ _ _ _).mono ?_
      rintro e wz ⟨rfl, hb⟩
      have hk : Below wm.heap.size wm wz := by first | exact hb | exact bl_tr (bl_al (bl0 _) _) hb | exact bl_tr (bl_dr (bl_al (bl0 _) _)) hb | exact bl_tr (bl_al (bl_al (bl0 _) _) _) hb | exact bl_tr (bl_dr (bl_al (bl_al (bl0 _) _) _)) hb | exact bl_tr (bl_al (bl_al (bl_al (bl0 _) _) _) _) hb | exact bl_tr (bl_dr (bl_al (bl_al (bl_al (bl0 _) _) _) _)) hb | exact bl_tr (bl_al (bl_al (bl_al (bl_al (bl0 _) _) _) _) _) hb | exact bl_tr (bl_dr (bl_al (bl_al (bl_al (bl_al (bl0 _) _) _) _) _)) hb | exact bl_tr (bl_al (bl_al (bl_al (bl_al (bl_al (bl0 _) _) _) _) _) _) hb | exact bl_tr (bl_dr (bl_al (bl_al (bl_al (bl_al (bl_al (bl0 _) _) _) _) _) _)) hb | exact bl_tr (bl_al (bl_al (bl_al (bl_al (bl_al (bl_al (bl0 _) _) _) _) _) _) _) hb | exact bl_tr (bl_dr (bl_al (bl_al (bl_al (bl_al (bl_al (bl_al (bl0 _) _) _) _) _) _) _)) hb | exact bl_tr (bl_dr (bl0 _)) hb
      replace hA := bl_tr hA hk
      replace s0 := cell_later hk s0
      replace s1 := cell_later hk s1
      replace x0 := cell_later hk x0
      replace x1 := cell_later hk x1
      replace c0 := cell_later hk c0
      replace c1 := cell_later hk c1
      clear hb hk
      have zs0 := blk_lt s0
      have zs1 := blk_lt s1
      have zx0 := blk_lt x0
      have zx1 := blk_lt x1
      have zc0 := blk_lt c0
      have zc1 := blk_lt c1
      have hk := bl0 wz
      go_wp2
      first
      | go_region_with (go_at_call 14; refine (rin_any _ _ _ _ _).mono ?_; rintro e y3 ⟨rfl, hb⟩; replace hk := bl_tr (bl_dr hk) hb; clear hb)
      | fail
      all_goals
        replace hA := bl_tr hA hk
        replace c0 := cell_later hk c0
        replace c1 := cell_later hk c1
        clear hk
        go_wp2_with fail
        refine (awake_any _ (hs.below (by first | exact hA | exact (bl_al hA _) | exact (bl_dr (bl_al hA _)) | exact (bl_al (bl_al hA _) _) | exact (bl_dr (bl_al (bl_al hA _) _)) | exact (bl_al (bl_al (bl_al hA _) _) _) | exact (bl_dr (bl_al (bl_al (bl_al hA _) _) _)) | exact (bl_al (bl_al (bl_al (bl_al hA _) _) _) _) | exact (bl_dr (bl_al (bl_al (bl_al (bl_al hA _) _) _) _)) | exact (bl_al (bl_al (bl_al (bl_al (bl_al hA _) _) _) _) _) | exact (bl_dr (bl_al (bl_al (bl_al (bl_al (bl_al hA _) _) _) _) _)) | exact (bl_al (bl_al (bl_al (bl_al (bl_al (bl_al hA _) _) _) _) _) _) | exact (bl_dr (bl_al (bl_al (bl_al (bl_al (bl_al (bl_al hA _) _) _) _) _) _)) | exact (bl_dr hA)))).mono ?_
        rintro e wx ⟨rfl, hb⟩
        have hk : Below y3.heap.size y3 wx := by first | exact hb | exact bl_tr (bl_al (bl0 _) _) hb | exact bl_tr (bl_dr (bl_al (bl0 _) _)) hb | exact bl_tr (bl_al (bl_al (bl0 _) _) _) hb | exact bl_tr (bl_dr (bl_al (bl_al (bl0 _) _) _)) hb | exact bl_tr (bl_al (bl_al (bl_al (bl0 _) _) _) _) hb | exact bl_tr (bl_dr (bl_al (bl_al (bl_al (bl0 _) _) _) _)) hb | exact bl_tr (bl_al (bl_al (bl_al (bl_al (bl0 _) _) _) _) _) hb | exact bl_tr (bl_dr (bl_al (bl_al (bl_al (bl_al (bl0 _) _) _) _) _)) hb | exact bl_tr (bl_al (bl_al (bl_al (bl_al (bl_al (bl0 _) _) _) _) _) _) hb | exact bl_tr (bl_dr (bl_al (bl_al (bl_al (bl_al (bl_al (bl0 _) _) _) _) _) _)) hb | exact bl_tr (bl_al (bl_al (bl_al (bl_al (bl_al (bl_al (bl0 _) _) _) _) _) _) _) hb | exact bl_tr (bl_dr (bl_al (bl_al (bl_al (bl_al (bl_al (bl_al (bl0 _) _) _) _) _) _) _)) hb | exact bl_tr (bl_dr (bl0 _)) hb
        replace hA := bl_tr hA hk
        clear hb hk
        go_wp2
        go_ret
        exact ⟨rfl, hA⟩

theorem lsteps_any (W H X Y Z V d : Int) (w : World) (hs : Stp w) :
    Calls Tryd.prog 4 #[.agg #[.int .i64 W, .int .i64 H], .agg #[.int .i64 X, .int .i64 Y, .int .i64 Z, .int .i64 V], .int .i64 d] w fun e w' => e = .returned (.bool true) ∧ Below w.heap.size w w' := by
  cases hi : inB W H X Y
  · by_cases hd : d < 0 ∨ 4 ≤ d
    · exact steps_off_arg W H X Y Z V d w hs hi hd (by omega)
    · exact steps_off W H X Y Z V d w hs hi (by omega) (by omega)
  · by_cases hd : d < 0 ∨ 4 ≤ d
    · exact steps_in_arg W H X Y Z V d w hs hi hd (by omega)
    · cases hj : inB W H (X + dxI d) (Y + dyI d)
      · exact steps_in_out W H X Y Z V d _ _ w hs hi (by omega) (by omega) rfl rfl hj
      · exact steps_in_yes W H X Y Z V d _ _ w hs hi (by omega) (by omega) rfl rfl hj
end Go.Proofs.YtdacoeehhpnkbaaDoor
