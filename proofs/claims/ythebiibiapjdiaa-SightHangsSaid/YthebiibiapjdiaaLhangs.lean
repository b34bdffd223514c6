/- SightHangs: the law's walk. -/
import Derived.Test.YthebiibiapjdiaaQ4
namespace Go.Proofs.Ythebiibiapjdiaa
open Go.RowKit

set_option maxRecDepth 100000 in
set_option maxHeartbeats 4000000 in
theorem hangs_out1 (A B U V r : Int) (a a2 a3 : Option Addr) (n c n2 c2 c3 : Nat) (zs : List (Int × Int)) (w : World) (h1 : smallB A B n = false) :
    Calls Try.prog 4 #[.agg #[.int .i64 A, .int .i64 B, .slice a n c], .agg #[.int .i64 U, .int .i64 V, .slice a2 n2 c2], .agg #[.slice a3 zs.length c3, .int .i64 r]] w fun e w' => e = .returned (.bool true) ∧ Below w.heap.size w w' := by
  have hA := bl0 w
  have H1 := Lib.hid h1
  clear h1
  go_enter Try.func4, Try.ntmps4
  go_wp2_with fail
  refine (small_any _ _ _ _ _ _).mono ?_
  rintro e w1 ⟨rfl, hb⟩
  have hk : Below w.heap.size w w1 := by first | exact hb | exact bl_tr (bl_al (bl0 _) _) hb | exact bl_tr (bl_dr (bl_al (bl0 _) _)) hb | exact bl_tr (bl_al (bl_al (bl0 _) _) _) hb | exact bl_tr (bl_dr (bl_al (bl_al (bl0 _) _) _)) hb | exact bl_tr (bl_al (bl_al (bl_al (bl0 _) _) _) _) hb | exact bl_tr (bl_dr (bl_al (bl_al (bl_al (bl0 _) _) _) _)) hb | exact bl_tr (bl_al (bl_al (bl_al (bl_al (bl0 _) _) _) _) _) hb | exact bl_tr (bl_dr (bl_al (bl_al (bl_al (bl_al (bl0 _) _) _) _) _)) hb | exact bl_tr (bl_al (bl_al (bl_al (bl_al (bl_al (bl0 _) _) _) _) _) _) hb | exact bl_tr (bl_dr (bl_al (bl_al (bl_al (bl_al (bl_al (bl0 _) _) _) _) _) _)) hb | exact bl_tr (bl_al (bl_al (bl_al (bl_al (bl_al (bl_al (bl0 _) _) _) _) _) _) _) hb | exact bl_tr (bl_dr (bl_al (bl_al (bl_al (bl_al (bl_al (bl_al (bl0 _) _) _) _) _) _) _)) hb | exact bl_tr (bl_dr (bl0 _)) hb
  replace hA := bl_tr hA hk
  have f0 := cell_later hb (v := .int .i64 A) (a := ⟨w.heap.size, 0, none⟩) (by simp [go_sem])
  have f1 := cell_later hb (v := .int .i64 B) (a := ⟨w.heap.size, 1, none⟩) (by simp [go_sem])
  have f2 := cell_later hb (v := .slice a n c) (a := ⟨w.heap.size, 2, none⟩) (by simp [go_sem])
  have g0 := cell_later hb (v := .int .i64 U) (a := ⟨w.heap.size + 1, 0, none⟩) (by simp [go_sem])
  have g1 := cell_later hb (v := .int .i64 V) (a := ⟨w.heap.size + 1, 1, none⟩) (by simp [go_sem])
  have g2 := cell_later hb (v := .slice a2 n2 c2) (a := ⟨w.heap.size + 1, 2, none⟩) (by simp [go_sem])
  have x0 := cell_later hb (v := .slice a3 zs.length c3) (a := ⟨w.heap.size + 1 + 1, 0, none⟩) (by simp [go_sem])
  have x1 := cell_later hb (v := .int .i64 r) (a := ⟨w.heap.size + 1 + 1, 1, none⟩) (by simp [go_sem])
  clear hb hk
  have zf0 := blk_lt f0
  have zf1 := blk_lt f1
  have zf2 := blk_lt f2
  have zg0 := blk_lt g0
  have zg1 := blk_lt g1
  have zg2 := blk_lt g2
  have zx0 := blk_lt x0
  have zx1 := blk_lt x1
  rw [H1.out]
  go_wp2_with fail
  refine (awake_any _).mono ?_
  rintro e w9 ⟨rfl, hb9⟩
  have hA9 : Below w.heap.size w w9 := by first | exact bl_tr hA hb9 | exact bl_tr (bl_al (bl_al (bl_al hA _) _) _) hb9
  clear hA hb9
  go_wp2
  go_ret
  exact ⟨rfl, hA9⟩
set_option maxRecDepth 100000 in
set_option maxHeartbeats 4000000 in
theorem hangs_out2 (A B U V r : Int) (a a2 a3 : Option Addr) (n c n2 c2 c3 : Nat) (zs : List (Int × Int)) (w : World) (h1 : smallB A B n = true) (h2 : smallB U V n2 = false) :
    Calls Try.prog 4 #[.agg #[.int .i64 A, .int .i64 B, .slice a n c], .agg #[.int .i64 U, .int .i64 V, .slice a2 n2 c2], .agg #[.slice a3 zs.length c3, .int .i64 r]] w fun e w' => e = .returned (.bool true) ∧ Below w.heap.size w w' := by
  have hA := bl0 w
  have H1 := Lib.hid h1
  have H2 := Lib.hid h2
  clear h1 h2
  go_enter Try.func4, Try.ntmps4
  go_wp2_with fail
  refine (small_any _ _ _ _ _ _).mono ?_
  rintro e w1 ⟨rfl, hb⟩
  have hk : Below w.heap.size w w1 := by first | exact hb | exact bl_tr (bl_al (bl0 _) _) hb | exact bl_tr (bl_dr (bl_al (bl0 _) _)) hb | exact bl_tr (bl_al (bl_al (bl0 _) _) _) hb | exact bl_tr (bl_dr (bl_al (bl_al (bl0 _) _) _)) hb | exact bl_tr (bl_al (bl_al (bl_al (bl0 _) _) _) _) hb | exact bl_tr (bl_dr (bl_al (bl_al (bl_al (bl0 _) _) _) _)) hb | exact bl_tr (bl_al (bl_al (bl_al (bl_al (bl0 _) _) _) _) _) hb | exact bl_tr (bl_dr (bl_al (bl_al (bl_al (bl_al (bl0 _) _) _) _) _)) hb | exact bl_tr (bl_al (bl_al (bl_al (bl_al (bl_al (bl0 _) _) _) _) _) _) hb | exact bl_tr (bl_dr (bl_al (bl_al (bl_al (bl_al (bl_al (bl0 _) _) _) _) _) _)) hb | exact bl_tr (bl_al (bl_al (bl_al (bl_al (bl_al (bl_al (bl0 _) _) _) _) _) _) _) hb | exact bl_tr (bl_dr (bl_al (bl_al (bl_al (bl_al (bl_al (bl_al (bl0 _) _) _) _) _) _) _)) hb | exact bl_tr (bl_dr (bl0 _)) hb
  replace hA := bl_tr hA hk
  have f0 := cell_later hb (v := .int .i64 A) (a := ⟨w.heap.size, 0, none⟩) (by simp [go_sem])
  have f1 := cell_later hb (v := .int .i64 B) (a := ⟨w.heap.size, 1, none⟩) (by simp [go_sem])
  have f2 := cell_later hb (v := .slice a n c) (a := ⟨w.heap.size, 2, none⟩) (by simp [go_sem])
  have g0 := cell_later hb (v := .int .i64 U) (a := ⟨w.heap.size + 1, 0, none⟩) (by simp [go_sem])
  have g1 := cell_later hb (v := .int .i64 V) (a := ⟨w.heap.size + 1, 1, none⟩) (by simp [go_sem])
  have g2 := cell_later hb (v := .slice a2 n2 c2) (a := ⟨w.heap.size + 1, 2, none⟩) (by simp [go_sem])
  have x0 := cell_later hb (v := .slice a3 zs.length c3) (a := ⟨w.heap.size + 1 + 1, 0, none⟩) (by simp [go_sem])
  have x1 := cell_later hb (v := .int .i64 r) (a := ⟨w.heap.size + 1 + 1, 1, none⟩) (by simp [go_sem])
  clear hb hk
  have zf0 := blk_lt f0
  have zf1 := blk_lt f1
  have zf2 := blk_lt f2
  have zg0 := blk_lt g0
  have zg1 := blk_lt g1
  have zg2 := blk_lt g2
  have zx0 := blk_lt x0
  have zx1 := blk_lt x1
  rw [H1.out]
  go_wp2_with fail
  refine (small_any _ _ _ _ _ _).mono ?_
  rintro e w2 ⟨rfl, hb⟩
  have hk : Below w1.heap.size w1 w2 := by first | exact hb | exact bl_tr (bl_al (bl0 _) _) hb | exact bl_tr (bl_dr (bl_al (bl0 _) _)) hb | exact bl_tr (bl_al (bl_al (bl0 _) _) _) hb | exact bl_tr (bl_dr (bl_al (bl_al (bl0 _) _) _)) hb | exact bl_tr (bl_al (bl_al (bl_al (bl0 _) _) _) _) hb | exact bl_tr (bl_dr (bl_al (bl_al (bl_al (bl0 _) _) _) _)) hb | exact bl_tr (bl_al (bl_al (bl_al (bl_al (bl0 _) _) _) _) _) hb | exact bl_tr (bl_dr (bl_al (bl_al (bl_al (bl_al (bl0 _) _) _) _) _)) hb | exact bl_tr (bl_al (bl_al (bl_al (bl_al (bl_al (bl0 _) _) _) _) _) _) hb | exact bl_tr (bl_dr (bl_al (bl_al (bl_al (bl_al (bl_al (bl0 _) _) _) _) _) _)) hb | exact bl_tr (bl_al (bl_al (bl_al (bl_al (bl_al (bl_al (bl0 _) _) _) _) _) _) _) hb | exact bl_tr (bl_dr (bl_al (bl_al (bl_al (bl_al (bl_al (bl_al (bl0 _) _) _) _) _) _) _)) hb | exact bl_tr (bl_dr (bl0 _)) hb
  replace hA := bl_tr hA hk
  replace f0 := cell_later hk f0
  replace f1 := cell_later hk f1
  replace f2 := cell_later hk f2
  replace g0 := cell_later hk g0
  replace g1 := cell_later hk g1
  replace g2 := cell_later hk g2
  replace x0 := cell_later hk x0
  replace x1 := cell_later hk x1
  clear hb hk
  have zf0 := blk_lt f0
  have zf1 := blk_lt f1
  have zf2 := blk_lt f2
  have zg0 := blk_lt g0
  have zg1 := blk_lt g1
  have zg2 := blk_lt g2
  have zx0 := blk_lt x0
  have zx1 := blk_lt x1
  rw [H2.out]
  go_wp2_with fail
  refine (awake_any _).mono ?_
  rintro e w9 ⟨rfl, hb9⟩
  have hA9 : Below w.heap.size w w9 := by first | exact bl_tr hA hb9 | exact bl_tr (bl_al (bl_al (bl_al hA _) _) _) hb9
  clear hA hb9
  go_wp2
  go_ret
  exact ⟨rfl, hA9⟩
set_option maxRecDepth 100000 in
set_option maxHeartbeats 4000000 in
theorem hangs_out3 (A B U V r : Int) (a a2 a3 : Option Addr) (n c n2 c2 c3 : Nat) (zs : List (Int × Int)) (w : World) (h1 : smallB A B n = true) (h2 : smallB U V n2 = true) (hl : 6 < zs.length) :
    Calls Try.prog 4 #[.agg #[.int .i64 A, .int .i64 B, .slice a n c], .agg #[.int .i64 U, .int .i64 V, .slice a2 n2 c2], .agg #[.slice a3 zs.length c3, .int .i64 r]] w fun e w' => e = .returned (.bool true) ∧ Below w.heap.size w w' := by
  have hA := bl0 w
  have H1 := Lib.hid h1
  have H2 := Lib.hid h2
  have hl2 : (6 : Int) < (zs.length : Int) := by omega
  clear h1 h2
  go_enter Try.func4, Try.ntmps4
  go_wp2_with fail
  refine (small_any _ _ _ _ _ _).mono ?_
  rintro e w1 ⟨rfl, hb⟩
  have hk : Below w.heap.size w w1 := by first | exact hb | exact bl_tr (bl_al (bl0 _) _) hb | exact bl_tr (bl_dr (bl_al (bl0 _) _)) hb | exact bl_tr (bl_al (bl_al (bl0 _) _) _) hb | exact bl_tr (bl_dr (bl_al (bl_al (bl0 _) _) _)) hb | exact bl_tr (bl_al (bl_al (bl_al (bl0 _) _) _) _) hb | exact bl_tr (bl_dr (bl_al (bl_al (bl_al (bl0 _) _) _) _)) hb | exact bl_tr (bl_al (bl_al (bl_al (bl_al (bl0 _) _) _) _) _) hb | exact bl_tr (bl_dr (bl_al (bl_al (bl_al (bl_al (bl0 _) _) _) _) _)) hb | exact bl_tr (bl_al (bl_al (bl_al (bl_al (bl_al (bl0 _) _) _) _) _) _) hb | exact bl_tr (bl_dr (bl_al (bl_al (bl_al (bl_al (bl_al (bl0 _) _) _) _) _) _)) hb | exact bl_tr (bl_al (bl_al (bl_al (bl_al (bl_al (bl_al (bl0 _) _) _) _) _) _) _) hb | exact bl_tr (bl_dr (bl_al (bl_al (bl_al (bl_al (bl_al (bl_al (bl0 _) _) _) _) _) _) _)) hb | exact bl_tr (bl_dr (bl0 _)) hb
  replace hA := bl_tr hA hk
  have f0 := cell_later hb (v := .int .i64 A) (a := ⟨w.heap.size, 0, none⟩) (by simp [go_sem])
  have f1 := cell_later hb (v := .int .i64 B) (a := ⟨w.heap.size, 1, none⟩) (by simp [go_sem])
  have f2 := cell_later hb (v := .slice a n c) (a := ⟨w.heap.size, 2, none⟩) (by simp [go_sem])
  have g0 := cell_later hb (v := .int .i64 U) (a := ⟨w.heap.size + 1, 0, none⟩) (by simp [go_sem])
  have g1 := cell_later hb (v := .int .i64 V) (a := ⟨w.heap.size + 1, 1, none⟩) (by simp [go_sem])
  have g2 := cell_later hb (v := .slice a2 n2 c2) (a := ⟨w.heap.size + 1, 2, none⟩) (by simp [go_sem])
  have x0 := cell_later hb (v := .slice a3 zs.length c3) (a := ⟨w.heap.size + 1 + 1, 0, none⟩) (by simp [go_sem])
  have x1 := cell_later hb (v := .int .i64 r) (a := ⟨w.heap.size + 1 + 1, 1, none⟩) (by simp [go_sem])
  clear hb hk
  have zf0 := blk_lt f0
  have zf1 := blk_lt f1
  have zf2 := blk_lt f2
  have zg0 := blk_lt g0
  have zg1 := blk_lt g1
  have zg2 := blk_lt g2
  have zx0 := blk_lt x0
  have zx1 := blk_lt x1
  rw [H1.out]
  go_wp2_with fail
  refine (small_any _ _ _ _ _ _).mono ?_
  rintro e w2 ⟨rfl, hb⟩
  have hk : Below w1.heap.size w1 w2 := by first | exact hb | exact bl_tr (bl_al (bl0 _) _) hb | exact bl_tr (bl_dr (bl_al (bl0 _) _)) hb | exact bl_tr (bl_al (bl_al (bl0 _) _) _) hb | exact bl_tr (bl_dr (bl_al (bl_al (bl0 _) _) _)) hb | exact bl_tr (bl_al (bl_al (bl_al (bl0 _) _) _) _) hb | exact bl_tr (bl_dr (bl_al (bl_al (bl_al (bl0 _) _) _) _)) hb | exact bl_tr (bl_al (bl_al (bl_al (bl_al (bl0 _) _) _) _) _) hb | exact bl_tr (bl_dr (bl_al (bl_al (bl_al (bl_al (bl0 _) _) _) _) _)) hb | exact bl_tr (bl_al (bl_al (bl_al (bl_al (bl_al (bl0 _) _) _) _) _) _) hb | exact bl_tr (bl_dr (bl_al (bl_al (bl_al (bl_al (bl_al (bl0 _) _) _) _) _) _)) hb | exact bl_tr (bl_al (bl_al (bl_al (bl_al (bl_al (bl_al (bl0 _) _) _) _) _) _) _) hb | exact bl_tr (bl_dr (bl_al (bl_al (bl_al (bl_al (bl_al (bl_al (bl0 _) _) _) _) _) _) _)) hb | exact bl_tr (bl_dr (bl0 _)) hb
  replace hA := bl_tr hA hk
  replace f0 := cell_later hk f0
  replace f1 := cell_later hk f1
  replace f2 := cell_later hk f2
  replace g0 := cell_later hk g0
  replace g1 := cell_later hk g1
  replace g2 := cell_later hk g2
  replace x0 := cell_later hk x0
  replace x1 := cell_later hk x1
  clear hb hk
  have zf0 := blk_lt f0
  have zf1 := blk_lt f1
  have zf2 := blk_lt f2
  have zg0 := blk_lt g0
  have zg1 := blk_lt g1
  have zg2 := blk_lt g2
  have zx0 := blk_lt x0
  have zx1 := blk_lt x1
  rw [H2.out]
  go_wp2_with fail
  refine (awake_any _).mono ?_
  rintro e w9 ⟨rfl, hb9⟩
  have hA9 : Below w.heap.size w w9 := by first | exact bl_tr hA hb9 | exact bl_tr (bl_al (bl_al (bl_al hA _) _) _) hb9
  clear hA hb9
  go_wp2
  go_ret
  exact ⟨rfl, hA9⟩
set_option maxRecDepth 100000 in
set_option maxHeartbeats 4000000 in
theorem hangs_out4 (A B U V r : Int) (a a2 a3 : Option Addr) (n c n2 c2 c3 : Nat) (zs : List (Int × Int)) (w : World) (h1 : smallB A B n = true) (h2 : smallB U V n2 = true) (hl : zs.length ≤ 6) (h3 : chkF A B n ≠ 0) :
    Calls Try.prog 4 #[.agg #[.int .i64 A, .int .i64 B, .slice a n c], .agg #[.int .i64 U, .int .i64 V, .slice a2 n2 c2], .agg #[.slice a3 zs.length c3, .int .i64 r]] w fun e w' => e = .returned (.bool true) ∧ Below w.heap.size w w' := by
  have hA := bl0 w
  have H1 := Lib.hid h1
  have H2 := Lib.hid h2
  obtain ⟨q, hq⟩ : ∃ q, chkF A B n = q := ⟨_, rfl⟩
  have H3 := Lib.hid hq
  have hq0 : (q != 0) = true := by rw [bne_iff_ne, ← hq]; exact h3
  have hl2 : (zs.length : Int) ≤ 6 := by omega
  clear h1 h2 h3 hq
  go_enter Try.func4, Try.ntmps4
  go_wp2_with fail
  refine (small_any _ _ _ _ _ _).mono ?_
  rintro e w1 ⟨rfl, hb⟩
  have hk : Below w.heap.size w w1 := by first | exact hb | exact bl_tr (bl_al (bl0 _) _) hb | exact bl_tr (bl_dr (bl_al (bl0 _) _)) hb | exact bl_tr (bl_al (bl_al (bl0 _) _) _) hb | exact bl_tr (bl_dr (bl_al (bl_al (bl0 _) _) _)) hb | exact bl_tr (bl_al (bl_al (bl_al (bl0 _) _) _) _) hb | exact bl_tr (bl_dr (bl_al (bl_al (bl_al (bl0 _) _) _) _)) hb | exact bl_tr (bl_al (bl_al (bl_al (bl_al (bl0 _) _) _) _) _) hb | exact bl_tr (bl_dr (bl_al (bl_al (bl_al (bl_al (bl0 _) _) _) _) _)) hb | exact bl_tr (bl_al (bl_al (bl_al (bl_al (bl_al (bl0 _) _) _) _) _) _) hb | exact bl_tr (bl_dr (bl_al (bl_al (bl_al (bl_al (bl_al (bl0 _) _) _) _) _) _)) hb | exact bl_tr (bl_al (bl_al (bl_al (bl_al (bl_al (bl_al (bl0 _) _) _) _) _) _) _) hb | exact bl_tr (bl_dr (bl_al (bl_al (bl_al (bl_al (bl_al (bl_al (bl0 _) _) _) _) _) _) _)) hb | exact bl_tr (bl_dr (bl0 _)) hb
  replace hA := bl_tr hA hk
  have f0 := cell_later hb (v := .int .i64 A) (a := ⟨w.heap.size, 0, none⟩) (by simp [go_sem])
  have f1 := cell_later hb (v := .int .i64 B) (a := ⟨w.heap.size, 1, none⟩) (by simp [go_sem])
  have f2 := cell_later hb (v := .slice a n c) (a := ⟨w.heap.size, 2, none⟩) (by simp [go_sem])
  have g0 := cell_later hb (v := .int .i64 U) (a := ⟨w.heap.size + 1, 0, none⟩) (by simp [go_sem])
  have g1 := cell_later hb (v := .int .i64 V) (a := ⟨w.heap.size + 1, 1, none⟩) (by simp [go_sem])
  have g2 := cell_later hb (v := .slice a2 n2 c2) (a := ⟨w.heap.size + 1, 2, none⟩) (by simp [go_sem])
  have x0 := cell_later hb (v := .slice a3 zs.length c3) (a := ⟨w.heap.size + 1 + 1, 0, none⟩) (by simp [go_sem])
  have x1 := cell_later hb (v := .int .i64 r) (a := ⟨w.heap.size + 1 + 1, 1, none⟩) (by simp [go_sem])
  clear hb hk
  have zf0 := blk_lt f0
  have zf1 := blk_lt f1
  have zf2 := blk_lt f2
  have zg0 := blk_lt g0
  have zg1 := blk_lt g1
  have zg2 := blk_lt g2
  have zx0 := blk_lt x0
  have zx1 := blk_lt x1
  rw [H1.out]
  go_wp2_with fail
  refine (small_any _ _ _ _ _ _).mono ?_
  rintro e w2 ⟨rfl, hb⟩
  have hk : Below w1.heap.size w1 w2 := by first | exact hb | exact bl_tr (bl_al (bl0 _) _) hb | exact bl_tr (bl_dr (bl_al (bl0 _) _)) hb | exact bl_tr (bl_al (bl_al (bl0 _) _) _) hb | exact bl_tr (bl_dr (bl_al (bl_al (bl0 _) _) _)) hb | exact bl_tr (bl_al (bl_al (bl_al (bl0 _) _) _) _) hb | exact bl_tr (bl_dr (bl_al (bl_al (bl_al (bl0 _) _) _) _)) hb | exact bl_tr (bl_al (bl_al (bl_al (bl_al (bl0 _) _) _) _) _) hb | exact bl_tr (bl_dr (bl_al (bl_al (bl_al (bl_al (bl0 _) _) _) _) _)) hb | exact bl_tr (bl_al (bl_al (bl_al (bl_al (bl_al (bl0 _) _) _) _) _) _) hb | exact bl_tr (bl_dr (bl_al (bl_al (bl_al (bl_al (bl_al (bl0 _) _) _) _) _) _)) hb | exact bl_tr (bl_al (bl_al (bl_al (bl_al (bl_al (bl_al (bl0 _) _) _) _) _) _) _) hb | exact bl_tr (bl_dr (bl_al (bl_al (bl_al (bl_al (bl_al (bl_al (bl0 _) _) _) _) _) _) _)) hb | exact bl_tr (bl_dr (bl0 _)) hb
  replace hA := bl_tr hA hk
  replace f0 := cell_later hk f0
  replace f1 := cell_later hk f1
  replace f2 := cell_later hk f2
  replace g0 := cell_later hk g0
  replace g1 := cell_later hk g1
  replace g2 := cell_later hk g2
  replace x0 := cell_later hk x0
  replace x1 := cell_later hk x1
  clear hb hk
  have zf0 := blk_lt f0
  have zf1 := blk_lt f1
  have zf2 := blk_lt f2
  have zg0 := blk_lt g0
  have zg1 := blk_lt g1
  have zg2 := blk_lt g2
  have zx0 := blk_lt x0
  have zx1 := blk_lt x1
  rw [H2.out]
  go_wp2_with fail
  refine (check_any _ _ _ _ _ _).mono ?_
  rintro e w3 ⟨rfl, hb⟩
  have hk : Below w2.heap.size w2 w3 := by first | exact hb | exact bl_tr (bl_al (bl0 _) _) hb | exact bl_tr (bl_dr (bl_al (bl0 _) _)) hb | exact bl_tr (bl_al (bl_al (bl0 _) _) _) hb | exact bl_tr (bl_dr (bl_al (bl_al (bl0 _) _) _)) hb | exact bl_tr (bl_al (bl_al (bl_al (bl0 _) _) _) _) hb | exact bl_tr (bl_dr (bl_al (bl_al (bl_al (bl0 _) _) _) _)) hb | exact bl_tr (bl_al (bl_al (bl_al (bl_al (bl0 _) _) _) _) _) hb | exact bl_tr (bl_dr (bl_al (bl_al (bl_al (bl_al (bl0 _) _) _) _) _)) hb | exact bl_tr (bl_al (bl_al (bl_al (bl_al (bl_al (bl0 _) _) _) _) _) _) hb | exact bl_tr (bl_dr (bl_al (bl_al (bl_al (bl_al (bl_al (bl0 _) _) _) _) _) _)) hb | exact bl_tr (bl_al (bl_al (bl_al (bl_al (bl_al (bl_al (bl0 _) _) _) _) _) _) _) hb | exact bl_tr (bl_dr (bl_al (bl_al (bl_al (bl_al (bl_al (bl_al (bl0 _) _) _) _) _) _) _)) hb | exact bl_tr (bl_dr (bl0 _)) hb
  replace hA := bl_tr hA hk
  replace f0 := cell_later hk f0
  replace f1 := cell_later hk f1
  replace f2 := cell_later hk f2
  replace g0 := cell_later hk g0
  replace g1 := cell_later hk g1
  replace g2 := cell_later hk g2
  replace x0 := cell_later hk x0
  replace x1 := cell_later hk x1
  clear hb hk
  have zf0 := blk_lt f0
  have zf1 := blk_lt f1
  have zf2 := blk_lt f2
  have zg0 := blk_lt g0
  have zg1 := blk_lt g1
  have zg2 := blk_lt g2
  have zx0 := blk_lt x0
  have zx1 := blk_lt x1
  rw [H3.out]
  go_wp2_with fail
  refine (awake_any _).mono ?_
  rintro e w9 ⟨rfl, hb9⟩
  have hA9 : Below w.heap.size w w9 := by first | exact bl_tr hA hb9 | exact bl_tr (bl_al (bl_al (bl_al hA _) _) _) hb9
  clear hA hb9
  go_wp2
  go_ret
  exact ⟨rfl, hA9⟩
set_option maxRecDepth 100000 in
set_option maxHeartbeats 4000000 in
theorem hangs_out5 (A B U V r : Int) (a a2 a3 : Option Addr) (n c n2 c2 c3 : Nat) (zs : List (Int × Int)) (w : World) (h1 : smallB A B n = true) (h2 : smallB U V n2 = true) (hl : zs.length ≤ 6) (h3 : chkF A B n = 0) (h4 : chkF U V n2 ≠ 0) :
    Calls Try.prog 4 #[.agg #[.int .i64 A, .int .i64 B, .slice a n c], .agg #[.int .i64 U, .int .i64 V, .slice a2 n2 c2], .agg #[.slice a3 zs.length c3, .int .i64 r]] w fun e w' => e = .returned (.bool true) ∧ Below w.heap.size w w' := by
  have hA := bl0 w
  have H1 := Lib.hid h1
  have H2 := Lib.hid h2
  have H3 := Lib.hid h3
  obtain ⟨q, hq⟩ : ∃ q, chkF U V n2 = q := ⟨_, rfl⟩
  have H4 := Lib.hid hq
  have hq0 : (q != 0) = true := by rw [bne_iff_ne, ← hq]; exact h4
  have hl2 : (zs.length : Int) ≤ 6 := by omega
  clear h1 h2 h3 h4 hq
  go_enter Try.func4, Try.ntmps4
  go_wp2_with fail
  refine (small_any _ _ _ _ _ _).mono ?_
  rintro e w1 ⟨rfl, hb⟩
  have hk : Below w.heap.size w w1 := by first | exact hb | exact bl_tr (bl_al (bl0 _) _) hb | exact bl_tr (bl_dr (bl_al (bl0 _) _)) hb | exact bl_tr (bl_al (bl_al (bl0 _) _) _) hb | exact bl_tr (bl_dr (bl_al (bl_al (bl0 _) _) _)) hb | exact bl_tr (bl_al (bl_al (bl_al (bl0 _) _) _) _) hb | exact bl_tr (bl_dr (bl_al (bl_al (bl_al (bl0 _) _) _) _)) hb | exact bl_tr (bl_al (bl_al (bl_al (bl_al (bl0 _) _) _) _) _) hb | exact bl_tr (bl_dr (bl_al (bl_al (bl_al (bl_al (bl0 _) _) _) _) _)) hb | exact bl_tr (bl_al (bl_al (bl_al (bl_al (bl_al (bl0 _) _) _) _) _) _) hb | exact bl_tr (bl_dr (bl_al (bl_al (bl_al (bl_al (bl_al (bl0 _) _) _) _) _) _)) hb | exact bl_tr (bl_al (bl_al (bl_al (bl_al (bl_al (bl_al (bl0 _) _) _) _) _) _) _) hb | exact bl_tr (bl_dr (bl_al (bl_al (bl_al (bl_al (bl_al (bl_al (bl0 _) _) _) _) _) _) _)) hb | exact bl_tr (bl_dr (bl0 _)) hb
  replace hA := bl_tr hA hk
  have f0 := cell_later hb (v := .int .i64 A) (a := ⟨w.heap.size, 0, none⟩) (by simp [go_sem])
  have f1 := cell_later hb (v := .int .i64 B) (a := ⟨w.heap.size, 1, none⟩) (by simp [go_sem])
  have f2 := cell_later hb (v := .slice a n c) (a := ⟨w.heap.size, 2, none⟩) (by simp [go_sem])
  have g0 := cell_later hb (v := .int .i64 U) (a := ⟨w.heap.size + 1, 0, none⟩) (by simp [go_sem])
  have g1 := cell_later hb (v := .int .i64 V) (a := ⟨w.heap.size + 1, 1, none⟩) (by simp [go_sem])
  have g2 := cell_later hb (v := .slice a2 n2 c2) (a := ⟨w.heap.size + 1, 2, none⟩) (by simp [go_sem])
  have x0 := cell_later hb (v := .slice a3 zs.length c3) (a := ⟨w.heap.size + 1 + 1, 0, none⟩) (by simp [go_sem])
  have x1 := cell_later hb (v := .int .i64 r) (a := ⟨w.heap.size + 1 + 1, 1, none⟩) (by simp [go_sem])
  clear hb hk
  have zf0 := blk_lt f0
  have zf1 := blk_lt f1
  have zf2 := blk_lt f2
  have zg0 := blk_lt g0
  have zg1 := blk_lt g1
  have zg2 := blk_lt g2
  have zx0 := blk_lt x0
  have zx1 := blk_lt x1
  rw [H1.out]
  go_wp2_with fail
  refine (small_any _ _ _ _ _ _).mono ?_
  rintro e w2 ⟨rfl, hb⟩
  have hk : Below w1.heap.size w1 w2 := by first | exact hb | exact bl_tr (bl_al (bl0 _) _) hb | exact bl_tr (bl_dr (bl_al (bl0 _) _)) hb | exact bl_tr (bl_al (bl_al (bl0 _) _) _) hb | exact bl_tr (bl_dr (bl_al (bl_al (bl0 _) _) _)) hb | exact bl_tr (bl_al (bl_al (bl_al (bl0 _) _) _) _) hb | exact bl_tr (bl_dr (bl_al (bl_al (bl_al (bl0 _) _) _) _)) hb | exact bl_tr (bl_al (bl_al (bl_al (bl_al (bl0 _) _) _) _) _) hb | exact bl_tr (bl_dr (bl_al (bl_al (bl_al (bl_al (bl0 _) _) _) _) _)) hb | exact bl_tr (bl_al (bl_al (bl_al (bl_al (bl_al (bl0 _) _) _) _) _) _) hb | exact bl_tr (bl_dr (bl_al (bl_al (bl_al (bl_al (bl_al (bl0 _) _) _) _) _) _)) hb | exact bl_tr (bl_al (bl_al (bl_al (bl_al (bl_al (bl_al (bl0 _) _) _) _) _) _) _) hb | exact bl_tr (bl_dr (bl_al (bl_al (bl_al (bl_al (bl_al (bl_al (bl0 _) _) _) _) _) _) _)) hb | exact bl_tr (bl_dr (bl0 _)) hb
  replace hA := bl_tr hA hk
  replace f0 := cell_later hk f0
  replace f1 := cell_later hk f1
  replace f2 := cell_later hk f2
  replace g0 := cell_later hk g0
  replace g1 := cell_later hk g1
  replace g2 := cell_later hk g2
  replace x0 := cell_later hk x0
  replace x1 := cell_later hk x1
  clear hb hk
  have zf0 := blk_lt f0
  have zf1 := blk_lt f1
  have zf2 := blk_lt f2
  have zg0 := blk_lt g0
  have zg1 := blk_lt g1
  have zg2 := blk_lt g2
  have zx0 := blk_lt x0
  have zx1 := blk_lt x1
  rw [H2.out]
  go_wp2_with fail
  refine (check_any _ _ _ _ _ _).mono ?_
  rintro e w3 ⟨rfl, hb⟩
  have hk : Below w2.heap.size w2 w3 := by first | exact hb | exact bl_tr (bl_al (bl0 _) _) hb | exact bl_tr (bl_dr (bl_al (bl0 _) _)) hb | exact bl_tr (bl_al (bl_al (bl0 _) _) _) hb | exact bl_tr (bl_dr (bl_al (bl_al (bl0 _) _) _)) hb | exact bl_tr (bl_al (bl_al (bl_al (bl0 _) _) _) _) hb | exact bl_tr (bl_dr (bl_al (bl_al (bl_al (bl0 _) _) _) _)) hb | exact bl_tr (bl_al (bl_al (bl_al (bl_al (bl0 _) _) _) _) _) hb | exact bl_tr (bl_dr (bl_al (bl_al (bl_al (bl_al (bl0 _) _) _) _) _)) hb | exact bl_tr (bl_al (bl_al (bl_al (bl_al (bl_al (bl0 _) _) _) _) _) _) hb | exact bl_tr (bl_dr (bl_al (bl_al (bl_al (bl_al (bl_al (bl0 _) _) _) _) _) _)) hb | exact bl_tr (bl_al (bl_al (bl_al (bl_al (bl_al (bl_al (bl0 _) _) _) _) _) _) _) hb | exact bl_tr (bl_dr (bl_al (bl_al (bl_al (bl_al (bl_al (bl_al (bl0 _) _) _) _) _) _) _)) hb | exact bl_tr (bl_dr (bl0 _)) hb
  replace hA := bl_tr hA hk
  replace f0 := cell_later hk f0
  replace f1 := cell_later hk f1
  replace f2 := cell_later hk f2
  replace g0 := cell_later hk g0
  replace g1 := cell_later hk g1
  replace g2 := cell_later hk g2
  replace x0 := cell_later hk x0
  replace x1 := cell_later hk x1
  clear hb hk
  have zf0 := blk_lt f0
  have zf1 := blk_lt f1
  have zf2 := blk_lt f2
  have zg0 := blk_lt g0
  have zg1 := blk_lt g1
  have zg2 := blk_lt g2
  have zx0 := blk_lt x0
  have zx1 := blk_lt x1
  rw [H3.out]
  go_wp2_with fail
  refine (check_any _ _ _ _ _ _).mono ?_
  rintro e w4 ⟨rfl, hb⟩
  have hk : Below w3.heap.size w3 w4 := by first | exact hb | exact bl_tr (bl_al (bl0 _) _) hb | exact bl_tr (bl_dr (bl_al (bl0 _) _)) hb | exact bl_tr (bl_al (bl_al (bl0 _) _) _) hb | exact bl_tr (bl_dr (bl_al (bl_al (bl0 _) _) _)) hb | exact bl_tr (bl_al (bl_al (bl_al (bl0 _) _) _) _) hb | exact bl_tr (bl_dr (bl_al (bl_al (bl_al (bl0 _) _) _) _)) hb | exact bl_tr (bl_al (bl_al (bl_al (bl_al (bl0 _) _) _) _) _) hb | exact bl_tr (bl_dr (bl_al (bl_al (bl_al (bl_al (bl0 _) _) _) _) _)) hb | exact bl_tr (bl_al (bl_al (bl_al (bl_al (bl_al (bl0 _) _) _) _) _) _) hb | exact bl_tr (bl_dr (bl_al (bl_al (bl_al (bl_al (bl_al (bl0 _) _) _) _) _) _)) hb | exact bl_tr (bl_al (bl_al (bl_al (bl_al (bl_al (bl_al (bl0 _) _) _) _) _) _) _) hb | exact bl_tr (bl_dr (bl_al (bl_al (bl_al (bl_al (bl_al (bl_al (bl0 _) _) _) _) _) _) _)) hb | exact bl_tr (bl_dr (bl0 _)) hb
  replace hA := bl_tr hA hk
  replace f0 := cell_later hk f0
  replace f1 := cell_later hk f1
  replace f2 := cell_later hk f2
  replace g0 := cell_later hk g0
  replace g1 := cell_later hk g1
  replace g2 := cell_later hk g2
  replace x0 := cell_later hk x0
  replace x1 := cell_later hk x1
  clear hb hk
  have zf0 := blk_lt f0
  have zf1 := blk_lt f1
  have zf2 := blk_lt f2
  have zg0 := blk_lt g0
  have zg1 := blk_lt g1
  have zg2 := blk_lt g2
  have zx0 := blk_lt x0
  have zx1 := blk_lt x1
  rw [H4.out]
  go_wp2_with fail
  refine (awake_any _).mono ?_
  rintro e w9 ⟨rfl, hb9⟩
  have hA9 : Below w.heap.size w w9 := by first | exact bl_tr hA hb9 | exact bl_tr (bl_al (bl_al (bl_al hA _) _) _) hb9
  clear hA hb9
  go_wp2
  go_ret
  exact ⟨rfl, hA9⟩
set_option maxRecDepth 100000 in
set_option maxHeartbeats 4000000 in
theorem hangs_out6 (A B U V r : Int) (a a2 a3 : Option Addr) (n c n2 c2 c3 : Nat) (zs : List (Int × Int)) (w : World) (h1 : smallB A B n = true) (h2 : smallB U V n2 = true) (hl : zs.length ≤ 6) (h3 : chkF A B n = 0) (h4 : chkF U V n2 = 0) (h5 : ¬ (A = U ∧ B = V)) :
    Calls Try.prog 4 #[.agg #[.int .i64 A, .int .i64 B, .slice a n c], .agg #[.int .i64 U, .int .i64 V, .slice a2 n2 c2], .agg #[.slice a3 zs.length c3, .int .i64 r]] w fun e w' => e = .returned (.bool true) ∧ Below w.heap.size w w' := by
  have hA := bl0 w
  have H1 := Lib.hid h1
  have H2 := Lib.hid h2
  have H3 := Lib.hid h3
  have H4 := Lib.hid h4
  have hl2 : (zs.length : Int) ≤ 6 := by omega
  have key : (A == U) = false ∨ ((A == U) = true ∧ (B == V) = false) := by
    by_cases e : A = U
    · exact .inr ⟨beq_iff_eq.2 e, beq_eq_false_iff_ne.2 (fun e2 => h5 ⟨e, e2⟩)⟩
    · exact .inl (beq_eq_false_iff_ne.2 e)
  clear h1 h2 h3 h4 h5
  rcases key with e1 | ⟨e1, e2⟩
  all_goals
    go_enter Try.func4, Try.ntmps4
    go_wp2_with fail
    refine (small_any _ _ _ _ _ _).mono ?_
    rintro e w1 ⟨rfl, hb⟩
    have hk : Below w.heap.size w w1 := by first | exact hb | exact bl_tr (bl_al (bl0 _) _) hb | exact bl_tr (bl_dr (bl_al (bl0 _) _)) hb | exact bl_tr (bl_al (bl_al (bl0 _) _) _) hb | exact bl_tr (bl_dr (bl_al (bl_al (bl0 _) _) _)) hb | exact bl_tr (bl_al (bl_al (bl_al (bl0 _) _) _) _) hb | exact bl_tr (bl_dr (bl_al (bl_al (bl_al (bl0 _) _) _) _)) hb | exact bl_tr (bl_al (bl_al (bl_al (bl_al (bl0 _) _) _) _) _) hb | exact bl_tr (bl_dr (bl_al (bl_al (bl_al (bl_al (bl0 _) _) _) _) _)) hb | exact bl_tr (bl_al (bl_al (bl_al (bl_al (bl_al (bl0 _) _) _) _) _) _) hb | exact bl_tr (bl_dr (bl_al (bl_al (bl_al (bl_al (bl_al (bl0 _) _) _) _) _) _)) hb | exact bl_tr (bl_al (bl_al (bl_al (bl_al (bl_al (bl_al (bl0 _) _) _) _) _) _) _) hb | exact bl_tr (bl_dr (bl_al (bl_al (bl_al (bl_al (bl_al (bl_al (bl0 _) _) _) _) _) _) _)) hb | exact bl_tr (bl_dr (bl0 _)) hb
    replace hA := bl_tr hA hk
    have f0 := cell_later hb (v := .int .i64 A) (a := ⟨w.heap.size, 0, none⟩) (by simp [go_sem])
    have f1 := cell_later hb (v := .int .i64 B) (a := ⟨w.heap.size, 1, none⟩) (by simp [go_sem])
    have f2 := cell_later hb (v := .slice a n c) (a := ⟨w.heap.size, 2, none⟩) (by simp [go_sem])
    have g0 := cell_later hb (v := .int .i64 U) (a := ⟨w.heap.size + 1, 0, none⟩) (by simp [go_sem])
    have g1 := cell_later hb (v := .int .i64 V) (a := ⟨w.heap.size + 1, 1, none⟩) (by simp [go_sem])
    have g2 := cell_later hb (v := .slice a2 n2 c2) (a := ⟨w.heap.size + 1, 2, none⟩) (by simp [go_sem])
    have x0 := cell_later hb (v := .slice a3 zs.length c3) (a := ⟨w.heap.size + 1 + 1, 0, none⟩) (by simp [go_sem])
    have x1 := cell_later hb (v := .int .i64 r) (a := ⟨w.heap.size + 1 + 1, 1, none⟩) (by simp [go_sem])
    clear hb hk
    have zf0 := blk_lt f0
    have zf1 := blk_lt f1
    have zf2 := blk_lt f2
    have zg0 := blk_lt g0
    have zg1 := blk_lt g1
    have zg2 := blk_lt g2
    have zx0 := blk_lt x0
    have zx1 := blk_lt x1
    rw [H1.out]
    go_wp2_with fail
    refine (small_any _ _ _ _ _ _).mono ?_
    rintro e w2 ⟨rfl, hb⟩
    have hk : Below w1.heap.size w1 w2 := by first | exact hb | exact bl_tr (bl_al (bl0 _) _) hb | exact bl_tr (bl_dr (bl_al (bl0 _) _)) hb | exact bl_tr (bl_al (bl_al (bl0 _) _) _) hb | exact bl_tr (bl_dr (bl_al (bl_al (bl0 _) _) _)) hb | exact bl_tr (bl_al (bl_al (bl_al (bl0 _) _) _) _) hb | exact bl_tr (bl_dr (bl_al (bl_al (bl_al (bl0 _) _) _) _)) hb | exact bl_tr (bl_al (bl_al (bl_al (bl_al (bl0 _) _) _) _) _) hb | exact bl_tr (bl_dr (bl_al (bl_al (bl_al (bl_al (bl0 _) _) _) _) _)) hb | exact bl_tr (bl_al (bl_al (bl_al (bl_al (bl_al (bl0 _) _) _) _) _) _) hb | exact bl_tr (bl_dr (bl_al (bl_al (bl_al (bl_al (bl_al (bl0 _) _) _) _) _) _)) hb | exact bl_tr (bl_al (bl_al (bl_al (bl_al (bl_al (bl_al (bl0 _) _) _) _) _) _) _) hb | exact bl_tr (bl_dr (bl_al (bl_al (bl_al (bl_al (bl_al (bl_al (bl0 _) _) _) _) _) _) _)) hb | exact bl_tr (bl_dr (bl0 _)) hb
    replace hA := bl_tr hA hk
    replace f0 := cell_later hk f0
    replace f1 := cell_later hk f1
    replace f2 := cell_later hk f2
    replace g0 := cell_later hk g0
    replace g1 := cell_later hk g1
    replace g2 := cell_later hk g2
    replace x0 := cell_later hk x0
    replace x1 := cell_later hk x1
    clear hb hk
    have zf0 := blk_lt f0
    have zf1 := blk_lt f1
    have zf2 := blk_lt f2
    have zg0 := blk_lt g0
    have zg1 := blk_lt g1
    have zg2 := blk_lt g2
    have zx0 := blk_lt x0
    have zx1 := blk_lt x1
    rw [H2.out]
    go_wp2_with fail
    refine (check_any _ _ _ _ _ _).mono ?_
    rintro e w3 ⟨rfl, hb⟩
    have hk : Below w2.heap.size w2 w3 := by first | exact hb | exact bl_tr (bl_al (bl0 _) _) hb | exact bl_tr (bl_dr (bl_al (bl0 _) _)) hb | exact bl_tr (bl_al (bl_al (bl0 _) _) _) hb | exact bl_tr (bl_dr (bl_al (bl_al (bl0 _) _) _)) hb | exact bl_tr (bl_al (bl_al (bl_al (bl0 _) _) _) _) hb | exact bl_tr (bl_dr (bl_al (bl_al (bl_al (bl0 _) _) _) _)) hb | exact bl_tr (bl_al (bl_al (bl_al (bl_al (bl0 _) _) _) _) _) hb | exact bl_tr (bl_dr (bl_al (bl_al (bl_al (bl_al (bl0 _) _) _) _) _)) hb | exact bl_tr (bl_al (bl_al (bl_al (bl_al (bl_al (bl0 _) _) _) _) _) _) hb | exact bl_tr (bl_dr (bl_al (bl_al (bl_al (bl_al (bl_al (bl0 _) _) _) _) _) _)) hb | exact bl_tr (bl_al (bl_al (bl_al (bl_al (bl_al (bl_al (bl0 _) _) _) _) _) _) _) hb | exact bl_tr (bl_dr (bl_al (bl_al (bl_al (bl_al (bl_al (bl_al (bl0 _) _) _) _) _) _) _)) hb | exact bl_tr (bl_dr (bl0 _)) hb
    replace hA := bl_tr hA hk
    replace f0 := cell_later hk f0
    replace f1 := cell_later hk f1
    replace f2 := cell_later hk f2
    replace g0 := cell_later hk g0
    replace g1 := cell_later hk g1
    replace g2 := cell_later hk g2
    replace x0 := cell_later hk x0
    replace x1 := cell_later hk x1
    clear hb hk
    have zf0 := blk_lt f0
    have zf1 := blk_lt f1
    have zf2 := blk_lt f2
    have zg0 := blk_lt g0
    have zg1 := blk_lt g1
    have zg2 := blk_lt g2
    have zx0 := blk_lt x0
    have zx1 := blk_lt x1
    rw [H3.out]
    go_wp2_with fail
    refine (check_any _ _ _ _ _ _).mono ?_
    rintro e w4 ⟨rfl, hb⟩
    have hk : Below w3.heap.size w3 w4 := by first | exact hb | exact bl_tr (bl_al (bl0 _) _) hb | exact bl_tr (bl_dr (bl_al (bl0 _) _)) hb | exact bl_tr (bl_al (bl_al (bl0 _) _) _) hb | exact bl_tr (bl_dr (bl_al (bl_al (bl0 _) _) _)) hb | exact bl_tr (bl_al (bl_al (bl_al (bl0 _) _) _) _) hb | exact bl_tr (bl_dr (bl_al (bl_al (bl_al (bl0 _) _) _) _)) hb | exact bl_tr (bl_al (bl_al (bl_al (bl_al (bl0 _) _) _) _) _) hb | exact bl_tr (bl_dr (bl_al (bl_al (bl_al (bl_al (bl0 _) _) _) _) _)) hb | exact bl_tr (bl_al (bl_al (bl_al (bl_al (bl_al (bl0 _) _) _) _) _) _) hb | exact bl_tr (bl_dr (bl_al (bl_al (bl_al (bl_al (bl_al (bl0 _) _) _) _) _) _)) hb | exact bl_tr (bl_al (bl_al (bl_al (bl_al (bl_al (bl_al (bl0 _) _) _) _) _) _) _) hb | exact bl_tr (bl_dr (bl_al (bl_al (bl_al (bl_al (bl_al (bl_al (bl0 _) _) _) _) _) _) _)) hb | exact bl_tr (bl_dr (bl0 _)) hb
    replace hA := bl_tr hA hk
    replace f0 := cell_later hk f0
    replace f1 := cell_later hk f1
    replace f2 := cell_later hk f2
    replace g0 := cell_later hk g0
    replace g1 := cell_later hk g1
    replace g2 := cell_later hk g2
    replace x0 := cell_later hk x0
    replace x1 := cell_later hk x1
    clear hb hk
    have zf0 := blk_lt f0
    have zf1 := blk_lt f1
    have zf2 := blk_lt f2
    have zg0 := blk_lt g0
    have zg1 := blk_lt g1
    have zg2 := blk_lt g2
    have zx0 := blk_lt x0
    have zx1 := blk_lt x1
    rw [H4.out]
    go_wp2_with fail
    refine (awake_any _).mono ?_
    rintro e w9 ⟨rfl, hb9⟩
    have hA9 : Below w.heap.size w w9 := by first | exact bl_tr hA hb9 | exact bl_tr (bl_al (bl_al (bl_al hA _) _) _) hb9
    clear hA hb9
    go_wp2
    go_ret
    exact ⟨rfl, hA9⟩
set_option maxRecDepth 100000 in
set_option maxHeartbeats 4000000 in
theorem hangs_out7 (A B r : Int) (a a2 a3 : Option Addr) (n c n2 c2 c3 : Nat) (zs : List (Int × Int)) (w : World) (hz : RowC w a3 zs) (h1 : smallB A B n = true) (h2 : smallB A B n2 = true) (hl : zs.length ≤ 6) (h3 : chkF A B n = 0) (h4 : chkF A B n2 = 0) (h5 : errA A B n r zs ≠ 0) :
    Calls Try.prog 4 #[.agg #[.int .i64 A, .int .i64 B, .slice a n c], .agg #[.int .i64 A, .int .i64 B, .slice a2 n2 c2], .agg #[.slice a3 zs.length c3, .int .i64 r]] w fun e w' => e = .returned (.bool true) ∧ Below w.heap.size w w' := by
  have hA := bl0 w
  have H1 := Lib.hid h1
  have H2 := Lib.hid h2
  have H3 := Lib.hid h3
  have H4 := Lib.hid h4
  have H5 := Lib.hid h5
  have hl2 : (zs.length : Int) ≤ 6 := by omega
  have hne : ((A == A) && (B == B)) = true := by simp
  obtain ⟨q, hq⟩ : ∃ q, errA A B n r zs = q := ⟨_, rfl⟩
  have H6 := Lib.hid hq
  have hq0 : (q != 0) = true := by rw [bne_iff_ne, ← hq]; exact h5
  clear h1 h2 h3 h4 h5 hq
  go_enter Try.func4, Try.ntmps4
  go_wp2_with fail
  refine (small_any _ _ _ _ _ _).mono ?_
  rintro e w1 ⟨rfl, hb⟩
  have hk : Below w.heap.size w w1 := by first | exact hb | exact bl_tr (bl_al (bl0 _) _) hb | exact bl_tr (bl_dr (bl_al (bl0 _) _)) hb | exact bl_tr (bl_al (bl_al (bl0 _) _) _) hb | exact bl_tr (bl_dr (bl_al (bl_al (bl0 _) _) _)) hb | exact bl_tr (bl_al (bl_al (bl_al (bl0 _) _) _) _) hb | exact bl_tr (bl_dr (bl_al (bl_al (bl_al (bl0 _) _) _) _)) hb | exact bl_tr (bl_al (bl_al (bl_al (bl_al (bl0 _) _) _) _) _) hb | exact bl_tr (bl_dr (bl_al (bl_al (bl_al (bl_al (bl0 _) _) _) _) _)) hb | exact bl_tr (bl_al (bl_al (bl_al (bl_al (bl_al (bl0 _) _) _) _) _) _) hb | exact bl_tr (bl_dr (bl_al (bl_al (bl_al (bl_al (bl_al (bl0 _) _) _) _) _) _)) hb | exact bl_tr (bl_al (bl_al (bl_al (bl_al (bl_al (bl_al (bl0 _) _) _) _) _) _) _) hb | exact bl_tr (bl_dr (bl_al (bl_al (bl_al (bl_al (bl_al (bl_al (bl0 _) _) _) _) _) _) _)) hb | exact bl_tr (bl_dr (bl0 _)) hb
  replace hA := bl_tr hA hk
  have f0 := cell_later hb (v := .int .i64 A) (a := ⟨w.heap.size, 0, none⟩) (by simp [go_sem])
  have f1 := cell_later hb (v := .int .i64 B) (a := ⟨w.heap.size, 1, none⟩) (by simp [go_sem])
  have f2 := cell_later hb (v := .slice a n c) (a := ⟨w.heap.size, 2, none⟩) (by simp [go_sem])
  have g0 := cell_later hb (v := .int .i64 A) (a := ⟨w.heap.size + 1, 0, none⟩) (by simp [go_sem])
  have g1 := cell_later hb (v := .int .i64 B) (a := ⟨w.heap.size + 1, 1, none⟩) (by simp [go_sem])
  have g2 := cell_later hb (v := .slice a2 n2 c2) (a := ⟨w.heap.size + 1, 2, none⟩) (by simp [go_sem])
  have x0 := cell_later hb (v := .slice a3 zs.length c3) (a := ⟨w.heap.size + 1 + 1, 0, none⟩) (by simp [go_sem])
  have x1 := cell_later hb (v := .int .i64 r) (a := ⟨w.heap.size + 1 + 1, 1, none⟩) (by simp [go_sem])
  clear hb hk
  have zf0 := blk_lt f0
  have zf1 := blk_lt f1
  have zf2 := blk_lt f2
  have zg0 := blk_lt g0
  have zg1 := blk_lt g1
  have zg2 := blk_lt g2
  have zx0 := blk_lt x0
  have zx1 := blk_lt x1
  rw [H1.out]
  go_wp2_with fail
  refine (small_any _ _ _ _ _ _).mono ?_
  rintro e w2 ⟨rfl, hb⟩
  have hk : Below w1.heap.size w1 w2 := by first | exact hb | exact bl_tr (bl_al (bl0 _) _) hb | exact bl_tr (bl_dr (bl_al (bl0 _) _)) hb | exact bl_tr (bl_al (bl_al (bl0 _) _) _) hb | exact bl_tr (bl_dr (bl_al (bl_al (bl0 _) _) _)) hb | exact bl_tr (bl_al (bl_al (bl_al (bl0 _) _) _) _) hb | exact bl_tr (bl_dr (bl_al (bl_al (bl_al (bl0 _) _) _) _)) hb | exact bl_tr (bl_al (bl_al (bl_al (bl_al (bl0 _) _) _) _) _) hb | exact bl_tr (bl_dr (bl_al (bl_al (bl_al (bl_al (bl0 _) _) _) _) _)) hb | exact bl_tr (bl_al (bl_al (bl_al (bl_al (bl_al (bl0 _) _) _) _) _) _) hb | exact bl_tr (bl_dr (bl_al (bl_al (bl_al (bl_al (bl_al (bl0 _) _) _) _) _) _)) hb | exact bl_tr (bl_al (bl_al (bl_al (bl_al (bl_al (bl_al (bl0 _) _) _) _) _) _) _) hb | exact bl_tr (bl_dr (bl_al (bl_al (bl_al (bl_al (bl_al (bl_al (bl0 _) _) _) _) _) _) _)) hb | exact bl_tr (bl_dr (bl0 _)) hb
  replace hA := bl_tr hA hk
  replace f0 := cell_later hk f0
  replace f1 := cell_later hk f1
  replace f2 := cell_later hk f2
  replace g0 := cell_later hk g0
  replace g1 := cell_later hk g1
  replace g2 := cell_later hk g2
  replace x0 := cell_later hk x0
  replace x1 := cell_later hk x1
  clear hb hk
  have zf0 := blk_lt f0
  have zf1 := blk_lt f1
  have zf2 := blk_lt f2
  have zg0 := blk_lt g0
  have zg1 := blk_lt g1
  have zg2 := blk_lt g2
  have zx0 := blk_lt x0
  have zx1 := blk_lt x1
  rw [H2.out]
  go_wp2_with fail
  refine (check_any _ _ _ _ _ _).mono ?_
  rintro e w3 ⟨rfl, hb⟩
  have hk : Below w2.heap.size w2 w3 := by first | exact hb | exact bl_tr (bl_al (bl0 _) _) hb | exact bl_tr (bl_dr (bl_al (bl0 _) _)) hb | exact bl_tr (bl_al (bl_al (bl0 _) _) _) hb | exact bl_tr (bl_dr (bl_al (bl_al (bl0 _) _) _)) hb | exact bl_tr (bl_al (bl_al (bl_al (bl0 _) _) _) _) hb | exact bl_tr (bl_dr (bl_al (bl_al (bl_al (bl0 _) _) _) _)) hb | exact bl_tr (bl_al (bl_al (bl_al (bl_al (bl0 _) _) _) _) _) hb | exact bl_tr (bl_dr (bl_al (bl_al (bl_al (bl_al (bl0 _) _) _) _) _)) hb | exact bl_tr (bl_al (bl_al (bl_al (bl_al (bl_al (bl0 _) _) _) _) _) _) hb | exact bl_tr (bl_dr (bl_al (bl_al (bl_al (bl_al (bl_al (bl0 _) _) _) _) _) _)) hb | exact bl_tr (bl_al (bl_al (bl_al (bl_al (bl_al (bl_al (bl0 _) _) _) _) _) _) _) hb | exact bl_tr (bl_dr (bl_al (bl_al (bl_al (bl_al (bl_al (bl_al (bl0 _) _) _) _) _) _) _)) hb | exact bl_tr (bl_dr (bl0 _)) hb
  replace hA := bl_tr hA hk
  replace f0 := cell_later hk f0
  replace f1 := cell_later hk f1
  replace f2 := cell_later hk f2
  replace g0 := cell_later hk g0
  replace g1 := cell_later hk g1
  replace g2 := cell_later hk g2
  replace x0 := cell_later hk x0
  replace x1 := cell_later hk x1
  clear hb hk
  have zf0 := blk_lt f0
  have zf1 := blk_lt f1
  have zf2 := blk_lt f2
  have zg0 := blk_lt g0
  have zg1 := blk_lt g1
  have zg2 := blk_lt g2
  have zx0 := blk_lt x0
  have zx1 := blk_lt x1
  rw [H3.out]
  go_wp2_with fail
  refine (check_any _ _ _ _ _ _).mono ?_
  rintro e w4 ⟨rfl, hb⟩
  have hk : Below w3.heap.size w3 w4 := by first | exact hb | exact bl_tr (bl_al (bl0 _) _) hb | exact bl_tr (bl_dr (bl_al (bl0 _) _)) hb | exact bl_tr (bl_al (bl_al (bl0 _) _) _) hb | exact bl_tr (bl_dr (bl_al (bl_al (bl0 _) _) _)) hb | exact bl_tr (bl_al (bl_al (bl_al (bl0 _) _) _) _) hb | exact bl_tr (bl_dr (bl_al (bl_al (bl_al (bl0 _) _) _) _)) hb | exact bl_tr (bl_al (bl_al (bl_al (bl_al (bl0 _) _) _) _) _) hb | exact bl_tr (bl_dr (bl_al (bl_al (bl_al (bl_al (bl0 _) _) _) _) _)) hb | exact bl_tr (bl_al (bl_al (bl_al (bl_al (bl_al (bl0 _) _) _) _) _) _) hb | exact bl_tr (bl_dr (bl_al (bl_al (bl_al (bl_al (bl_al (bl0 _) _) _) _) _) _)) hb | exact bl_tr (bl_al (bl_al (bl_al (bl_al (bl_al (bl_al (bl0 _) _) _) _) _) _) _) hb | exact bl_tr (bl_dr (bl_al (bl_al (bl_al (bl_al (bl_al (bl_al (bl0 _) _) _) _) _) _) _)) hb | exact bl_tr (bl_dr (bl0 _)) hb
  replace hA := bl_tr hA hk
  replace f0 := cell_later hk f0
  replace f1 := cell_later hk f1
  replace f2 := cell_later hk f2
  replace g0 := cell_later hk g0
  replace g1 := cell_later hk g1
  replace g2 := cell_later hk g2
  replace x0 := cell_later hk x0
  replace x1 := cell_later hk x1
  clear hb hk
  have zf0 := blk_lt f0
  have zf1 := blk_lt f1
  have zf2 := blk_lt f2
  have zg0 := blk_lt g0
  have zg1 := blk_lt g1
  have zg2 := blk_lt g2
  have zx0 := blk_lt x0
  have zx1 := blk_lt x1
  rw [H4.out]
  go_wp2_with fail
  refine (sall_no _ _ _ _ _ _ _ _ zs _ (hz.below hA) (by omega) H5.out).mono ?_
  rintro e w5 ⟨rfl, hb⟩
  have hk : Below w4.heap.size w4 w5 := by first | exact hb | exact bl_tr (bl_al (bl0 _) _) hb | exact bl_tr (bl_dr (bl_al (bl0 _) _)) hb | exact bl_tr (bl_al (bl_al (bl0 _) _) _) hb | exact bl_tr (bl_dr (bl_al (bl_al (bl0 _) _) _)) hb | exact bl_tr (bl_al (bl_al (bl_al (bl0 _) _) _) _) hb | exact bl_tr (bl_dr (bl_al (bl_al (bl_al (bl0 _) _) _) _)) hb | exact bl_tr (bl_al (bl_al (bl_al (bl_al (bl0 _) _) _) _) _) hb | exact bl_tr (bl_dr (bl_al (bl_al (bl_al (bl_al (bl0 _) _) _) _) _)) hb | exact bl_tr (bl_al (bl_al (bl_al (bl_al (bl_al (bl0 _) _) _) _) _) _) hb | exact bl_tr (bl_dr (bl_al (bl_al (bl_al (bl_al (bl_al (bl0 _) _) _) _) _) _)) hb | exact bl_tr (bl_al (bl_al (bl_al (bl_al (bl_al (bl_al (bl0 _) _) _) _) _) _) _) hb | exact bl_tr (bl_dr (bl_al (bl_al (bl_al (bl_al (bl_al (bl_al (bl0 _) _) _) _) _) _) _)) hb | exact bl_tr (bl_dr (bl0 _)) hb
  replace hA := bl_tr hA hk
  clear hb hk
  rw [H6.out]
  go_wp2_with fail
  refine (awake_any _).mono ?_
  rintro e w9 ⟨rfl, hb9⟩
  have hA9 : Below w.heap.size w w9 := by first | exact bl_tr hA hb9 | exact bl_tr (bl_al (bl_al (bl_al hA _) _) _) hb9
  clear hA hb9
  go_wp2
  go_ret
  exact ⟨rfl, hA9⟩
end Go.Proofs.Ythebiibiapjdiaa
