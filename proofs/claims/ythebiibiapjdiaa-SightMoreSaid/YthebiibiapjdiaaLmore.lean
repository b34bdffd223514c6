/- SightMore: the law's walk. -/
import Derived.Test.YthebiibiapjdiaaQ4
namespace Go.Proofs.Ythebiibiapjdiaa
open Go.RowKit

set_option maxRecDepth 100000 in
set_option maxHeartbeats 4000000 in
theorem more_out1 (A B P Q R r : Int) (a a3 : Option Addr) (n c c3 : Nat) (zs : List (Int × Int)) (w : World) (h1 : smallB A B n = false) :
    Calls Try.prog 6 #[.agg #[.int .i64 A, .int .i64 B, .slice a n c], .agg #[.slice a3 zs.length c3, .int .i64 r], .agg #[.int .i64 P, .int .i64 Q, .int .i64 R]] w fun e w' => e = .returned (.bool true) ∧ Below w.heap.size w w' := by
  have hA := bl0 w
  have H1 := Lib.hid h1
  clear h1
  go_enter Try.func6, Try.ntmps6
  go_wp2_with fail
  refine (small_any _ _ _ _ _ _).mono ?_
  rintro e w1 ⟨rfl, hb⟩
  have hk : Below w.heap.size w w1 := by first | exact hb | exact bl_tr (bl_al (bl0 _) _) hb | exact bl_tr (bl_dr (bl_al (bl0 _) _)) hb | exact bl_tr (bl_al (bl_al (bl0 _) _) _) hb | exact bl_tr (bl_dr (bl_al (bl_al (bl0 _) _) _)) hb | exact bl_tr (bl_al (bl_al (bl_al (bl0 _) _) _) _) hb | exact bl_tr (bl_dr (bl_al (bl_al (bl_al (bl0 _) _) _) _)) hb | exact bl_tr (bl_al (bl_al (bl_al (bl_al (bl0 _) _) _) _) _) hb | exact bl_tr (bl_dr (bl_al (bl_al (bl_al (bl_al (bl0 _) _) _) _) _)) hb | exact bl_tr (bl_al (bl_al (bl_al (bl_al (bl_al (bl0 _) _) _) _) _) _) hb | exact bl_tr (bl_dr (bl_al (bl_al (bl_al (bl_al (bl_al (bl0 _) _) _) _) _) _)) hb | exact bl_tr (bl_al (bl_al (bl_al (bl_al (bl_al (bl_al (bl0 _) _) _) _) _) _) _) hb | exact bl_tr (bl_dr (bl_al (bl_al (bl_al (bl_al (bl_al (bl_al (bl0 _) _) _) _) _) _) _)) hb | exact bl_tr (bl_dr (bl0 _)) hb
  replace hA := bl_tr hA hk
  have f0 := cell_later hb (v := .int .i64 A) (a := ⟨w.heap.size, 0, none⟩) (by simp [go_sem])
  have f1 := cell_later hb (v := .int .i64 B) (a := ⟨w.heap.size, 1, none⟩) (by simp [go_sem])
  have f2 := cell_later hb (v := .slice a n c) (a := ⟨w.heap.size, 2, none⟩) (by simp [go_sem])
  have x0 := cell_later hb (v := .slice a3 zs.length c3) (a := ⟨w.heap.size + 1, 0, none⟩) (by simp [go_sem])
  have x1 := cell_later hb (v := .int .i64 r) (a := ⟨w.heap.size + 1, 1, none⟩) (by simp [go_sem])
  have y0 := cell_later hb (v := .int .i64 P) (a := ⟨w.heap.size + 1 + 1, 0, none⟩) (by simp [go_sem])
  have y1 := cell_later hb (v := .int .i64 Q) (a := ⟨w.heap.size + 1 + 1, 1, none⟩) (by simp [go_sem])
  have y2 := cell_later hb (v := .int .i64 R) (a := ⟨w.heap.size + 1 + 1, 2, none⟩) (by simp [go_sem])
  clear hb hk
  have zf0 := blk_lt f0
  have zf1 := blk_lt f1
  have zf2 := blk_lt f2
  have zx0 := blk_lt x0
  have zx1 := blk_lt x1
  have zy0 := blk_lt y0
  have zy1 := blk_lt y1
  have zy2 := blk_lt y2
  rw [H1.out]
  go_wp2_with fail
  refine (awake_any _).mono ?_
  rintro e w9 ⟨rfl, hb9⟩
  have hA9 : Below w.heap.size w w9 := by first | exact bl_tr hA hb9 | exact bl_tr (bl_al (bl_al (bl_al hA _) _) _) hb9
  clear hA hb9
  go_wp2
  go_ret
  exact ⟨rfl, hA9⟩
set_option maxRecDepth 100000 in
set_option maxHeartbeats 4000000 in
theorem more_out2 (A B P Q R r : Int) (a a3 : Option Addr) (n c c3 : Nat) (zs : List (Int × Int)) (w : World) (h1 : smallB A B n = true) (hl : 6 < zs.length) :
    Calls Try.prog 6 #[.agg #[.int .i64 A, .int .i64 B, .slice a n c], .agg #[.slice a3 zs.length c3, .int .i64 r], .agg #[.int .i64 P, .int .i64 Q, .int .i64 R]] w fun e w' => e = .returned (.bool true) ∧ Below w.heap.size w w' := by
  have hA := bl0 w
  have H1 := Lib.hid h1
  have hl2 : (6 : Int) < (zs.length : Int) := by omega
  clear h1
  go_enter Try.func6, Try.ntmps6
  go_wp2_with fail
  refine (small_any _ _ _ _ _ _).mono ?_
  rintro e w1 ⟨rfl, hb⟩
  have hk : Below w.heap.size w w1 := by first | exact hb | exact bl_tr (bl_al (bl0 _) _) hb | exact bl_tr (bl_dr (bl_al (bl0 _) _)) hb | exact bl_tr (bl_al (bl_al (bl0 _) _) _) hb | exact bl_tr (bl_dr (bl_al (bl_al (bl0 _) _) _)) hb | exact bl_tr (bl_al (bl_al (bl_al (bl0 _) _) _) _) hb | exact bl_tr (bl_dr (bl_al (bl_al (bl_al (bl0 _) _) _) _)) hb | exact bl_tr (bl_al (bl_al (bl_al (bl_al (bl0 _) _) _) _) _) hb | exact bl_tr (bl_dr (bl_al (bl_al (bl_al (bl_al (bl0 _) _) _) _) _)) hb | exact bl_tr (bl_al (bl_al (bl_al (bl_al (bl_al (bl0 _) _) _) _) _) _) hb | exact bl_tr (bl_dr (bl_al (bl_al (bl_al (bl_al (bl_al (bl0 _) _) _) _) _) _)) hb | exact bl_tr (bl_al (bl_al (bl_al (bl_al (bl_al (bl_al (bl0 _) _) _) _) _) _) _) hb | exact bl_tr (bl_dr (bl_al (bl_al (bl_al (bl_al (bl_al (bl_al (bl0 _) _) _) _) _) _) _)) hb | exact bl_tr (bl_dr (bl0 _)) hb
  replace hA := bl_tr hA hk
  have f0 := cell_later hb (v := .int .i64 A) (a := ⟨w.heap.size, 0, none⟩) (by simp [go_sem])
  have f1 := cell_later hb (v := .int .i64 B) (a := ⟨w.heap.size, 1, none⟩) (by simp [go_sem])
  have f2 := cell_later hb (v := .slice a n c) (a := ⟨w.heap.size, 2, none⟩) (by simp [go_sem])
  have x0 := cell_later hb (v := .slice a3 zs.length c3) (a := ⟨w.heap.size + 1, 0, none⟩) (by simp [go_sem])
  have x1 := cell_later hb (v := .int .i64 r) (a := ⟨w.heap.size + 1, 1, none⟩) (by simp [go_sem])
  have y0 := cell_later hb (v := .int .i64 P) (a := ⟨w.heap.size + 1 + 1, 0, none⟩) (by simp [go_sem])
  have y1 := cell_later hb (v := .int .i64 Q) (a := ⟨w.heap.size + 1 + 1, 1, none⟩) (by simp [go_sem])
  have y2 := cell_later hb (v := .int .i64 R) (a := ⟨w.heap.size + 1 + 1, 2, none⟩) (by simp [go_sem])
  clear hb hk
  have zf0 := blk_lt f0
  have zf1 := blk_lt f1
  have zf2 := blk_lt f2
  have zx0 := blk_lt x0
  have zx1 := blk_lt x1
  have zy0 := blk_lt y0
  have zy1 := blk_lt y1
  have zy2 := blk_lt y2
  rw [H1.out]
  go_wp2_with fail
  refine (awake_any _).mono ?_
  rintro e w9 ⟨rfl, hb9⟩
  have hA9 : Below w.heap.size w w9 := by first | exact bl_tr hA hb9 | exact bl_tr (bl_al (bl_al (bl_al hA _) _) _) hb9
  clear hA hb9
  go_wp2
  go_ret
  exact ⟨rfl, hA9⟩
set_option maxRecDepth 100000 in
set_option maxHeartbeats 4000000 in
theorem more_out3 (A B P Q R r : Int) (a a3 : Option Addr) (n c c3 : Nat) (zs : List (Int × Int)) (w : World) (h1 : smallB A B n = true) (hl : zs.length ≤ 6) (h2 : chkF A B n ≠ 0) :
    Calls Try.prog 6 #[.agg #[.int .i64 A, .int .i64 B, .slice a n c], .agg #[.slice a3 zs.length c3, .int .i64 r], .agg #[.int .i64 P, .int .i64 Q, .int .i64 R]] w fun e w' => e = .returned (.bool true) ∧ Below w.heap.size w w' := by
  have hA := bl0 w
  have H1 := Lib.hid h1
  obtain ⟨q, hq⟩ : ∃ q, chkF A B n = q := ⟨_, rfl⟩
  have H2 := Lib.hid hq
  have hq0 : (q != 0) = true := by rw [bne_iff_ne, ← hq]; exact h2
  have hl2 : (zs.length : Int) ≤ 6 := by omega
  clear h1 h2 hq
  go_enter Try.func6, Try.ntmps6
  go_wp2_with fail
  refine (small_any _ _ _ _ _ _).mono ?_
  rintro e w1 ⟨rfl, hb⟩
  have hk : Below w.heap.size w w1 := by first | exact hb | exact bl_tr (bl_al (bl0 _) _) hb | exact bl_tr (bl_dr (bl_al (bl0 _) _)) hb | exact bl_tr (bl_al (bl_al (bl0 _) _) _) hb | exact bl_tr (bl_dr (bl_al (bl_al (bl0 _) _) _)) hb | exact bl_tr (bl_al (bl_al (bl_al (bl0 _) _) _) _) hb | exact bl_tr (bl_dr (bl_al (bl_al (bl_al (bl0 _) _) _) _)) hb | exact bl_tr (bl_al (bl_al (bl_al (bl_al (bl0 _) _) _) _) _) hb | exact bl_tr (bl_dr (bl_al (bl_al (bl_al (bl_al (bl0 _) _) _) _) _)) hb | exact bl_tr (bl_al (bl_al (bl_al (bl_al (bl_al (bl0 _) _) _) _) _) _) hb | exact bl_tr (bl_dr (bl_al (bl_al (bl_al (bl_al (bl_al (bl0 _) _) _) _) _) _)) hb | exact bl_tr (bl_al (bl_al (bl_al (bl_al (bl_al (bl_al (bl0 _) _) _) _) _) _) _) hb | exact bl_tr (bl_dr (bl_al (bl_al (bl_al (bl_al (bl_al (bl_al (bl0 _) _) _) _) _) _) _)) hb | exact bl_tr (bl_dr (bl0 _)) hb
  replace hA := bl_tr hA hk
  have f0 := cell_later hb (v := .int .i64 A) (a := ⟨w.heap.size, 0, none⟩) (by simp [go_sem])
  have f1 := cell_later hb (v := .int .i64 B) (a := ⟨w.heap.size, 1, none⟩) (by simp [go_sem])
  have f2 := cell_later hb (v := .slice a n c) (a := ⟨w.heap.size, 2, none⟩) (by simp [go_sem])
  have x0 := cell_later hb (v := .slice a3 zs.length c3) (a := ⟨w.heap.size + 1, 0, none⟩) (by simp [go_sem])
  have x1 := cell_later hb (v := .int .i64 r) (a := ⟨w.heap.size + 1, 1, none⟩) (by simp [go_sem])
  have y0 := cell_later hb (v := .int .i64 P) (a := ⟨w.heap.size + 1 + 1, 0, none⟩) (by simp [go_sem])
  have y1 := cell_later hb (v := .int .i64 Q) (a := ⟨w.heap.size + 1 + 1, 1, none⟩) (by simp [go_sem])
  have y2 := cell_later hb (v := .int .i64 R) (a := ⟨w.heap.size + 1 + 1, 2, none⟩) (by simp [go_sem])
  clear hb hk
  have zf0 := blk_lt f0
  have zf1 := blk_lt f1
  have zf2 := blk_lt f2
  have zx0 := blk_lt x0
  have zx1 := blk_lt x1
  have zy0 := blk_lt y0
  have zy1 := blk_lt y1
  have zy2 := blk_lt y2
  rw [H1.out]
  go_wp2_with fail
  refine (check_any _ _ _ _ _ _).mono ?_
  rintro e w2 ⟨rfl, hb⟩
  have hk : Below w1.heap.size w1 w2 := by first | exact hb | exact bl_tr (bl_al (bl0 _) _) hb | exact bl_tr (bl_dr (bl_al (bl0 _) _)) hb | exact bl_tr (bl_al (bl_al (bl0 _) _) _) hb | exact bl_tr (bl_dr (bl_al (bl_al (bl0 _) _) _)) hb | exact bl_tr (bl_al (bl_al (bl_al (bl0 _) _) _) _) hb | exact bl_tr (bl_dr (bl_al (bl_al (bl_al (bl0 _) _) _) _)) hb | exact bl_tr (bl_al (bl_al (bl_al (bl_al (bl0 _) _) _) _) _) hb | exact bl_tr (bl_dr (bl_al (bl_al (bl_al (bl_al (bl0 _) _) _) _) _)) hb | exact bl_tr (bl_al (bl_al (bl_al (bl_al (bl_al (bl0 _) _) _) _) _) _) hb | exact bl_tr (bl_dr (bl_al (bl_al (bl_al (bl_al (bl_al (bl0 _) _) _) _) _) _)) hb | exact bl_tr (bl_al (bl_al (bl_al (bl_al (bl_al (bl_al (bl0 _) _) _) _) _) _) _) hb | exact bl_tr (bl_dr (bl_al (bl_al (bl_al (bl_al (bl_al (bl_al (bl0 _) _) _) _) _) _) _)) hb | exact bl_tr (bl_dr (bl0 _)) hb
  replace hA := bl_tr hA hk
  replace f0 := cell_later hk f0
  replace f1 := cell_later hk f1
  replace f2 := cell_later hk f2
  replace x0 := cell_later hk x0
  replace x1 := cell_later hk x1
  replace y0 := cell_later hk y0
  replace y1 := cell_later hk y1
  replace y2 := cell_later hk y2
  clear hb hk
  have zf0 := blk_lt f0
  have zf1 := blk_lt f1
  have zf2 := blk_lt f2
  have zx0 := blk_lt x0
  have zx1 := blk_lt x1
  have zy0 := blk_lt y0
  have zy1 := blk_lt y1
  have zy2 := blk_lt y2
  rw [H2.out]
  go_wp2_with fail
  refine (awake_any _).mono ?_
  rintro e w9 ⟨rfl, hb9⟩
  have hA9 : Below w.heap.size w w9 := by first | exact bl_tr hA hb9 | exact bl_tr (bl_al (bl_al (bl_al hA _) _) _) hb9
  clear hA hb9
  go_wp2
  go_ret
  exact ⟨rfl, hA9⟩
set_option maxRecDepth 100000 in
set_option maxHeartbeats 4000000 in
theorem more_out4 (A B P Q R r : Int) (a a3 : Option Addr) (n c c3 : Nat) (zs : List (Int × Int)) (w : World) (h1 : smallB A B n = true) (hl : zs.length ≤ 6) (h2 : chkF A B n = 0) (h3 : R < 0 ∨ 16 < R) :
    Calls Try.prog 6 #[.agg #[.int .i64 A, .int .i64 B, .slice a n c], .agg #[.slice a3 zs.length c3, .int .i64 r], .agg #[.int .i64 P, .int .i64 Q, .int .i64 R]] w fun e w' => e = .returned (.bool true) ∧ Below w.heap.size w w' := by
  have hA := bl0 w
  have H1 := Lib.hid h1
  have H2 := Lib.hid h2
  have hl2 : (zs.length : Int) ≤ 6 := by omega
  have key : R < 0 ∨ (¬ R < 0 ∧ 16 < R) := by omega
  clear h1 h2 h3
  rcases key with e1 | ⟨e1, e2⟩
  all_goals
    go_enter Try.func6, Try.ntmps6
    go_wp2_with fail
    refine (small_any _ _ _ _ _ _).mono ?_
    rintro e w1 ⟨rfl, hb⟩
    have hk : Below w.heap.size w w1 := by first | exact hb | exact bl_tr (bl_al (bl0 _) _) hb | exact bl_tr (bl_dr (bl_al (bl0 _) _)) hb | exact bl_tr (bl_al (bl_al (bl0 _) _) _) hb | exact bl_tr (bl_dr (bl_al (bl_al (bl0 _) _) _)) hb | exact bl_tr (bl_al (bl_al (bl_al (bl0 _) _) _) _) hb | exact bl_tr (bl_dr (bl_al (bl_al (bl_al (bl0 _) _) _) _)) hb | exact bl_tr (bl_al (bl_al (bl_al (bl_al (bl0 _) _) _) _) _) hb | exact bl_tr (bl_dr (bl_al (bl_al (bl_al (bl_al (bl0 _) _) _) _) _)) hb | exact bl_tr (bl_al (bl_al (bl_al (bl_al (bl_al (bl0 _) _) _) _) _) _) hb | exact bl_tr (bl_dr (bl_al (bl_al (bl_al (bl_al (bl_al (bl0 _) _) _) _) _) _)) hb | exact bl_tr (bl_al (bl_al (bl_al (bl_al (bl_al (bl_al (bl0 _) _) _) _) _) _) _) hb | exact bl_tr (bl_dr (bl_al (bl_al (bl_al (bl_al (bl_al (bl_al (bl0 _) _) _) _) _) _) _)) hb | exact bl_tr (bl_dr (bl0 _)) hb
    replace hA := bl_tr hA hk
    have f0 := cell_later hb (v := .int .i64 A) (a := ⟨w.heap.size, 0, none⟩) (by simp [go_sem])
    have f1 := cell_later hb (v := .int .i64 B) (a := ⟨w.heap.size, 1, none⟩) (by simp [go_sem])
    have f2 := cell_later hb (v := .slice a n c) (a := ⟨w.heap.size, 2, none⟩) (by simp [go_sem])
    have x0 := cell_later hb (v := .slice a3 zs.length c3) (a := ⟨w.heap.size + 1, 0, none⟩) (by simp [go_sem])
    have x1 := cell_later hb (v := .int .i64 r) (a := ⟨w.heap.size + 1, 1, none⟩) (by simp [go_sem])
    have y0 := cell_later hb (v := .int .i64 P) (a := ⟨w.heap.size + 1 + 1, 0, none⟩) (by simp [go_sem])
    have y1 := cell_later hb (v := .int .i64 Q) (a := ⟨w.heap.size + 1 + 1, 1, none⟩) (by simp [go_sem])
    have y2 := cell_later hb (v := .int .i64 R) (a := ⟨w.heap.size + 1 + 1, 2, none⟩) (by simp [go_sem])
    clear hb hk
    have zf0 := blk_lt f0
    have zf1 := blk_lt f1
    have zf2 := blk_lt f2
    have zx0 := blk_lt x0
    have zx1 := blk_lt x1
    have zy0 := blk_lt y0
    have zy1 := blk_lt y1
    have zy2 := blk_lt y2
    rw [H1.out]
    go_wp2_with fail
    refine (check_any _ _ _ _ _ _).mono ?_
    rintro e w2 ⟨rfl, hb⟩
    have hk : Below w1.heap.size w1 w2 := by first | exact hb | exact bl_tr (bl_al (bl0 _) _) hb | exact bl_tr (bl_dr (bl_al (bl0 _) _)) hb | exact bl_tr (bl_al (bl_al (bl0 _) _) _) hb | exact bl_tr (bl_dr (bl_al (bl_al (bl0 _) _) _)) hb | exact bl_tr (bl_al (bl_al (bl_al (bl0 _) _) _) _) hb | exact bl_tr (bl_dr (bl_al (bl_al (bl_al (bl0 _) _) _) _)) hb | exact bl_tr (bl_al (bl_al (bl_al (bl_al (bl0 _) _) _) _) _) hb | exact bl_tr (bl_dr (bl_al (bl_al (bl_al (bl_al (bl0 _) _) _) _) _)) hb | exact bl_tr (bl_al (bl_al (bl_al (bl_al (bl_al (bl0 _) _) _) _) _) _) hb | exact bl_tr (bl_dr (bl_al (bl_al (bl_al (bl_al (bl_al (bl0 _) _) _) _) _) _)) hb | exact bl_tr (bl_al (bl_al (bl_al (bl_al (bl_al (bl_al (bl0 _) _) _) _) _) _) _) hb | exact bl_tr (bl_dr (bl_al (bl_al (bl_al (bl_al (bl_al (bl_al (bl0 _) _) _) _) _) _) _)) hb | exact bl_tr (bl_dr (bl0 _)) hb
    replace hA := bl_tr hA hk
    replace f0 := cell_later hk f0
    replace f1 := cell_later hk f1
    replace f2 := cell_later hk f2
    replace x0 := cell_later hk x0
    replace x1 := cell_later hk x1
    replace y0 := cell_later hk y0
    replace y1 := cell_later hk y1
    replace y2 := cell_later hk y2
    clear hb hk
    have zf0 := blk_lt f0
    have zf1 := blk_lt f1
    have zf2 := blk_lt f2
    have zx0 := blk_lt x0
    have zx1 := blk_lt x1
    have zy0 := blk_lt y0
    have zy1 := blk_lt y1
    have zy2 := blk_lt y2
    rw [H2.out]
    go_wp2_with fail
    refine (awake_any _).mono ?_
    rintro e w9 ⟨rfl, hb9⟩
    have hA9 : Below w.heap.size w w9 := by first | exact bl_tr hA hb9 | exact bl_tr (bl_al (bl_al (bl_al hA _) _) _) hb9
    clear hA hb9
    go_wp2
    go_ret
    exact ⟨rfl, hA9⟩
set_option maxRecDepth 100000 in
set_option maxHeartbeats 4000000 in
theorem more_out5 (A B P Q R r : Int) (a a3 : Option Addr) (n c c3 : Nat) (zs : List (Int × Int)) (w : World) (hz : RowC w a3 zs) (h1 : smallB A B n = true) (hl : zs.length ≤ 6) (h2 : chkF A B n = 0) (h3 : 0 ≤ R) (h4 : R ≤ 16) (h5 : errA A B n r zs ≠ 0) :
    Calls Try.prog 6 #[.agg #[.int .i64 A, .int .i64 B, .slice a n c], .agg #[.slice a3 zs.length c3, .int .i64 r], .agg #[.int .i64 P, .int .i64 Q, .int .i64 R]] w fun e w' => e = .returned (.bool true) ∧ Below w.heap.size w w' := by
  have hA := bl0 w
  have H1 := Lib.hid h1
  have H2 := Lib.hid h2
  have H3 := Lib.hid h5
  have hl2 : (zs.length : Int) ≤ 6 := by omega
  obtain ⟨q, hq⟩ : ∃ q, errA A B n r zs = q := ⟨_, rfl⟩
  have H6 := Lib.hid hq
  have hq0 : (q != 0) = true := by rw [bne_iff_ne, ← hq]; exact h5
  have e1 : ¬ R < 0 := by omega
  have e2 : ¬ 16 < R := by omega
  clear h1 h2 h5 hq h3 h4
  go_enter Try.func6, Try.ntmps6
  go_wp2_with fail
  refine (small_any _ _ _ _ _ _).mono ?_
  rintro e w1 ⟨rfl, hb⟩
  have hk : Below w.heap.size w w1 := by first | exact hb | exact bl_tr (bl_al (bl0 _) _) hb | exact bl_tr (bl_dr (bl_al (bl0 _) _)) hb | exact bl_tr (bl_al (bl_al (bl0 _) _) _) hb | exact bl_tr (bl_dr (bl_al (bl_al (bl0 _) _) _)) hb | exact bl_tr (bl_al (bl_al (bl_al (bl0 _) _) _) _) hb | exact bl_tr (bl_dr (bl_al (bl_al (bl_al (bl0 _) _) _) _)) hb | exact bl_tr (bl_al (bl_al (bl_al (bl_al (bl0 _) _) _) _) _) hb | exact bl_tr (bl_dr (bl_al (bl_al (bl_al (bl_al (bl0 _) _) _) _) _)) hb | exact bl_tr (bl_al (bl_al (bl_al (bl_al (bl_al (bl0 _) _) _) _) _) _) hb | exact bl_tr (bl_dr (bl_al (bl_al (bl_al (bl_al (bl_al (bl0 _) _) _) _) _) _)) hb | exact bl_tr (bl_al (bl_al (bl_al (bl_al (bl_al (bl_al (bl0 _) _) _) _) _) _) _) hb | exact bl_tr (bl_dr (bl_al (bl_al (bl_al (bl_al (bl_al (bl_al (bl0 _) _) _) _) _) _) _)) hb | exact bl_tr (bl_dr (bl0 _)) hb
  replace hA := bl_tr hA hk
  have f0 := cell_later hb (v := .int .i64 A) (a := ⟨w.heap.size, 0, none⟩) (by simp [go_sem])
  have f1 := cell_later hb (v := .int .i64 B) (a := ⟨w.heap.size, 1, none⟩) (by simp [go_sem])
  have f2 := cell_later hb (v := .slice a n c) (a := ⟨w.heap.size, 2, none⟩) (by simp [go_sem])
  have x0 := cell_later hb (v := .slice a3 zs.length c3) (a := ⟨w.heap.size + 1, 0, none⟩) (by simp [go_sem])
  have x1 := cell_later hb (v := .int .i64 r) (a := ⟨w.heap.size + 1, 1, none⟩) (by simp [go_sem])
  have y0 := cell_later hb (v := .int .i64 P) (a := ⟨w.heap.size + 1 + 1, 0, none⟩) (by simp [go_sem])
  have y1 := cell_later hb (v := .int .i64 Q) (a := ⟨w.heap.size + 1 + 1, 1, none⟩) (by simp [go_sem])
  have y2 := cell_later hb (v := .int .i64 R) (a := ⟨w.heap.size + 1 + 1, 2, none⟩) (by simp [go_sem])
  clear hb hk
  have zf0 := blk_lt f0
  have zf1 := blk_lt f1
  have zf2 := blk_lt f2
  have zx0 := blk_lt x0
  have zx1 := blk_lt x1
  have zy0 := blk_lt y0
  have zy1 := blk_lt y1
  have zy2 := blk_lt y2
  rw [H1.out]
  go_wp2_with fail
  refine (check_any _ _ _ _ _ _).mono ?_
  rintro e w2 ⟨rfl, hb⟩
  have hk : Below w1.heap.size w1 w2 := by first | exact hb | exact bl_tr (bl_al (bl0 _) _) hb | exact bl_tr (bl_dr (bl_al (bl0 _) _)) hb | exact bl_tr (bl_al (bl_al (bl0 _) _) _) hb | exact bl_tr (bl_dr (bl_al (bl_al (bl0 _) _) _)) hb | exact bl_tr (bl_al (bl_al (bl_al (bl0 _) _) _) _) hb | exact bl_tr (bl_dr (bl_al (bl_al (bl_al (bl0 _) _) _) _)) hb | exact bl_tr (bl_al (bl_al (bl_al (bl_al (bl0 _) _) _) _) _) hb | exact bl_tr (bl_dr (bl_al (bl_al (bl_al (bl_al (bl0 _) _) _) _) _)) hb | exact bl_tr (bl_al (bl_al (bl_al (bl_al (bl_al (bl0 _) _) _) _) _) _) hb | exact bl_tr (bl_dr (bl_al (bl_al (bl_al (bl_al (bl_al (bl0 _) _) _) _) _) _)) hb | exact bl_tr (bl_al (bl_al (bl_al (bl_al (bl_al (bl_al (bl0 _) _) _) _) _) _) _) hb | exact bl_tr (bl_dr (bl_al (bl_al (bl_al (bl_al (bl_al (bl_al (bl0 _) _) _) _) _) _) _)) hb | exact bl_tr (bl_dr (bl0 _)) hb
  replace hA := bl_tr hA hk
  replace f0 := cell_later hk f0
  replace f1 := cell_later hk f1
  replace f2 := cell_later hk f2
  replace x0 := cell_later hk x0
  replace x1 := cell_later hk x1
  replace y0 := cell_later hk y0
  replace y1 := cell_later hk y1
  replace y2 := cell_later hk y2
  clear hb hk
  have zf0 := blk_lt f0
  have zf1 := blk_lt f1
  have zf2 := blk_lt f2
  have zx0 := blk_lt x0
  have zx1 := blk_lt x1
  have zy0 := blk_lt y0
  have zy1 := blk_lt y1
  have zy2 := blk_lt y2
  rw [H2.out]
  go_wp2_with fail
  refine (sall_no _ _ _ _ _ _ _ _ zs _ (hz.below hA) (by omega) H3.out).mono ?_
  rintro e w3 ⟨rfl, hb⟩
  have hk : Below w2.heap.size w2 w3 := by first | exact hb | exact bl_tr (bl_al (bl0 _) _) hb | exact bl_tr (bl_dr (bl_al (bl0 _) _)) hb | exact bl_tr (bl_al (bl_al (bl0 _) _) _) hb | exact bl_tr (bl_dr (bl_al (bl_al (bl0 _) _) _)) hb | exact bl_tr (bl_al (bl_al (bl_al (bl0 _) _) _) _) hb | exact bl_tr (bl_dr (bl_al (bl_al (bl_al (bl0 _) _) _) _)) hb | exact bl_tr (bl_al (bl_al (bl_al (bl_al (bl0 _) _) _) _) _) hb | exact bl_tr (bl_dr (bl_al (bl_al (bl_al (bl_al (bl0 _) _) _) _) _)) hb | exact bl_tr (bl_al (bl_al (bl_al (bl_al (bl_al (bl0 _) _) _) _) _) _) hb | exact bl_tr (bl_dr (bl_al (bl_al (bl_al (bl_al (bl_al (bl0 _) _) _) _) _) _)) hb | exact bl_tr (bl_al (bl_al (bl_al (bl_al (bl_al (bl_al (bl0 _) _) _) _) _) _) _) hb | exact bl_tr (bl_dr (bl_al (bl_al (bl_al (bl_al (bl_al (bl_al (bl0 _) _) _) _) _) _) _)) hb | exact bl_tr (bl_dr (bl0 _)) hb
  replace hA := bl_tr hA hk
  clear hb hk
  rw [H6.out]
  go_wp2_with fail
  refine (awake_any _).mono ?_
  rintro e w9 ⟨rfl, hb9⟩
  have hA9 : Below w.heap.size w w9 := by first | exact bl_tr hA hb9 | exact bl_tr (bl_al (bl_al (bl_al hA _) _) _) hb9
  clear hA hb9
  go_wp2
  go_ret
  exact ⟨rfl, hA9⟩
end Go.Proofs.Ythebiibiapjdiaa
