/- FogOrder: the law's walk. -/
import Derived.Test.YtmcgkoleaomjlaaQ2
namespace Go.Proofs.Ytmcgkoleaomjlaa
open Go.RowKit Go.Shelf

set_option maxRecDepth 100000 in
set_option maxHeartbeats 4000000 in
theorem forder_out1 (A B : Int) (a a0 a1 : Option Addr) (n c c0 c1 : Nat) (z0 z1 : List (Int × Int)) (w : World) (h1 : smallB A B n = false) :
    Calls Try.prog 8 #[.agg #[.int .i64 A, .int .i64 B, .slice a n c], .agg #[.slice a0 z0.length c0, .slice a1 z1.length c1]] w fun e w' => e = .returned (.bool true) ∧ Below w.heap.size w w' := by
  have hA := bl0 w
  have H1 := Lib.hid h1
  clear h1
  go_enter Try.func8, Try.ntmps8
  go_wp2_with fail
  refine (small_any _ _ _ _ _ _).mono ?_
  rintro e w1 ⟨rfl, hb⟩
  have hk : Below w.heap.size w w1 := by first | exact hb | exact bl_tr (bl_al (bl0 _) _) hb | exact bl_tr (bl_dr (bl_al (bl0 _) _)) hb | exact bl_tr (bl_al (bl_al (bl0 _) _) _) hb | exact bl_tr (bl_dr (bl_al (bl_al (bl0 _) _) _)) hb | exact bl_tr (bl_al (bl_al (bl_al (bl0 _) _) _) _) hb | exact bl_tr (bl_dr (bl_al (bl_al (bl_al (bl0 _) _) _) _)) hb | exact bl_tr (bl_al (bl_al (bl_al (bl_al (bl0 _) _) _) _) _) hb | exact bl_tr (bl_dr (bl_al (bl_al (bl_al (bl_al (bl0 _) _) _) _) _)) hb | exact bl_tr (bl_al (bl_al (bl_al (bl_al (bl_al (bl0 _) _) _) _) _) _) hb | exact bl_tr (bl_dr (bl_al (bl_al (bl_al (bl_al (bl_al (bl0 _) _) _) _) _) _)) hb | exact bl_tr (bl_al (bl_al (bl_al (bl_al (bl_al (bl_al (bl0 _) _) _) _) _) _) _) hb | exact bl_tr (bl_dr (bl_al (bl_al (bl_al (bl_al (bl_al (bl_al (bl0 _) _) _) _) _) _) _)) hb | exact bl_tr (bl_dr (bl0 _)) hb
  replace hA := bl_tr hA hk
  have f0 := cell_later hb (v := .int .i64 A) (a := ⟨w.heap.size, 0, none⟩) (by simp [go_sem])
  have f1 := cell_later hb (v := .int .i64 B) (a := ⟨w.heap.size, 1, none⟩) (by simp [go_sem])
  have f2 := cell_later hb (v := .slice a n c) (a := ⟨w.heap.size, 2, none⟩) (by simp [go_sem])
  have t0 := cell_later hb (v := .slice a0 z0.length c0) (a := ⟨w.heap.size + 1, 0, none⟩) (by simp [go_sem])
  have t1 := cell_later hb (v := .slice a1 z1.length c1) (a := ⟨w.heap.size + 1, 1, none⟩) (by simp [go_sem])
  clear hb hk
  have zf0 := blk_lt f0
  have zf1 := blk_lt f1
  have zf2 := blk_lt f2
  have zt0 := blk_lt t0
  have zt1 := blk_lt t1
  rw [H1.out]
  go_wp2_with fail
  refine (fawake _).mono ?_
  rintro e w9 ⟨rfl, hb9⟩
  have hA9 : Below w.heap.size w w9 := by first | exact bl_tr hA hb9 | exact bl_tr (bl_al (bl_al (bl_al hA _) _) _) hb9
  clear hA hb9
  go_wp2
  go_ret
  exact ⟨rfl, hA9⟩
set_option maxRecDepth 100000 in
set_option maxHeartbeats 4000000 in
theorem forder_out2 (A B : Int) (a a0 a1 : Option Addr) (n c c0 c1 : Nat) (z0 z1 : List (Int × Int)) (w : World) (h1 : smallB A B n = true) (h2 : 100 < z0.length ∨ (z0.length ≤ 100 ∧ 100 < z1.length)) :
    Calls Try.prog 8 #[.agg #[.int .i64 A, .int .i64 B, .slice a n c], .agg #[.slice a0 z0.length c0, .slice a1 z1.length c1]] w fun e w' => e = .returned (.bool true) ∧ Below w.heap.size w w' := by
  have hA := bl0 w
  have H1 := Lib.hid h1
  have h3 : (100 : Int) < (z0.length : Int) ∨ ((z0.length : Int) ≤ 100 ∧ (100 : Int) < (z1.length : Int)) := by omega
  clear h1 h2
  rcases h3 with h3 | ⟨h3, h4⟩
  all_goals
    go_enter Try.func8, Try.ntmps8
    go_wp2_with fail
    refine (small_any _ _ _ _ _ _).mono ?_
    rintro e w1 ⟨rfl, hb⟩
    have hk : Below w.heap.size w w1 := by first | exact hb | exact bl_tr (bl_al (bl0 _) _) hb | exact bl_tr (bl_dr (bl_al (bl0 _) _)) hb | exact bl_tr (bl_al (bl_al (bl0 _) _) _) hb | exact bl_tr (bl_dr (bl_al (bl_al (bl0 _) _) _)) hb | exact bl_tr (bl_al (bl_al (bl_al (bl0 _) _) _) _) hb | exact bl_tr (bl_dr (bl_al (bl_al (bl_al (bl0 _) _) _) _)) hb | exact bl_tr (bl_al (bl_al (bl_al (bl_al (bl0 _) _) _) _) _) hb | exact bl_tr (bl_dr (bl_al (bl_al (bl_al (bl_al (bl0 _) _) _) _) _)) hb | exact bl_tr (bl_al (bl_al (bl_al (bl_al (bl_al (bl0 _) _) _) _) _) _) hb | exact bl_tr (bl_dr (bl_al (bl_al (bl_al (bl_al (bl_al (bl0 _) _) _) _) _) _)) hb | exact bl_tr (bl_al (bl_al (bl_al (bl_al (bl_al (bl_al (bl0 _) _) _) _) _) _) _) hb | exact bl_tr (bl_dr (bl_al (bl_al (bl_al (bl_al (bl_al (bl_al (bl0 _) _) _) _) _) _) _)) hb | exact bl_tr (bl_dr (bl0 _)) hb
    replace hA := bl_tr hA hk
    have f0 := cell_later hb (v := .int .i64 A) (a := ⟨w.heap.size, 0, none⟩) (by simp [go_sem])
    have f1 := cell_later hb (v := .int .i64 B) (a := ⟨w.heap.size, 1, none⟩) (by simp [go_sem])
    have f2 := cell_later hb (v := .slice a n c) (a := ⟨w.heap.size, 2, none⟩) (by simp [go_sem])
    have t0 := cell_later hb (v := .slice a0 z0.length c0) (a := ⟨w.heap.size + 1, 0, none⟩) (by simp [go_sem])
    have t1 := cell_later hb (v := .slice a1 z1.length c1) (a := ⟨w.heap.size + 1, 1, none⟩) (by simp [go_sem])
    clear hb hk
    have zf0 := blk_lt f0
    have zf1 := blk_lt f1
    have zf2 := blk_lt f2
    have zt0 := blk_lt t0
    have zt1 := blk_lt t1
    rw [H1.out]
    go_wp2_with fail
    refine (fawake _).mono ?_
    rintro e w9 ⟨rfl, hb9⟩
    have hA9 : Below w.heap.size w w9 := by first | exact bl_tr hA hb9 | exact bl_tr (bl_al (bl_al (bl_al hA _) _) _) hb9
    clear hA hb9
    go_wp2
    go_ret
    exact ⟨rfl, hA9⟩
set_option maxRecDepth 100000 in
set_option maxHeartbeats 4000000 in
theorem forder_out3 (A B : Int) (a a0 a1 : Option Addr) (n c c0 c1 : Nat) (z0 z1 : List (Int × Int)) (w : World) (h1 : smallB A B n = true) (h2 : z0.length ≤ 100) (h3 : z1.length ≤ 100) (h4 : chkF A B n ≠ 0) :
    Calls Try.prog 8 #[.agg #[.int .i64 A, .int .i64 B, .slice a n c], .agg #[.slice a0 z0.length c0, .slice a1 z1.length c1]] w fun e w' => e = .returned (.bool true) ∧ Below w.heap.size w w' := by
  have hA := bl0 w
  have H1 := Lib.hid h1
  have h2' : (z0.length : Int) ≤ 100 := by omega
  have h3' : (z1.length : Int) ≤ 100 := by omega
  obtain ⟨q, hq⟩ : ∃ q, chkF A B n = q := ⟨_, rfl⟩
  have H4 := Lib.hid hq
  have hq0 : (q != 0) = true := by rw [bne_iff_ne, ← hq]; exact h4
  clear h1 h2 h3 h4 hq
  go_enter Try.func8, Try.ntmps8
  go_wp2_with fail
  refine (small_any _ _ _ _ _ _).mono ?_
  rintro e w1 ⟨rfl, hb⟩
  have hk : Below w.heap.size w w1 := by first | exact hb | exact bl_tr (bl_al (bl0 _) _) hb | exact bl_tr (bl_dr (bl_al (bl0 _) _)) hb | exact bl_tr (bl_al (bl_al (bl0 _) _) _) hb | exact bl_tr (bl_dr (bl_al (bl_al (bl0 _) _) _)) hb | exact bl_tr (bl_al (bl_al (bl_al (bl0 _) _) _) _) hb | exact bl_tr (bl_dr (bl_al (bl_al (bl_al (bl0 _) _) _) _)) hb | exact bl_tr (bl_al (bl_al (bl_al (bl_al (bl0 _) _) _) _) _) hb | exact bl_tr (bl_dr (bl_al (bl_al (bl_al (bl_al (bl0 _) _) _) _) _)) hb | exact bl_tr (bl_al (bl_al (bl_al (bl_al (bl_al (bl0 _) _) _) _) _) _) hb | exact bl_tr (bl_dr (bl_al (bl_al (bl_al (bl_al (bl_al (bl0 _) _) _) _) _) _)) hb | exact bl_tr (bl_al (bl_al (bl_al (bl_al (bl_al (bl_al (bl0 _) _) _) _) _) _) _) hb | exact bl_tr (bl_dr (bl_al (bl_al (bl_al (bl_al (bl_al (bl_al (bl0 _) _) _) _) _) _) _)) hb | exact bl_tr (bl_dr (bl0 _)) hb
  replace hA := bl_tr hA hk
  have f0 := cell_later hb (v := .int .i64 A) (a := ⟨w.heap.size, 0, none⟩) (by simp [go_sem])
  have f1 := cell_later hb (v := .int .i64 B) (a := ⟨w.heap.size, 1, none⟩) (by simp [go_sem])
  have f2 := cell_later hb (v := .slice a n c) (a := ⟨w.heap.size, 2, none⟩) (by simp [go_sem])
  have t0 := cell_later hb (v := .slice a0 z0.length c0) (a := ⟨w.heap.size + 1, 0, none⟩) (by simp [go_sem])
  have t1 := cell_later hb (v := .slice a1 z1.length c1) (a := ⟨w.heap.size + 1, 1, none⟩) (by simp [go_sem])
  clear hb hk
  have zf0 := blk_lt f0
  have zf1 := blk_lt f1
  have zf2 := blk_lt f2
  have zt0 := blk_lt t0
  have zt1 := blk_lt t1
  rw [H1.out]
  go_wp2_with fail
  refine (check_any _ _ _ _ _ _).mono ?_
  rintro e w2 ⟨rfl, hb⟩
  have hk : Below w1.heap.size w1 w2 := by first | exact hb | exact bl_tr (bl_al (bl0 _) _) hb | exact bl_tr (bl_dr (bl_al (bl0 _) _)) hb | exact bl_tr (bl_al (bl_al (bl0 _) _) _) hb | exact bl_tr (bl_dr (bl_al (bl_al (bl0 _) _) _)) hb | exact bl_tr (bl_al (bl_al (bl_al (bl0 _) _) _) _) hb | exact bl_tr (bl_dr (bl_al (bl_al (bl_al (bl0 _) _) _) _)) hb | exact bl_tr (bl_al (bl_al (bl_al (bl_al (bl0 _) _) _) _) _) hb | exact bl_tr (bl_dr (bl_al (bl_al (bl_al (bl_al (bl0 _) _) _) _) _)) hb | exact bl_tr (bl_al (bl_al (bl_al (bl_al (bl_al (bl0 _) _) _) _) _) _) hb | exact bl_tr (bl_dr (bl_al (bl_al (bl_al (bl_al (bl_al (bl0 _) _) _) _) _) _)) hb | exact bl_tr (bl_al (bl_al (bl_al (bl_al (bl_al (bl_al (bl0 _) _) _) _) _) _) _) hb | exact bl_tr (bl_dr (bl_al (bl_al (bl_al (bl_al (bl_al (bl_al (bl0 _) _) _) _) _) _) _)) hb | exact bl_tr (bl_dr (bl0 _)) hb
  replace hA := bl_tr hA hk
  replace f0 := cell_later hk f0
  replace f1 := cell_later hk f1
  replace f2 := cell_later hk f2
  replace t0 := cell_later hk t0
  replace t1 := cell_later hk t1
  clear hb hk
  have zf0 := blk_lt f0
  have zf1 := blk_lt f1
  have zf2 := blk_lt f2
  have zt0 := blk_lt t0
  have zt1 := blk_lt t1
  rw [H4.out]
  go_wp2_with fail
  refine (fawake _).mono ?_
  rintro e w9 ⟨rfl, hb9⟩
  have hA9 : Below w.heap.size w w9 := by first | exact bl_tr hA hb9 | exact bl_tr (bl_al (bl_al (bl_al hA _) _) _) hb9
  clear hA hb9
  go_wp2
  go_ret
  exact ⟨rfl, hA9⟩

set_option maxRecDepth 100000 in
set_option maxHeartbeats 8000000 in
theorem forder_yes (A B : Int) (a a0 a1 : Option Addr) (c c0 c1 : Nat) (fs : List Int) (z0 z1 : List (Int × Int)) (w : World) (hr : RowH w a fs) (hz0 : RowC w a0 z0) (hz1 : RowC w a1 z1) (n0 : a0 = none → c0 = 0) (n1 : a1 = none → c1 = 0)
    (h1 : smallB A B fs.length = true) (h2 : z0.length ≤ 100) (h3 : z1.length ≤ 100) (h4 : chkF A B fs.length = 0) :
    Calls Try.prog 8 #[.agg #[.int .i64 A, .int .i64 B, .slice a fs.length c], .agg #[.slice a0 z0.length c0, .slice a1 z1.length c1]] w fun e w' => e = .returned (.bool true) ∧ Below w.heap.size w w' := by
  have hA := bl0 w
  obtain ⟨hmay, hlen⟩ := chkF_len h4
  have H1 := Lib.hid h1
  have H4 := Lib.hid h4
  have h2' : (z0.length : Int) ≤ 100 := by omega
  have h3' : (z1.length : Int) ≤ 100 := by omega
  have he : lookE A B A B fs.length = 0 := by unfold lookE; rw [if_neg (by rw [hmay]; decide), if_pos h4, if_pos ⟨rfl, rfl⟩]
  obtain ⟨n, hn⟩ : ∃ n, fs.length = n := ⟨_, rfl⟩
  have HN := Lib.hid hn
  have HMAY := Lib.hid hmay
  have HZ0 := Lib.hid h2
  have HZ1 := Lib.hid h3
  have HE := Lib.hid he
  rw [hn] at H1 H4 ⊢
  have HN0 := Lib.hid n0
  have HN1 := Lib.hid n1
  clear h1 h2 h3 h4 hmay hlen he hn n0 n1
  go_enter Try.func8, Try.ntmps8
  go_wp2_with fail
  refine (small_any _ _ _ _ _ _).mono ?_
  rintro e w1 ⟨rfl, hb⟩
  have hk : Below w.heap.size w w1 := by first | exact hb | exact bl_tr (bl_al (bl0 _) _) hb | exact bl_tr (bl_dr (bl_al (bl0 _) _)) hb | exact bl_tr (bl_al (bl_al (bl0 _) _) _) hb | exact bl_tr (bl_dr (bl_al (bl_al (bl0 _) _) _)) hb | exact bl_tr (bl_al (bl_al (bl_al (bl0 _) _) _) _) hb | exact bl_tr (bl_dr (bl_al (bl_al (bl_al (bl0 _) _) _) _)) hb | exact bl_tr (bl_al (bl_al (bl_al (bl_al (bl0 _) _) _) _) _) hb | exact bl_tr (bl_dr (bl_al (bl_al (bl_al (bl_al (bl0 _) _) _) _) _)) hb | exact bl_tr (bl_al (bl_al (bl_al (bl_al (bl_al (bl0 _) _) _) _) _) _) hb | exact bl_tr (bl_dr (bl_al (bl_al (bl_al (bl_al (bl_al (bl0 _) _) _) _) _) _)) hb | exact bl_tr (bl_al (bl_al (bl_al (bl_al (bl_al (bl_al (bl0 _) _) _) _) _) _) _) hb | exact bl_tr (bl_dr (bl_al (bl_al (bl_al (bl_al (bl_al (bl_al (bl0 _) _) _) _) _) _) _)) hb | exact bl_tr (bl_dr (bl0 _)) hb
  replace hA := bl_tr hA hk
  have f0 := cell_later hb (v := .int .i64 A) (a := ⟨w.heap.size, 0, none⟩) (by simp [go_sem])
  have f1 := cell_later hb (v := .int .i64 B) (a := ⟨w.heap.size, 1, none⟩) (by simp [go_sem])
  have f2 := cell_later hb (v := .slice a n c) (a := ⟨w.heap.size, 2, none⟩) (by simp [go_sem])
  have t0 := cell_later hb (v := .slice a0 z0.length c0) (a := ⟨w.heap.size + 1, 0, none⟩) (by simp [go_sem])
  have t1 := cell_later hb (v := .slice a1 z1.length c1) (a := ⟨w.heap.size + 1, 1, none⟩) (by simp [go_sem])
  clear hb hk
  have zf0 := blk_lt f0
  have zf1 := blk_lt f1
  have zf2 := blk_lt f2
  have zt0 := blk_lt t0
  have zt1 := blk_lt t1
  rw [H1.out]
  go_wp2_with fail
  refine (check_any _ _ _ _ _ _).mono ?_
  rintro e w2 ⟨rfl, hb⟩
  have hk : Below w1.heap.size w1 w2 := by first | exact hb | exact bl_tr (bl_al (bl0 _) _) hb | exact bl_tr (bl_dr (bl_al (bl0 _) _)) hb | exact bl_tr (bl_al (bl_al (bl0 _) _) _) hb | exact bl_tr (bl_dr (bl_al (bl_al (bl0 _) _) _)) hb | exact bl_tr (bl_al (bl_al (bl_al (bl0 _) _) _) _) hb | exact bl_tr (bl_dr (bl_al (bl_al (bl_al (bl0 _) _) _) _)) hb | exact bl_tr (bl_al (bl_al (bl_al (bl_al (bl0 _) _) _) _) _) hb | exact bl_tr (bl_dr (bl_al (bl_al (bl_al (bl_al (bl0 _) _) _) _) _)) hb | exact bl_tr (bl_al (bl_al (bl_al (bl_al (bl_al (bl0 _) _) _) _) _) _) hb | exact bl_tr (bl_dr (bl_al (bl_al (bl_al (bl_al (bl_al (bl0 _) _) _) _) _) _)) hb | exact bl_tr (bl_al (bl_al (bl_al (bl_al (bl_al (bl_al (bl0 _) _) _) _) _) _) _) hb | exact bl_tr (bl_dr (bl_al (bl_al (bl_al (bl_al (bl_al (bl_al (bl0 _) _) _) _) _) _) _)) hb | exact bl_tr (bl_dr (bl0 _)) hb
  replace hA := bl_tr hA hk
  replace f0 := cell_later hk f0
  replace f1 := cell_later hk f1
  replace f2 := cell_later hk f2
  replace t0 := cell_later hk t0
  replace t1 := cell_later hk t1
  clear hb hk
  have zf0 := blk_lt f0
  have zf1 := blk_lt f1
  have zf2 := blk_lt f2
  have zt0 := blk_lt t0
  have zt1 := blk_lt t1
  rw [H4.out]
  go_wp2_with fail
  have hL1 := rowL_two w2 A B a c fs a0 a1 c0 c1 z0 z1 (hr.below hA) (hz0.below hA) (hz1.below hA)
  rw [HN.out] at hL1
  refine (looks_any A B (some ⟨w2.heap.size, 0, none⟩) 2 _ _ HMAY.out hL1 (two_len _ _) (two_le (Nat.le_trans HZ0.out (by decide)) (Nat.le_trans HZ1.out (by decide)))).mono ?_
  rintro e w3 ⟨g1, k1, p1, rfl, F1, hb⟩
  have hb3 := bl_tr (bl_al (bl0 w2) _) hb
  have hA3 := bl_tr hA hb3
  replace f0 := cell_later hb3 f0
  replace f1 := cell_later hb3 f1
  replace f2 := cell_later hb3 f2
  replace t0 := cell_later hb3 t0
  replace t1 := cell_later hb3 t1
  have zf := blk_lt f0
  have zt := blk_lt t0
  have V1 := Lib.hid (looksL_ver A B [⟨A, B, a, c, fs, a0, c0, z0⟩, ⟨A, B, a, c, fs, a1, c1, z1⟩])
  have P1 := Lib.hid (looksL_pos HMAY.out [⟨A, B, a, c, fs, a0, c0, z0⟩, ⟨A, B, a, c, fs, a1, c1, z1⟩])
  have S1 := Lib.hid (looksL_size A B [⟨A, B, a, c, fs, a0, c0, z0⟩, ⟨A, B, a, c, fs, a1, c1, z1⟩])
  obtain ⟨s1, hs1⟩ : ∃ s, looksL A B [⟨A, B, a, c, fs, a0, c0, z0⟩, ⟨A, B, a, c, fs, a1, c1, z1⟩] = s := ⟨_, rfl⟩
  rw [hs1] at F1 V1 P1 S1
  have HS1 := Lib.hid hs1
  clear hb hL1 hs1 hA
  go_wp2_with fail
  have hL2 := rowL_two w3 A B a c fs a1 a0 c1 c0 z1 z0 (hr.below hA3) (hz1.below hA3) (hz0.below hA3)
  rw [HN.out] at hL2
  refine (looks_any A B (some ⟨w3.heap.size, 0, none⟩) 2 _ _ HMAY.out hL2 (two_len _ _) (two_le (Nat.le_trans HZ1.out (by decide)) (Nat.le_trans HZ0.out (by decide)))).mono ?_
  rintro e w4 ⟨g2, k2, p2, rfl, F2, hb⟩
  have hb4 := bl_tr (bl_al (bl0 w3) _) hb
  have hA4 := bl_tr hA3 hb4
  replace f0 := cell_later hb4 f0
  replace f1 := cell_later hb4 f1
  replace f2 := cell_later hb4 f2
  replace t0 := cell_later hb4 t0
  replace t1 := cell_later hb4 t1
  have zf := blk_lt f0
  have zt := blk_lt t0
  replace F1 := F1.below hb4
  obtain ⟨s2, hs2⟩ : ∃ s, looksL A B [⟨A, B, a, c, fs, a1, c1, z1⟩, ⟨A, B, a, c, fs, a0, c0, z0⟩] = s := ⟨_, rfl⟩
  rw [hs2] at F2
  have HS2 := Lib.hid hs2
  clear hb hL2 hs2 hA3
  have hF1 := F1.lt
  have hF2 := F2.lt
  have hown0 := World.ownsRow_nil w4 w4.heap.size 26 2
  go_wp2_with (at_builtin; refine wpList_append_rowC rfl _ _ rfl w4.heap.size _ _ _ rfl hown0 a0 c0 z0 rfl (hz0.below hA4) HN0.out (by have := HZ0.out; omega) (Nat.le_refl _) ?_)
  intro v5 w5 hown5 hgr5
  have hg5 : w4.grownBy w5 none := by simpa [Value.ownBlock] using hgr5
  have hb5 : Below w4.heap.size w4 w5 := ⟨hg5.os, hg5.tape, hg5.output, hg5.size, fun j hj => hg5.block j hj (by simp)⟩
  have hA5 := bl_tr hA4 hb5
  replace f0 := cell_later hb5 f0
  replace f1 := cell_later hb5 f1
  replace f2 := cell_later hb5 f2
  replace t0 := cell_later hb5 t0
  replace t1 := cell_later hb5 t1
  have zf := blk_lt f0
  have zt := blk_lt t0
  replace F1 := F1.below hb5
  replace F2 := F2.below hb5
  have zb5 := hb5.size
  clear hgr5 hg5 hown0 hA4
  go_wp2_with (at_builtin; refine wpList_append_rowC rfl _ _ rfl w4.heap.size _ _ _ rfl hown5 a1 c1 z1 rfl (hz1.below hA5) HN1.out (by have := HZ0.out; have := HZ1.out; omega) zb5 ?_)
  intro v6 w6 hown6 hgr6
  have hne : ∀ j, some j = v5.ownBlock → w4.heap.size ≤ j := fun j e => (hown5.lt j e.symm).1
  have hlow : ∀ (k : Nat), k < w4.heap.size → some k ≠ v5.ownBlock := fun k hk e => by have := hne k e; omega
  have zw4 := hb4.size
  have hA6 := hA5.grown hgr6 hA5.size (fun j e => by have := hne j e.symm; have := hA5.size; omega)
  replace f0 := hgr6.cell f0 (hlow _ (by omega))
  replace f1 := hgr6.cell f1 (hlow _ (by omega))
  replace f2 := hgr6.cell f2 (hlow _ (by omega))
  replace F1 := F1.kept hgr6 (hlow _ (by omega)) (hlow _ (by omega))
  replace F2 := F2.kept hgr6 (hlow _ (by omega)) (hlow _ (by omega))
  have hza0 := HZ0.out
  have hza1 := HZ1.out
  obtain ⟨za, hza⟩ : ∃ za, z0 ++ z1 = za := ⟨_, rfl⟩
  have hzal : za.length ≤ 1000 := by rw [← hza, List.length_append]; omega
  have HZA := Lib.hid hza
  rw [flatC_app, ← List.length_append, hza] at hown6
  obtain ⟨a6, c6, rfl, hr6⟩ := rowC_of_own hown6
  clear hza hown5 hown6 hgr6 hne hlow hA5 hb5 hF1 hF2
  have zf := blk_lt f0
  go_wp2_with fail
  have hL3 := rowL_one w6 A B a c fs a6 c6 za (hr.below hA6) hr6
  rw [HN.out] at hL3
  refine (looks_any A B (some ⟨w6.heap.size, 0, none⟩) 1 _ _ HMAY.out hL3 (one_len _) (one_le hzal)).mono ?_
  rintro e w7 ⟨g3, k3, p3, rfl, F3, hb⟩
  have hb7 := bl_tr (bl_al (bl0 w6) _) hb
  have hA7 := bl_tr hA6 hb7
  replace F1 := F1.below hb7
  replace F2 := F2.below hb7
  have O1 := looks_order (X := A) (Y := B) (l0 := ⟨A, B, a, c, fs, a0, c0, z0⟩) (l1 := ⟨A, B, a, c, fs, a1, c1, z1⟩) (l2 := ⟨A, B, a, c, fs, a6, c6, za⟩) HE.out HE.out HE.out rfl rfl HZA.out.symm
  have P3 := looksL_pos HMAY.out [⟨A, B, a, c, fs, a6, c6, za⟩]
  have V3 := looksL_ver A B [⟨A, B, a, c, fs, a6, c6, za⟩]
  rw [HS1.out, HS2.out] at O1
  obtain ⟨s3, hs3⟩ : ∃ s, looksL A B [⟨A, B, a, c, fs, a6, c6, za⟩] = s := ⟨_, rfl⟩
  rw [hs3] at F3 O1 P3 V3
  rw [← O1.2] at P3
  have hsz : s1.1.length ≤ 1048576 := by
    have := area_bd HMAY.out
    rw [S1.out]; omega
  have D1 := Lib.hid (show decide (s1.1 = s2.1) = true by rw [decide_eq_true_eq]; exact O1.1)
  have D2 := Lib.hid (show decide (s1.1 = s3.1) = true by rw [decide_eq_true_eq]; exact O1.2)
  have hv2 : s1.2 ≤ 2 := V1.out.2
  have hpos : (0 < s1.2 ∧ 0 < s3.2) ∨ (¬ 0 < s1.2 ∧ ¬ 0 < s3.2) := by
    by_cases h : anyK s1.1
    · exact .inl ⟨P1.out.2 h, P3.2 h⟩
    · exact .inr ⟨fun e => h (P1.out.1 e), fun e => h (P3.1 e)⟩
  clear hb hL3 hs3 hA6 O1 P3 V3 hr6 f0 f1 f2
  obtain ⟨u1, hu1⟩ : ∃ u, s1.2 = u := ⟨_, rfl⟩
  obtain ⟨u3, hu3⟩ : ∃ u, s3.2 = u := ⟨_, rfl⟩
  rw [hu1] at hv2 hpos F1
  rw [hu3] at hpos F3
  clear hu1 hu3
  rcases hpos with ⟨p1, p3⟩ | ⟨p1, p3⟩
  all_goals
    go_wp2_with fail
    refine (fsame_any _ _ _ _ _ _ _ _ _ _ _ _ _ _ _ F1 F2 hsz).mono ?_
    rintro e w8 ⟨rfl, hb⟩
    rw [D1.out]
    replace F1 := F1.below hb
    replace F3 := F3.below hb
    have hA8 := bl_tr hA7 hb
    clear hb F2
    go_wp2_with fail
    refine (fsame_any _ _ _ _ _ _ _ _ _ _ _ _ _ _ _ F1 F3 hsz).mono ?_
    rintro e w9 ⟨rfl, hb⟩
    rw [D2.out]
    replace F1 := F1.below hb
    replace F3 := F3.below hb
    have hA9 := bl_tr hA8 hb
    clear hb hA8
    go_wp2_with fail
    refine (version_any _ _ _ _ _ _ _ _ _ F1).mono ?_
    rintro e w10 ⟨rfl, rfl⟩
    go_wp2_with fail
    refine (version_any _ _ _ _ _ _ _ _ _ F1).mono ?_
    rintro e w11 ⟨rfl, rfl⟩
    go_wp2_with fail
    refine (version_any _ _ _ _ _ _ _ _ _ F3).mono ?_
    rintro e w12 ⟨rfl, rfl⟩
    go_wp2_with fail
    refine (fawake _).mono ?_
    rintro e w13 ⟨rfl, hb⟩
    have HA := Lib.hid (bl_tr hA9 hb)
    clear hb hA9 hA7 F1 F3
    go_wp2
    go_ret
    exact ⟨rfl, HA.out⟩

theorem forder_walk (A B : Int) (a a0 a1 : Option Addr) (c c0 c1 : Nat) (fs : List Int) (z0 z1 : List (Int × Int)) (w : World) (hr : RowH w a fs) (hz0 : RowC w a0 z0) (hz1 : RowC w a1 z1) (n0 : a0 = none → c0 = 0) (n1 : a1 = none → c1 = 0) :
    Calls Try.prog 8 #[.agg #[.int .i64 A, .int .i64 B, .slice a fs.length c], .agg #[.slice a0 z0.length c0, .slice a1 z1.length c1]] w fun e w' => e = .returned (.bool true) ∧ Below w.heap.size w w' := by
  cases h1 : smallB A B fs.length with
  | false => exact forder_out1 A B a a0 a1 _ c c0 c1 z0 z1 w h1
  | true =>
  by_cases h2 : z0.length ≤ 100
  · by_cases h3 : z1.length ≤ 100
    · by_cases h4 : chkF A B fs.length = 0
      · exact forder_yes A B a a0 a1 c c0 c1 fs z0 z1 w hr hz0 hz1 n0 n1 h1 h2 h3 h4
      · exact forder_out3 A B a a0 a1 _ c c0 c1 z0 z1 w h1 h2 h3 h4
    · exact forder_out2 A B a a0 a1 _ c c0 c1 z0 z1 w h1 (.inr ⟨h2, by omega⟩)
  · exact forder_out2 A B a a0 a1 _ c c0 c1 z0 z1 w h1 (.inl (by omega))
end Go.Proofs.Ytmcgkoleaomjlaa
