/- GridEdits: its walk. -/
import Derived.Test.YthnpoeobieninaaDoorVt
import Derived.Test.YthnpoeobieninaaDoorVr
namespace Go.Proofs.YthnpoeobieninaaDoor
open Go.RowKit

set_option maxRecDepth 100000 in
set_option maxHeartbeats 4000000 in
theorem edits_small (X Y x y : Int) (a b : Option Addr) (k m c d : Nat) (w : World) (hS : Sits w) (h : smallB X Y k = false ∨ (smallB X Y k = true ∧ (100 : Int) < (m : Int))) :
    Calls Tryd.prog 3 #[.agg #[.int .i64 X, .int .i64 Y, .slice a k c], .slice b m d, .agg #[.int .i64 x, .int .i64 y]] w fun e w' => e = .returned (.bool true) ∧ Below w.heap.size w w' := by
  have hA := bl0 w
  rcases h with h1 | ⟨h1, h2⟩
  · have HS1 := Lib.hid h1
    clear h1
    go_enter Tryd.func3, Tryd.ntmps3
    go_wp2_with fail
    refine (small_any _ _ _ _ _ _).mono ?_
    rintro e w1 ⟨rfl, hb⟩
    have hk : Below w.heap.size w w1 := by first | exact hb | exact bl_tr (bl_al (bl0 _) _) hb | exact bl_tr (bl_dr (bl_al (bl0 _) _)) hb | exact bl_tr (bl_al (bl_al (bl0 _) _) _) hb | exact bl_tr (bl_dr (bl_al (bl_al (bl0 _) _) _)) hb | exact bl_tr (bl_al (bl_al (bl_al (bl0 _) _) _) _) hb | exact bl_tr (bl_dr (bl_al (bl_al (bl_al (bl0 _) _) _) _)) hb | exact bl_tr (bl_al (bl_al (bl_al (bl_al (bl0 _) _) _) _) _) hb | exact bl_tr (bl_dr (bl_al (bl_al (bl_al (bl_al (bl0 _) _) _) _) _)) hb | exact bl_tr (bl_al (bl_al (bl_al (bl_al (bl_al (bl0 _) _) _) _) _) _) hb | exact bl_tr (bl_dr (bl_al (bl_al (bl_al (bl_al (bl_al (bl0 _) _) _) _) _) _)) hb | exact bl_tr (bl_al (bl_al (bl_al (bl_al (bl_al (bl_al (bl0 _) _) _) _) _) _) _) hb | exact bl_tr (bl_dr (bl_al (bl_al (bl_al (bl_al (bl_al (bl_al (bl0 _) _) _) _) _) _) _)) hb | exact bl_tr (bl_dr (bl0 _)) hb
    replace hA := bl_tr hA hk
    clear hb hk
    rw [HS1.out]
    go_wp2_with fail
    refine (awake_any _ (hS.later hA)).mono ?_
    rintro e w2 ⟨rfl, hb⟩
    have hk : Below w1.heap.size w1 w2 := by first | exact hb | exact bl_tr (bl_al (bl0 _) _) hb | exact bl_tr (bl_dr (bl_al (bl0 _) _)) hb | exact bl_tr (bl_al (bl_al (bl0 _) _) _) hb | exact bl_tr (bl_dr (bl_al (bl_al (bl0 _) _) _)) hb | exact bl_tr (bl_al (bl_al (bl_al (bl0 _) _) _) _) hb | exact bl_tr (bl_dr (bl_al (bl_al (bl_al (bl0 _) _) _) _)) hb | exact bl_tr (bl_al (bl_al (bl_al (bl_al (bl0 _) _) _) _) _) hb | exact bl_tr (bl_dr (bl_al (bl_al (bl_al (bl_al (bl0 _) _) _) _) _)) hb | exact bl_tr (bl_al (bl_al (bl_al (bl_al (bl_al (bl0 _) _) _) _) _) _) hb | exact bl_tr (bl_dr (bl_al (bl_al (bl_al (bl_al (bl_al (bl0 _) _) _) _) _) _)) hb | exact bl_tr (bl_al (bl_al (bl_al (bl_al (bl_al (bl_al (bl0 _) _) _) _) _) _) _) hb | exact bl_tr (bl_dr (bl_al (bl_al (bl_al (bl_al (bl_al (bl_al (bl0 _) _) _) _) _) _) _)) hb | exact bl_tr (bl_dr (bl0 _)) hb
    replace hA := bl_tr hA hk
    clear hb hk
    go_wp2
    go_ret
    exact ⟨rfl, hA⟩
  · have HS1 := Lib.hid h1
    clear h1
    go_enter Tryd.func3, Tryd.ntmps3
    go_wp2_with fail
    refine (small_any _ _ _ _ _ _).mono ?_
    rintro e w1 ⟨rfl, hb⟩
    have hk : Below w.heap.size w w1 := by first | exact hb | exact bl_tr (bl_al (bl0 _) _) hb | exact bl_tr (bl_dr (bl_al (bl0 _) _)) hb | exact bl_tr (bl_al (bl_al (bl0 _) _) _) hb | exact bl_tr (bl_dr (bl_al (bl_al (bl0 _) _) _)) hb | exact bl_tr (bl_al (bl_al (bl_al (bl0 _) _) _) _) hb | exact bl_tr (bl_dr (bl_al (bl_al (bl_al (bl0 _) _) _) _)) hb | exact bl_tr (bl_al (bl_al (bl_al (bl_al (bl0 _) _) _) _) _) hb | exact bl_tr (bl_dr (bl_al (bl_al (bl_al (bl_al (bl0 _) _) _) _) _)) hb | exact bl_tr (bl_al (bl_al (bl_al (bl_al (bl_al (bl0 _) _) _) _) _) _) hb | exact bl_tr (bl_dr (bl_al (bl_al (bl_al (bl_al (bl_al (bl0 _) _) _) _) _) _)) hb | exact bl_tr (bl_al (bl_al (bl_al (bl_al (bl_al (bl_al (bl0 _) _) _) _) _) _) _) hb | exact bl_tr (bl_dr (bl_al (bl_al (bl_al (bl_al (bl_al (bl_al (bl0 _) _) _) _) _) _) _)) hb | exact bl_tr (bl_dr (bl0 _)) hb
    replace hA := bl_tr hA hk
    clear hb hk
    rw [HS1.out]
    go_wp2_with fail
    refine (awake_any _ (hS.later hA)).mono ?_
    rintro e w2 ⟨rfl, hb⟩
    have hk : Below w1.heap.size w1 w2 := by first | exact hb | exact bl_tr (bl_al (bl0 _) _) hb | exact bl_tr (bl_dr (bl_al (bl0 _) _)) hb | exact bl_tr (bl_al (bl_al (bl0 _) _) _) hb | exact bl_tr (bl_dr (bl_al (bl_al (bl0 _) _) _)) hb | exact bl_tr (bl_al (bl_al (bl_al (bl0 _) _) _) _) hb | exact bl_tr (bl_dr (bl_al (bl_al (bl_al (bl0 _) _) _) _)) hb | exact bl_tr (bl_al (bl_al (bl_al (bl_al (bl0 _) _) _) _) _) hb | exact bl_tr (bl_dr (bl_al (bl_al (bl_al (bl_al (bl0 _) _) _) _) _)) hb | exact bl_tr (bl_al (bl_al (bl_al (bl_al (bl_al (bl0 _) _) _) _) _) _) hb | exact bl_tr (bl_dr (bl_al (bl_al (bl_al (bl_al (bl_al (bl0 _) _) _) _) _) _)) hb | exact bl_tr (bl_al (bl_al (bl_al (bl_al (bl_al (bl_al (bl0 _) _) _) _) _) _) _) hb | exact bl_tr (bl_dr (bl_al (bl_al (bl_al (bl_al (bl_al (bl_al (bl0 _) _) _) _) _) _) _)) hb | exact bl_tr (bl_dr (bl0 _)) hb
    replace hA := bl_tr hA hk
    clear hb hk
    go_wp2
    go_ret
    exact ⟨rfl, hA⟩

set_option maxRecDepth 100000 in
set_option maxHeartbeats 4000000 in
theorem edits_no (X Y x y : Int) (a b : Option Addr) (k m c d : Nat) (w : World) (hS : Sits w) (h1 : smallB X Y k = true) (h2 : (m : Int) ≤ 100) (he : chkF X Y k ≠ 0) :
    Calls Tryd.prog 3 #[.agg #[.int .i64 X, .int .i64 Y, .slice a k c], .slice b m d, .agg #[.int .i64 x, .int .i64 y]] w fun e w' => e = .returned (.bool true) ∧ Below w.heap.size w w' := by
  have hA := bl0 w
  have HS1 := Lib.hid h1
  have HE := Lib.hid he
  obtain ⟨q, hq⟩ : ∃ q, chkF X Y k = q := ⟨_, rfl⟩
  have hq2 : (q != 0) = true := by rw [bne_iff_ne, ← hq]; exact he
  have hq3 : (q != q) = false := bne_self_eq_false q
  have HQ := Lib.hid hq
  clear h1 he hq
  go_enter Tryd.func3, Tryd.ntmps3
  go_wp2_with fail
  refine (small_any _ _ _ _ _ _).mono ?_
  rintro e w1 ⟨rfl, hb⟩
  have hk : Below w.heap.size w w1 := by first | exact hb | exact bl_tr (bl_al (bl0 _) _) hb | exact bl_tr (bl_dr (bl_al (bl0 _) _)) hb | exact bl_tr (bl_al (bl_al (bl0 _) _) _) hb | exact bl_tr (bl_dr (bl_al (bl_al (bl0 _) _) _)) hb | exact bl_tr (bl_al (bl_al (bl_al (bl0 _) _) _) _) hb | exact bl_tr (bl_dr (bl_al (bl_al (bl_al (bl0 _) _) _) _)) hb | exact bl_tr (bl_al (bl_al (bl_al (bl_al (bl0 _) _) _) _) _) hb | exact bl_tr (bl_dr (bl_al (bl_al (bl_al (bl_al (bl0 _) _) _) _) _)) hb | exact bl_tr (bl_al (bl_al (bl_al (bl_al (bl_al (bl0 _) _) _) _) _) _) hb | exact bl_tr (bl_dr (bl_al (bl_al (bl_al (bl_al (bl_al (bl0 _) _) _) _) _) _)) hb | exact bl_tr (bl_al (bl_al (bl_al (bl_al (bl_al (bl_al (bl0 _) _) _) _) _) _) _) hb | exact bl_tr (bl_dr (bl_al (bl_al (bl_al (bl_al (bl_al (bl_al (bl0 _) _) _) _) _) _) _)) hb | exact bl_tr (bl_dr (bl0 _)) hb
  replace hA := bl_tr hA hk
  have f0 := cell_later hb (v := .int .i64 X) (a := ⟨w.heap.size, 0, none⟩) (by simp [go_sem])
  have f1 := cell_later hb (v := .int .i64 Y) (a := ⟨w.heap.size, 1, none⟩) (by simp [go_sem])
  have f2 := cell_later hb (v := .slice a k c) (a := ⟨w.heap.size, 2, none⟩) (by simp [go_sem])
  clear hb hk
  have zf0 := blk_lt f0
  have zf1 := blk_lt f1
  have zf2 := blk_lt f2
  rw [HS1.out]
  go_wp2_with fail
  refine (new_no X Y a k c _ HE.out).mono ?_
  rintro e w2 ⟨rfl, hb⟩
  have hk : Below w1.heap.size w1 w2 := by first | exact hb | exact bl_tr (bl_al (bl0 _) _) hb | exact bl_tr (bl_dr (bl_al (bl0 _) _)) hb | exact bl_tr (bl_al (bl_al (bl0 _) _) _) hb | exact bl_tr (bl_dr (bl_al (bl_al (bl0 _) _) _)) hb | exact bl_tr (bl_al (bl_al (bl_al (bl0 _) _) _) _) hb | exact bl_tr (bl_dr (bl_al (bl_al (bl_al (bl0 _) _) _) _)) hb | exact bl_tr (bl_al (bl_al (bl_al (bl_al (bl0 _) _) _) _) _) hb | exact bl_tr (bl_dr (bl_al (bl_al (bl_al (bl_al (bl0 _) _) _) _) _)) hb | exact bl_tr (bl_al (bl_al (bl_al (bl_al (bl_al (bl0 _) _) _) _) _) _) hb | exact bl_tr (bl_dr (bl_al (bl_al (bl_al (bl_al (bl_al (bl0 _) _) _) _) _) _)) hb | exact bl_tr (bl_al (bl_al (bl_al (bl_al (bl_al (bl_al (bl0 _) _) _) _) _) _) _) hb | exact bl_tr (bl_dr (bl_al (bl_al (bl_al (bl_al (bl_al (bl_al (bl0 _) _) _) _) _) _) _)) hb | exact bl_tr (bl_dr (bl0 _)) hb
  replace hA := bl_tr hA hk
  replace f0 := cell_later hk f0
  replace f1 := cell_later hk f1
  replace f2 := cell_later hk f2
  clear hb hk
  have zf0 := blk_lt f0
  have zf1 := blk_lt f1
  have zf2 := blk_lt f2
  rw [HQ.out]
  go_wp2_with fail
  refine (rcheck_any _ _ _ _ _ _).mono ?_
  rintro e w3 ⟨rfl, hb⟩
  have hk : Below w2.heap.size w2 w3 := by first | exact hb | exact bl_tr (bl_al (bl0 _) _) hb | exact bl_tr (bl_dr (bl_al (bl0 _) _)) hb | exact bl_tr (bl_al (bl_al (bl0 _) _) _) hb | exact bl_tr (bl_dr (bl_al (bl_al (bl0 _) _) _)) hb | exact bl_tr (bl_al (bl_al (bl_al (bl0 _) _) _) _) hb | exact bl_tr (bl_dr (bl_al (bl_al (bl_al (bl0 _) _) _) _)) hb | exact bl_tr (bl_al (bl_al (bl_al (bl_al (bl0 _) _) _) _) _) hb | exact bl_tr (bl_dr (bl_al (bl_al (bl_al (bl_al (bl0 _) _) _) _) _)) hb | exact bl_tr (bl_al (bl_al (bl_al (bl_al (bl_al (bl0 _) _) _) _) _) _) hb | exact bl_tr (bl_dr (bl_al (bl_al (bl_al (bl_al (bl_al (bl0 _) _) _) _) _) _)) hb | exact bl_tr (bl_al (bl_al (bl_al (bl_al (bl_al (bl_al (bl0 _) _) _) _) _) _) _) hb | exact bl_tr (bl_dr (bl_al (bl_al (bl_al (bl_al (bl_al (bl_al (bl0 _) _) _) _) _) _) _)) hb | exact bl_tr (bl_dr (bl0 _)) hb
  replace hA := bl_tr hA hk
  replace f0 := cell_later hk f0
  replace f1 := cell_later hk f1
  replace f2 := cell_later hk f2
  clear hb hk
  have zf0 := blk_lt f0
  have zf1 := blk_lt f1
  have zf2 := blk_lt f2
  rw [HQ.out]
  go_wp2_with fail
  refine (check_any _ _ _ _ _ _).mono ?_
  rintro e w4 ⟨rfl, hb⟩
  have hk : Below w3.heap.size w3 w4 := by first | exact hb | exact bl_tr (bl_al (bl0 _) _) hb | exact bl_tr (bl_dr (bl_al (bl0 _) _)) hb | exact bl_tr (bl_al (bl_al (bl0 _) _) _) hb | exact bl_tr (bl_dr (bl_al (bl_al (bl0 _) _) _)) hb | exact bl_tr (bl_al (bl_al (bl_al (bl0 _) _) _) _) hb | exact bl_tr (bl_dr (bl_al (bl_al (bl_al (bl0 _) _) _) _)) hb | exact bl_tr (bl_al (bl_al (bl_al (bl_al (bl0 _) _) _) _) _) hb | exact bl_tr (bl_dr (bl_al (bl_al (bl_al (bl_al (bl0 _) _) _) _) _)) hb | exact bl_tr (bl_al (bl_al (bl_al (bl_al (bl_al (bl0 _) _) _) _) _) _) hb | exact bl_tr (bl_dr (bl_al (bl_al (bl_al (bl_al (bl_al (bl0 _) _) _) _) _) _)) hb | exact bl_tr (bl_al (bl_al (bl_al (bl_al (bl_al (bl_al (bl0 _) _) _) _) _) _) _) hb | exact bl_tr (bl_dr (bl_al (bl_al (bl_al (bl_al (bl_al (bl_al (bl0 _) _) _) _) _) _) _)) hb | exact bl_tr (bl_dr (bl0 _)) hb
  replace hA := bl_tr hA hk
  replace f0 := cell_later hk f0
  replace f1 := cell_later hk f1
  replace f2 := cell_later hk f2
  clear hb hk
  have zf0 := blk_lt f0
  have zf1 := blk_lt f1
  have zf2 := blk_lt f2
  rw [HQ.out]
  go_wp2_with fail
  refine (awake_any _ (hS.later hA)).mono ?_
  rintro e w5 ⟨rfl, hb⟩
  have hk : Below w4.heap.size w4 w5 := by first | exact hb | exact bl_tr (bl_al (bl0 _) _) hb | exact bl_tr (bl_dr (bl_al (bl0 _) _)) hb | exact bl_tr (bl_al (bl_al (bl0 _) _) _) hb | exact bl_tr (bl_dr (bl_al (bl_al (bl0 _) _) _)) hb | exact bl_tr (bl_al (bl_al (bl_al (bl0 _) _) _) _) hb | exact bl_tr (bl_dr (bl_al (bl_al (bl_al (bl0 _) _) _) _)) hb | exact bl_tr (bl_al (bl_al (bl_al (bl_al (bl0 _) _) _) _) _) hb | exact bl_tr (bl_dr (bl_al (bl_al (bl_al (bl_al (bl0 _) _) _) _) _)) hb | exact bl_tr (bl_al (bl_al (bl_al (bl_al (bl_al (bl0 _) _) _) _) _) _) hb | exact bl_tr (bl_dr (bl_al (bl_al (bl_al (bl_al (bl_al (bl0 _) _) _) _) _) _)) hb | exact bl_tr (bl_al (bl_al (bl_al (bl_al (bl_al (bl_al (bl0 _) _) _) _) _) _) _) hb | exact bl_tr (bl_dr (bl_al (bl_al (bl_al (bl_al (bl_al (bl_al (bl0 _) _) _) _) _) _) _)) hb | exact bl_tr (bl_dr (bl0 _)) hb
  replace hA := bl_tr hA hk
  clear hb hk
  go_wp2
  go_ret
  exact ⟨rfl, hA⟩

/-- All but two blocks lie as they lay, as a fact that a walk carries. -/
def KeptW (g h : Nat) (A B : World) : Prop := Kept2 g h A B
theorem KeptW.below {g h : Nat} {A B C : World} (x : KeptW g h A B) (hb : Below B.heap.size B C) : KeptW g h A C := Kept2.trans x (Kept2.of_below hb)
theorem kept2_set {g h nb o : Nat} {A B : World} (u : Value) (x : Kept2 g h A B) (hn : A.heap.size ≤ nb) : Kept2 g h A (B.setCell ⟨nb, o, none⟩ u) :=
  ⟨x.1.setCell (p := ⟨nb, o, none⟩) (Nat.zero_le _) u, fun k h1 h2 h3 => (Below.heap_setCell _ _ _ k (show k ≠ nb by omega)).trans (x.2 k h1 h2 h3)⟩

set_option maxRecDepth 100000 in
set_option maxHeartbeats 2000000 in
theorem edits_yes (X Y x y : Int) (a a1 : Option Addr) (c d : Nat) (zs : List Int) (ls : List ((Int × Int) × Int)) (w : World) (hr : RowH w a zs) (hin : AllH zs) (hl : RowE w a1 ls) (hS : Sits w) (h1 : smallB X Y zs.length = true) (h2 : (ls.length : Int) ≤ 100) (hx : chkF X Y zs.length = 0) :
    Calls Tryd.prog 3 #[.agg #[.int .i64 X, .int .i64 Y, .slice a zs.length c], .slice a1 ls.length d, .agg #[.int .i64 x, .int .i64 y]] w fun e w' => e = .returned (.bool true) ∧ Below w.heap.size w w' := by
  have hlx : zs.length ≤ 600 := by
    have h := h1
    unfold smallB at h
    simp at h
    omega
  have HS1 := Lib.hid h1
  clear h1
  have hA := bl0 w
  obtain ⟨hm, hn, hn1, hn2⟩ := chk_ok hx
  have HX := Lib.hid hx
  have HM := Lib.hid hm
  have HN := Lib.hid hn
  have hmk := fun w => make_int zs.length (by omega) w
  clear hx hm hn
  go_enter Tryd.func3, Tryd.ntmps3
  go_wp2_with fail
  refine (small_any _ _ _ _ _ _).mono ?_
  rintro e w1 ⟨rfl, hb⟩
  have hk : Below w.heap.size w w1 := by first | exact hb | exact bl_tr (bl_al (bl0 _) _) hb | exact bl_tr (bl_dr (bl_al (bl0 _) _)) hb | exact bl_tr (bl_al (bl_al (bl0 _) _) _) hb | exact bl_tr (bl_dr (bl_al (bl_al (bl0 _) _) _)) hb | exact bl_tr (bl_al (bl_al (bl_al (bl0 _) _) _) _) hb | exact bl_tr (bl_dr (bl_al (bl_al (bl_al (bl0 _) _) _) _)) hb | exact bl_tr (bl_al (bl_al (bl_al (bl_al (bl0 _) _) _) _) _) hb | exact bl_tr (bl_dr (bl_al (bl_al (bl_al (bl_al (bl0 _) _) _) _) _)) hb | exact bl_tr (bl_al (bl_al (bl_al (bl_al (bl_al (bl0 _) _) _) _) _) _) hb | exact bl_tr (bl_dr (bl_al (bl_al (bl_al (bl_al (bl_al (bl0 _) _) _) _) _) _)) hb | exact bl_tr (bl_al (bl_al (bl_al (bl_al (bl_al (bl_al (bl0 _) _) _) _) _) _) _) hb | exact bl_tr (bl_dr (bl_al (bl_al (bl_al (bl_al (bl_al (bl_al (bl0 _) _) _) _) _) _) _)) hb | exact bl_tr (bl_dr (bl0 _)) hb
  replace hA := bl_tr hA hk
  have f0 := cell_later hb (v := .int .i64 X) (a := ⟨w.heap.size, 0, none⟩) (by simp [go_sem])
  have f1 := cell_later hb (v := .int .i64 Y) (a := ⟨w.heap.size, 1, none⟩) (by simp [go_sem])
  have f2 := cell_later hb (v := .slice a zs.length c) (a := ⟨w.heap.size, 2, none⟩) (by simp [go_sem])
  have e0 := cell_later hb (v := .int .i64 x) (a := ⟨w.heap.size + 1, 0, none⟩) (by simp [go_sem])
  have e1 := cell_later hb (v := .int .i64 y) (a := ⟨w.heap.size + 1, 1, none⟩) (by simp [go_sem])
  clear hb hk
  have zf0 := blk_lt f0
  have zf1 := blk_lt f1
  have zf2 := blk_lt f2
  have ze0 := blk_lt e0
  have ze1 := blk_lt e1
  rw [HS1.out]
  have hlow := bl0 w1
  go_wp2_with fail
  refine (new_yes X Y a c zs _ (hr.below hA) HX.out).mono ?_
  rintro e w2 ⟨g, h, cap, rfl, hg, hb⟩
  have hk : Below w1.heap.size w1 w2 := by first | exact hb | exact bl_tr (bl_al (bl0 _) _) hb | exact bl_tr (bl_dr (bl_al (bl0 _) _)) hb | exact bl_tr (bl_al (bl_al (bl0 _) _) _) hb | exact bl_tr (bl_dr (bl_al (bl_al (bl0 _) _) _)) hb | exact bl_tr (bl_al (bl_al (bl_al (bl0 _) _) _) _) hb | exact bl_tr (bl_dr (bl_al (bl_al (bl_al (bl0 _) _) _) _)) hb | exact bl_tr (bl_al (bl_al (bl_al (bl_al (bl0 _) _) _) _) _) hb | exact bl_tr (bl_dr (bl_al (bl_al (bl_al (bl_al (bl0 _) _) _) _) _)) hb | exact bl_tr (bl_al (bl_al (bl_al (bl_al (bl_al (bl0 _) _) _) _) _) _) hb | exact bl_tr (bl_dr (bl_al (bl_al (bl_al (bl_al (bl_al (bl0 _) _) _) _) _) _)) hb | exact bl_tr (bl_al (bl_al (bl_al (bl_al (bl_al (bl_al (bl0 _) _) _) _) _) _) _) hb | exact bl_tr (bl_dr (bl_al (bl_al (bl_al (bl_al (bl_al (bl_al (bl0 _) _) _) _) _) _) _)) hb | exact bl_tr (bl_dr (bl0 _)) hb
  replace hA := bl_tr hA hk
  replace f0 := cell_later hk f0
  replace f1 := cell_later hk f1
  replace f2 := cell_later hk f2
  replace e0 := cell_later hk e0
  replace e1 := cell_later hk e1
  clear hb hk
  have zf0 := blk_lt f0
  have zf1 := blk_lt f1
  have zf2 := blk_lt f2
  have ze0 := blk_lt e0
  have ze1 := blk_lt e1
  go_wp2_with fail
  refine (rcheck_any _ _ _ _ _ _).mono ?_
  rintro e w3 ⟨rfl, hb⟩
  have hk : Below w2.heap.size w2 w3 := by first | exact hb | exact bl_tr (bl_al (bl0 _) _) hb | exact bl_tr (bl_dr (bl_al (bl0 _) _)) hb | exact bl_tr (bl_al (bl_al (bl0 _) _) _) hb | exact bl_tr (bl_dr (bl_al (bl_al (bl0 _) _) _)) hb | exact bl_tr (bl_al (bl_al (bl_al (bl0 _) _) _) _) hb | exact bl_tr (bl_dr (bl_al (bl_al (bl_al (bl0 _) _) _) _)) hb | exact bl_tr (bl_al (bl_al (bl_al (bl_al (bl0 _) _) _) _) _) hb | exact bl_tr (bl_dr (bl_al (bl_al (bl_al (bl_al (bl0 _) _) _) _) _)) hb | exact bl_tr (bl_al (bl_al (bl_al (bl_al (bl_al (bl0 _) _) _) _) _) _) hb | exact bl_tr (bl_dr (bl_al (bl_al (bl_al (bl_al (bl_al (bl0 _) _) _) _) _) _)) hb | exact bl_tr (bl_al (bl_al (bl_al (bl_al (bl_al (bl_al (bl0 _) _) _) _) _) _) _) hb | exact bl_tr (bl_dr (bl_al (bl_al (bl_al (bl_al (bl_al (bl_al (bl0 _) _) _) _) _) _) _)) hb | exact bl_tr (bl_dr (bl0 _)) hb
  replace hA := bl_tr hA hk
  replace hg := hg.below hk
  replace f0 := cell_later hk f0
  replace f1 := cell_later hk f1
  replace f2 := cell_later hk f2
  replace e0 := cell_later hk e0
  replace e1 := cell_later hk e1
  clear hb hk
  have zf0 := blk_lt f0
  have zf1 := blk_lt f1
  have zf2 := blk_lt f2
  have ze0 := blk_lt e0
  have ze1 := blk_lt e1
  rw [HX.out]
  go_wp2_with fail
  refine (check_any _ _ _ _ _ _).mono ?_
  rintro e w4 ⟨rfl, hb⟩
  have hk : Below w3.heap.size w3 w4 := by first | exact hb | exact bl_tr (bl_al (bl0 _) _) hb | exact bl_tr (bl_dr (bl_al (bl0 _) _)) hb | exact bl_tr (bl_al (bl_al (bl0 _) _) _) hb | exact bl_tr (bl_dr (bl_al (bl_al (bl0 _) _) _)) hb | exact bl_tr (bl_al (bl_al (bl_al (bl0 _) _) _) _) hb | exact bl_tr (bl_dr (bl_al (bl_al (bl_al (bl0 _) _) _) _)) hb | exact bl_tr (bl_al (bl_al (bl_al (bl_al (bl0 _) _) _) _) _) hb | exact bl_tr (bl_dr (bl_al (bl_al (bl_al (bl_al (bl0 _) _) _) _) _)) hb | exact bl_tr (bl_al (bl_al (bl_al (bl_al (bl_al (bl0 _) _) _) _) _) _) hb | exact bl_tr (bl_dr (bl_al (bl_al (bl_al (bl_al (bl_al (bl0 _) _) _) _) _) _)) hb | exact bl_tr (bl_al (bl_al (bl_al (bl_al (bl_al (bl_al (bl0 _) _) _) _) _) _) _) hb | exact bl_tr (bl_dr (bl_al (bl_al (bl_al (bl_al (bl_al (bl_al (bl0 _) _) _) _) _) _) _)) hb | exact bl_tr (bl_dr (bl0 _)) hb
  replace hA := bl_tr hA hk
  replace hg := hg.below hk
  replace f0 := cell_later hk f0
  replace f1 := cell_later hk f1
  replace f2 := cell_later hk f2
  replace e0 := cell_later hk e0
  replace e1 := cell_later hk e1
  clear hb hk
  have zf0 := blk_lt f0
  have zf1 := blk_lt f1
  have zf2 := blk_lt f2
  have ze0 := blk_lt e0
  have ze1 := blk_lt e1
  rw [HX.out]
  have hg1 := hg.1
  have hg2 := hg.lt.2.1
  have z0 := blk_lt f0
  have ze := blk_lt e0
  have hgl := hg.lt
  have HG := Lib.hid hg
  have HA := Lib.hid hA
  have hzw := hA.size
  clear hg hA hlow
  go_wp2
  obtain ⟨nb, hnb⟩ : ∃ nb, w4.heap.size = nb := ⟨_, rfl⟩
  have hown0 := made_own w4 zs.length (by omega)
  have hk0w : Kept2 g h w4 (w4.alloc (.cells (Array.replicate zs.length (Value.int .i64 0)) 3)) := Kept2.of_below (bl_al (bl0 _) _)
  have hg0w := HG.out.below (bl_al (bl0 _) (.cells (Array.replicate zs.length (Value.int .i64 0)) 3))
  rw [hnb] at hown0 hgl hzw ⊢
  go_loopw [11] (fun i wr => ∃ (k : Nat) (ts : List Int), k ≤ zs.length ∧ i = .int .i64 k ∧ ts.length = zs.length ∧ ts.take k = zs.take k ∧ wr.ownsRow nb 3 1 (.slice (some ⟨nb, 0, none⟩) zs.length zs.length) zs.length (cellsI ts) ∧ GridAt wr w1.heap.size g h cap X Y zs 0 ∧ Kept2 g h w4 wr) (fun i _ => zs.length - (intOf i).toNat)
  case atStart => exact ⟨0, List.replicate zs.length 0, Nat.zero_le _, rfl, by simp, rfl, hown0, hg0w, hk0w⟩
  case round =>
    obtain ⟨k, ts, hk, rfl, htl, htk, hown, hgr, hKp⟩ := hrel
    have f0' := hKp.cell f0 (by omega) (by omega)
    have f1' := hKp.cell f1 (by omega) (by omega)
    have f2' := hKp.cell f2 (by omega) (by omega)
    have e0' := hKp.cell e0 (by omega) (by omega)
    have e1' := hKp.cell e1 (by omega) (by omega)
    have hAr : Below w.heap.size w wr := HA.out.trans (hKp.below (by omega) (by omega) (by omega))
    have hrW := hr.below hAr
    by_cases hlt : k < zs.length
    · have hlt2 : (k : Int) < (zs.length : Int) := by omega
      have hk0 : (0 : Int) ≤ (k : Int) := by omega
      obtain ⟨gb, go, rfl, q⟩ := hrW.cell hlt
      have hz0 := hin.at hlt
      have hww : IntKind.i64.wrap zs[k] = zs[k] := by have := hz0.1; have := hz0.2; rw [IntKind.wrap_i64]; omega
      have q2 := hown.cellAt k (by omega)
      have q3 : wr.cell? ⟨nb, k, none⟩ = some (.int .i64 (ts[k]'(by omega))) := by rw [q2]; simp [cellsI, htl, hlt]
      have hf := hown.frozenAt k
      obtain ⟨hst, _⟩ := hown.stored k (.int .i64 zs[k])
      rw [cellsI_set] at hst
      have HST := Lib.hid hst
      have HGR := Lib.hid (hgr.kept2 (Kept2.st (g := nb) (h := nb) (o := k) (.int .i64 zs[k])) (by omega) (by omega) (by omega) (by omega))
      have HKK := Lib.hid (kept2_set (o := k) (.int .i64 zs[k]) hKp (show w4.heap.size ≤ nb by omega))
      have HTK := Lib.hid (show (ts.set k zs[k]).take (k + 1) = zs.take (k + 1) by
        rw [List.take_succ_eq_append_getElem (by rw [List.length_set]; omega), List.take_succ_eq_append_getElem hlt, List.getElem_set_self, List.take_set_of_le (Nat.le_refl _), htk])
      clear hst q2 hown hgr hKp htk hr hrW hAr hz0
      generalize zs[k] = z at *
      go_wp2
      go_roundw
      case rel => exact ⟨k + 1, ts.set k z, by omega, by go_num, by rw [List.length_set]; exact htl, HTK.out, HST.out, HGR.out, HKK.out⟩
      case measure => simp [intOf]; omega
    · obtain rfl : k = zs.length := by omega
      have hge : (zs.length : Int) ≤ (zs.length : Int) := Int.le_refl _
      have hts : ts = zs := by
        have h := htk
        rw [List.take_length, List.take_of_length_le (by omega)] at h
        exact h
      rw [hts] at hown
      have HO := Lib.hid hown
      have HGR := Lib.hid hgr
      have HKP := Lib.hid hKp
      clear hts htk htl hown hgr hKp hrW hAr f0' f1' f2' e0' e1'
      go_wp2
      go_loopw [12, 13] (fun t i wx => ∃ (k : Nat) (zs2 : List Int) (tv : Int), k ≤ ls.length ∧ i = .int .i64 k ∧ t = .int .i64 tv ∧ 0 ≤ tv ∧ tv ≤ k ∧ zs2.length = zs.length ∧ AllH zs2 ∧ wx.ownsRow nb 3 1 (.slice (some ⟨nb, 0, none⟩) zs.length zs.length) zs.length (cellsI zs2) ∧ GridAt wx w1.heap.size g h cap X Y zs2 tv ∧ Kept2 g h w4 wx) (fun _ i _ => ls.length - (intOf i).toNat)
      case atStart => exact ⟨0, zs, 0, Nat.zero_le _, rfl, rfl, by omega, by omega, rfl, hin, HO.out, HGR.out, HKP.out⟩
      case round =>
        obtain ⟨k, zs2, tv, hk, rfl, rfl, ht0, ht1, hz2, hin2, hown, hgr, hKp⟩ := hrel
        have f0' := hKp.cell f0 (by omega) (by omega)
        have f1' := hKp.cell f1 (by omega) (by omega)
        have f2' := hKp.cell f2 (by omega) (by omega)
        have e0' := hKp.cell e0 (by omega) (by omega)
        have e1' := hKp.cell e1 (by omega) (by omega)
        have hAr : Below w.heap.size w wr := HA.out.trans (hKp.below (by omega) (by omega) (by omega))
        by_cases hlt : k < ls.length
        · have hlt2 : (k : Int) < (ls.length : Int) := by omega
          have hk0 : (0 : Int) ≤ (k : Int) := by omega
          obtain ⟨gb, go, rfl, p0, p1, p2⟩ := hl.cell hlt
          have zgb := blk_lt p0
          have q0 := cell_later hAr p0
          have q1 := cell_later hAr p1
          have q2 := cell_later hAr p2
          clear p0 p1 p2
          obtain ⟨ex, hex⟩ : ∃ z, ls[k].1.1 = z := ⟨_, rfl⟩
          obtain ⟨ey, hey⟩ : ∃ z, ls[k].1.2 = z := ⟨_, rfl⟩
          obtain ⟨ec, hec⟩ : ∃ z, ls[k].2 = z := ⟨_, rfl⟩
          rw [hex] at q0
          rw [hey] at q1
          rw [hec] at q2
          clear hex hey hec hl hAr e0' e1'
          have hKW : KeptW g h w4 wr := hKp
          have hA : Below w.heap.size w wr := HA.out.trans (hKp.below (by omega) (by omega) (by omega))
          clear hKp
          obtain ⟨ib, hib⟩ : ∃ ib, inB X Y ex ey = ib := ⟨_, rfl⟩
          have HI := Lib.hid hib
          have hbt := bne_self_eq_false tv
          by_cases hc1 : ec < 0 ∨ 65535 < ec
          · clear hib
            go_wp2_with fail
            refine (edit_arg g ex ey ec _ hc1).mono ?_
            rintro e w5 ⟨rfl, hb⟩
            have hk : Below wr.heap.size wr w5 := by first | exact hb | exact bl_tr (bl_al (bl0 _) _) hb | exact bl_tr (bl_dr (bl_al (bl0 _) _)) hb | exact bl_tr (bl_al (bl_al (bl0 _) _) _) hb | exact bl_tr (bl_dr (bl_al (bl_al (bl0 _) _) _)) hb | exact bl_tr (bl_al (bl_al (bl_al (bl0 _) _) _) _) hb | exact bl_tr (bl_dr (bl_al (bl_al (bl_al (bl0 _) _) _) _)) hb | exact bl_tr (bl_al (bl_al (bl_al (bl_al (bl0 _) _) _) _) _) hb | exact bl_tr (bl_dr (bl_al (bl_al (bl_al (bl_al (bl0 _) _) _) _) _)) hb | exact bl_tr (bl_al (bl_al (bl_al (bl_al (bl_al (bl0 _) _) _) _) _) _) hb | exact bl_tr (bl_dr (bl_al (bl_al (bl_al (bl_al (bl_al (bl0 _) _) _) _) _) _)) hb | exact bl_tr (bl_al (bl_al (bl_al (bl_al (bl_al (bl_al (bl0 _) _) _) _) _) _) _) hb | exact bl_tr (bl_dr (bl_al (bl_al (bl_al (bl_al (bl_al (bl_al (bl0 _) _) _) _) _) _) _)) hb | exact bl_tr (bl_dr (bl0 _)) hb
            replace hA := bl_tr hA hk
            replace hgr := hgr.below hk
            replace hKW := hKW.below hk
            replace f0' := cell_later hk f0'
            replace f1' := cell_later hk f1'
            replace f2' := cell_later hk f2'
            replace q0 := cell_later hk q0
            replace q1 := cell_later hk q1
            replace q2 := cell_later hk q2
            replace hown := own_later hown hk
            clear hb hk
            have zf0' := blk_lt f0'
            have zf1' := blk_lt f1'
            have zf2' := blk_lt f2'
            have zq0 := blk_lt q0
            have zq1 := blk_lt q1
            have zq2 := blk_lt q2
            go_wp2_with fail
            have hB := bl_dr (bl0 w5)
            go_region_held3 (fun W => W.cell? ⟨w.heap.size, 0, none⟩ = some (.int .i64 X) ∧ W.cell? ⟨w.heap.size, 1, none⟩ = some (.int .i64 Y) ∧ W.cell? ⟨gb, go + k * 3, none⟩ = some (.int .i64 ex) ∧ W.cell? ⟨gb, go + k * 3 + 1, none⟩ = some (.int .i64 ey))
              (exact ⟨cell_later hB f0', cell_later hB f1', cell_later hB q0, cell_later hB q1⟩)
              (first
                | (go_at_call 14; refine (rin_any _ _ _ _ _).mono ?_; rintro e W2 ⟨rfl, hb⟩; rw [HI.out]; replace hB := bl_tr hB hb; clear hb))
            all_goals
              rcases hc1 with hc1 | hc1
            all_goals
              replace f0' := cell_later hB f0'
              replace f1' := cell_later hB f1'
              replace f2' := cell_later hB f2'
              replace q0 := cell_later hB q0
              replace q1 := cell_later hB q1
              replace q2 := cell_later hB q2
              replace hgr := hgr.below hB
              replace hKW := hKW.below hB
              replace hown := own_later hown hB
              clear hB hA
              go_wp2_with fail
              refine (edits_any _ g h cap X Y _ _ _ hgr).mono ?_
              rintro e w7 ⟨rfl, rfl⟩
              have HG7 := Lib.hid hgr
              have HK7 := Lib.hid hKW
              have HO7 := Lib.hid hown
              clear hgr hKW hown
              go_wp2
              go_roundw
              case rel => exact ⟨k + 1, zs2, tv, by omega, by go_num, rfl, ht0, by omega, hz2, hin2, HO7.out, HG7.out, HK7.out⟩
              case measure => simp [intOf]; omega
          · have hc3 : 0 ≤ ec := by omega
            have hc4 : ec ≤ 65535 := by omega
            clear hc1 hib
            cases ib
            ·
              go_wp2_with fail
              refine (edit_no _ g h cap X Y ex ey ec zs2 tv _ hgr hc3 hc4 HI.out).mono ?_
              rintro e w5 ⟨rfl, hb⟩
              have hk : Below wr.heap.size wr w5 := by first | exact hb | exact bl_tr (bl_al (bl0 _) _) hb | exact bl_tr (bl_dr (bl_al (bl0 _) _)) hb | exact bl_tr (bl_al (bl_al (bl0 _) _) _) hb | exact bl_tr (bl_dr (bl_al (bl_al (bl0 _) _) _)) hb | exact bl_tr (bl_al (bl_al (bl_al (bl0 _) _) _) _) hb | exact bl_tr (bl_dr (bl_al (bl_al (bl_al (bl0 _) _) _) _)) hb | exact bl_tr (bl_al (bl_al (bl_al (bl_al (bl0 _) _) _) _) _) hb | exact bl_tr (bl_dr (bl_al (bl_al (bl_al (bl_al (bl0 _) _) _) _) _)) hb | exact bl_tr (bl_al (bl_al (bl_al (bl_al (bl_al (bl0 _) _) _) _) _) _) hb | exact bl_tr (bl_dr (bl_al (bl_al (bl_al (bl_al (bl_al (bl0 _) _) _) _) _) _)) hb | exact bl_tr (bl_al (bl_al (bl_al (bl_al (bl_al (bl_al (bl0 _) _) _) _) _) _) _) hb | exact bl_tr (bl_dr (bl_al (bl_al (bl_al (bl_al (bl_al (bl_al (bl0 _) _) _) _) _) _) _)) hb | exact bl_tr (bl_dr (bl0 _)) hb
              replace hA := bl_tr hA hk
              replace hgr := hgr.below hk
              replace hKW := hKW.below hk
              replace f0' := cell_later hk f0'
              replace f1' := cell_later hk f1'
              replace f2' := cell_later hk f2'
              replace q0 := cell_later hk q0
              replace q1 := cell_later hk q1
              replace q2 := cell_later hk q2
              replace hown := own_later hown hk
              clear hb hk
              have zf0' := blk_lt f0'
              have zf1' := blk_lt f1'
              have zf2' := blk_lt f2'
              have zq0 := blk_lt q0
              have zq1 := blk_lt q1
              have zq2 := blk_lt q2
              go_wp2_with fail
              have hB := bl_dr (bl0 w5)
              go_region_held3 (fun W => W.cell? ⟨w.heap.size, 0, none⟩ = some (.int .i64 X) ∧ W.cell? ⟨w.heap.size, 1, none⟩ = some (.int .i64 Y) ∧ W.cell? ⟨gb, go + k * 3, none⟩ = some (.int .i64 ex) ∧ W.cell? ⟨gb, go + k * 3 + 1, none⟩ = some (.int .i64 ey))
                (exact ⟨cell_later hB f0', cell_later hB f1', cell_later hB q0, cell_later hB q1⟩)
                (first
                  | (go_at_call 14; refine (rin_any _ _ _ _ _).mono ?_; rintro e W2 ⟨rfl, hb⟩; rw [HI.out]; replace hB := bl_tr hB hb; clear hb))
              all_goals
                replace f0' := cell_later hB f0'
                replace f1' := cell_later hB f1'
                replace f2' := cell_later hB f2'
                replace q0 := cell_later hB q0
                replace q1 := cell_later hB q1
                replace q2 := cell_later hB q2
                replace hgr := hgr.below hB
                replace hKW := hKW.below hB
                replace hown := own_later hown hB
                clear hB hA
                go_wp2_with fail
                refine (edits_any _ g h cap X Y _ _ _ hgr).mono ?_
                rintro e w7 ⟨rfl, rfl⟩
                have HG7 := Lib.hid hgr
                have HK7 := Lib.hid hKW
                have HO7 := Lib.hid hown
                clear hgr hKW hown
                go_wp2
                go_roundw
                case rel => exact ⟨k + 1, zs2, tv, by omega, by go_num, rfl, ht0, by omega, hz2, hin2, HO7.out, HG7.out, HK7.out⟩
                case measure => simp [intOf]; omega
            · obtain ⟨j, hj⟩ : ∃ j : Nat, ey * X + ex = j := ⟨(ey * X + ex).toNat, by have := (num_bd HX.out HI.out).1; omega⟩
              have hjl : j < zs2.length := by have := (num_bd HX.out HI.out).2; omega
              have hj2 : (j : Int) < (zs.length : Int) := by omega
              have hj0 : (0 : Int) ≤ (j : Int) := by omega
              have u1 : IntKind.i64.wrap (ey * X) = ey * X := by
                obtain ⟨i1, i2, i3, i4, i5, i6, i7, i8⟩ := inB_iff.1 HI.out
                obtain ⟨m1, m2⟩ := mul_bd i7 (by omega) i1 i2
                exact IntWalk.i64_in _ (by omega)
              have u2 : IntKind.i64.wrap (ey * X + ex) = j := by rw [hj]; exact IntWalk.i64_in _ (by omega)
              have hin3 : AllH (zs2.set j ec) := fun z hz => (List.mem_or_eq_of_mem_set hz).elim (hin2 z) (fun e => by rw [e]; exact ⟨hc3, hc4⟩)
              obtain ⟨z, hz⟩ : ∃ z, zs2[j] = z := ⟨_, rfl⟩
              have hzz := bne_self_eq_false z
              have hbu := bne_self_eq_false (tv + 1)
              have HJ := Lib.hid hj
              clear e0 e1 f0 f1 f2 hr
              go_wp2_with fail
              refine (edit_yes _ g h cap X Y ex ey ec zs2 tv _ hgr hc3 hc4 HI.out j HJ.out hjl (hin2.at hjl) ht0 (by omega)).mono ?_
              rintro e w5 ⟨rfl, hg5, hk5⟩
              rw [hz] at hg5 ⊢
              replace f0' := hk5.cell f0' (by omega) (by omega)
              replace f1' := hk5.cell f1' (by omega) (by omega)
              replace f2' := hk5.cell f2' (by omega) (by omega)
              replace q0 := hk5.cell q0 (by omega) (by omega)
              replace q1 := hk5.cell q1 (by omega) (by omega)
              replace q2 := hk5.cell q2 (by omega) (by omega)
              replace hown := own_kept2 hown hk5 (by omega) (by omega)
              replace hKW : KeptW g h w4 w5 := Kept2.trans hKW hk5
              have hgr := hg5
              clear hg5 hk5 hA
              go_wp2_with fail
              have hB := bl_dr (bl0 w5)
              go_region_held3 (fun W => W.cell? ⟨w.heap.size, 0, none⟩ = some (.int .i64 X) ∧ W.cell? ⟨w.heap.size, 1, none⟩ = some (.int .i64 Y) ∧ W.cell? ⟨gb, go + k * 3, none⟩ = some (.int .i64 ex) ∧ W.cell? ⟨gb, go + k * 3 + 1, none⟩ = some (.int .i64 ey))
                (exact ⟨cell_later hB f0', cell_later hB f1', cell_later hB q0, cell_later hB q1⟩)
                (first
                  | (go_at_call 14; refine (rin_any _ _ _ _ _).mono ?_; rintro e W2 ⟨rfl, hb⟩; rw [HI.out]; replace hB := bl_tr hB hb; clear hb))
              all_goals
                replace f0' := cell_later hB f0'
                replace f1' := cell_later hB f1'
                replace f2' := cell_later hB f2'
                replace q0 := cell_later hB q0
                replace q1 := cell_later hB q1
                replace q2 := cell_later hB q2
                replace hgr := hgr.below hB
                replace hKW := hKW.below hB
                replace hown := own_later hown hB
                clear hB
                go_wp2_with fail
                go_quiet (fail)
                obtain ⟨W3, hW3⟩ : ∃ W3, W2.drewN nq = W3 := ⟨_, rfl⟩
                have hb3 : Below W2.heap.size W2 W3 := by rw [← hW3]; exact bl_drn _ _
                rw [hW3]
                clear hW3
                replace q2 := cell_later hb3 q2
                replace hgr := hgr.below hb3
                replace hKW := hKW.below hb3
                replace hown := own_later hown hb3
                have c9 := edits_at hown (j := j) (by omega) hz2
                rw [hz] at c9
                have f9 := hown.frozenAt j
                obtain ⟨hst, _⟩ := hown.stored j (.int .i64 ec)
                rw [cellsI_set] at hst
                have HO7 := Lib.hid hst
                have HK7 := Lib.hid (kept2_set (nb := nb) (o := j) (.int .i64 ec) hKW (by omega))
                have hg7 := hgr.kept2 (Kept2.st (g := nb) (h := nb) (o := j) (.int .i64 ec)) (by omega) (by omega) (by omega) (by omega)
                clear hst hown hKW hgr u1 u2 hb3 f0' f1' f2' q0 q1
                by_cases hze : z = ec
                · rw [if_pos hze] at hg7
                  have hb9 : (z != ec) = false := by rw [bne_eq_false_iff_eq]; exact hze
                  clear hze
                  go_wp2_with fail
                  refine (edits_any _ g h cap X Y _ _ _ hg7).mono ?_
                  rintro e w7 ⟨rfl, rfl⟩
                  have HG7 := Lib.hid hg7
                  clear hg7
                  go_wp2
                  go_roundw
                  case rel => exact ⟨k + 1, zs2.set j ec, tv, by omega, by go_num, rfl, ht0, by omega, by rw [List.length_set]; exact hz2, hin3, HO7.out, HG7.out, HK7.out⟩
                  case measure => simp [intOf]; omega
                · rw [if_neg hze] at hg7
                  have hb9 : (z != ec) = true := by rw [bne_iff_ne]; exact hze
                  clear hze
                  go_wp2_with fail
                  refine (edits_any _ g h cap X Y _ _ _ hg7).mono ?_
                  rintro e w7 ⟨rfl, rfl⟩
                  have HG7 := Lib.hid hg7
                  clear hg7
                  go_wp2
                  go_roundw
                  case rel => exact ⟨k + 1, zs2.set j ec, tv + 1, by omega, by go_num, by go_num, by omega, by omega, by rw [List.length_set]; exact hz2, hin3, HO7.out, HG7.out, HK7.out⟩
                  case measure => simp [intOf]; omega
        · obtain rfl : k = ls.length := by omega
          have hge2 : (ls.length : Int) ≤ (ls.length : Int) := Int.le_refl _
          have hA : Below w.heap.size w wr := HA.out.trans (hKp.below (by omega) (by omega) (by omega))
          have hne : zs2 ≠ [] := by
            rintro rfl
            simp at hz2
            omega
          have zgr := hgr.lt
          clear hAr hKp hl hr f0 f1 f2 e0 e1
          go_wp2_with fail
          refine (field_any _ g h cap X Y zs2 _ _ hgr hne (by omega)).mono ?_
          rintro e w5 ⟨h2, cap2, rfl, hown2, hb⟩
          have hk : Below wr.heap.size wr w5 := by first | exact hb | exact bl_tr (bl_al (bl0 _) _) hb | exact bl_tr (bl_dr (bl_al (bl0 _) _)) hb | exact bl_tr (bl_al (bl_al (bl0 _) _) _) hb | exact bl_tr (bl_dr (bl_al (bl_al (bl0 _) _) _)) hb | exact bl_tr (bl_al (bl_al (bl_al (bl0 _) _) _) _) hb | exact bl_tr (bl_dr (bl_al (bl_al (bl_al (bl0 _) _) _) _)) hb | exact bl_tr (bl_al (bl_al (bl_al (bl_al (bl0 _) _) _) _) _) hb | exact bl_tr (bl_dr (bl_al (bl_al (bl_al (bl_al (bl0 _) _) _) _) _)) hb | exact bl_tr (bl_al (bl_al (bl_al (bl_al (bl_al (bl0 _) _) _) _) _) _) hb | exact bl_tr (bl_dr (bl_al (bl_al (bl_al (bl_al (bl_al (bl0 _) _) _) _) _) _)) hb | exact bl_tr (bl_al (bl_al (bl_al (bl_al (bl_al (bl_al (bl0 _) _) _) _) _) _) _) hb | exact bl_tr (bl_dr (bl_al (bl_al (bl_al (bl_al (bl_al (bl_al (bl0 _) _) _) _) _) _) _)) hb | exact bl_tr (bl_dr (bl0 _)) hb
          replace hA := bl_tr hA hk
          replace hgr := hgr.below hk
          replace f0' := cell_later hk f0'
          replace f1' := cell_later hk f1'
          replace e0' := cell_later hk e0'
          replace e1' := cell_later hk e1'
          replace hown := own_later hown hk
          clear hb hk
          have zf0' := blk_lt f0'
          have zf1' := blk_lt f1'
          have ze0' := blk_lt e0'
          have ze1' := blk_lt e1'
          rw [hz2] at hown2 ⊢
          have hbx := beq_self_eq_true X
          have hby := beq_self_eq_true Y
          obtain ⟨W6, hW6⟩ : ∃ W6, w5.alloc (.cells #[.int .i64 X, .int .i64 Y, .slice (some ⟨h2, 0, none⟩) zs.length cap2] 26) = W6 := ⟨_, rfl⟩
          have hb6 : Below w5.heap.size w5 W6 := by rw [← hW6]; exact bl_al (bl0 _) _
          have d0 : W6.cell? ⟨w5.heap.size, 0, none⟩ = some (.int .i64 X) := by rw [← hW6]; simp [go_sem]
          have d1 : W6.cell? ⟨w5.heap.size, 1, none⟩ = some (.int .i64 Y) := by rw [← hW6]; simp [go_sem]
          have d2 : W6.cell? ⟨w5.heap.size, 2, none⟩ = some (.slice (some ⟨h2, 0, none⟩) zs.length cap2) := by rw [← hW6]; simp [go_sem]
          have zf := blk_lt f0'
          have HW6 := Lib.hid hW6
          have HB6 := Lib.hid hb6
          clear hW6 hb6
          go_wp2
          rw [HW6.out]
          have f0w := cell_later HB6.out f0'
          have f1w := cell_later HB6.out f1'
          have e0w := cell_later HB6.out e0'
          have e1w := cell_later HB6.out e1'
          have hgw := hgr.below HB6.out
          have hownw := own_later hown HB6.out
          have hown2w := own_later hown2 HB6.out
          have HAW := Lib.hid (bl_tr hA HB6.out)
          clear f0' f1' e0' e1' hgr hown hown2 hA HW6 HB6
          go_loopw [19] (fun i wx => ∃ k : Nat, k ≤ zs.length ∧ i = .int .i64 k ∧ Below W6.heap.size W6 wx) (fun i _ => zs.length - (intOf i).toNat)
          case atStart => exact ⟨0, Nat.zero_le _, rfl, bl0 _⟩
          case round =>
            obtain ⟨k, hk, rfl, hB⟩ := hrel
            have zlt : k < zs.length → k < zs2.length := by omega
            by_cases hlt : k < zs.length
            · have hlt2 : (k : Int) < (zs.length : Int) := by omega
              have hk0 : (0 : Int) ≤ (k : Int) := by omega
              have d2r := cell_later hB d2
              have hor := own_later hownw hB
              have ho2 := own_later hown2w hB
              have c1 := edits_at hor (j := k) (by omega) hz2
              have c2 := ho2.cellAt k (by omega)
              have hzk := hin2.at (zlt hlt)
              have c3 : wr.cell? ⟨h2, k, none⟩ = some (.int .u16 (zs2[k]'(zlt hlt))) := by rw [c2]; simp [cellsH, zlt hlt]
              have hww : IntKind.i64.wrap (zs2[k]'(zlt hlt)) = zs2[k]'(zlt hlt) := by have := hzk.1; have := hzk.2; rw [IntKind.wrap_i64]; omega
              clear c2 hor ho2 hzk
              obtain ⟨z, hz⟩ : ∃ z, zs2[k]'(zlt hlt) = z := ⟨_, rfl⟩
              rw [hz] at c1 c3 hww
              clear hz zlt
              have hzz := bne_self_eq_false z
              go_wp2_with fail
              go_quiet (fail)
              go_wp2
              go_roundw
              case rel => exact ⟨k + 1, by omega, by go_num, bl_tr hB (bl_drn _ _)⟩
              case measure => simp [intOf]; omega
            · obtain rfl : k = zs.length := by omega
              clear zlt
              have hA := HAW.out.trans (hB.mono HAW.out.size)
              replace hgw := hgw.below hB
              replace hownw := own_later hownw hB
              replace f0w := cell_later hB f0w
              replace f1w := cell_later hB f1w
              replace e0w := cell_later hB e0w
              replace e1w := cell_later hB e1w
              clear hown2w d0 d1 d2 hB
              cases hib : inB X Y x y
              · have HI := Lib.hid hib
                clear hib
                go_wp2_with fail
                refine (cost_no _ g h cap X Y x y zs2 tv _ hgw HI.out).mono ?_
                rintro e w7 ⟨rfl, hb⟩
                have hk : Below wr.heap.size wr w7 := by first | exact hb | exact bl_tr (bl_al (bl0 _) _) hb | exact bl_tr (bl_dr (bl_al (bl0 _) _)) hb | exact bl_tr (bl_al (bl_al (bl0 _) _) _) hb | exact bl_tr (bl_dr (bl_al (bl_al (bl0 _) _) _)) hb | exact bl_tr (bl_al (bl_al (bl_al (bl0 _) _) _) _) hb | exact bl_tr (bl_dr (bl_al (bl_al (bl_al (bl0 _) _) _) _)) hb | exact bl_tr (bl_al (bl_al (bl_al (bl_al (bl0 _) _) _) _) _) hb | exact bl_tr (bl_dr (bl_al (bl_al (bl_al (bl_al (bl0 _) _) _) _) _)) hb | exact bl_tr (bl_al (bl_al (bl_al (bl_al (bl_al (bl0 _) _) _) _) _) _) hb | exact bl_tr (bl_dr (bl_al (bl_al (bl_al (bl_al (bl_al (bl0 _) _) _) _) _) _)) hb | exact bl_tr (bl_al (bl_al (bl_al (bl_al (bl_al (bl_al (bl0 _) _) _) _) _) _) _) hb | exact bl_tr (bl_dr (bl_al (bl_al (bl_al (bl_al (bl_al (bl_al (bl0 _) _) _) _) _) _) _)) hb | exact bl_tr (bl_dr (bl0 _)) hb
                replace hA := bl_tr hA hk
                replace f0w := cell_later hk f0w
                replace f1w := cell_later hk f1w
                replace e0w := cell_later hk e0w
                replace e1w := cell_later hk e1w
                clear hb hk
                have zf0w := blk_lt f0w
                have zf1w := blk_lt f1w
                have ze0w := blk_lt e0w
                have ze1w := blk_lt e1w
                go_wp2_with fail
                refine (rin_any _ _ _ _ _).mono ?_
                rintro e w8 ⟨rfl, hb⟩
                have hk : Below w7.heap.size w7 w8 := by first | exact hb | exact bl_tr (bl_al (bl0 _) _) hb | exact bl_tr (bl_dr (bl_al (bl0 _) _)) hb | exact bl_tr (bl_al (bl_al (bl0 _) _) _) hb | exact bl_tr (bl_dr (bl_al (bl_al (bl0 _) _) _)) hb | exact bl_tr (bl_al (bl_al (bl_al (bl0 _) _) _) _) hb | exact bl_tr (bl_dr (bl_al (bl_al (bl_al (bl0 _) _) _) _)) hb | exact bl_tr (bl_al (bl_al (bl_al (bl_al (bl0 _) _) _) _) _) hb | exact bl_tr (bl_dr (bl_al (bl_al (bl_al (bl_al (bl0 _) _) _) _) _)) hb | exact bl_tr (bl_al (bl_al (bl_al (bl_al (bl_al (bl0 _) _) _) _) _) _) hb | exact bl_tr (bl_dr (bl_al (bl_al (bl_al (bl_al (bl_al (bl0 _) _) _) _) _) _)) hb | exact bl_tr (bl_al (bl_al (bl_al (bl_al (bl_al (bl_al (bl0 _) _) _) _) _) _) _) hb | exact bl_tr (bl_dr (bl_al (bl_al (bl_al (bl_al (bl_al (bl_al (bl0 _) _) _) _) _) _) _)) hb | exact bl_tr (bl_dr (bl0 _)) hb
                replace hA := bl_tr hA hk
                clear hb hk
                rw [HI.out]
                go_wp2_with fail
                refine (awake_any _ (hS.later hA)).mono ?_
                rintro e w9 ⟨rfl, hb⟩
                have hk : Below w8.heap.size w8 w9 := by first | exact hb | exact bl_tr (bl_al (bl0 _) _) hb | exact bl_tr (bl_dr (bl_al (bl0 _) _)) hb | exact bl_tr (bl_al (bl_al (bl0 _) _) _) hb | exact bl_tr (bl_dr (bl_al (bl_al (bl0 _) _) _)) hb | exact bl_tr (bl_al (bl_al (bl_al (bl0 _) _) _) _) hb | exact bl_tr (bl_dr (bl_al (bl_al (bl_al (bl0 _) _) _) _)) hb | exact bl_tr (bl_al (bl_al (bl_al (bl_al (bl0 _) _) _) _) _) hb | exact bl_tr (bl_dr (bl_al (bl_al (bl_al (bl_al (bl0 _) _) _) _) _)) hb | exact bl_tr (bl_al (bl_al (bl_al (bl_al (bl_al (bl0 _) _) _) _) _) _) hb | exact bl_tr (bl_dr (bl_al (bl_al (bl_al (bl_al (bl_al (bl0 _) _) _) _) _) _)) hb | exact bl_tr (bl_al (bl_al (bl_al (bl_al (bl_al (bl_al (bl0 _) _) _) _) _) _) _) hb | exact bl_tr (bl_dr (bl_al (bl_al (bl_al (bl_al (bl_al (bl_al (bl0 _) _) _) _) _) _) _)) hb | exact bl_tr (bl_dr (bl0 _)) hb
                replace hA := bl_tr hA hk
                clear hb hk
                go_wp2
                go_ret
                exact ⟨rfl, hA⟩
              · have HI := Lib.hid hib
                clear hib
                obtain ⟨j, hj⟩ : ∃ j : Nat, y * X + x = j := ⟨(y * X + x).toNat, by have := (num_bd HX.out HI.out).1; omega⟩
                have hjl : j < zs2.length := by have := (num_bd HX.out HI.out).2; omega
                have hj2 : (j : Int) < (zs.length : Int) := by omega
                have hj0 : (0 : Int) ≤ (j : Int) := by omega
                have u1 : IntKind.i64.wrap (y * X) = y * X := by
                  obtain ⟨i1, i2, i3, i4, i5, i6, i7, i8⟩ := inB_iff.1 HI.out
                  obtain ⟨m1, m2⟩ := mul_bd i7 (by omega) i1 i2
                  exact IntWalk.i64_in _ (by omega)
                have u2 : IntKind.i64.wrap (y * X + x) = j := by rw [hj]; exact IntWalk.i64_in _ (by omega)
                have hz0 := (hin2.at hjl).1
                have hz1 := (hin2.at hjl).2
                obtain ⟨z, hz⟩ : ∃ z, zs2[j] = z := ⟨_, rfl⟩
                rw [hz] at hz0 hz1
                have hww : IntKind.i64.wrap z = z := by rw [IntKind.wrap_i64]; omega
                have hzz := beq_self_eq_true z
                have HJ := Lib.hid hj
                clear hj
                go_wp2_with fail
                refine (cost_yes _ g h cap X Y x y zs2 tv _ hgw HI.out j HJ.out hjl).mono ?_
                rintro e w7 ⟨rfl, hb⟩
                have hk : Below wr.heap.size wr w7 := by first | exact hb | exact bl_tr (bl_al (bl0 _) _) hb | exact bl_tr (bl_dr (bl_al (bl0 _) _)) hb | exact bl_tr (bl_al (bl_al (bl0 _) _) _) hb | exact bl_tr (bl_dr (bl_al (bl_al (bl0 _) _) _)) hb | exact bl_tr (bl_al (bl_al (bl_al (bl0 _) _) _) _) hb | exact bl_tr (bl_dr (bl_al (bl_al (bl_al (bl0 _) _) _) _)) hb | exact bl_tr (bl_al (bl_al (bl_al (bl_al (bl0 _) _) _) _) _) hb | exact bl_tr (bl_dr (bl_al (bl_al (bl_al (bl_al (bl0 _) _) _) _) _)) hb | exact bl_tr (bl_al (bl_al (bl_al (bl_al (bl_al (bl0 _) _) _) _) _) _) hb | exact bl_tr (bl_dr (bl_al (bl_al (bl_al (bl_al (bl_al (bl0 _) _) _) _) _) _)) hb | exact bl_tr (bl_al (bl_al (bl_al (bl_al (bl_al (bl_al (bl0 _) _) _) _) _) _) _) hb | exact bl_tr (bl_dr (bl_al (bl_al (bl_al (bl_al (bl_al (bl_al (bl0 _) _) _) _) _) _) _)) hb | exact bl_tr (bl_dr (bl0 _)) hb
                replace hA := bl_tr hA hk
                replace f0w := cell_later hk f0w
                replace f1w := cell_later hk f1w
                replace e0w := cell_later hk e0w
                replace e1w := cell_later hk e1w
                replace hownw := own_later hownw hk
                clear hb hk
                have zf0w := blk_lt f0w
                have zf1w := blk_lt f1w
                have ze0w := blk_lt e0w
                have ze1w := blk_lt e1w
                rw [hz]
                go_wp2_with fail
                refine (rin_any _ _ _ _ _).mono ?_
                rintro e w8 ⟨rfl, hb⟩
                have hk : Below w7.heap.size w7 w8 := by first | exact hb | exact bl_tr (bl_al (bl0 _) _) hb | exact bl_tr (bl_dr (bl_al (bl0 _) _)) hb | exact bl_tr (bl_al (bl_al (bl0 _) _) _) hb | exact bl_tr (bl_dr (bl_al (bl_al (bl0 _) _) _)) hb | exact bl_tr (bl_al (bl_al (bl_al (bl0 _) _) _) _) hb | exact bl_tr (bl_dr (bl_al (bl_al (bl_al (bl0 _) _) _) _)) hb | exact bl_tr (bl_al (bl_al (bl_al (bl_al (bl0 _) _) _) _) _) hb | exact bl_tr (bl_dr (bl_al (bl_al (bl_al (bl_al (bl0 _) _) _) _) _)) hb | exact bl_tr (bl_al (bl_al (bl_al (bl_al (bl_al (bl0 _) _) _) _) _) _) hb | exact bl_tr (bl_dr (bl_al (bl_al (bl_al (bl_al (bl_al (bl0 _) _) _) _) _) _)) hb | exact bl_tr (bl_al (bl_al (bl_al (bl_al (bl_al (bl_al (bl0 _) _) _) _) _) _) _) hb | exact bl_tr (bl_dr (bl_al (bl_al (bl_al (bl_al (bl_al (bl_al (bl0 _) _) _) _) _) _) _)) hb | exact bl_tr (bl_dr (bl0 _)) hb
                replace hA := bl_tr hA hk
                replace f0w := cell_later hk f0w
                replace f1w := cell_later hk f1w
                replace e0w := cell_later hk e0w
                replace e1w := cell_later hk e1w
                replace hownw := own_later hownw hk
                clear hb hk
                have zf0w := blk_lt f0w
                have zf1w := blk_lt f1w
                have ze0w := blk_lt e0w
                have ze1w := blk_lt e1w
                rw [HI.out]
                have c9 := edits_at hownw (j := j) (by omega) hz2
                rw [hz] at c9
                go_wp2_with fail
                refine (awake_any _ (hS.later hA)).mono ?_
                rintro e w9 ⟨rfl, hb⟩
                have hF := bl_tr hA hb
                go_wp2
                go_ret
                exact ⟨rfl, hF⟩
end Go.Proofs.YthnpoeobieninaaDoor
