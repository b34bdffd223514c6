/- The map: Cost and Edit. -/
import Derived.Test.YthnpoeobieninaaDoorVi
import Derived.OneCell
namespace Go.Proofs.YthnpoeobieninaaDoor
open Go.RowKit

theorem num_bd {X Y x y n : Int} (hc : chkF X Y n = 0) (hi : inB X Y x y = true) : 0 ≤ y * X + x ∧ y * X + x < n := by
  obtain ⟨hm, hn, _, _⟩ := chk_ok hc
  obtain ⟨h1, h2, h3, h4, h5, h6, h7, h8⟩ := inB_iff.1 hi
  obtain ⟨m1, m2⟩ := mul_bd h7 (by omega) h1 h2
  refine ⟨by omega, ?_⟩
  have : y * X + X ≤ Y * X := by
    have := Int.mul_le_mul_of_nonneg_right (show y + 1 ≤ Y by omega) (show 0 ≤ X by omega)
    rw [Int.add_mul, Int.one_mul] at this
    exact this
  rw [Int.mul_comm] at hn
  omega

set_option maxHeartbeats 1600000 in
theorem cost_nil (x y : Int) (w : World) :
    Calls Tryd.prog 17 #[.pointer none, .agg #[.int .i64 x, .int .i64 y]] w fun e w' => e = .returned (.tuple #[.int .u16 0, .int .i64 2]) ∧ Below w.heap.size w w' := by
  go_enter Tryd.func17, Tryd.ntmps17
  go_wp2
  go_ret2
  exact ⟨rfl, bl_al (bl0 _) _⟩

set_option maxHeartbeats 1600000 in
theorem cost_no (B g h cap : Nat) (X Y x y : Int) (zs : List Int) (k : Int) (w : World) (m : GridAt w B g h cap X Y zs k) (hi : inB X Y x y = false) :
    Calls Tryd.prog 17 #[.pointer (some ⟨g, 0, none⟩), .agg #[.int .i64 x, .int .i64 y]] w fun e w' => e = .returned (.tuple #[.int .u16 0, .int .i64 10]) ∧ Below w.heap.size w w' := by
  obtain ⟨w0, hw0⟩ : ∃ w0, w.alloc (.cells #[.int .i64 x, .int .i64 y] 29) = w0 := ⟨_, rfl⟩
  have hb0 : Below w.heap.size w w0 := by rw [← hw0]; exact bl_al (bl0 _) _
  have b0 : w0.cell? ⟨w.heap.size, 0, none⟩ = some (.int .i64 x) := by rw [← hw0]; simp [go_sem]
  have b1 : w0.cell? ⟨w.heap.size, 1, none⟩ = some (.int .i64 y) := by rw [← hw0]; simp [go_sem]
  have c0 := cell_later hb0 m.c0
  have c1 := cell_later hb0 m.c1
  have HW := Lib.hid hw0
  clear hw0
  go_enter Tryd.func17, Tryd.ntmps17
  go_wp2
  rw [HW.out]
  have hB := bl_dr (bl0 w0)
  go_region_held3 (fun w2 => w2.cell? ⟨g, 0, none⟩ = some (.int .i64 X) ∧ w2.cell? ⟨g, 1, none⟩ = some (.int .i64 Y) ∧ w2.cell? ⟨w.heap.size, 0, none⟩ = some (.int .i64 x) ∧ w2.cell? ⟨w.heap.size, 1, none⟩ = some (.int .i64 y))
    (exact ⟨cell_later hB c0, cell_later hB c1, cell_later hB b0, cell_later hB b1⟩)
    ((go_at_call 25; refine (index_no _ _ _ _ _ hi).mono ?_; rintro e W2 ⟨rfl, hb⟩; replace hB := bl_tr hB hb; clear hb))
  all_goals
    have HB := Lib.hid (bl_tr hb0 hB)
    clear hB hb0 c0 c1 b0 b1
    go_wp2
    go_ret2
    exact ⟨rfl, HB.out⟩

set_option maxHeartbeats 1600000 in
theorem cost_yes (B g h cap : Nat) (X Y x y : Int) (zs : List Int) (k : Int) (w : World) (m : GridAt w B g h cap X Y zs k) (hi : inB X Y x y = true) (j : Nat) (hj : y * X + x = j) (hl : j < zs.length) :
    Calls Tryd.prog 17 #[.pointer (some ⟨g, 0, none⟩), .agg #[.int .i64 x, .int .i64 y]] w fun e w' => e = .returned (.tuple #[.int .u16 zs[j], .int .i64 0]) ∧ Below w.heap.size w w' := by
  obtain ⟨w0, hw0⟩ : ∃ w0, w.alloc (.cells #[.int .i64 x, .int .i64 y] 29) = w0 := ⟨_, rfl⟩
  have hb0 : Below w.heap.size w w0 := by rw [← hw0]; exact bl_al (bl0 _) _
  have b0 : w0.cell? ⟨w.heap.size, 0, none⟩ = some (.int .i64 x) := by rw [← hw0]; simp [go_sem]
  have b1 : w0.cell? ⟨w.heap.size, 1, none⟩ = some (.int .i64 y) := by rw [← hw0]; simp [go_sem]
  have c0 := cell_later hb0 m.c0
  have c1 := cell_later hb0 m.c1
  have c2 := cell_later hb0 m.c2
  have q := cell_later hb0 (m.at hl)
  have hl2 : (j : Int) < zs.length := by omega
  have hj0 : (0 : Int) ≤ (j : Int) := by omega
  have HW := Lib.hid hw0
  have HJ := Lib.hid hj
  clear hw0 hj
  generalize zs[j] = z at *
  go_enter Tryd.func17, Tryd.ntmps17
  go_wp2
  rw [HW.out]
  have hB := bl_dr (bl0 w0)
  go_region_held3 (fun w2 => w2.cell? ⟨g, 0, none⟩ = some (.int .i64 X) ∧ w2.cell? ⟨g, 1, none⟩ = some (.int .i64 Y) ∧ w2.cell? ⟨w.heap.size, 0, none⟩ = some (.int .i64 x) ∧ w2.cell? ⟨w.heap.size, 1, none⟩ = some (.int .i64 y))
    (exact ⟨cell_later hB c0, cell_later hB c1, cell_later hB b0, cell_later hB b1⟩)
    ((go_at_call 25; refine (index_yes _ _ _ _ _ hi).mono ?_; rintro e W2 ⟨rfl, hb⟩; rw [HJ.out]; replace hB := bl_tr hB hb; clear hb))
  all_goals
    have HB := Lib.hid (bl_tr hb0 hB)
    replace c2 := cell_later hB c2
    replace q := cell_later hB q
    clear hB hb0 c0 c1 b0 b1
    go_wp2
    go_ret2
    exact ⟨rfl, HB.out⟩

/-- All but two blocks lie as they lay. -/
def Kept2 (g h : Nat) (A B : World) : Prop := Below 0 A B ∧ ∀ k, k < A.heap.size → k ≠ g → k ≠ h → B.heap[k]? = A.heap[k]?
theorem Kept2.of_below {g h : Nat} {A B : World} (x : Below A.heap.size A B) : Kept2 g h A B := ⟨x.mono (Nat.zero_le _), fun k h1 _ _ => x.block k h1⟩
theorem Kept2.trans {g h : Nat} {A B C : World} (x : Kept2 g h A B) (y : Kept2 g h B C) : Kept2 g h A C :=
  ⟨x.1.trans y.1, fun k h1 h2 h3 => (y.2 k (Nat.lt_of_lt_of_le h1 x.1.size) h2 h3).trans (x.2 k h1 h2 h3)⟩
theorem Kept2.below {g h n : Nat} {A B : World} (x : Kept2 g h A B) (hn : n ≤ A.heap.size) (hg : n ≤ g) (hh : n ≤ h) : Below n A B :=
  ⟨x.1.os, x.1.tape, x.1.output, x.1.size, fun k hk => x.2 k (by omega) (by omega) (by omega)⟩
theorem Kept2.cell {g h k o : Nat} {A B : World} {v : Value} (x : Kept2 g h A B) (c : A.cell? ⟨k, o, none⟩ = some v) (h1 : k ≠ g) (h2 : k ≠ h) : B.cell? ⟨k, o, none⟩ = some v :=
  (World.cell?_of_block (a := ⟨k, o, none⟩) (x.2 k (blk_lt c) h1 h2)).trans c
theorem Kept2.st {g h o : Nat} {A : World} (u : Value) : Kept2 g h A (A.setCell ⟨h, o, none⟩ u) :=
  ⟨(Below.refl _ _).setCell (p := ⟨h, o, none⟩) (Nat.zero_le _) u, fun k _ _ h3 => Below.heap_setCell _ _ _ k h3⟩
theorem Kept2.stg {g h o : Nat} {A : World} (u : Value) : Kept2 g h A (A.setCell ⟨g, o, none⟩ u) :=
  ⟨(Below.refl _ _).setCell (p := ⟨g, o, none⟩) (Nat.zero_le _) u, fun k _ h2 _ => Below.heap_setCell _ _ _ k h2⟩
theorem GridAt.kept2 {W W' : World} {B g h cap : Nat} {X Y : Int} {zs : List Int} {k : Int} {g' h' : Nat} (m : GridAt W B g h cap X Y zs k) (x : Kept2 g' h' W W') (h1 : g ≠ g') (h2 : g ≠ h') (h3 : h ≠ g') (h4 : h ≠ h') : GridAt W' B g h cap X Y zs k := by
  obtain ⟨l1, l2, l3⟩ := m.lt
  refine ⟨m.1, (x.2 g l1 h1 h2).trans m.2.1, m.2.2.1, ?_⟩
  rcases m.2.2.2 with e | ⟨g1, cap1, cur, e, e2, e3, e4⟩
  · exact .inl e
  · cases e
    exact .inr ⟨_, _, cur, rfl, e2, (x.2 _ l3 h3 h4).trans e3, e4⟩

theorem grid_turn {W V : World} {B g h cap : Nat} {X Y : Int} {zs : List Int} {k : Int} (m : GridAt W B g h cap X Y zs k) (j : Nat) (c k2 : Int)
    (hb : Below (W.setCell ⟨h, j, none⟩ (.int .u16 c)).heap.size (W.setCell ⟨h, j, none⟩ (.int .u16 c)) V) :
    V.cell? ⟨g, 3, none⟩ = some (.int .i64 k) ∧ V.frozen? ⟨g, 3, none⟩ = false ∧
      GridAt (V.setCell ⟨g, 3, none⟩ (.int .i64 k2)) B g h cap X Y (zs.set j c) k2 ∧ Kept2 g h W (V.setCell ⟨g, 3, none⟩ (.int .i64 k2)) := by
  have hs := own_later (m.2.2.stored j (.int .u16 c)).1 hb
  have e1 : (cellsH zs).set j (.int .u16 c) = cellsH (zs.set j c) := by simp [cellsH, List.map_set]
  rw [e1] at hs
  have hg1 : (W.setCell ⟨h, j, none⟩ (.int .u16 c)).heap[g]? = W.heap[g]? := Below.heap_setCell _ _ _ g m.ne
  have hg2 : V.heap[g]? = some (.cells #[.int .i64 X, .int .i64 Y, .slice (some ⟨h, 0, none⟩) zs.length cap, .int .i64 k] 65 (0, 0)) :=
    ((hb.block g (by have := m.lt.1; simpa using this)).trans hg1).trans m.2.1
  refine ⟨by simp [World.cell?, hg2], by simp [World.frozen?, hg2], ⟨m.1, ?_, ?_⟩, ?_⟩
  · rw [heap_setCell_same V g 3 _ _ _ hg2]
    simp
  · rw [List.length_set]
    exact ownsRow_setCell_other hs (a := ⟨g, 3, none⟩) (fun e => m.ne (by simp [Value.ownBlock] at e; exact e.symm)) _
  · exact (Kept2.st (o := j) (.int .u16 c)).trans ((Kept2.of_below hb).trans (Kept2.stg _))

set_option maxHeartbeats 1600000 in
theorem edit_nil (x y c : Int) (w : World) :
    Calls Tryd.prog 13 #[.pointer none, .agg #[.int .i64 x, .int .i64 y, .int .i64 c]] w fun e w' => e = .returned (.tuple #[.int .i64 0, .int .i64 2]) ∧ Below w.heap.size w w' := by
  go_enter Tryd.func13, Tryd.ntmps13
  go_wp2
  go_ret2
  exact ⟨rfl, bl_al (bl0 _) _⟩
set_option maxHeartbeats 1600000 in
theorem edit_arg (g : Nat) (x y c : Int) (w : World) (hc : c < 0 ∨ 65535 < c) :
    Calls Tryd.prog 13 #[.pointer (some ⟨g, 0, none⟩), .agg #[.int .i64 x, .int .i64 y, .int .i64 c]] w fun e w' => e = .returned (.tuple #[.int .i64 0, .int .i64 1]) ∧ Below w.heap.size w w' := by
  by_cases h1 : c < 0
  · clear hc
    go_enter Tryd.func13, Tryd.ntmps13
    go_wp2
    go_ret2
    exact ⟨rfl, bl_al (bl0 _) _⟩
  · have h2 : 65535 < c := by omega
    clear hc
    go_enter Tryd.func13, Tryd.ntmps13
    go_wp2
    go_ret2
    exact ⟨rfl, bl_al (bl0 _) _⟩
set_option maxHeartbeats 1600000 in
theorem edit_no (B g h cap : Nat) (X Y x y c : Int) (zs : List Int) (k : Int) (w : World) (m : GridAt w B g h cap X Y zs k) (h1 : 0 ≤ c) (h2 : c ≤ 65535) (hi : inB X Y x y = false) :
    Calls Tryd.prog 13 #[.pointer (some ⟨g, 0, none⟩), .agg #[.int .i64 x, .int .i64 y, .int .i64 c]] w fun e w' => e = .returned (.tuple #[.int .i64 0, .int .i64 10]) ∧ Below w.heap.size w w' := by
  obtain ⟨w0, hw0⟩ : ∃ w0, w.alloc (.cells #[.int .i64 x, .int .i64 y, .int .i64 c] 42) = w0 := ⟨_, rfl⟩
  have hb0 : Below w.heap.size w w0 := by rw [← hw0]; exact bl_al (bl0 _) _
  have b0 : w0.cell? ⟨w.heap.size, 0, none⟩ = some (.int .i64 x) := by rw [← hw0]; simp [go_sem]
  have b1 : w0.cell? ⟨w.heap.size, 1, none⟩ = some (.int .i64 y) := by rw [← hw0]; simp [go_sem]
  have c0 := cell_later hb0 m.c0
  have c1 := cell_later hb0 m.c1
  have HW := Lib.hid hw0
  clear hw0
  go_enter Tryd.func13, Tryd.ntmps13
  go_wp2
  rw [HW.out]
  have hB := bl_dr (bl0 w0)
  go_region_held3 (fun w2 => w2.cell? ⟨g, 0, none⟩ = some (.int .i64 X) ∧ w2.cell? ⟨g, 1, none⟩ = some (.int .i64 Y) ∧ w2.cell? ⟨w.heap.size, 0, none⟩ = some (.int .i64 x) ∧ w2.cell? ⟨w.heap.size, 1, none⟩ = some (.int .i64 y))
    (exact ⟨cell_later hB c0, cell_later hB c1, cell_later hB b0, cell_later hB b1⟩)
    ((go_at_call 25; refine (index_no _ _ _ _ _ hi).mono ?_; rintro e W2 ⟨rfl, hb⟩; replace hB := bl_tr hB hb; clear hb))
  all_goals
    have HB := Lib.hid (bl_tr hb0 hB)
    clear hB hb0 c0 c1 b0 b1
    go_wp2
    go_ret2
    exact ⟨rfl, HB.out⟩

set_option maxHeartbeats 1600000 in
theorem edit_core (B g h cap : Nat) (X Y x y c : Int) (zs : List Int) (k : Int) (w : World) (m : GridAt w B g h cap X Y zs k) (h1 : 0 ≤ c) (h2 : c ≤ 65535) (hi : inB X Y x y = true) (j : Nat) (hj : y * X + x = j) (hl : j < zs.length) (hz : inH zs[j]) (hk0 : 0 ≤ k) (hk : k < 1000000) (zs2 : List Int) (k2 : Int)
    (hcase : (zs[j] = c ∧ zs2 = zs ∧ k2 = k) ∨ (zs[j] ≠ c ∧ zs2 = zs.set j c ∧ k2 = k + 1)) :
    Calls Tryd.prog 13 #[.pointer (some ⟨g, 0, none⟩), .agg #[.int .i64 x, .int .i64 y, .int .i64 c]] w fun e w' => e = .returned (.tuple #[.int .i64 zs[j], .int .i64 0]) ∧ GridAt w' B g h cap X Y zs2 k2 ∧ Kept2 g h w w' := by
  obtain ⟨w0, hw0⟩ : ∃ w0, w.alloc (.cells #[.int .i64 x, .int .i64 y, .int .i64 c] 42) = w0 := ⟨_, rfl⟩
  have hb0 : Below w.heap.size w w0 := by rw [← hw0]; exact bl_al (bl0 _) _
  have b0 : w0.cell? ⟨w.heap.size, 0, none⟩ = some (.int .i64 x) := by rw [← hw0]; simp [go_sem]
  have b1 : w0.cell? ⟨w.heap.size, 1, none⟩ = some (.int .i64 y) := by rw [← hw0]; simp [go_sem]
  have b2 : w0.cell? ⟨w.heap.size, 2, none⟩ = some (.int .i64 c) := by rw [← hw0]; simp [go_sem]
  have c0 := cell_later hb0 m.c0
  have c1 := cell_later hb0 m.c1
  have c2 := cell_later hb0 m.c2
  have c3 := cell_later hb0 m.c3
  have q := cell_later hb0 (m.at hl)
  have hl2 : (j : Int) < zs.length := by omega
  have hj0 : (0 : Int) ≤ (j : Int) := by omega
  obtain ⟨z1, z2⟩ := hz
  have m0 := m.below hb0
  have HW := Lib.hid hw0
  have HJ := Lib.hid hj
  have hgl := m.lt
  have HC := Lib.hid hcase
  clear hcase
  clear hw0 hj
  generalize zs[j] = z at *
  go_enter Tryd.func13, Tryd.ntmps13
  go_wp2
  rw [HW.out]
  have hB := bl_dr (bl0 w0)
  go_region_held3 (fun w2 => w2.cell? ⟨g, 0, none⟩ = some (.int .i64 X) ∧ w2.cell? ⟨g, 1, none⟩ = some (.int .i64 Y) ∧ w2.cell? ⟨w.heap.size, 0, none⟩ = some (.int .i64 x) ∧ w2.cell? ⟨w.heap.size, 1, none⟩ = some (.int .i64 y))
    (exact ⟨cell_later hB c0, cell_later hB c1, cell_later hB b0, cell_later hB b1⟩)
    ((go_at_call 25; refine (index_yes _ _ _ _ _ hi).mono ?_; rintro e W2 ⟨rfl, hb⟩; rw [HJ.out]; replace hB := bl_tr hB hb; clear hb))
  all_goals
    replace c2 := cell_later hB c2
    replace c3 := cell_later hB c3
    replace b2 := cell_later hB b2
    replace q := cell_later hB q
    have m2 := m0.below hB
    have fh := m2.fh j
    have fg := m2.fz 3
    have hA := bl_tr hb0 hB
    have hne1 := m2.ne
    have hbl : w.heap.size ≠ g ∧ w.heap.size ≠ h := ⟨by omega, by omega⟩
    obtain ⟨he, hz2, hk2⟩ | ⟨he, hz2, hk2⟩ := HC.out
    · subst hz2
      subst hk2
      have HM := Lib.hid m2
      have HA := Lib.hid hA
      have he2 : (z != c) = false := by rw [bne_eq_false_iff_eq]; exact he
      clear m2 hA hB c0 c1 b0 b1 m0 HC he
      go_wp2
      go_ret2
      exact ⟨rfl, HM.out, Kept2.of_below HA.out⟩
    · subst hz2
      subst hk2
      have HM := Lib.hid m2
      have HA := Lib.hid hA
      have he2 : (z != c) = true := by rw [bne_iff_ne]; exact he
      clear m2 hA hB c0 c1 b0 b1 m0 HC he
      go_wp2
      go_region
      all_goals
        have hd := bl_dr (bl0 (W2.setCell ⟨h, j, none⟩ (.int .u16 c)))
        obtain ⟨c4, fg2, hgr, hkk⟩ := grid_turn HM.out j c (k + 1) hd
        have hkk2 := (Kept2.of_below (g := g) (h := h) HA.out).trans hkk
        have HG := Lib.hid hgr
        have HK := Lib.hid hkk2
        clear hgr hkk hkk2 HM HA hd
        go_wp2
        go_ret2
        exact ⟨rfl, HG.out, HK.out⟩

theorem edit_yes (B g h cap : Nat) (X Y x y c : Int) (zs : List Int) (k : Int) (w : World) (m : GridAt w B g h cap X Y zs k) (h1 : 0 ≤ c) (h2 : c ≤ 65535) (hi : inB X Y x y = true) (j : Nat) (hj : y * X + x = j) (hl : j < zs.length) (hz : inH zs[j]) (hk0 : 0 ≤ k) (hk : k < 1000000) :
    Calls Tryd.prog 13 #[.pointer (some ⟨g, 0, none⟩), .agg #[.int .i64 x, .int .i64 y, .int .i64 c]] w fun e w' => e = .returned (.tuple #[.int .i64 zs[j], .int .i64 0]) ∧ GridAt w' B g h cap X Y (zs.set j c) (if zs[j] = c then k else k + 1) ∧ Kept2 g h w w' := by
  refine edit_core B g h cap X Y x y c zs k w m h1 h2 hi j hj hl hz hk0 hk _ _ ?_
  by_cases he : zs[j] = c
  · exact .inl ⟨he, by rw [← he]; exact List.set_getElem_self hl, if_pos he⟩
  · exact .inr ⟨he, rfl, if_neg he⟩
end Go.Proofs.YthnpoeobieninaaDoor
