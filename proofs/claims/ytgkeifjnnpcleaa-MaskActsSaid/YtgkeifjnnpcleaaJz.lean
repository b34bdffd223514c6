/- The document's answer for sets: Set. -/
import Derived.Test.YtgkeifjnnpcleaaJx
namespace Go.Proofs.Ytgkeifjnnpcleaa
open Go.RowKit

theorem RefAt.fz {W : World} {b h k : Nat} {X Y : Int} {fs : List Bool} (m : RefAt W b h X Y fs) : W.frozen? ⟨h, k, none⟩ = false := by simp [World.frozen?, m.2]
theorem RefAt.set {W : World} {b h : Nat} {X Y : Int} {fs : List Bool} (m : RefAt W b h X Y fs) (hne : b ≠ h) (k : Nat) (v : Bool) : RefAt (W.setCell ⟨h, k, none⟩ (.bool v)) b h X Y (fs.set k v) := by
  refine ⟨(Below.heap_setCell _ _ _ b (show b ≠ h from hne)).trans (by rw [List.length_set]; exact m.1), ?_⟩
  rw [heap_set_same _ _ _ _ _ _ m.2]
  simp [List.map_set]

set_option maxHeartbeats 1600000 in
theorem rset_no (b h : Nat) (X Y x y : Int) (v : Bool) (fs : List Bool) (w : World) (hm : RefAt w b h X Y fs) (hi : inB X Y x y = false) :
    Calls Try.prog 15 #[.pointer (some ⟨b, 0, none⟩), .agg #[.int .i64 x, .int .i64 y], .bool v] w fun e w' => e = .returned (.int .i64 10) ∧ Below w.heap.size w w' := by
  have c0 := hm.c0
  have c1 := hm.c1
  have z0 := blk_lt c0
  clear hm
  go_enter Try.func15, Try.ntmps15
  go_wp2_with fail
  obtain ⟨w1, hw1'⟩ : ∃ w1, w.alloc (.cells #[.int .i64 x, .int .i64 y] 36) = w1 := ⟨_, rfl⟩
  have hb1 : Below w.heap.size w w1 := by rw [← hw1']; exact bl_al (bl0 _) _
  have d0 : w1.cell? ⟨w.heap.size, 0, none⟩ = some (.int .i64 x) := by rw [← hw1']; simp [go_sem]
  have d1 : w1.cell? ⟨w.heap.size, 1, none⟩ = some (.int .i64 y) := by rw [← hw1']; simp [go_sem]
  rw [hw1']
  replace c0 := cell_later hb1 c0
  replace c1 := cell_later hb1 c1
  clear hw1'
  have hA := bl_dr (bl0 w1)
  go_region_held3 (fun w' => w'.cell? ⟨b, 0, none⟩ = some (.int .i64 X) ∧ w'.cell? ⟨b, 1, none⟩ = some (.int .i64 Y) ∧ w'.cell? ⟨w.heap.size, 0, none⟩ = some (.int .i64 x) ∧ w'.cell? ⟨w.heap.size, 1, none⟩ = some (.int .i64 y))
    (exact ⟨cell_later hA c0, cell_later hA c1, cell_later hA d0, cell_later hA d1⟩)
    ((go_at_call 42; refine (rin_any _ _ _ _ _).mono ?_; rintro e W2 ⟨rfl, hb⟩; rw [hi]; replace hA := bl_tr hA hb; clear hb))
  go_wp2
  go_ret
  exact ⟨rfl, bl_tr hb1 hA⟩

set_option maxHeartbeats 4000000 in
theorem rset_yes (b h : Nat) (X Y x y : Int) (v : Bool) (fs : List Bool) (w : World) (hm : RefAt w b h X Y fs) (hne : b ≠ h) (hlen : (fs.length : Int) = X * Y) (hi : inB X Y x y = true) :
    Calls Try.prog 15 #[.pointer (some ⟨b, 0, none⟩), .agg #[.int .i64 x, .int .i64 y], .bool v] w fun e w' => e = .returned (.int .i64 0) ∧ RefAt w' b h X Y (fs.set (y * X + x).toNat v) ∧ w.grownBy w' (some h) := by
  obtain ⟨i0, i1⟩ := idx_lt hi
  have hix : (y * X + x).toNat < fs.length := by omega
  obtain ⟨o, ho⟩ : ∃ o, fs[(y * X + x).toNat]? = some o := ⟨_, List.getElem?_eq_getElem hix⟩
  have c0 := hm.c0
  have c1 := hm.c1
  have c2 := hm.c2
  have q := hm.at ho
  have z0 := blk_lt c0
  have z2 := blk_lt q
  have k1 : y * X + x < (fs.length : Int) := by omega
  have hib := inB_iff.1 hi
  have hw1 : IntKind.i64.wrap (y * X) = y * X := by
    obtain ⟨h1, h2, h3, h4, h5, h6, h7, h8⟩ := hib
    have := mul_bd h7 (by omega) h1 h2
    exact IntWalk.i64_in _ (by omega)
  have hw2 : IntKind.i64.wrap (y * X + x) = y * X + x := by
    obtain ⟨h1, h2, h3, h4, h5, h6, h7, h8⟩ := hib
    have := mul_bd h7 (by omega) h1 h2
    exact IntWalk.i64_in _ (by omega)
  clear hlen hib ho hix
  generalize hn : fs.length = n at c2 k1
  clear hn
  go_enter Try.func15, Try.ntmps15
  go_wp2_with fail
  obtain ⟨w1, hw1'⟩ : ∃ w1, w.alloc (.cells #[.int .i64 x, .int .i64 y] 36) = w1 := ⟨_, rfl⟩
  have hb1 : Below w.heap.size w w1 := by rw [← hw1']; exact bl_al (bl0 _) _
  have d0 : w1.cell? ⟨w.heap.size, 0, none⟩ = some (.int .i64 x) := by rw [← hw1']; simp [go_sem]
  have d1 : w1.cell? ⟨w.heap.size, 1, none⟩ = some (.int .i64 y) := by rw [← hw1']; simp [go_sem]
  rw [hw1']
  replace c0 := cell_later hb1 c0
  replace c1 := cell_later hb1 c1
  replace c2 := cell_later hb1 c2
  replace q := cell_later hb1 q
  clear hw1'
  have hA := bl_dr (bl0 w1)
  go_region_held3 (fun w' => w'.cell? ⟨b, 0, none⟩ = some (.int .i64 X) ∧ w'.cell? ⟨b, 1, none⟩ = some (.int .i64 Y) ∧ w'.cell? ⟨w.heap.size, 0, none⟩ = some (.int .i64 x) ∧ w'.cell? ⟨w.heap.size, 1, none⟩ = some (.int .i64 y))
    (exact ⟨cell_later hA c0, cell_later hA c1, cell_later hA d0, cell_later hA d1⟩)
    ((go_at_call 42; refine (rin_any _ _ _ _ _).mono ?_; rintro e W2 ⟨rfl, hb⟩; rw [hi]; replace hA := bl_tr hA hb; clear hb))
  have hm2 := (hm.below hb1).below hA
  have f2 := hm2.fz (k := (y * X + x).toNat)
  have HR := Lib.hid ((hm2.below (bl_dr (bl0 W2))).set hne (y * X + x).toNat v)
  have HG := Lib.hid (grown_tr (grown_weak (grown_of_below (bl_tr hb1 (bl_dr hA))) (some h)) (grown_set W2.drew h (y * X + x).toNat (.bool v)))
  replace c0 := cell_later hA c0
  replace c1 := cell_later hA c1
  replace c2 := cell_later hA c2
  replace q := cell_later hA q
  replace d0 := cell_later hA d0
  replace d1 := cell_later hA d1
  clear hm hm2 z0 z2 hA
  go_wp2
  go_region
  all_goals go_wp2
  go_ret
  exact ⟨rfl, HR.out, HG.out⟩
end Go.Proofs.Ytgkeifjnnpcleaa
