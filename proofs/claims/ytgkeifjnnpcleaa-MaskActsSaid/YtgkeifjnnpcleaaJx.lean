/- The document's answer for sets: Has. -/
import Derived.Test.YtgkeifjnnpcleaaJw
import Derived.Test.YtgkeifjnnpcleaaOh
namespace Go.Proofs.Ytgkeifjnnpcleaa
open Go.RowKit

theorem RefAt.c0 {W : World} {b h : Nat} {X Y : Int} {fs : List Bool} (m : RefAt W b h X Y fs) : W.cell? ⟨b, 0, none⟩ = some (.int .i64 X) := by simp [World.cell?, m.1]
theorem RefAt.c1 {W : World} {b h : Nat} {X Y : Int} {fs : List Bool} (m : RefAt W b h X Y fs) : W.cell? ⟨b, 1, none⟩ = some (.int .i64 Y) := by simp [World.cell?, m.1]
theorem RefAt.c2 {W : World} {b h : Nat} {X Y : Int} {fs : List Bool} (m : RefAt W b h X Y fs) : W.cell? ⟨b, 2, none⟩ = some (.slice (some ⟨h, 0, none⟩) fs.length fs.length) := by simp [World.cell?, m.1]
theorem RefAt.at {W : World} {b h k : Nat} {X Y : Int} {fs : List Bool} (m : RefAt W b h X Y fs) {x : Bool} (hk : fs[k]? = some x) : W.cell? ⟨h, k, none⟩ = some (.bool x) := by simp [World.cell?, m.2, hk]
theorem RefAt.below {W W' : World} {b h : Nat} {X Y : Int} {fs : List Bool} (m : RefAt W b h X Y fs) (hb : Below W.heap.size W W') : RefAt W' b h X Y fs :=
  ⟨(hb.block b (Array.getElem?_eq_some_iff.1 m.1).1).trans m.1, (hb.block h (Array.getElem?_eq_some_iff.1 m.2).1).trans m.2⟩

set_option maxHeartbeats 4000000 in
theorem rhas_yes (b h : Nat) (X Y x y : Int) (fs : List Bool) (w : World) (hm : RefAt w b h X Y fs) (hlen : (fs.length : Int) = X * Y) (hi : inB X Y x y = true) :
    Calls Try.prog 17 #[.pointer (some ⟨b, 0, none⟩), .agg #[.int .i64 x, .int .i64 y]] w fun e w' => e = .returned (.bool (fs.getD (y * X + x).toNat false)) ∧ Below w.heap.size w w' := by
  obtain ⟨i0, i1⟩ := idx_lt hi
  have hix : (y * X + x).toNat < fs.length := by omega
  obtain ⟨o, ho⟩ : ∃ o, fs[(y * X + x).toNat]? = some o := ⟨_, List.getElem?_eq_getElem hix⟩
  have hod : fs.getD (y * X + x).toNat false = o := by rw [List.getD_eq_getElem?_getD, ho]; rfl
  have c0 := hm.c0
  have c1 := hm.c1
  have c2 := hm.c2
  have q := hm.at ho
  have z0 := blk_lt c0
  have z2 := blk_lt q
  have k1 : y * X + x < (fs.length : Int) := by omega
  have hib := inB_iff.1 hi
  have hw1 : IntKind.i64.wrap (y * X) = y * X := by
    obtain ⟨h1, h2, h3, h4, h5, h6, h7, h8⟩ := hib
    have := mul_bd h7 (by omega) h1 h2
    exact IntWalk.i64_in _ (by omega)
  have hw2 : IntKind.i64.wrap (y * X + x) = y * X + x := by
    obtain ⟨h1, h2, h3, h4, h5, h6, h7, h8⟩ := hib
    have := mul_bd h7 (by omega) h1 h2
    exact IntWalk.i64_in _ (by omega)
  clear hlen hib ho hix hm
  rw [hod]
  clear hod
  generalize fs.length = n at c2 k1
  go_enter Try.func17, Try.ntmps17
  go_wp2_with fail
  obtain ⟨w1, hw1'⟩ : ∃ w1, w.alloc (.cells #[.int .i64 x, .int .i64 y] 36) = w1 := ⟨_, rfl⟩
  have hb1 : Below w.heap.size w w1 := by rw [← hw1']; exact bl_al (bl0 _) _
  have d0 : w1.cell? ⟨w.heap.size, 0, none⟩ = some (.int .i64 x) := by rw [← hw1']; simp [go_sem]
  have d1 : w1.cell? ⟨w.heap.size, 1, none⟩ = some (.int .i64 y) := by rw [← hw1']; simp [go_sem]
  rw [hw1']
  replace c0 := cell_later hb1 c0
  replace c1 := cell_later hb1 c1
  replace c2 := cell_later hb1 c2
  replace q := cell_later hb1 q
  clear hw1'
  have hA := bl_dr (bl0 w1)
  go_region_held3 (fun w' => w'.cell? ⟨b, 0, none⟩ = some (.int .i64 X) ∧ w'.cell? ⟨b, 1, none⟩ = some (.int .i64 Y) ∧ w'.cell? ⟨b, 2, none⟩ = some (.slice (some ⟨h, 0, none⟩) n n) ∧ w'.cell? ⟨h, (y * X + x).toNat, none⟩ = some (.bool o) ∧ w'.cell? ⟨w.heap.size, 0, none⟩ = some (.int .i64 x) ∧ w'.cell? ⟨w.heap.size, 1, none⟩ = some (.int .i64 y))
    (exact ⟨cell_later hA c0, cell_later hA c1, cell_later hA c2, cell_later hA q, cell_later hA d0, cell_later hA d1⟩)
    ((go_at_call 42; refine (rin_any _ _ _ _ _).mono ?_; rintro e W2 ⟨rfl, hb⟩; rw [hi]; replace hA := bl_tr hA hb; clear hb))
  go_wp2
  go_ret
  cases o
  all_goals exact ⟨rfl, bl_tr hb1 hA⟩
end Go.Proofs.Ytgkeifjnnpcleaa
