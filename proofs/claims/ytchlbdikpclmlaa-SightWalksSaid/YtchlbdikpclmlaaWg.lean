/- What is seen along a line: wall, walk. -/
import Derived.Test.YtchlbdikpclmlaaWf
import Derived.Deep.RegionHeld3
namespace Go.Proofs.Ytchlbdikpclmlaa
open Go.RowKit Go.Shelf
attribute [local go_sem] Oper.semAt_some

/-- Whether a cell is a wall, of a map that is A wide. -/
def wallB (A : Int) (zs : List Int) (c : Int × Int) : Bool := zs.getD (c.2 * A + c.1).toNat 1 == 0
theorem wallB_at {A : Int} {zs : List Int} {x y : Int} {j : Nat} (hj : y * A + x = j) (hl : j < zs.length) : wallB A zs (x, y) = (zs[j] == 0) := by
  unfold wallB
  have e : ((x, y).2 * A + (x, y).1).toNat = j := by show (y * A + x).toNat = j; omega
  rw [e]
  simp [hl]
theorem num_of {A B x y : Int} {n : Int} (hi : inB A B x y = true) (hn : n = A * B) : ∃ j : Nat, y * A + x = j ∧ (j : Int) < n := by
  obtain ⟨h1, h2, h3, h4, h5, h6, h7, h8⟩ := inB_iff.1 hi
  obtain ⟨m1, m2⟩ := mul_bd h7 (by omega) h1 h2
  have e : (y + 1) * A ≤ B * A := Int.mul_le_mul_of_nonneg_right (by omega) (by omega)
  rw [Int.add_mul, Int.one_mul, Int.mul_comm B A] at e
  exact ⟨(y * A + x).toNat, by omega, by omega⟩

set_option maxRecDepth 100000 in
set_option maxHeartbeats 2000000 in
theorem wall_yes (A B : Int) (a : Option Addr) (cap : Nat) (zs : List Int) (x y : Int) (w : World) (hr : RowH w a zs) (hi : inB A B x y = true) (hn : (zs.length : Int) = A * B) :
    Calls Try.prog 65 #[.agg #[.int .i64 A, .int .i64 B, .slice a zs.length cap], .agg #[.int .i64 x, .int .i64 y]] w fun e w' => e = .returned (.bool (wallB A zs (x, y))) ∧ Below w.heap.size w w' := by
  obtain ⟨j, hj, hl⟩ := num_of hi hn
  have hl' : j < zs.length := by omega
  rw [wallB_at hj hl']
  have hA := bl0 w
  have hj0 : (0 : Int) ≤ (j : Int) := by omega
  obtain ⟨z, hz⟩ : ∃ z, zs[j] = z := ⟨_, rfl⟩
  rw [hz]
  go_enter Try.func65, Try.ntmps65
  go_wp2_with fail
  refine (index_yes _ _ _ _ _ hi).mono ?_
  rintro e w1 ⟨rfl, hb⟩
  have hk : Below w.heap.size w w1 := by first | exact hb | exact bl_tr (bl_al (bl0 _) _) hb | exact bl_tr (bl_dr (bl_al (bl0 _) _)) hb | exact bl_tr (bl_al (bl_al (bl0 _) _) _) hb | exact bl_tr (bl_dr (bl_al (bl_al (bl0 _) _) _)) hb | exact bl_tr (bl_al (bl_al (bl_al (bl0 _) _) _) _) hb | exact bl_tr (bl_dr (bl_al (bl_al (bl_al (bl0 _) _) _) _)) hb | exact bl_tr (bl_al (bl_al (bl_al (bl_al (bl0 _) _) _) _) _) hb | exact bl_tr (bl_dr (bl_al (bl_al (bl_al (bl_al (bl0 _) _) _) _) _)) hb | exact bl_tr (bl_al (bl_al (bl_al (bl_al (bl_al (bl0 _) _) _) _) _) _) hb | exact bl_tr (bl_dr (bl_al (bl_al (bl_al (bl_al (bl_al (bl0 _) _) _) _) _) _)) hb | exact bl_tr (bl_al (bl_al (bl_al (bl_al (bl_al (bl_al (bl0 _) _) _) _) _) _) _) hb | exact bl_tr (bl_dr (bl_al (bl_al (bl_al (bl_al (bl_al (bl_al (bl0 _) _) _) _) _) _) _)) hb | exact bl_tr (bl_dr (bl0 _)) hb
  replace hA := bl_tr hA hk
  have a0 := cell_later hb (v := .int .i64 A) (a := ⟨w.heap.size, 0, none⟩) (by simp [go_sem])
  have a1 := cell_later hb (v := .int .i64 B) (a := ⟨w.heap.size, 1, none⟩) (by simp [go_sem])
  have a2 := cell_later hb (v := .slice a zs.length cap) (a := ⟨w.heap.size, 2, none⟩) (by simp [go_sem])
  clear hb hk
  have za0 := blk_lt a0
  have za1 := blk_lt a1
  have za2 := blk_lt a2
  rw [hj]
  have hr1 := hr.below hA
  obtain ⟨gb, go, rfl, q⟩ := hr1.cell hl'
  rw [hz] at q
  clear hj hi hn hr hr1
  go_wp2
  go_ret
  exact ⟨rfl, hA⟩

/-- What is seen along a line. -/
def seenF (A : Int) (zs : List Int) (X Y Z V : Int) (n : Nat) : List (Int × Int) := walkL (wallB A zs) (lineF X Y Z V n)

/-- What the loop holds: its row, in a block g, in a box m; what lay ahead lies as it lay. -/
def RowJ (w : World) (m g cp : Nat) (pre : List (Int × Int)) (W : World) : Prop := Below w.heap.size w W ∧ Boxed W m 24 (.slice (some ⟨g, 0, none⟩) pre.length cp) ∧ W.ownsRow w.heap.size 23 2 (.slice (some ⟨g, 0, none⟩) pre.length cp) pre.length (flatC pre)
theorem RowJ.gcells {w : World} {m g cp : Nat} {pre : List (Int × Int)} {W : World} (h : RowJ w m g cp pre W) : ∃ cur, W.heap[g]? = some (.cells cur 23 (0, 0)) := by
  rcases h.2.2.2 with ⟨e, _⟩ | ⟨g', cap, cur, e, _, hg, _⟩
  · cases e
  · cases e; exact ⟨cur, hg⟩
theorem rowJ_grown {w : World} {m g cp : Nat} {pre : List (Int × Int)} {A B : World} {row : Option Nat} (h : RowJ w m g cp pre A) (hg : A.grownBy B row) (hr : ∀ r, row = some r → w.heap.size ≤ r ∧ r ≠ m ∧ r ≠ g) : RowJ w m g cp pre B := by
  refine ⟨h.1.grown hg h.1.size (fun r e => (hr r e).1), h.2.1.kept hg (fun e => (hr m e.symm).2.1 rfl), h.2.2.kept hg (.inr fun e => ?_)⟩
  exact (hr g (by simpa [Value.ownBlock] using e.symm)).2.2 rfl
theorem rowJ_own {n₁ : Nat} {w : World} (hn : w.heap.size ≤ n₁) (m g cp : Nat) : OwnFrom n₁ (RowJ w m g cp) := fun s C D row hs hg hr =>
  rowJ_grown hs hg (fun r e => by
    obtain ⟨h1, o, ho, hc⟩ := hr r e
    refine ⟨Nat.le_trans hn h1, fun e1 => ?_, fun e1 => ?_⟩
    · rw [e1, show C.heap[m]? = _ from hs.2.1] at ho; cases ho; cases hc
    · obtain ⟨cur, hcur⟩ := hs.gcells
      rw [e1, hcur] at ho; cases ho; cases hc)
theorem rowJ_abp {p c : Nat} {w : World} {m g cp : Nat} (hp : w.heap.size ≤ p) (hm : m < p) (hg : g < p) : AbP p c (RowJ w m g cp) := fun s C D row hs hgr hr =>
  rowJ_grown hs hgr (fun r e => ⟨by have := (hr r e).1; omega, by have := (hr r e).1; omega, by have := (hr r e).1; omega⟩)
theorem keeps_below {n : Nat} {A B : World} (h : Below A.heap.size A B) : KeepsFrom n A B := ⟨h.size, fun k _ _ hk _ => (h.block k (Array.getElem?_eq_some_iff.1 hk).1).trans hk⟩
theorem kp_appended {p c m g : Nat} {W w1 : World} {tmp : Obj} {u : Value} (hgrow : (W.alloc tmp).grownBy w1 (some g)) (hm : m < p) (hg : g < p) (hp : p + c ≤ W.heap.size) : KP p c W (w1.setCell ⟨m, 0, none⟩ u) := by
  have hz := hgrow.size
  rw [World.size_alloc] at hz
  refine ⟨by simp; omega, fun k h1 h2 => ?_⟩
  refine (Below.heap_setCell _ _ _ k (show k ≠ m by omega)).trans ((hgrow.block k (by rw [World.size_alloc]; omega) (fun e => by cases e; omega)).trans (Below.heap_alloc _ _ _ (by omega)))
end Go.Proofs.Ytchlbdikpclmlaa
