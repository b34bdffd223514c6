/- The rows of a box, as an iterator: its contract. -/
import Derived.RangeFuncNested
import Derived.RangeFuncBound
import Derived.RangeFuncBox
import Derived.RangeFuncCalls
import Derived.RangeFuncLeaves
import Derived.Shelf.Abstract
import Derived.Shelf.RegionOpen
import Derived.WalkKit
import Derived.OwnWalkIn
import Derived.TacticsInMore
import Derived.LoopNIn
import Derived.LoopIn
import Derived.Test.YtldpajfendkhbaaDoorGd
namespace Go.Proofs.YtldpajfendkhbaaDoor
open Go.RowKit Go.Shelf
attribute [local go_sem] Oper.semAt_some

/-- f 0, .., f (k - 1). -/
def upto {α : Type} (f : Nat → α) (k : Nat) : List α := (List.range k).map f
theorem upto_zero {α : Type} (f : Nat → α) : upto f 0 = [] := rfl
theorem upto_succ {α : Type} (f : Nat → α) (k : Nat) : upto f (k + 1) = upto f k ++ [f k] := by simp [upto, List.range_succ]
theorem upto_length {α : Type} (f : Nat → α) (k : Nat) : (upto f k).length = k := by simp [upto]

/-- The box's four cells. -/
def BoxAt (W : World) (b : Nat) (X Y U V : Int) : Prop := W.cell? ⟨b, 0, none⟩ = some (.int .i64 X) ∧ W.cell? ⟨b, 1, none⟩ = some (.int .i64 Y) ∧ W.cell? ⟨b, 2, none⟩ = some (.int .i64 U) ∧ W.cell? ⟨b, 3, none⟩ = some (.int .i64 V)
/-- Block b lies as it lay. -/
def KeepB (b : Nat) (A B : World) : Prop := B.heap[b]? = A.heap[b]?
theorem BoxAt.kept {b : Nat} {W W' : World} {X Y U V : Int} (h : BoxAt W b X Y U V) (hb : KeepB b W W') : BoxAt W' b X Y U V :=
  ⟨(World.cell?_of_block (a := ⟨b, 0, none⟩) hb).trans h.1, (World.cell?_of_block (a := ⟨b, 1, none⟩) hb).trans h.2.1, (World.cell?_of_block (a := ⟨b, 2, none⟩) hb).trans h.2.2.1, (World.cell?_of_block (a := ⟨b, 3, none⟩) hb).trans h.2.2.2⟩

theorem grown_of_below {W W' : World} (h : Below W.heap.size W W') : W.grownBy W' none := ⟨h.os, h.tape, h.output, h.size, fun k hk _ => h.block k hk⟩

set_option maxHeartbeats 1000000 in
theorem rows_in (n : Nat) (X Y U V : Int) (w : World) :
    CallsIn Fence.wide n Tryd.prog 73 #[.agg #[.int .i64 X, .int .i64 Y, .int .i64 U, .int .i64 V]] w fun e w' => e = .returned (.func (.func 80) #[] #[.pointer (some ⟨w.heap.size, 0, none⟩)]) ∧ w' = w.alloc (.cells #[.int .i64 X, .int .i64 Y, .int .i64 U, .int .i64 V] 65) := by
  refine callsIn_of_wp Tryd.func73 rfl trivial ?_ rfl
  simp only [Tryd.ntmps73, List.size_toArray, List.length_cons, List.length_nil, Nat.reduceAdd, Nat.reduceSub, Array.replicate_succ, Array.replicate_zero, List.push_toArray, List.append_toArray, List.nil_append, List.cons_append]
  gi_wp2
  go_ret
  exact ⟨rfl, rfl⟩

set_option maxRecDepth 100000 in
set_option maxHeartbeats 2000000 in
theorem rows1_in (n : Nat) (l b : Nat) (X Y U V : Int) (m : Nat) (hm : m = if rightB X Y U V = true then V.toNat else 0) (J Jx : List Int → World → Prop) (W : World)
    (hAb : AbidesFrom W.heap.size J)
    (hY : ∀ pre x W, J pre W → pre.length < m → YieldAt Fence.wide (n - 1) Tryd.prog l #[.int .i64 x] W fun e W' =>
      (e = .returned (.bool true) ∧ J (pre ++ [x]) W' ∧ KeepB b W W') ∨ (e = .returned (.bool false) ∧ Jx (pre ++ [x]) W'))
    (hB : BoxAt W b X Y U V) (h0 : J [] W) :
    CallsIn Fence.wide n Tryd.prog 80 #[.func (.yield l) #[] #[], .pointer (some ⟨b, 0, none⟩)] W fun e W' => (∃ v, e = .returned v) ∧
      ((∃ ys, ys = upto (fun j => Y + (j : Int)) m ∧ J ys W') ∨ (∃ pre, (∃ k, k ≤ m ∧ pre = upto (fun j => Y + (j : Int)) k) ∧ Jx pre W')) := by
  obtain ⟨b0, b1, b2, b3⟩ := hB
  refine callsIn_of_wp Tryd.func80 rfl trivial ?_ rfl
  simp only [Tryd.ntmps80, List.size_toArray, List.length_cons, List.length_nil, Nat.reduceAdd, Nat.reduceSub, Array.replicate_succ, Array.replicate_zero, List.push_toArray, List.append_toArray, List.nil_append, List.cons_append]
  gi_wp2_with fail
  refine ⟨trivial, (fun h => by cases h), ?_⟩
  refine (callsIn_wide.2 (right_any _ _ _ _ _)).mono ?_
  rintro e w1 ⟨rfl, hb1⟩
  have j0 : J [] w1 := hAb [] W w1 none h0 (grown_of_below hb1) (fun r e => by cases e)
  replace b0 := cell_later hb1 b0
  replace b1 := cell_later hb1 b1
  replace b2 := cell_later hb1 b2
  replace b3 := cell_later hb1 b3
  clear hb1
  cases hr : rightB X Y U V
  · simp only [hr, Bool.false_eq_true, if_false] at hm
    subst hm
    gi_wp2
    refine bodyPost_ret (results_none rfl _ _ _) rfl ?_
    exact ⟨⟨_, rfl⟩, .inl ⟨[], rfl, j0⟩⟩
  · obtain ⟨r1, r2, r3, r4, r5, r6, r7, r8⟩ := rightB_iff.1 hr
    simp only [hr, if_true] at hm
    obtain ⟨Vn, rfl⟩ := Int.eq_ofNat_of_zero_le r7
    rw [Int.toNat_natCast] at hm
    subst hm
    gi_wp2
    gi_loopw [9] (fun i wr => ∃ k : Nat, k ≤ m ∧ i = .int .i64 k ∧ J (upto (fun j => Y + (j : Int)) k) wr ∧ BoxAt wr b X Y U m) (fun i _ => m - (intOf i).toNat)
    case atStart => exact ⟨0, Nat.zero_le _, rfl, j0, b0, b1, b2, b3⟩
    case round =>
      obtain ⟨k, hk, rfl, hJs, hB⟩ := hrel
      clear j0 b0 b1 b2 b3
      obtain ⟨q0, q1, q2, q3⟩ := hB
      by_cases hlt : k < m
      · have hlt' : (k : Int) < (m : Int) := by omega
        obtain ⟨fn, tmps, assign, body, hy, hR⟩ := hY _ (Y + (k : Int)) wr hJs (by rw [upto_length]; exact hlt)
        gi_wp2
        refine ⟨(fun h => by cases h), hR.mono ?_⟩
        rintro e W3 (⟨rfl, hJ3, hk3⟩ | ⟨rfl, hJx3⟩)
        · gi_wp2
          go_roundw
          case rel => exact ⟨k + 1, by omega, by go_num, by rw [upto_succ]; exact hJ3, BoxAt.kept ⟨q0, q1, q2, q3⟩ hk3⟩
          case measure => simp [intOf]; omega
        · gi_wp2
          refine bodyPost_ret (results_none rfl _ _ _) rfl ?_
          exact ⟨⟨_, rfl⟩, .inr ⟨_, ⟨k + 1, by omega, (upto_succ _ _).symm⟩, hJx3⟩⟩
      · obtain rfl : k = m := by omega
        gi_wp2
        go_end0
        exact ⟨⟨_, rfl⟩, .inl ⟨_, rfl, hJs⟩⟩

theorem upto_prefix {α : Type} (f : Nat → α) {k m : Nat} (h : k ≤ m) : upto f k <+: upto f m := by
  obtain ⟨d, rfl⟩ := Nat.exists_eq_add_of_le h
  refine ⟨(List.range d).map (fun j => f (k + j)), ?_⟩
  simp [upto, List.range_add]

/-- How many rows come. -/
def rowsOf (X Y U V : Int) : Nat := if rightB X Y U V = true then V.toNat else 0

/-- **The rows of a box hand back a value that 'SeqStopsK'**. -/
theorem rows_stops (n b : Nat) (X Y U V : Int) (w : World) (hB : BoxAt w b X Y U V) :
    SeqStopsK Fence.wide n Tryd.prog 80 #[.pointer (some ⟨b, 0, none⟩)] (fun x : Int => #[Value.int .i64 x]) (KeepB b) (fun ys => ys = upto (fun j => Y + (j : Int)) (rowsOf X Y U V)) (fun pre => pre <+: upto (fun j => Y + (j : Int)) (rowsOf X Y U V)) (rowsOf X Y U V) w := fun l J Jx W hW hJ _ hY h0 => by
  refine (rows1_in n l b X Y U V (rowsOf X Y U V) rfl J Jx W hJ hY (hB.kept (hW.block b (blk_lt hB.1))) h0).mono ?_
  rintro e W' ⟨he, ⟨ys, rfl, hj⟩ | ⟨pre, ⟨k, hk, rfl⟩, hj⟩⟩
  · exact ⟨he, .inl ⟨_, rfl, hj⟩⟩
  · exact ⟨he, .inr ⟨_, upto_prefix _ hk, hj⟩⟩
end Go.Proofs.YtldpajfendkhbaaDoor
