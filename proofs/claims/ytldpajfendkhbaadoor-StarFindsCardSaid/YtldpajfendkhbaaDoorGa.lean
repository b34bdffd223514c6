/- Package geom: contracts of its plain functions: what each answers, and that it leaves what was in memory as it was. -/
import Derived.Test.YtldpajfendkhbaaDoorProg
import Derived.WalkKit
import Derived.WalkSpells
import Derived.WalkLawsBesides
namespace Go.Proofs.YtldpajfendkhbaaDoor
open Go.RowKit

theorem ret_bool {a b : Bool} (h : a = b) : Ending.returned (.bool a) = .returned (.bool b) := by rw [h]
theorem ret_int {k : IntKind} {a b : Int} (h : a = b) : Ending.returned (.int k a) = .returned (.int k b) := by rw [h]
theorem bcell {W w1 : World} (hb : Below W.heap.size W w1) : (∀ b o, b < W.heap.size → w1.cell? ⟨b, o, none⟩ = W.cell? ⟨b, o, none⟩) ∧ (∀ b o, b < W.heap.size → w1.frozen? ⟨b, o, none⟩ = W.frozen? ⟨b, o, none⟩) :=
  ⟨fun b o h => hb.cell (p := ⟨b, o, none⟩) h, fun b o h => hb.frozen (p := ⟨b, o, none⟩) h⟩

theorem bl0 (w : World) : Below w.heap.size w w := Below.refl _ _
theorem bl_al {w a : World} (h : Below w.heap.size w a) (o : Obj) : Below w.heap.size w (a.alloc o) := h.alloc h.size o
theorem bl_tr {w a b : World} (h : Below w.heap.size w a) (k : Below a.heap.size a b) : Below w.heap.size w b := h.trans (k.mono h.size)
theorem bl_set {w a : World} (h : Below w.heap.size w a) {p : Addr} (hp : w.heap.size ≤ p.block) (u : Value) : Below w.heap.size w (a.setCell p u) := h.setCell hp u
theorem bl_st {w a : World} (h : Below w.heap.size w a) {b o : Nat} (hp : w.heap.size ≤ b) (u : Value) : Below w.heap.size w (a.setCell ⟨b, o, none⟩ u) := h.setCell (p := ⟨b, o, none⟩) hp u
theorem bl_dr {w a : World} (h : Below w.heap.size w a) : Below w.heap.size w a.drew := h.drew
theorem bl_drn (w : World) (n : Nat) : Below w.heap.size w (w.drewN n) := ⟨rfl, rfl, rfl, Nat.le_refl _, fun _ _ => rfl⟩
theorem blk_lt {w : World} {b o : Nat} {v : Value} (h : w.cell? ⟨b, o, none⟩ = some v) : b < w.heap.size := World.block_lt_of_cell? _ _ h
theorem frozen_later {V w : World} (hb : Below V.heap.size V w) {b o : Nat} {v : Value} (h : V.cell? ⟨b, o, none⟩ = some v) (hf : V.frozen? ⟨b, o, none⟩ = false) : w.frozen? ⟨b, o, none⟩ = false :=
  (hb.frozen (p := ⟨b, o, none⟩) (blk_lt h)).trans hf
def mayB (W H : Int) : Bool := decide (1 ≤ W ∧ W ≤ 256 ∧ 1 ≤ H ∧ H ≤ 256)
def inB (W H X Y : Int) : Bool := decide (1 ≤ W ∧ W ≤ 256 ∧ 1 ≤ H ∧ H ≤ 256 ∧ 0 ≤ X ∧ X < W ∧ 0 ≤ Y ∧ Y < H)
def nearB (n : Int) : Bool := decide (-1048576 ≤ n ∧ n ≤ 1048576)
def plainB (X Y : Int) : Bool := decide (-1048576 ≤ X ∧ X ≤ 1048576 ∧ -1048576 ≤ Y ∧ Y ≤ 1048576)
theorem mayB_iff {W H : Int} : mayB W H = true ↔ 1 ≤ W ∧ W ≤ 256 ∧ 1 ≤ H ∧ H ≤ 256 := by simp [mayB]
theorem inB_iff {W H X Y : Int} : inB W H X Y = true ↔ 1 ≤ W ∧ W ≤ 256 ∧ 1 ≤ H ∧ H ≤ 256 ∧ 0 ≤ X ∧ X < W ∧ 0 ≤ Y ∧ Y < H := by simp [inB]
theorem nearB_iff {n : Int} : nearB n = true ↔ -1048576 ≤ n ∧ n ≤ 1048576 := by simp [nearB]
theorem plainB_iff {X Y : Int} : plainB X Y = true ↔ -1048576 ≤ X ∧ X ≤ 1048576 ∧ -1048576 ≤ Y ∧ Y ≤ 1048576 := by simp [plainB]

set_option maxHeartbeats 400000 in
theorem near_any (n : Int) (w : World) :
    Calls Tryd.prog 65 #[.int .i64 n] w fun e w' => e = .returned (.bool (nearB n)) ∧ w = w' := by
  go_enter Tryd.func65, Tryd.ntmps65
  go_wp2
  all_goals
    go_ret
    exact ⟨ret_bool (by rw [Bool.eq_iff_iff]; simp [nearB]; try omega), rfl⟩

set_option maxHeartbeats 400000 in
theorem may_any (W H : Int) (w : World) :
    Calls Tryd.prog 33 #[.agg #[.int .i64 W, .int .i64 H]] w fun e w' => e = .returned (.bool (mayB W H)) ∧ Below w.heap.size w w' := by
  go_enter Tryd.func33, Tryd.ntmps33
  go_wp2
  all_goals
    go_ret
    exact ⟨ret_bool (by rw [Bool.eq_iff_iff]; simp [mayB]; try omega), (Below.refl _ _).alloc (Nat.le_refl _) _⟩

set_option maxHeartbeats 400000 in
theorem in_any (W H X Y : Int) (w : World) :
    Calls Tryd.prog 21 #[.agg #[.int .i64 W, .int .i64 H], .agg #[.int .i64 X, .int .i64 Y]] w fun e w' => e = .returned (.bool (inB W H X Y)) ∧ Below w.heap.size w w' := by
  by_cases hm : mayB W H = true
  all_goals
    go_enter Tryd.func21, Tryd.ntmps21
    go_wp2_with (go_at_call 33; refine (may_any _ _ _).mono ?_; rintro e w' ⟨rfl, hb⟩; obtain ⟨hc, hf⟩ := bcell hb)
    all_goals
      go_ret
      refine ⟨ret_bool (by rw [Bool.eq_iff_iff]; have hm' := @mayB_iff W H; simp_all [inB] <;> omega), ?_⟩
      exact bl_tr (bl_al (bl_al (bl0 _) _) _) hb

set_option maxHeartbeats 400000 in
theorem plain_any (X Y : Int) (w : World) :
    Calls Tryd.prog 48 #[.agg #[.int .i64 X, .int .i64 Y]] w fun e w' => e = .returned (.bool (plainB X Y)) ∧ Below w.heap.size w w' := by
  by_cases hm : nearB X = true
  all_goals
    go_enter Tryd.func48, Tryd.ntmps48
    go_wp2_with (go_at_call 65; refine (near_any _ _).mono ?_; rintro e w' ⟨rfl, rfl⟩)
    all_goals
      go_ret
      refine ⟨ret_bool (by rw [Bool.eq_iff_iff]; have hx := @nearB_iff X; have hy := @nearB_iff Y; simp_all [plainB] <;> omega), ?_⟩
      exact bl_al (bl0 _) _

end Go.Proofs.YtldpajfendkhbaaDoor
