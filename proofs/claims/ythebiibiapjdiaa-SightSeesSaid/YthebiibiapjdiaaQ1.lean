/- Texts joined: Ga, Gb, Gc, Ra, Wa, Va, Wb, Oh, Wc, Wr, Wd, Os. -/
import Derived.Test.YthebiibiapjdiaaProg
import Derived.WalkKit
import Derived.WalkSpells
import Derived.WalkLawsBesides
import Derived.Deep.QuietTactic
import Derived.BigQuiet
import Derived.BigRegion
import Derived.Lib.Hide
import Derived.RangeFuncNested
import Derived.RangeFuncBound
import Derived.RangeFuncBox
import Derived.RangeFuncCalls
import Derived.RangeFuncLeaves
import Derived.Shelf.Abstract
import Derived.Shelf.RegionOpen
import Derived.OwnWalkIn
import Derived.TacticsInMore
import Derived.LoopNIn
import Derived.LoopIn
import Derived.OrdersHeld
import Derived.OrdersIn
import Derived.OwnWalk
import Derived.Laws.OwnMore
/- Package geom: contracts of its plain functions: what each answers, and that it leaves what was in memory as it was. -/
namespace Go.Proofs.Ythebiibiapjdiaa
open Go.RowKit

theorem ret_bool {a b : Bool} (h : a = b) : Ending.returned (.bool a) = .returned (.bool b) := by rw [h]
theorem ret_int {k : IntKind} {a b : Int} (h : a = b) : Ending.returned (.int k a) = .returned (.int k b) := by rw [h]
theorem bcell {W w1 : World} (hb : Below W.heap.size W w1) : (∀ b o, b < W.heap.size → w1.cell? ⟨b, o, none⟩ = W.cell? ⟨b, o, none⟩) ∧ (∀ b o, b < W.heap.size → w1.frozen? ⟨b, o, none⟩ = W.frozen? ⟨b, o, none⟩) :=
  ⟨fun b o h => hb.cell (p := ⟨b, o, none⟩) h, fun b o h => hb.frozen (p := ⟨b, o, none⟩) h⟩

theorem bl0 (w : World) : Below w.heap.size w w := Below.refl _ _
theorem bl_al {w a : World} (h : Below w.heap.size w a) (o : Obj) : Below w.heap.size w (a.alloc o) := h.alloc h.size o
theorem bl_tr {w a b : World} (h : Below w.heap.size w a) (k : Below a.heap.size a b) : Below w.heap.size w b := h.trans (k.mono h.size)
theorem bl_set {w a : World} (h : Below w.heap.size w a) {p : Addr} (hp : w.heap.size ≤ p.block) (u : Value) : Below w.heap.size w (a.setCell p u) := h.setCell hp u
theorem bl_st {w a : World} (h : Below w.heap.size w a) {b o : Nat} (hp : w.heap.size ≤ b) (u : Value) : Below w.heap.size w (a.setCell ⟨b, o, none⟩ u) := h.setCell (p := ⟨b, o, none⟩) hp u
theorem bl_dr {w a : World} (h : Below w.heap.size w a) : Below w.heap.size w a.drew := h.drew
theorem bl_drn (w : World) (n : Nat) : Below w.heap.size w (w.drewN n) := ⟨rfl, rfl, rfl, Nat.le_refl _, fun _ _ => rfl⟩
theorem blk_lt {w : World} {b o : Nat} {v : Value} (h : w.cell? ⟨b, o, none⟩ = some v) : b < w.heap.size := World.block_lt_of_cell? _ _ h
theorem frozen_later {V w : World} (hb : Below V.heap.size V w) {b o : Nat} {v : Value} (h : V.cell? ⟨b, o, none⟩ = some v) (hf : V.frozen? ⟨b, o, none⟩ = false) : w.frozen? ⟨b, o, none⟩ = false :=
  (hb.frozen (p := ⟨b, o, none⟩) (blk_lt h)).trans hf
def mayB (W H : Int) : Bool := decide (1 ≤ W ∧ W ≤ 256 ∧ 1 ≤ H ∧ H ≤ 256)
def inB (W H X Y : Int) : Bool := decide (1 ≤ W ∧ W ≤ 256 ∧ 1 ≤ H ∧ H ≤ 256 ∧ 0 ≤ X ∧ X < W ∧ 0 ≤ Y ∧ Y < H)
def nearB (n : Int) : Bool := decide (-1048576 ≤ n ∧ n ≤ 1048576)
def plainB (X Y : Int) : Bool := decide (-1048576 ≤ X ∧ X ≤ 1048576 ∧ -1048576 ≤ Y ∧ Y ≤ 1048576)
theorem mayB_iff {W H : Int} : mayB W H = true ↔ 1 ≤ W ∧ W ≤ 256 ∧ 1 ≤ H ∧ H ≤ 256 := by simp [mayB]
theorem inB_iff {W H X Y : Int} : inB W H X Y = true ↔ 1 ≤ W ∧ W ≤ 256 ∧ 1 ≤ H ∧ H ≤ 256 ∧ 0 ≤ X ∧ X < W ∧ 0 ≤ Y ∧ Y < H := by simp [inB]
theorem nearB_iff {n : Int} : nearB n = true ↔ -1048576 ≤ n ∧ n ≤ 1048576 := by simp [nearB]
theorem plainB_iff {X Y : Int} : plainB X Y = true ↔ -1048576 ≤ X ∧ X ≤ 1048576 ∧ -1048576 ≤ Y ∧ Y ≤ 1048576 := by simp [plainB]

set_option maxHeartbeats 400000 in
theorem near_any (n : Int) (w : World) :
    Calls Try.prog 96 #[.int .i64 n] w fun e w' => e = .returned (.bool (nearB n)) ∧ w = w' := by
  go_enter Try.func96, Try.ntmps96
  go_wp2
  all_goals
    go_ret
    exact ⟨ret_bool (by rw [Bool.eq_iff_iff]; simp [nearB]; try omega), rfl⟩

set_option maxHeartbeats 400000 in
theorem may_any (W H : Int) (w : World) :
    Calls Try.prog 51 #[.agg #[.int .i64 W, .int .i64 H]] w fun e w' => e = .returned (.bool (mayB W H)) ∧ Below w.heap.size w w' := by
  go_enter Try.func51, Try.ntmps51
  go_wp2
  all_goals
    go_ret
    exact ⟨ret_bool (by rw [Bool.eq_iff_iff]; simp [mayB]; try omega), (Below.refl _ _).alloc (Nat.le_refl _) _⟩

set_option maxHeartbeats 400000 in
theorem in_any (W H X Y : Int) (w : World) :
    Calls Try.prog 64 #[.agg #[.int .i64 W, .int .i64 H], .agg #[.int .i64 X, .int .i64 Y]] w fun e w' => e = .returned (.bool (inB W H X Y)) ∧ Below w.heap.size w w' := by
  by_cases hm : mayB W H = true
  all_goals
    go_enter Try.func64, Try.ntmps64
    go_wp2_with (go_at_call 51; refine (may_any _ _ _).mono ?_; rintro e w' ⟨rfl, hb⟩; obtain ⟨hc, hf⟩ := bcell hb)
    all_goals
      go_ret
      refine ⟨ret_bool (by rw [Bool.eq_iff_iff]; have hm' := @mayB_iff W H; simp_all [inB] <;> omega), ?_⟩
      exact bl_tr (bl_al (bl_al (bl0 _) _) _) hb

set_option maxHeartbeats 400000 in
theorem plain_any (X Y : Int) (w : World) :
    Calls Try.prog 75 #[.agg #[.int .i64 X, .int .i64 Y]] w fun e w' => e = .returned (.bool (plainB X Y)) ∧ Below w.heap.size w w' := by
  by_cases hm : nearB X = true
  all_goals
    go_enter Try.func75, Try.ntmps75
    go_wp2_with (go_at_call 96; refine (near_any _ _).mono ?_; rintro e w' ⟨rfl, rfl⟩)
    all_goals
      go_ret
      refine ⟨ret_bool (by rw [Bool.eq_iff_iff]; have hx := @nearB_iff X; have hy := @nearB_iff Y; simp_all [plainB] <;> omega), ?_⟩
      exact bl_al (bl0 _) _

end Go.Proofs.Ythebiibiapjdiaa

/- Package geom: contracts of Index, At, Far, Walk, boxes. -/
namespace Go.Proofs.Ythebiibiapjdiaa
open Go.RowKit

theorem mul_bd {Y W : Int} (h1 : 0 ≤ Y) (h2 : Y ≤ 255) (h3 : 1 ≤ W) (h4 : W ≤ 256) : 0 ≤ Y * W ∧ Y * W ≤ 65280 := by
  constructor
  · exact Int.mul_nonneg h1 (by omega)
  · have a : Y * W ≤ 255 * W := Int.mul_le_mul_of_nonneg_right h2 (by omega)
    omega

set_option maxHeartbeats 400000 in
theorem index_no (W H X Y : Int) (w : World) (hi : inB W H X Y = false) :
    Calls Try.prog 30 #[.agg #[.int .i64 W, .int .i64 H], .agg #[.int .i64 X, .int .i64 Y]] w fun e w' => e = .returned (.tuple #[.int .i64 0, .int .i64 10]) ∧ Below w.heap.size w w' := by
  go_enter Try.func30, Try.ntmps30
  go_wp2_with (go_at_call 64; refine (in_any _ _ _ _ _).mono ?_; rintro e w' ⟨rfl, hb⟩; obtain ⟨hc, hf⟩ := bcell hb)
  go_ret2
  exact ⟨rfl, bl_tr (bl_al (bl_al (bl0 _) _) _) hb⟩

set_option maxHeartbeats 400000 in
theorem index_yes (W H X Y : Int) (w : World) (hi : inB W H X Y = true) :
    Calls Try.prog 30 #[.agg #[.int .i64 W, .int .i64 H], .agg #[.int .i64 X, .int .i64 Y]] w fun e w' => e = .returned (.tuple #[.int .i64 (Y * W + X), .int .i64 0]) ∧ Below w.heap.size w w' := by
  obtain ⟨h1, h2, h3, h4, h5, h6, h7, h8⟩ := inB_iff.1 hi
  obtain ⟨m1, m2⟩ := mul_bd h7 (by omega) h1 h2
  go_enter Try.func30, Try.ntmps30
  go_wp2_with (go_at_call 64; refine (in_any _ _ _ _ _).mono ?_; rintro e w' ⟨rfl, hb⟩; obtain ⟨hc, hf⟩ := bcell hb)
  go_ret2
  exact ⟨rfl, bl_tr (bl_al (bl_al (bl0 _) _) _) hb⟩

def atB (W H i : Int) : Bool := decide (1 ≤ W ∧ W ≤ 256 ∧ 1 ≤ H ∧ H ≤ 256 ∧ 0 ≤ i ∧ i < W * H)
theorem atB_iff {W H i : Int} : atB W H i = true ↔ 1 ≤ W ∧ W ≤ 256 ∧ 1 ≤ H ∧ H ≤ 256 ∧ 0 ≤ i ∧ i < W * H := by simp [atB]

set_option maxHeartbeats 400000 in
theorem at_yes (W H i : Int) (w : World) (hi : atB W H i = true) :
    Calls Try.prog 24 #[.agg #[.int .i64 W, .int .i64 H], .int .i64 i] w fun e w' => e = .returned (.tuple #[.agg #[.int .i64 (i % W), .int .i64 (i / W)], .int .i64 0]) ∧ Below w.heap.size w w' := by
  obtain ⟨h1, h2, h3, h4, h5, h6⟩ := atB_iff.1 hi
  obtain ⟨m1, m2⟩ : 0 ≤ W * H ∧ W * H ≤ 65536 := ⟨Int.mul_nonneg (by omega) (by omega), by have a : W * H ≤ 256 * H := Int.mul_le_mul_of_nonneg_right h2 (by omega); omega⟩
  have hm : mayB W H = true := mayB_iff.2 ⟨h1, h2, h3, h4⟩
  have hz : (W == 0) = false := by simp; omega
  go_enter Try.func24, Try.ntmps24
  go_wp2_with (go_at_call 51; refine (may_any _ _ _).mono ?_; rintro e w' ⟨rfl, hb⟩; obtain ⟨hc, hf⟩ := bcell hb)
  go_region
  all_goals go_wp2
  have q0 : w'.cell? ⟨w.heap.size + 1, 0, none⟩ = some (.int .i64 0) := (hc _ _ (by simp)).trans (by simp [go_sem])
  have q1 : w'.cell? ⟨w.heap.size + 1, 1, none⟩ = some (.int .i64 0) := (hc _ _ (by simp)).trans (by simp [go_sem])
  clear hc hf
  refine bodyPost_ret (v := .tuple #[.agg #[.int .i64 (i % W), .int .i64 (i / W)], .int .i64 0]) (by simp [results, Try.results24, go_sem, q0, q1]) rfl ⟨rfl, ?_⟩
  exact bl_dr (bl_st (bl_st (bl_tr (bl_al (bl_al (bl0 _) _) _) hb) (by omega) _) (by omega) _)
end Go.Proofs.Ythebiibiapjdiaa

/- Package geom: contracts of distances. -/
namespace Go.Proofs.Ythebiibiapjdiaa
open Go.RowKit

theorem ret_ii {k k' : IntKind} {a b c d : Int} (h : a = b) (h2 : c = d) : Ending.returned (.tuple #[.int k a, .int k' c]) = .returned (.tuple #[.int k b, .int k' d]) := by rw [h, h2]
def apartI (a b : Int) : Int := max (a - b) (b - a)
theorem apartI_def (a b : Int) : apartI a b = max (a - b) (b - a) := rfl
theorem apartI_bd {a b : Int} (h1 : -1048576 ≤ a) (h2 : a ≤ 1048576) (h3 : -1048576 ≤ b) (h4 : b ≤ 1048576) : 0 ≤ apartI a b ∧ apartI a b ≤ 2097152 := by unfold apartI; omega

set_option maxHeartbeats 400000 in
theorem apart_any (a b : Int) (w : World) (h1 : -1048576 ≤ a) (h2 : a ≤ 1048576) (h3 : -1048576 ≤ b) (h4 : b ≤ 1048576) :
    Calls Try.prog 76 #[.int .i64 a, .int .i64 b] w fun e w' => e = .returned (.int .i64 (apartI a b)) ∧ w' = w := by
  go_enter Try.func76, Try.ntmps76
  go_wp2
  all_goals
    go_ret
    exact ⟨ret_int (by unfold apartI; omega), rfl⟩

set_option maxHeartbeats 400000 in
theorem walk_yes (X Y Z V : Int) (w : World) (hp : plainB X Y = true) (hq : plainB Z V = true) :
    Calls Try.prog 28 #[.agg #[.int .i64 X, .int .i64 Y], .agg #[.int .i64 Z, .int .i64 V]] w fun e w' => e = .returned (.tuple #[.int .i64 (apartI X Z + apartI Y V), .int .i64 0]) ∧ Below w.heap.size w w' := by
  obtain ⟨a1, a2, a3, a4⟩ := plainB_iff.1 hp
  obtain ⟨b1, b2, b3, b4⟩ := plainB_iff.1 hq
  obtain ⟨c1, c2⟩ := apartI_bd a1 a2 b1 b2
  obtain ⟨d1, d2⟩ := apartI_bd a3 a4 b3 b4
  go_enter Try.func28, Try.ntmps28
  go_wp2_with fail
  refine (plain_any _ _ _).mono ?_
  rintro e w1 ⟨rfl, hb1⟩
  obtain ⟨hc1, hf1⟩ := bcell hb1
  have z1 : w.heap.size + 1 < w1.heap.size := by have := hb1.size; simp at this; omega
  go_wp2_with fail
  refine (plain_any _ _ _).mono ?_
  rintro e w2 ⟨rfl, hb2⟩
  obtain ⟨hc2, hf2⟩ := bcell hb2
  have q0 : w2.cell? ⟨w.heap.size, 0, none⟩ = some (.int .i64 X) := by rw [hc2 _ _ (by omega), hc1 _ _ (by simp; omega)]; simp [go_sem]
  have q1 : w2.cell? ⟨w.heap.size, 1, none⟩ = some (.int .i64 Y) := by rw [hc2 _ _ (by omega), hc1 _ _ (by simp; omega)]; simp [go_sem]
  have q2 : w2.cell? ⟨w.heap.size + 1, 0, none⟩ = some (.int .i64 Z) := by rw [hc2 _ _ (by omega), hc1 _ _ (by simp)]; simp [go_sem]
  have q3 : w2.cell? ⟨w.heap.size + 1, 1, none⟩ = some (.int .i64 V) := by rw [hc2 _ _ (by omega), hc1 _ _ (by simp)]; simp [go_sem]
  clear hc1 hf1 hc2 hf2
  go_wp2
  go_quiet ((go_at_call 76; exact Calls.quiet_of_same (apart_any _ _ _ (by omega) (by omega) (by omega) (by omega))))
  go_wp2
  go_ret2
  exact ⟨rfl, bl_tr (bl_tr (bl_tr (bl_al (bl_al (bl0 _) _) _) hb1) hb2) (bl_drn _ _)⟩

set_option maxHeartbeats 400000 in
theorem walk_no (X Y Z V : Int) (w : World) (hp : (plainB X Y && plainB Z V) = false) :
    Calls Try.prog 28 #[.agg #[.int .i64 X, .int .i64 Y], .agg #[.int .i64 Z, .int .i64 V]] w fun e w' => e = .returned (.tuple #[.int .i64 0, .int .i64 10]) ∧ Below w.heap.size w w' := by
  cases h1 : plainB X Y <;> cases h2 : plainB Z V <;> simp [h1, h2] at hp
  all_goals
    go_enter Try.func28, Try.ntmps28
    go_wp2_with (go_at_call 75; refine (plain_any _ _ _).mono ?_; rintro e w' ⟨rfl, hb⟩; obtain ⟨hc, hf⟩ := bcell hb)
    go_ret2
    first
    | exact ⟨rfl, bl_tr (bl_al (bl_al (bl0 _) _) _) hb⟩
    | exact ⟨rfl, bl_tr (bl_tr (bl_al (bl_al (bl0 _) _) _) (by assumption)) hb⟩

set_option maxHeartbeats 400000 in
theorem far_yes (X Y Z V : Int) (w : World) (hp : plainB X Y = true) (hq : plainB Z V = true) :
    Calls Try.prog 27 #[.agg #[.int .i64 X, .int .i64 Y], .agg #[.int .i64 Z, .int .i64 V]] w fun e w' => e = .returned (.tuple #[.int .i64 (max (apartI X Z) (apartI Y V)), .int .i64 0]) ∧ Below w.heap.size w w' := by
  obtain ⟨a1, a2, a3, a4⟩ := plainB_iff.1 hp
  obtain ⟨b1, b2, b3, b4⟩ := plainB_iff.1 hq
  obtain ⟨c1, c2⟩ := apartI_bd a1 a2 b1 b2
  obtain ⟨d1, d2⟩ := apartI_bd a3 a4 b3 b4
  go_enter Try.func27, Try.ntmps27
  go_wp2_with fail
  refine (plain_any _ _ _).mono ?_
  rintro e w1 ⟨rfl, hb1⟩
  obtain ⟨hc1, hf1⟩ := bcell hb1
  have z1 : w.heap.size + 1 < w1.heap.size := by have := hb1.size; simp at this; omega
  go_wp2_with fail
  refine (plain_any _ _ _).mono ?_
  rintro e w2 ⟨rfl, hb2⟩
  obtain ⟨hc2, hf2⟩ := bcell hb2
  have q0 : w2.cell? ⟨w.heap.size, 0, none⟩ = some (.int .i64 X) := by rw [hc2 _ _ (by omega), hc1 _ _ (by simp; omega)]; simp [go_sem]
  have q1 : w2.cell? ⟨w.heap.size, 1, none⟩ = some (.int .i64 Y) := by rw [hc2 _ _ (by omega), hc1 _ _ (by simp; omega)]; simp [go_sem]
  have q2 : w2.cell? ⟨w.heap.size + 1, 0, none⟩ = some (.int .i64 Z) := by rw [hc2 _ _ (by omega), hc1 _ _ (by simp)]; simp [go_sem]
  have q3 : w2.cell? ⟨w.heap.size + 1, 1, none⟩ = some (.int .i64 V) := by rw [hc2 _ _ (by omega), hc1 _ _ (by simp)]; simp [go_sem]
  clear hc1 hf1 hc2 hf2
  go_wp2
  go_quiet ((go_at_call 76; exact Calls.quiet_of_same (apart_any _ _ _ (by omega) (by omega) (by omega) (by omega))))
  all_goals go_wp2
  all_goals
    go_ret2
    exact ⟨ret_ii (by omega) rfl, bl_tr (bl_tr (bl_tr (bl_al (bl_al (bl0 _) _) _) hb1) hb2) (bl_drn _ _)⟩

set_option maxHeartbeats 400000 in
theorem far_no (X Y Z V : Int) (w : World) (hp : (plainB X Y && plainB Z V) = false) :
    Calls Try.prog 27 #[.agg #[.int .i64 X, .int .i64 Y], .agg #[.int .i64 Z, .int .i64 V]] w fun e w' => e = .returned (.tuple #[.int .i64 0, .int .i64 10]) ∧ Below w.heap.size w w' := by
  cases h1 : plainB X Y <;> cases h2 : plainB Z V <;> simp [h1, h2] at hp
  all_goals
    go_enter Try.func27, Try.ntmps27
    go_wp2_with (go_at_call 75; refine (plain_any _ _ _).mono ?_; rintro e w' ⟨rfl, hb⟩; obtain ⟨hc, hf⟩ := bcell hb)
    go_ret2
    first
    | exact ⟨rfl, bl_tr (bl_al (bl_al (bl0 _) _) _) hb⟩
    | exact ⟨rfl, bl_tr (bl_tr (bl_al (bl_al (bl0 _) _) _) (by assumption)) hb⟩
end Go.Proofs.Ythebiibiapjdiaa

/- The document's answers for geom: contracts of the reference's plain functions. -/
namespace Go.Proofs.Ythebiibiapjdiaa
open Go.RowKit

set_option maxHeartbeats 400000 in
theorem rmay_any (W H : Int) (w : World) :
    Calls Try.prog 59 #[.agg #[.int .i64 W, .int .i64 H]] w fun e w' => e = .returned (.bool (mayB W H)) ∧ Below w.heap.size w w' := by
  go_enter Try.func59, Try.ntmps59
  go_wp2
  all_goals
    go_ret
    exact ⟨ret_bool (by rw [Bool.eq_iff_iff]; simp [mayB]; try omega), bl_al (bl0 _) _⟩

set_option maxHeartbeats 400000 in
theorem rin_any (W H X Y : Int) (w : World) :
    Calls Try.prog 18 #[.agg #[.int .i64 W, .int .i64 H], .agg #[.int .i64 X, .int .i64 Y]] w fun e w' => e = .returned (.bool (inB W H X Y)) ∧ Below w.heap.size w w' := by
  by_cases hm : mayB W H = true
  all_goals
    go_enter Try.func18, Try.ntmps18
    go_wp2_with (go_at_call 59; refine (rmay_any _ _ _).mono ?_; rintro e w' ⟨rfl, hb⟩; obtain ⟨hc, hf⟩ := bcell hb)
    all_goals
      go_ret
      refine ⟨ret_bool (by rw [Bool.eq_iff_iff]; have hm' := @mayB_iff W H; simp_all [inB] <;> omega), ?_⟩
      exact bl_tr (bl_al (bl_al (bl0 _) _) _) hb


set_option maxHeartbeats 400000 in
theorem rabs_any (a b : Int) (w : World) (h1 : -1048576 ≤ a) (h2 : a ≤ 1048576) (h3 : -1048576 ≤ b) (h4 : b ≤ 1048576) :
    Calls Try.prog 93 #[.int .i64 (a - b)] w fun e w' => e = .returned (.int .i64 (apartI a b)) ∧ w' = w := by
  go_enter Try.func93, Try.ntmps93
  go_wp2
  all_goals
    go_ret
    exact ⟨ret_int (by unfold apartI; omega), rfl⟩


set_option maxHeartbeats 400000 in
theorem rfar_any (X Y Z V : Int) (w : World) (hp : plainB X Y = true) (hq : plainB Z V = true) :
    Calls Try.prog 71 #[.agg #[.int .i64 X, .int .i64 Y], .agg #[.int .i64 Z, .int .i64 V]] w fun e w' => e = .returned (.int .i64 (max (apartI X Z) (apartI Y V))) ∧ Below w.heap.size w w' := by
  obtain ⟨a1, a2, a3, a4⟩ := plainB_iff.1 hp
  obtain ⟨b1, b2, b3, b4⟩ := plainB_iff.1 hq
  obtain ⟨c1, c2⟩ := apartI_bd a1 a2 b1 b2
  obtain ⟨d1, d2⟩ := apartI_bd a3 a4 b3 b4
  go_enter Try.func71, Try.ntmps71
  go_wp2
  go_quiet ((go_at_call 93; exact Calls.quiet_of_same (rabs_any _ _ _ (by omega) (by omega) (by omega) (by omega))))
  all_goals go_wp2
  all_goals
    go_ret
    exact ⟨ret_int (by omega), bl_tr (bl_al (bl_al (bl0 _) _) _) (bl_drn _ _)⟩
end Go.Proofs.Ythebiibiapjdiaa

/- Straight lines: which whole number is nearest to a quotient. -/
namespace Go.Proofs.Ythebiibiapjdiaa
open Go.RowKit

/-- The greatest whole number that is not above v divided by n, and a half; of n 0: 0. -/
def pF (v n : Int) : Int := if n = 0 then 0 else (2 * v + n) / (2 * n)
theorem pF_nil (v : Int) : pF v 0 = 0 := by simp [pF]
theorem tmod_gt (t d : Int) (hd : 0 < d) : -d < t.tmod d := by
  rcases Int.le_total 0 t with h | h
  · have := Int.tmod_nonneg d h
    omega
  · have h1 : (-t).tmod d < d := Int.tmod_lt_of_pos _ hd
    rw [Int.neg_tmod] at h1
    omega
theorem div_low {t d : Int} (hd : 0 < d) (h : t.tmod d < 0) : t / d = t.tdiv d - 1 := by
  have h1 := Int.mul_tdiv_add_tmod t d
  have h2 := tmod_gt t d hd
  refine ((Int.ediv_emod_unique (r := t.tmod d + d) hd).2 ⟨?_, by omega, by omega⟩).1
  rw [Int.mul_sub, Int.mul_one]
  omega
theorem div_up {t d : Int} (hd : 0 < d) (h : 0 ≤ t.tmod d) : t / d = t.tdiv d := by
  have h1 := Int.mul_tdiv_add_tmod t d
  have h2 := Int.tmod_lt_of_pos t hd
  refine ((Int.ediv_emod_unique (r := t.tmod d) hd).2 ⟨?_, by omega, by omega⟩).1
  omega
theorem tdiv_bd {t : Int} (d : Int) (ht : -4194304 ≤ t ∧ t ≤ 4194304) : -4194304 ≤ t.tdiv d ∧ t.tdiv d ≤ 4194304 := by
  have hn : (t.tdiv d).natAbs ≤ t.natAbs := by rw [Int.natAbs_tdiv]; exact Nat.div_le_self _ _
  omega
theorem mul_back (t d : Int) : (t < d * t.tdiv d → t.tmod d < 0) ∧ (¬ t < d * t.tdiv d → 0 ≤ t.tmod d) := by
  have h1 := Int.mul_tdiv_add_tmod t d
  constructor <;> intro h <;> omega

set_option maxHeartbeats 1000000 in
theorem nearest_any (v n : Int) (w : World) (hv : -1048576 ≤ v ∧ v ≤ 1048576) (hn : 0 ≤ n ∧ n ≤ 4096) :
    Calls Try.prog 99 #[.int .i64 v, .int .i64 n] w fun e w' => e = .returned (.int .i64 (pF v n)) ∧ Below w.heap.size w w' := by
  by_cases h0 : n = 0
  · subst h0
    go_enter Try.func99, Try.ntmps99
    go_wp2
    go_ret
    exact ⟨by simp [pF], bl0 _⟩
  · have h0b : (n == 0) = false := by rw [beq_eq_false_iff_ne]; exact h0
    have hp : pF v n = (2 * v + n) / (2 * n) := by simp [pF, h0]
    have w1 : IntKind.i64.wrap (2 * v) = 2 * v := IntWalk.i64_in _ (by omega)
    have w2 : IntKind.i64.wrap (2 * v + n) = 2 * v + n := IntWalk.i64_in _ (by omega)
    have w3 : IntKind.i64.wrap (2 * n) = 2 * n := IntWalk.i64_in _ (by omega)
    have hd : 0 < 2 * n := by omega
    have hd2 : 2 * n ≠ 0 := by omega
    have hd3 : (2 * n == 0) = false := by rw [beq_eq_false_iff_ne]; exact hd2
    obtain ⟨q1, q2⟩ := tdiv_bd (2 * n) (t := 2 * v + n) (by omega)
    have w4 : IntKind.i64.wrap ((2 * v + n).tdiv (2 * n)) = (2 * v + n).tdiv (2 * n) := IntWalk.i64_in _ (by omega)
    by_cases hr : (2 * v + n).tmod (2 * n) < 0
    · have hq := div_low hd hr
      have HP := Lib.hid (hp.trans hq)
      clear hp hq
      go_enter Try.func99, Try.ntmps99
      go_wp2
      go_ret
      exact ⟨by rw [HP.out]; rfl, bl0 _⟩
    · have hq := div_up hd (t := 2 * v + n) (by omega)
      have hr2 : 0 ≤ (2 * v + n).tmod (2 * n) := by omega
      have HP := Lib.hid (hp.trans hq)
      clear hp hq
      go_enter Try.func99, Try.ntmps99
      go_wp2
      go_ret
      exact ⟨by rw [HP.out]; rfl, bl0 _⟩

set_option maxHeartbeats 1000000 in
theorem rnear_any (v n : Int) (w : World) (hv : -1048576 ≤ v ∧ v ≤ 1048576) (hn : 0 ≤ n ∧ n ≤ 4096) :
    Calls Try.prog 105 #[.int .i64 v, .int .i64 n] w fun e w' => e = .returned (.int .i64 (pF v n)) ∧ Below w.heap.size w w' := by
  by_cases h0 : n = 0
  · subst h0
    go_enter Try.func105, Try.ntmps105
    go_wp2
    go_ret
    exact ⟨by simp [pF], bl0 _⟩
  · have h0b : (n == 0) = false := by rw [beq_eq_false_iff_ne]; exact h0
    have hp : pF v n = (2 * v + n) / (2 * n) := by simp [pF, h0]
    have w1 : IntKind.i64.wrap (2 * v) = 2 * v := IntWalk.i64_in _ (by omega)
    have w2 : IntKind.i64.wrap (2 * v + n) = 2 * v + n := IntWalk.i64_in _ (by omega)
    have w3 : IntKind.i64.wrap (2 * n) = 2 * n := IntWalk.i64_in _ (by omega)
    have hd : 0 < 2 * n := by omega
    have hd2 : 2 * n ≠ 0 := by omega
    have hd3 : (2 * n == 0) = false := by rw [beq_eq_false_iff_ne]; exact hd2
    obtain ⟨q1, q2⟩ := tdiv_bd (2 * n) (t := 2 * v + n) (by omega)
    have w4 : IntKind.i64.wrap ((2 * v + n).tdiv (2 * n)) = (2 * v + n).tdiv (2 * n) := IntWalk.i64_in _ (by omega)
    have hmb := Int.mul_tdiv_add_tmod (2 * v + n) (2 * n)
    have b1 := tmod_gt (2 * v + n) (2 * n) hd
    have b2 := Int.tmod_lt_of_pos (2 * v + n) hd
    obtain ⟨p, hpm⟩ : ∃ p, 2 * n * (2 * v + n).tdiv (2 * n) = p := ⟨_, rfl⟩
    rw [hpm] at hmb
    have w5 : IntKind.i64.wrap (2 * n * (2 * v + n).tdiv (2 * n)) = 2 * n * (2 * v + n).tdiv (2 * n) := IntWalk.i64_in _ (by rw [hpm]; omega)
    by_cases hr : (2 * v + n).tmod (2 * n) < 0
    · have hq := div_low hd hr
      have HP := Lib.hid (hp.trans hq)
      have hgt : 2 * v + n < 2 * n * (2 * v + n).tdiv (2 * n) := by rw [hpm]; omega
      clear hp hq hmb b1 b2 hr hpm
      go_enter Try.func105, Try.ntmps105
      go_wp2
      go_ret
      exact ⟨by rw [HP.out]; rfl, bl0 _⟩
    · have hq := div_up hd (t := 2 * v + n) (by omega)
      have HP := Lib.hid (hp.trans hq)
      have hgt : 2 * n * (2 * v + n).tdiv (2 * n) ≤ 2 * v + n := by rw [hpm]; omega
      clear hp hq hmb b1 b2 hr hpm
      go_enter Try.func105, Try.ntmps105
      go_wp2
      go_ret
      exact ⟨by rw [HP.out]; rfl, bl0 _⟩
end Go.Proofs.Ythebiibiapjdiaa

/- A loop over an iterator that keeps state of its own in some blocks of its own: the law for whoever writes it, also within a round of another loop. -/
namespace Go.Proofs.Ythebiibiapjdiaa
open Go.RowKit Go.Shelf
attribute [local go_sem] Oper.semAt_some

theorem yieldAt_wide {m : Nat} (m' : Nat) {P : Program} {l : Nat} {args : Array Value} {W : World} {R : Ending → World → Prop} (x : YieldAt Fence.wide m P l args W R) : YieldAt Fence.wide m' P l args W R := by
  obtain ⟨fn, tmps, assign, body, hy, hR⟩ := x
  exact ⟨fn, tmps, assign, body, hy, ⟨hR.1, fun c cs _ => hR.2 c cs (room_wide _)⟩⟩
theorem roundIn_any {F : Fence} (l' : Nat) {m : Nat} {P : Program} {l : Nat} {f : FuncId} {tmps : Array Value} {assign body : Code} {w : World} {R : Ending → World → Prop}
    (x : RoundIn F m P l f tmps assign body w R) : RoundIn (F.inRound l') m P l f tmps assign body w R := x
theorem grown_of_below {W W' : World} (h : Below W.heap.size W W') : W.grownBy W' none := ⟨h.os, h.tape, h.output, h.size, fun k hk _ => h.block k hk⟩
theorem callsIn_deep {P : Program} {f : FuncId} {args : Array Value} {w : World} {R : Ending → World → Prop} {n : Nat} (m : Nat) (h : CallsIn Fence.wide n P f args w R) : CallsIn Fence.wide m P f args w R :=
  callsIn_wide.2 (callsIn_wide.1 h)

/-- The blocks from p on, c of them, lie as they lay. -/
def KP (p c : Nat) (A B : World) : Prop := A.heap.size ≤ B.heap.size ∧ ∀ k, p ≤ k → k < p + c → B.heap[k]? = A.heap[k]?
theorem KP.refl (p c : Nat) (A : World) : KP p c A A := ⟨Nat.le_refl _, fun _ _ _ => rfl⟩
theorem KP.trans {p c : Nat} {A B C : World} (x : KP p c A B) (y : KP p c B C) : KP p c A C := ⟨Nat.le_trans x.1 y.1, fun k h1 h2 => (y.2 k h1 h2).trans (x.2 k h1 h2)⟩
theorem KP.of_below {p c : Nat} {A B : World} (h : Below A.heap.size A B) (hp : p + c ≤ A.heap.size) : KP p c A B := ⟨h.size, fun k _ h2 => h.block k (by omega)⟩
theorem KP.of_below' {p c n : Nat} {A B : World} (h : Below n A B) (hp : p + c ≤ n) (hs : A.heap.size ≤ B.heap.size) : KP p c A B := ⟨hs, fun k _ h2 => h.block k (by omega)⟩
theorem KP.put {p c l : Nat} {A : World} (o : Obj) (hl : p + c ≤ l) : KP p c A (A.putObj l o) := ⟨by simp, fun k _ h2 => World.putObj_heap_other (by omega)⟩
theorem KP.st {p c l o : Nat} {A : World} (u : Value) (hl : p + c ≤ l) : KP p c A (A.setCell ⟨l, o, none⟩ u) := ⟨by simp, fun k _ h2 => Below.heap_setCell _ _ _ k (show k ≠ l by omega)⟩
theorem KP.cell {p c k o : Nat} {A B : World} {v : Value} (x : KP p c A B) (h1 : p ≤ k) (h2 : k < p + c) (q : A.cell? ⟨k, o, none⟩ = some v) : B.cell? ⟨k, o, none⟩ = some v :=
  (World.cell?_of_block (a := ⟨k, o, none⟩) (x.2 k h1 h2)).trans q
theorem KP.boxed {p c k : Nat} {t : TypeId} {A B : World} {v : Value} (x : KP p c A B) (h1 : p ≤ k) (h2 : k < p + c) (q : Boxed A k t v) : Boxed B k t v := (x.2 k h1 h2).trans q

/-- What is cells in a block is cells of that type afterwards. -/
def SameKind (A B : World) (r : Nat) : Prop := ∀ cs t, A.heap[r]? = some (.cells cs t (0, 0)) → ∃ cs', B.heap[r]? = some (.cells cs' t (0, 0))
theorem sameKind_set (A : World) (r o : Nat) (u : Value) : SameKind A (A.setCell ⟨r, o, none⟩ u) r := fun cs t h => ⟨_, heap_setCell_same A r o cs t u h⟩
/-- It abides turns of those blocks. -/
def AbP {β : Type} (p c : Nat) (J : β → World → Prop) : Prop := ∀ s A B row, J s A → A.grownBy B row → (∀ r, row = some r → p ≤ r ∧ r < p + c ∧ SameKind A B r) → J s B

/-- An iterator by its contract: it hands in xs; what it turns, are the blocks from p on, c of them. -/
def IterP {α : Type} (p c gf : Nat) (lb : Array Value) (encs : α → Array Value) (xs : List α) (w : World) : Prop :=
  ∀ (l : Nat) (J Jx : List α → World → Prop) (W : World), Below w.heap.size w W → AbP p c J → AbP p c Jx →
    (∀ pre x W1, J pre W1 → pre ++ [x] <+: xs → YieldAt Fence.wide 0 Try.prog l (encs x) W1 fun e W' =>
      (e = .returned (.bool true) ∧ J (pre ++ [x]) W' ∧ KP p c W1 W') ∨ (e = .returned (.bool false) ∧ Jx (pre ++ [x]) W')) →
    J [] W →
    CallsIn Fence.wide 10 Try.prog gf (#[.func (.yield l) #[] #[]] ++ lb) W fun e W' => (∃ v, e = .returned v) ∧ (J xs W' ∨ ∃ q, q <+: xs ∧ Jx q W')

/-- How the body of a round may be left: at its end, by a return, or out of a loop. -/
def bodyP {α : Type} (p c n₁ : Nat) (I : List α → World → Prop) (Ix : Code → List α → World → Prop) (xs : List α) (W : World) : Exit → Act → World → Prop
  | .normal, _, W' => KeepsFrom n₁ W W' ∧ KP p c W W' ∧ I xs W'
  | .ret, _, W' => KeepsFrom n₁ W W' ∧ Ix .ret xs W'
  | .exit id, _, W' => KeepsFrom n₁ W W' ∧ Ix (.exit id) xs W'
  | _, _, _ => False

/-- What is no cells, but one block, lies as it lay. -/
def KeepsBut (n L : Nat) (A B : World) : Prop := ∀ (k : Nat) (o : Obj), n ≤ k → k ≠ L → A.heap[k]? = some o → o.isCells = false → B.heap[k]? = some o
theorem KeepsBut.trans {n L : Nat} {A B C : World} (x : KeepsBut n L A B) (y : KeepsBut n L B C) : KeepsBut n L A C := fun k o h1 h2 h3 h4 => y k o h1 h2 (x k o h1 h2 h3 h4) h4
theorem KeepsFrom.but {n L : Nat} {A B : World} (x : KeepsFrom n A B) : KeepsBut n L A B := fun k o h1 _ h3 h4 => x.same k o h1 h3 h4
theorem KeepsBut.put {n L : Nat} {A : World} (o : Obj) : KeepsBut n L A (A.putObj L o) := fun _ _ _ h2 h3 _ => (World.putObj_heap_other h2).trans h3

set_option maxHeartbeats 1000000 in
/-- One round. -/
theorem round_p {α : Type} {encs : α → Array Value} {p c n L : Nat} {fn : FuncId} {tm : Array Value} {ps : Array Tmp} {assign body : Code} {df : Nat}
    (hfn : Fence.wide.fn fn) (hnL : n ≤ L) (hpn : p + c ≤ n)
    (I : List α → World → Prop) (Ix : Code → List α → World → Prop) (hI : OwnFrom n I) (hIx : ∀ c, OwnFrom n (Ix c)) (Ax : α → Act → World → Prop) (hAx : ∀ x a', OwnFrom n (fun (_ : Unit) W => Ax x a' W))
    (pre : List α) (x : α) (W : World) (hps : (encs x).size = ps.size)
    (hl : W.heap[L]? = some (.loop { state := .ready, pending := none, fn := fn, tmps := tm, params := ps, assign := assign, body := body, defers := df }))
    (hassign : ∀ (K : Act → World → Prop), (∀ a' W', KeepsFrom n W W' → KP p c W W' → I pre W' → Ax x a' W' → K a' W') →
      assign.wpIn (Fence.wide.inRound L) 7 Try.prog (Exit.then K (fun _ _ _ => False)) { tmps := (ps.zip (encs x)).foldl (fun t (p, v) => t.setIfInBounds p v) tm, defers := [] } W)
    (hbody : ∀ (a' : Act) (W : World), (∃ r, W.heap[L]? = some (.loop r)) → I pre W → Ax x a' W → body.wpIn (Fence.wide.inRound L) 7 Try.prog (bodyP p c n I Ix (pre ++ [x]) W) a' W) :
    YieldAt Fence.wide 0 Try.prog L (encs x) W fun e W' => KeepsBut n L W W' ∧
      ((e = .returned (.bool true) ∧ I (pre ++ [x]) W' ∧ W'.heap[L]? = some (.loop { state := .ready, pending := none, fn := fn, tmps := tm, params := ps, assign := assign, body := body, defers := df }) ∧ KP p c W W') ∨
       (e = .returned (.bool false) ∧ ∃ cc, Ix cc (pre ++ [x]) W' ∧ W'.heap[L]? = some (.loop { state := .done, pending := some cc, fn := fn, tmps := tm, params := ps, assign := assign, body := body, defers := df }))) := by
  have hy := run_yield (P := Try.prog) (args := encs x) hl hps
  refine yieldAt_wide (m := 7) 0 ⟨fn, _, assign, body, hy, roundIn_of_wpIn hfn (hassign _ ?_)⟩
  intro a' Wa hka hkp hia hax
  have hl2 := hka.same L _ hnL hl rfl
  refine ⟨_, run_beginRound hl2 rfl, ?_⟩
  obtain ⟨W3, hW3⟩ : ∃ W3, Wa.putObj L (.loop { state := .busy, pending := none, fn := fn, tmps := tm, params := ps, assign := assign, body := body, defers := df }) = W3 := ⟨_, rfl⟩
  have hl3 : W3.heap[L]? = some (.loop { state := .busy, pending := none, fn := fn, tmps := tm, params := ps, assign := assign, body := body, defers := df }) := by rw [← hW3]; exact World.putObj_heap_same (Array.getElem?_eq_some_iff.1 hl2).1
  have hg3 : Wa.grownBy W3 (some L) := by rw [← hW3]; exact grownBy_putObj' _ _ _
  have hr3 : ∀ r, some L = some r → n ≤ r ∧ ∃ o : Obj, Wa.heap[r]? = some o ∧ o.isCells = false := fun r e => by cases e; exact ⟨hnL, _, hl2, rfl⟩
  have hb3 : KeepsBut n L W W3 := (KeepsFrom.but hka).trans (by rw [← hW3]; exact KeepsBut.put _)
  have hp3 : KP p c W W3 := hkp.trans (by rw [← hW3]; exact KP.put _ (by omega))
  rw [hW3]
  refine wpIn_mono (hbody a' W3 ⟨_, hl3⟩ (hI _ Wa W3 _ hia hg3 hr3) (hAx x a' () Wa W3 _ hax hg3 hr3)) ?_
  have stop : ∀ (cc : Code) (W4 : World), KeepsFrom n W3 W4 → Ix cc (pre ++ [x]) W4 → ∀ o, o = Obj.loop { state := .done, pending := some cc, fn := fn, tmps := tm, params := ps, assign := assign, body := body, defers := df } → KeepsBut n L W (W4.putObj L o) ∧ (W4.putObj L o).heap[L]? = some o ∧ Ix cc (pre ++ [x]) (W4.putObj L o) := by
    intro cc W4 hb4 hi4 o ho
    have hl4 := hb4.same L _ hnL hl3 rfl
    exact ⟨(hb3.trans (KeepsFrom.but hb4)).trans (KeepsBut.put _), World.putObj_heap_same (Array.getElem?_eq_some_iff.1 hl4).1, hIx cc _ W4 _ _ hi4 (grownBy_putObj' W4 _ _) (fun r e => by cases e; exact ⟨hnL, _, hl4, rfl⟩)⟩
  rintro e a3 W4 hp'
  cases e with
  | normal =>
    obtain ⟨hb4, hk4, hi4⟩ := hp'
    have hl4 := hb4.same L _ hnL hl3 rfl
    have he := run_endRound (P := Try.prog) none hl4
    refine ⟨_, _, he, (hb3.trans (KeepsFrom.but hb4)).trans (KeepsBut.put _), .inl ⟨rfl, hI _ W4 _ _ hi4 (grownBy_putObj' W4 _ _) (fun r e => by cases e; exact ⟨hnL, _, hl4, rfl⟩), ?_, (hp3.trans hk4).trans (KP.put _ (by omega))⟩⟩
    rw [World.putObj_heap_same (Array.getElem?_eq_some_iff.1 hl4).1]; rfl
  | ret =>
    obtain ⟨hb4, hi4⟩ := hp'
    have he := run_endRound (P := Try.prog) (some .ret) (hb4.same L _ hnL hl3 rfl)
    obtain ⟨q1, q2, q3⟩ := stop .ret W4 hb4 hi4 _ rfl
    exact ⟨_, _, he, q1, .inr ⟨rfl, _, q3, q2⟩⟩
  | exit id =>
    obtain ⟨hb4, hi4⟩ := hp'
    have he := run_endRound (P := Try.prog) (some (.exit id)) (hb4.same L _ hnL hl3 rfl)
    obtain ⟨q1, q2, q3⟩ := stop (.exit id) W4 hb4 hi4 _ rfl
    exact ⟨_, _, he, q1, .inr ⟨rfl, _, q3, q2⟩⟩
  | goto t => exact hp'.elim
  | panic ch => exact hp'.elim
  | outgrown => exact hp'.elim

set_option maxHeartbeats 1000000 in
theorem range_p {α : Type} {encs : α → Array Value} {ps : Array Tmp} {assign body : Code} {g : Operand} {Q : Exit → Act → World → Prop} {a : Act} {w : World} (p c gf : Nat) (lb : Array Value) (xs : List α) (hit : IterP p c gf lb encs xs w)
    (hg : a.eval g = .func (.func gf) #[] lb) (hps : ∀ x, (encs x).size = ps.size) (hp : p + c ≤ w.heap.size)
    (hen : ∀ args w', (callFunc gf args).run Try.prog w' = .ok (.enter gf args) w')
    (I : List α → World → Prop) (Ix : Code → List α → World → Prop) (hI : OwnFrom w.heap.size I) (hIx : ∀ c, OwnFrom w.heap.size (Ix c)) (hIp : AbP p c I) (hIxp : ∀ cc, AbP p c (Ix cc)) (h0 : I [] w)
    (Ax : α → Act → World → Prop) (hAx : ∀ x a', OwnFrom w.heap.size (fun (_ : Unit) W => Ax x a' W))
    (hassign : ∀ (l : Nat) (pre : List α) (x : α) (W : World) (K : Act → World → Prop), I pre W → (∀ a' W', KeepsFrom w.heap.size W W' → KP p c W W' → I pre W' → Ax x a' W' → K a' W') →
      assign.wpIn (Fence.wide.inRound l) 7 Try.prog (Exit.then K (fun _ _ _ => False)) { tmps := (ps.zip (encs x)).foldl (fun t (p, v) => t.setIfInBounds p v) a.tmps, defers := [] } W)
    (hbody : ∀ (l : Nat) (pre : List α) (x : α) (a' : Act) (W : World), w.heap.size ≤ l → (∃ r, W.heap[l]? = some (.loop r)) → I pre W → Ax x a' W → pre ++ [x] <+: xs → body.wpIn (Fence.wide.inRound l) 7 Try.prog (bodyP p c w.heap.size I Ix (pre ++ [x]) W) a' W)
    (hdone : ∀ (D : Nat) (W : World), w.heap.size ≤ D → I xs W → W.heap[D]? = some (.deferred (some [])) → Q .normal { a with defers := { target := .collected D, args := #[] } :: a.defers } W)
    (hstop : ∀ (D : Nat) (cc : Code) (q : List α) (W : World), w.heap.size ≤ D → q <+: xs → Ix cc q W → W.heap[D]? = some (.deferred (some [])) → cc.wpIn Fence.wide 11 Try.prog Q { a with defers := { target := .collected D, args := #[] } :: a.defers } W) :
    (Code.rangeFunc g ps assign body).wpIn Fence.wide 11 Try.prog Q a w := by
  refine wpIn_rangeFunc fun fn hfn => ?_
  obtain ⟨R, hR⟩ : ∃ R : LoopState → Option Code → Loop, R = fun st pe => { state := st, pending := pe, fn, tmps := a.tmps, params := ps, assign, body, defers := w.heap.size } := ⟨_, rfl⟩
  obtain ⟨W1, hW1⟩ : ∃ W1, (w.alloc (.deferred (some []))).alloc (.loop (R .ready none)) = W1 := ⟨_, rfl⟩
  have hk1 : Below w.heap.size w W1 := by rw [← hW1]; exact bl_al (bl_al (bl0 _) _) _
  have hL1 : W1.heap[w.heap.size + 1]? = some (.loop (R .ready none)) := by
    have h := World.alloc_heap_new (w.alloc (.deferred (some []))) (.loop (R .ready none))
    rw [World.size_alloc] at h
    rw [← hW1]; exact h
  have hD1 : W1.heap[w.heap.size]? = some (.deferred (some [])) := by
    rw [← hW1]; exact (Below.heap_alloc _ _ _ (by simp)).trans (World.alloc_heap_new w _)
  have hI1 : I [] W1 := hI [] w W1 none h0 (grown_of_below hk1) (fun r e => by cases e)
  refine ⟨w.heap.size + 1, [{ target := .collected w.heap.size, args := #[] }], W1, { target := .fn (.func gf) lb, args := #[.func (.yield (w.heap.size + 1)) #[] #[]] }, W1, gf,
    #[.func (.yield (w.heap.size + 1)) #[] #[]] ++ lb, W1, ?_, ?_, ?_, ?_, (fun h => by cases h), ?_⟩
  · rw [← hW1, hR]; exact run_enterLoop_outer _ _ _ _ _
  · simp only [resolve, hg]
    simp [go_sem]
  · intro f' _; exact trivial
  · simpa [invoke, go_sem] using hen _ _
  refine (hit (w.heap.size + 1)
    (fun pre W => I pre W ∧ W.heap[w.heap.size + 1]? = some (.loop (R .ready none)) ∧ W.heap[w.heap.size]? = some (.deferred (some [])))
    (fun pre W => ∃ c, Ix c pre W ∧ W.heap[w.heap.size + 1]? = some (.loop (R .done (some c))) ∧ W.heap[w.heap.size]? = some (.deferred (some [])))
    W1 hk1 ?oJ ?oJx ?round ⟨hI1, hL1, hD1⟩).mono ?behind
  case oJ =>
    intro s A B row hs hg' hr
    refine ⟨hIp s A B row hs.1 hg' hr, (hg'.block _ (Array.getElem?_eq_some_iff.1 hs.2.1).1 (fun e => by have := (hr _ e.symm).2.1; omega)).trans hs.2.1, (hg'.block _ (Array.getElem?_eq_some_iff.1 hs.2.2).1 (fun e => by have := (hr _ e.symm).2.1; omega)).trans hs.2.2⟩
  case oJx =>
    rintro s A B row ⟨cc, hs⟩ hg' hr
    refine ⟨cc, hIxp cc s A B row hs.1 hg' hr, (hg'.block _ (Array.getElem?_eq_some_iff.1 hs.2.1).1 (fun e => by have := (hr _ e.symm).2.1; omega)).trans hs.2.1, (hg'.block _ (Array.getElem?_eq_some_iff.1 hs.2.2).1 (fun e => by have := (hr _ e.symm).2.1; omega)).trans hs.2.2⟩
  case behind =>
    rintro e W2 ⟨⟨v, rfl⟩, (⟨hi, hl, hk⟩ | ⟨q, hq, cc, hi, hl, hk⟩)⟩
    · have he := run_endLoop (P := Try.prog) hl (by rw [hR]; simp)
      rw [hR] at he
      exact ⟨none, _, he, hdone _ _ (Nat.le_refl _) (hI _ W2 _ _ hi (grownBy_putObj' W2 _ _) (fun r e => by cases e; exact ⟨by omega, _, hl, rfl⟩)) ((World.putObj_heap_other (by omega)).trans hk)⟩
    · have he := run_endLoop (P := Try.prog) hl (by rw [hR]; simp)
      rw [hR] at he
      exact ⟨some cc, _, he, hstop _ cc q _ (Nat.le_refl _) hq (hIx cc _ W2 _ _ hi (grownBy_putObj' W2 _ _) (fun r e => by cases e; exact ⟨by omega, _, hl, rfl⟩)) ((World.putObj_heap_other (by omega)).trans hk)⟩
  case round =>
    rintro pre x W ⟨hi, hl, hk⟩ hlen
    rw [hR] at hl
    obtain ⟨fn', t', as', bo', hy, hRd⟩ := round_p (encs := encs) (p := p) (c := c) (n := w.heap.size) (L := w.heap.size + 1) hfn (by omega) hp I Ix hI hIx Ax hAx pre x W (hps x) hl (fun K hK => hassign _ pre x W K hi hK) (fun a' W' hl' hi' hax => hbody _ pre x a' W' (by omega) hl' hi' hax hlen)
    refine ⟨fn', t', as', bo', hy, hRd.mono ?_⟩
    rintro e W' ⟨hb, (⟨he, hi', hl', hkp⟩ | ⟨he, cc, hi', hl'⟩)⟩
    · exact .inl ⟨he, ⟨hi', by rw [hR]; exact hl', hb _ _ (Nat.le_refl _) (by omega) hk rfl⟩, hkp⟩
    · exact .inr ⟨he, cc, hi', by rw [hR]; exact hl', hb _ _ (Nat.le_refl _) (by omega) hk rfl⟩

set_option maxHeartbeats 1000000 in
/-- The same, within a round of the loop l₀. -/
theorem range_pn {α : Type} {encs : α → Array Value} {ps : Array Tmp} {assign body : Code} {g : Operand} {Q : Exit → Act → World → Prop} {a : Act} {w : World} {l₀ : Nat} {r₀ : Loop} (hl₀ : w.heap[l₀]? = some (.loop r₀)) (p c gf : Nat) (lb : Array Value) (xs : List α) (hit : IterP p c gf lb encs xs w)
    (hg : a.eval g = .func (.func gf) #[] lb) (hps : ∀ x, (encs x).size = ps.size) (hp : p + c ≤ w.heap.size)
    (hen : ∀ args w', (callFunc gf args).run Try.prog w' = .ok (.enter gf args) w')
    (I : List α → World → Prop) (Ix : Code → List α → World → Prop) (hI : OwnFrom w.heap.size I) (hIx : ∀ c, OwnFrom w.heap.size (Ix c)) (hIp : AbP p c I) (hIxp : ∀ cc, AbP p c (Ix cc)) (h0 : I [] w)
    (Ax : α → Act → World → Prop) (hAx : ∀ x a', OwnFrom w.heap.size (fun (_ : Unit) W => Ax x a' W))
    (hassign : ∀ (l : Nat) (pre : List α) (x : α) (W : World) (K : Act → World → Prop), I pre W → (∀ a' W', KeepsFrom w.heap.size W W' → KP p c W W' → I pre W' → Ax x a' W' → K a' W') →
      assign.wpIn (Fence.wide.inRound l) 7 Try.prog (Exit.then K (fun _ _ _ => False)) { tmps := (ps.zip (encs x)).foldl (fun t (p, v) => t.setIfInBounds p v) a.tmps, defers := [] } W)
    (hbody : ∀ (l : Nat) (pre : List α) (x : α) (a' : Act) (W : World), w.heap.size ≤ l → (∃ r, W.heap[l]? = some (.loop r)) → I pre W → Ax x a' W → pre ++ [x] <+: xs → body.wpIn (Fence.wide.inRound l) 7 Try.prog (bodyP p c w.heap.size I Ix (pre ++ [x]) W) a' W)
    (hdone : ∀ (W : World), I xs W → Q .normal a W)
    (hstop : ∀ (cc : Code) (q : List α) (W : World), q <+: xs → Ix cc q W → cc.wpIn (Fence.wide.inRound l₀) 7 Try.prog Q a W) :
    (Code.rangeFunc g ps assign body).wpIn (Fence.wide.inRound l₀) 7 Try.prog Q a w := by
  refine wpIn_rangeFunc fun fn hfn => ?_
  obtain ⟨R, hR⟩ : ∃ R : LoopState → Option Code → Loop, R = fun st pe => { state := st, pending := pe, fn, tmps := a.tmps, params := ps, assign, body, defers := r₀.defers } := ⟨_, rfl⟩
  obtain ⟨W1, hW1⟩ : ∃ W1, w.alloc (.loop (R .ready none)) = W1 := ⟨_, rfl⟩
  have hk1 : Below w.heap.size w W1 := by rw [← hW1]; exact bl_al (bl0 _) _
  have hL1 : W1.heap[w.heap.size]? = some (.loop (R .ready none)) := by rw [← hW1]; exact World.alloc_heap_new w _
  have hI1 : I [] W1 := hI [] w W1 none h0 (grown_of_below hk1) (fun r e => by cases e)
  refine ⟨w.heap.size, [], W1, { target := .fn (.func gf) lb, args := #[.func (.yield w.heap.size) #[] #[]] }, W1, gf,
    #[.func (.yield w.heap.size) #[] #[]] ++ lb, W1, ?_, ?_, ?_, ?_, (fun h => by cases h), ?_⟩
  · rw [← hW1, hR]; exact run_enterLoop_inner hl₀ _ _ _ _ _
  · simp only [resolve, hg]
    simp [go_sem]
  · intro f' _; exact trivial
  · simpa [invoke, go_sem] using hen _ _
  refine CallsIn.inRound l₀ (callsIn_deep _ ((hit w.heap.size
    (fun pre W => I pre W ∧ W.heap[w.heap.size]? = some (.loop (R .ready none)))
    (fun pre W => ∃ c, Ix c pre W ∧ W.heap[w.heap.size]? = some (.loop (R .done (some c))))
    W1 hk1 ?oJ ?oJx ?round ⟨hI1, hL1⟩).mono ?behind))
  case oJ =>
    intro s A B row hs hg' hr
    exact ⟨hIp s A B row hs.1 hg' hr, (hg'.block _ (Array.getElem?_eq_some_iff.1 hs.2).1 (fun e => by have := (hr _ e.symm).2.1; omega)).trans hs.2⟩
  case oJx =>
    rintro s A B row ⟨cc, hs⟩ hg' hr
    exact ⟨cc, hIxp cc s A B row hs.1 hg' hr, (hg'.block _ (Array.getElem?_eq_some_iff.1 hs.2).1 (fun e => by have := (hr _ e.symm).2.1; omega)).trans hs.2⟩
  case behind =>
    rintro e W2 ⟨⟨v, rfl⟩, (⟨hi, hl⟩ | ⟨q, hq, cc, hi, hl⟩)⟩
    · have he := run_endLoop (P := Try.prog) hl (by rw [hR]; simp)
      rw [hR] at he
      exact ⟨none, _, he, hdone _ (hI _ W2 _ _ hi (grownBy_putObj' W2 _ _) (fun r e => by cases e; exact ⟨by omega, _, hl, rfl⟩))⟩
    · have he := run_endLoop (P := Try.prog) hl (by rw [hR]; simp)
      rw [hR] at he
      exact ⟨some cc, _, he, hstop cc q _ hq (hIx cc _ W2 _ _ hi (grownBy_putObj' W2 _ _) (fun r e => by cases e; exact ⟨by omega, _, hl, rfl⟩))⟩
  case round =>
    rintro pre x W ⟨hi, hl⟩ hlen
    rw [hR] at hl
    obtain ⟨fn', t', as', bo', hy, hRd⟩ := round_p (encs := encs) (p := p) (c := c) (n := w.heap.size) (L := w.heap.size) hfn (by omega) hp I Ix hI hIx Ax hAx pre x W (hps x) hl (fun K hK => hassign _ pre x W K hi hK) (fun a' W' hl' hi' hax => hbody _ pre x a' W' (by omega) hl' hi' hax hlen)
    refine ⟨fn', t', as', bo', hy, hRd.mono ?_⟩
    rintro e W' ⟨hb, (⟨he, hi', hl', hkp⟩ | ⟨he, cc, hi', hl'⟩)⟩
    · exact .inl ⟨he, ⟨hi', by rw [hR]; exact hl'⟩, hkp⟩
    · exact .inr ⟨he, cc, hi', by rw [hR]; exact hl'⟩
end Go.Proofs.Ythebiibiapjdiaa

/- The law for a loop over an iterator whose blocks lie as they lay also behind the last round, however that one ended. -/
namespace Go.Proofs.Ythebiibiapjdiaa
open Go.RowKit Go.Shelf
attribute [local go_sem] Oper.semAt_some

/-- An iterator by its contract: it hands in xs; what it turns, are the blocks from p on, c of them. -/
def IterQ {α : Type} (p c gf : Nat) (lb : Array Value) (encs : α → Array Value) (xs : List α) (w : World) : Prop :=
  ∀ (l : Nat) (J Jx : List α → World → Prop) (W : World), Below w.heap.size w W → AbP p c J → AbP p c Jx →
    (∀ pre x W1, J pre W1 → pre ++ [x] <+: xs → YieldAt Fence.wide 0 Try.prog l (encs x) W1 fun e W' =>
      (e = .returned (.bool true) ∧ J (pre ++ [x]) W' ∧ KP p c W1 W') ∨ (e = .returned (.bool false) ∧ Jx (pre ++ [x]) W' ∧ KP p c W1 W')) →
    J [] W →
    CallsIn Fence.wide 10 Try.prog gf (#[.func (.yield l) #[] #[]] ++ lb) W fun e W' => (∃ v, e = .returned v) ∧ (J xs W' ∨ ∃ q, q <+: xs ∧ Jx q W')

/-- How the body of a round may be left: at its end, by a return, or out of a loop. -/
def bodyQ {α : Type} (p c n₁ : Nat) (I : List α → World → Prop) (Ix : Code → List α → World → Prop) (xs : List α) (W : World) : Exit → Act → World → Prop
  | .normal, _, W' => KeepsFrom n₁ W W' ∧ KP p c W W' ∧ I xs W'
  | .ret, _, W' => KeepsFrom n₁ W W' ∧ KP p c W W' ∧ Ix .ret xs W'
  | .exit id, _, W' => KeepsFrom n₁ W W' ∧ KP p c W W' ∧ Ix (.exit id) xs W'
  | _, _, _ => False

set_option maxHeartbeats 1000000 in
/-- One round. -/
theorem round_q {α : Type} {encs : α → Array Value} {p c n L : Nat} {fn : FuncId} {tm : Array Value} {ps : Array Tmp} {assign body : Code} {df : Nat}
    (hfn : Fence.wide.fn fn) (hnL : n ≤ L) (hpn : p + c ≤ n)
    (I : List α → World → Prop) (Ix : Code → List α → World → Prop) (hI : OwnFrom n I) (hIx : ∀ c, OwnFrom n (Ix c)) (Ax : α → Act → World → Prop) (hAx : ∀ x a', OwnFrom n (fun (_ : Unit) W => Ax x a' W))
    (pre : List α) (x : α) (W : World) (hps : (encs x).size = ps.size)
    (hl : W.heap[L]? = some (.loop { state := .ready, pending := none, fn := fn, tmps := tm, params := ps, assign := assign, body := body, defers := df }))
    (hassign : ∀ (K : Act → World → Prop), (∀ a' W', KeepsFrom n W W' → KP p c W W' → I pre W' → Ax x a' W' → K a' W') →
      assign.wpIn (Fence.wide.inRound L) 7 Try.prog (Exit.then K (fun _ _ _ => False)) { tmps := (ps.zip (encs x)).foldl (fun t (p, v) => t.setIfInBounds p v) tm, defers := [] } W)
    (hbody : ∀ (a' : Act) (W : World), (∃ r, W.heap[L]? = some (.loop r)) → I pre W → Ax x a' W → body.wpIn (Fence.wide.inRound L) 7 Try.prog (bodyQ p c n I Ix (pre ++ [x]) W) a' W) :
    YieldAt Fence.wide 0 Try.prog L (encs x) W fun e W' => KeepsBut n L W W' ∧
      ((e = .returned (.bool true) ∧ I (pre ++ [x]) W' ∧ W'.heap[L]? = some (.loop { state := .ready, pending := none, fn := fn, tmps := tm, params := ps, assign := assign, body := body, defers := df }) ∧ KP p c W W') ∨
       (e = .returned (.bool false) ∧ KP p c W W' ∧ ∃ cc, Ix cc (pre ++ [x]) W' ∧ W'.heap[L]? = some (.loop { state := .done, pending := some cc, fn := fn, tmps := tm, params := ps, assign := assign, body := body, defers := df }))) := by
  have hy := run_yield (P := Try.prog) (args := encs x) hl hps
  refine yieldAt_wide (m := 7) 0 ⟨fn, _, assign, body, hy, roundIn_of_wpIn hfn (hassign _ ?_)⟩
  intro a' Wa hka hkp hia hax
  have hl2 := hka.same L _ hnL hl rfl
  refine ⟨_, run_beginRound hl2 rfl, ?_⟩
  obtain ⟨W3, hW3⟩ : ∃ W3, Wa.putObj L (.loop { state := .busy, pending := none, fn := fn, tmps := tm, params := ps, assign := assign, body := body, defers := df }) = W3 := ⟨_, rfl⟩
  have hl3 : W3.heap[L]? = some (.loop { state := .busy, pending := none, fn := fn, tmps := tm, params := ps, assign := assign, body := body, defers := df }) := by rw [← hW3]; exact World.putObj_heap_same (Array.getElem?_eq_some_iff.1 hl2).1
  have hg3 : Wa.grownBy W3 (some L) := by rw [← hW3]; exact grownBy_putObj' _ _ _
  have hr3 : ∀ r, some L = some r → n ≤ r ∧ ∃ o : Obj, Wa.heap[r]? = some o ∧ o.isCells = false := fun r e => by cases e; exact ⟨hnL, _, hl2, rfl⟩
  have hb3 : KeepsBut n L W W3 := (KeepsFrom.but hka).trans (by rw [← hW3]; exact KeepsBut.put _)
  have hp3 : KP p c W W3 := hkp.trans (by rw [← hW3]; exact KP.put _ (by omega))
  rw [hW3]
  refine wpIn_mono (hbody a' W3 ⟨_, hl3⟩ (hI _ Wa W3 _ hia hg3 hr3) (hAx x a' () Wa W3 _ hax hg3 hr3)) ?_
  have stop : ∀ (cc : Code) (W4 : World), KeepsFrom n W3 W4 → KP p c W3 W4 → Ix cc (pre ++ [x]) W4 → ∀ o, o = Obj.loop { state := .done, pending := some cc, fn := fn, tmps := tm, params := ps, assign := assign, body := body, defers := df } → KeepsBut n L W (W4.putObj L o) ∧ (W4.putObj L o).heap[L]? = some o ∧ Ix cc (pre ++ [x]) (W4.putObj L o) ∧ KP p c W (W4.putObj L o) := by
    intro cc W4 hb4 hk4 hi4 o ho
    have hl4 := hb4.same L _ hnL hl3 rfl
    exact ⟨(hb3.trans (KeepsFrom.but hb4)).trans (KeepsBut.put _), World.putObj_heap_same (Array.getElem?_eq_some_iff.1 hl4).1, hIx cc _ W4 _ _ hi4 (grownBy_putObj' W4 _ _) (fun r e => by cases e; exact ⟨hnL, _, hl4, rfl⟩), (hp3.trans hk4).trans (KP.put _ (by omega))⟩
  rintro e a3 W4 hp'
  cases e with
  | normal =>
    obtain ⟨hb4, hk4, hi4⟩ := hp'
    have hl4 := hb4.same L _ hnL hl3 rfl
    have he := run_endRound (P := Try.prog) none hl4
    refine ⟨_, _, he, (hb3.trans (KeepsFrom.but hb4)).trans (KeepsBut.put _), .inl ⟨rfl, hI _ W4 _ _ hi4 (grownBy_putObj' W4 _ _) (fun r e => by cases e; exact ⟨hnL, _, hl4, rfl⟩), ?_, (hp3.trans hk4).trans (KP.put _ (by omega))⟩⟩
    rw [World.putObj_heap_same (Array.getElem?_eq_some_iff.1 hl4).1]; rfl
  | ret =>
    obtain ⟨hb4, hk4, hi4⟩ := hp'
    have he := run_endRound (P := Try.prog) (some .ret) (hb4.same L _ hnL hl3 rfl)
    obtain ⟨q1, q2, q3, q4⟩ := stop .ret W4 hb4 hk4 hi4 _ rfl
    exact ⟨_, _, he, q1, .inr ⟨rfl, q4, _, q3, q2⟩⟩
  | exit id =>
    obtain ⟨hb4, hk4, hi4⟩ := hp'
    have he := run_endRound (P := Try.prog) (some (.exit id)) (hb4.same L _ hnL hl3 rfl)
    obtain ⟨q1, q2, q3, q4⟩ := stop (.exit id) W4 hb4 hk4 hi4 _ rfl
    exact ⟨_, _, he, q1, .inr ⟨rfl, q4, _, q3, q2⟩⟩
  | goto t => exact hp'.elim
  | panic ch => exact hp'.elim
  | outgrown => exact hp'.elim

set_option maxHeartbeats 1000000 in
theorem range_q {α : Type} {encs : α → Array Value} {ps : Array Tmp} {assign body : Code} {g : Operand} {Q : Exit → Act → World → Prop} {a : Act} {w : World} (p c gf : Nat) (lb : Array Value) (xs : List α) (hit : IterQ p c gf lb encs xs w)
    (hg : a.eval g = .func (.func gf) #[] lb) (hps : ∀ x, (encs x).size = ps.size) (hp : p + c ≤ w.heap.size)
    (hen : ∀ args w', (callFunc gf args).run Try.prog w' = .ok (.enter gf args) w')
    (I : List α → World → Prop) (Ix : Code → List α → World → Prop) (hI : OwnFrom w.heap.size I) (hIx : ∀ c, OwnFrom w.heap.size (Ix c)) (hIp : AbP p c I) (hIxp : ∀ cc, AbP p c (Ix cc)) (h0 : I [] w)
    (Ax : α → Act → World → Prop) (hAx : ∀ x a', OwnFrom w.heap.size (fun (_ : Unit) W => Ax x a' W))
    (hassign : ∀ (l : Nat) (pre : List α) (x : α) (W : World) (K : Act → World → Prop), I pre W → (∀ a' W', KeepsFrom w.heap.size W W' → KP p c W W' → I pre W' → Ax x a' W' → K a' W') →
      assign.wpIn (Fence.wide.inRound l) 7 Try.prog (Exit.then K (fun _ _ _ => False)) { tmps := (ps.zip (encs x)).foldl (fun t (p, v) => t.setIfInBounds p v) a.tmps, defers := [] } W)
    (hbody : ∀ (l : Nat) (pre : List α) (x : α) (a' : Act) (W : World), w.heap.size ≤ l → (∃ r, W.heap[l]? = some (.loop r)) → I pre W → Ax x a' W → pre ++ [x] <+: xs → body.wpIn (Fence.wide.inRound l) 7 Try.prog (bodyQ p c w.heap.size I Ix (pre ++ [x]) W) a' W)
    (hdone : ∀ (D : Nat) (W : World), w.heap.size ≤ D → I xs W → W.heap[D]? = some (.deferred (some [])) → Q .normal { a with defers := { target := .collected D, args := #[] } :: a.defers } W)
    (hstop : ∀ (D : Nat) (cc : Code) (q : List α) (W : World), w.heap.size ≤ D → q <+: xs → Ix cc q W → W.heap[D]? = some (.deferred (some [])) → cc.wpIn Fence.wide 11 Try.prog Q { a with defers := { target := .collected D, args := #[] } :: a.defers } W) :
    (Code.rangeFunc g ps assign body).wpIn Fence.wide 11 Try.prog Q a w := by
  refine wpIn_rangeFunc fun fn hfn => ?_
  obtain ⟨R, hR⟩ : ∃ R : LoopState → Option Code → Loop, R = fun st pe => { state := st, pending := pe, fn, tmps := a.tmps, params := ps, assign, body, defers := w.heap.size } := ⟨_, rfl⟩
  obtain ⟨W1, hW1⟩ : ∃ W1, (w.alloc (.deferred (some []))).alloc (.loop (R .ready none)) = W1 := ⟨_, rfl⟩
  have hk1 : Below w.heap.size w W1 := by rw [← hW1]; exact bl_al (bl_al (bl0 _) _) _
  have hL1 : W1.heap[w.heap.size + 1]? = some (.loop (R .ready none)) := by
    have h := World.alloc_heap_new (w.alloc (.deferred (some []))) (.loop (R .ready none))
    rw [World.size_alloc] at h
    rw [← hW1]; exact h
  have hD1 : W1.heap[w.heap.size]? = some (.deferred (some [])) := by
    rw [← hW1]; exact (Below.heap_alloc _ _ _ (by simp)).trans (World.alloc_heap_new w _)
  have hI1 : I [] W1 := hI [] w W1 none h0 (grown_of_below hk1) (fun r e => by cases e)
  refine ⟨w.heap.size + 1, [{ target := .collected w.heap.size, args := #[] }], W1, { target := .fn (.func gf) lb, args := #[.func (.yield (w.heap.size + 1)) #[] #[]] }, W1, gf,
    #[.func (.yield (w.heap.size + 1)) #[] #[]] ++ lb, W1, ?_, ?_, ?_, ?_, (fun h => by cases h), ?_⟩
  · rw [← hW1, hR]; exact run_enterLoop_outer _ _ _ _ _
  · simp only [resolve, hg]
    simp [go_sem]
  · intro f' _; exact trivial
  · simpa [invoke, go_sem] using hen _ _
  refine (hit (w.heap.size + 1)
    (fun pre W => I pre W ∧ W.heap[w.heap.size + 1]? = some (.loop (R .ready none)) ∧ W.heap[w.heap.size]? = some (.deferred (some [])))
    (fun pre W => ∃ c, Ix c pre W ∧ W.heap[w.heap.size + 1]? = some (.loop (R .done (some c))) ∧ W.heap[w.heap.size]? = some (.deferred (some [])))
    W1 hk1 ?oJ ?oJx ?round ⟨hI1, hL1, hD1⟩).mono ?behind
  case oJ =>
    intro s A B row hs hg' hr
    refine ⟨hIp s A B row hs.1 hg' hr, (hg'.block _ (Array.getElem?_eq_some_iff.1 hs.2.1).1 (fun e => by have := (hr _ e.symm).2.1; omega)).trans hs.2.1, (hg'.block _ (Array.getElem?_eq_some_iff.1 hs.2.2).1 (fun e => by have := (hr _ e.symm).2.1; omega)).trans hs.2.2⟩
  case oJx =>
    rintro s A B row ⟨cc, hs⟩ hg' hr
    refine ⟨cc, hIxp cc s A B row hs.1 hg' hr, (hg'.block _ (Array.getElem?_eq_some_iff.1 hs.2.1).1 (fun e => by have := (hr _ e.symm).2.1; omega)).trans hs.2.1, (hg'.block _ (Array.getElem?_eq_some_iff.1 hs.2.2).1 (fun e => by have := (hr _ e.symm).2.1; omega)).trans hs.2.2⟩
  case behind =>
    rintro e W2 ⟨⟨v, rfl⟩, (⟨hi, hl, hk⟩ | ⟨q, hq, cc, hi, hl, hk⟩)⟩
    · have he := run_endLoop (P := Try.prog) hl (by rw [hR]; simp)
      rw [hR] at he
      exact ⟨none, _, he, hdone _ _ (Nat.le_refl _) (hI _ W2 _ _ hi (grownBy_putObj' W2 _ _) (fun r e => by cases e; exact ⟨by omega, _, hl, rfl⟩)) ((World.putObj_heap_other (by omega)).trans hk)⟩
    · have he := run_endLoop (P := Try.prog) hl (by rw [hR]; simp)
      rw [hR] at he
      exact ⟨some cc, _, he, hstop _ cc q _ (Nat.le_refl _) hq (hIx cc _ W2 _ _ hi (grownBy_putObj' W2 _ _) (fun r e => by cases e; exact ⟨by omega, _, hl, rfl⟩)) ((World.putObj_heap_other (by omega)).trans hk)⟩
  case round =>
    rintro pre x W ⟨hi, hl, hk⟩ hlen
    rw [hR] at hl
    obtain ⟨fn', t', as', bo', hy, hRd⟩ := round_q (encs := encs) (p := p) (c := c) (n := w.heap.size) (L := w.heap.size + 1) hfn (by omega) hp I Ix hI hIx Ax hAx pre x W (hps x) hl (fun K hK => hassign _ pre x W K hi hK) (fun a' W' hl' hi' hax => hbody _ pre x a' W' (by omega) hl' hi' hax hlen)
    refine ⟨fn', t', as', bo', hy, hRd.mono ?_⟩
    rintro e W' ⟨hb, (⟨he, hi', hl', hkp⟩ | ⟨he, hkp, cc, hi', hl'⟩)⟩
    · exact .inl ⟨he, ⟨hi', by rw [hR]; exact hl', hb _ _ (Nat.le_refl _) (by omega) hk rfl⟩, hkp⟩
    · exact .inr ⟨he, ⟨cc, hi', by rw [hR]; exact hl', hb _ _ (Nat.le_refl _) (by omega) hk rfl⟩, hkp⟩

set_option maxHeartbeats 1000000 in
/-- The same, within a round of the loop l₀. -/
theorem range_qn {α : Type} {encs : α → Array Value} {ps : Array Tmp} {assign body : Code} {g : Operand} {Q : Exit → Act → World → Prop} {a : Act} {w : World} {l₀ : Nat} {r₀ : Loop} (hl₀ : w.heap[l₀]? = some (.loop r₀)) (p c gf : Nat) (lb : Array Value) (xs : List α) (hit : IterQ p c gf lb encs xs w)
    (hg : a.eval g = .func (.func gf) #[] lb) (hps : ∀ x, (encs x).size = ps.size) (hp : p + c ≤ w.heap.size)
    (hen : ∀ args w', (callFunc gf args).run Try.prog w' = .ok (.enter gf args) w')
    (I : List α → World → Prop) (Ix : Code → List α → World → Prop) (hI : OwnFrom w.heap.size I) (hIx : ∀ c, OwnFrom w.heap.size (Ix c)) (hIp : AbP p c I) (hIxp : ∀ cc, AbP p c (Ix cc)) (h0 : I [] w)
    (Ax : α → Act → World → Prop) (hAx : ∀ x a', OwnFrom w.heap.size (fun (_ : Unit) W => Ax x a' W))
    (hassign : ∀ (l : Nat) (pre : List α) (x : α) (W : World) (K : Act → World → Prop), I pre W → (∀ a' W', KeepsFrom w.heap.size W W' → KP p c W W' → I pre W' → Ax x a' W' → K a' W') →
      assign.wpIn (Fence.wide.inRound l) 7 Try.prog (Exit.then K (fun _ _ _ => False)) { tmps := (ps.zip (encs x)).foldl (fun t (p, v) => t.setIfInBounds p v) a.tmps, defers := [] } W)
    (hbody : ∀ (l : Nat) (pre : List α) (x : α) (a' : Act) (W : World), w.heap.size ≤ l → (∃ r, W.heap[l]? = some (.loop r)) → I pre W → Ax x a' W → pre ++ [x] <+: xs → body.wpIn (Fence.wide.inRound l) 7 Try.prog (bodyQ p c w.heap.size I Ix (pre ++ [x]) W) a' W)
    (hdone : ∀ (W : World), I xs W → Q .normal a W)
    (hstop : ∀ (cc : Code) (q : List α) (W : World), q <+: xs → Ix cc q W → cc.wpIn (Fence.wide.inRound l₀) 7 Try.prog Q a W) :
    (Code.rangeFunc g ps assign body).wpIn (Fence.wide.inRound l₀) 7 Try.prog Q a w := by
  refine wpIn_rangeFunc fun fn hfn => ?_
  obtain ⟨R, hR⟩ : ∃ R : LoopState → Option Code → Loop, R = fun st pe => { state := st, pending := pe, fn, tmps := a.tmps, params := ps, assign, body, defers := r₀.defers } := ⟨_, rfl⟩
  obtain ⟨W1, hW1⟩ : ∃ W1, w.alloc (.loop (R .ready none)) = W1 := ⟨_, rfl⟩
  have hk1 : Below w.heap.size w W1 := by rw [← hW1]; exact bl_al (bl0 _) _
  have hL1 : W1.heap[w.heap.size]? = some (.loop (R .ready none)) := by rw [← hW1]; exact World.alloc_heap_new w _
  have hI1 : I [] W1 := hI [] w W1 none h0 (grown_of_below hk1) (fun r e => by cases e)
  refine ⟨w.heap.size, [], W1, { target := .fn (.func gf) lb, args := #[.func (.yield w.heap.size) #[] #[]] }, W1, gf,
    #[.func (.yield w.heap.size) #[] #[]] ++ lb, W1, ?_, ?_, ?_, ?_, (fun h => by cases h), ?_⟩
  · rw [← hW1, hR]; exact run_enterLoop_inner hl₀ _ _ _ _ _
  · simp only [resolve, hg]
    simp [go_sem]
  · intro f' _; exact trivial
  · simpa [invoke, go_sem] using hen _ _
  refine CallsIn.inRound l₀ (callsIn_deep _ ((hit w.heap.size
    (fun pre W => I pre W ∧ W.heap[w.heap.size]? = some (.loop (R .ready none)))
    (fun pre W => ∃ c, Ix c pre W ∧ W.heap[w.heap.size]? = some (.loop (R .done (some c))))
    W1 hk1 ?oJ ?oJx ?round ⟨hI1, hL1⟩).mono ?behind))
  case oJ =>
    intro s A B row hs hg' hr
    exact ⟨hIp s A B row hs.1 hg' hr, (hg'.block _ (Array.getElem?_eq_some_iff.1 hs.2).1 (fun e => by have := (hr _ e.symm).2.1; omega)).trans hs.2⟩
  case oJx =>
    rintro s A B row ⟨cc, hs⟩ hg' hr
    exact ⟨cc, hIxp cc s A B row hs.1 hg' hr, (hg'.block _ (Array.getElem?_eq_some_iff.1 hs.2).1 (fun e => by have := (hr _ e.symm).2.1; omega)).trans hs.2⟩
  case behind =>
    rintro e W2 ⟨⟨v, rfl⟩, (⟨hi, hl⟩ | ⟨q, hq, cc, hi, hl⟩)⟩
    · have he := run_endLoop (P := Try.prog) hl (by rw [hR]; simp)
      rw [hR] at he
      exact ⟨none, _, he, hdone _ (hI _ W2 _ _ hi (grownBy_putObj' W2 _ _) (fun r e => by cases e; exact ⟨by omega, _, hl, rfl⟩))⟩
    · have he := run_endLoop (P := Try.prog) hl (by rw [hR]; simp)
      rw [hR] at he
      exact ⟨some cc, _, he, hstop cc q _ hq (hIx cc _ W2 _ _ hi (grownBy_putObj' W2 _ _) (fun r e => by cases e; exact ⟨by omega, _, hl, rfl⟩))⟩
  case round =>
    rintro pre x W ⟨hi, hl⟩ hlen
    rw [hR] at hl
    obtain ⟨fn', t', as', bo', hy, hRd⟩ := round_q (encs := encs) (p := p) (c := c) (n := w.heap.size) (L := w.heap.size) hfn (by omega) hp I Ix hI hIx Ax hAx pre x W (hps x) hl (fun K hK => hassign _ pre x W K hi hK) (fun a' W' hl' hi' hax => hbody _ pre x a' W' (by omega) hl' hi' hax hlen)
    refine ⟨fn', t', as', bo', hy, hRd.mono ?_⟩
    rintro e W' ⟨hb, (⟨he, hi', hl', hkp⟩ | ⟨he, hkp, cc, hi', hl'⟩)⟩
    · exact .inl ⟨he, ⟨hi', by rw [hR]; exact hl'⟩, hkp⟩
    · exact .inr ⟨he, ⟨cc, hi', by rw [hR]; exact hl'⟩, hkp⟩
end Go.Proofs.Ythebiibiapjdiaa

/- A region that draws its order, inside a fence and inside rounds: what reads alone may be taken first, under a condition S on the world that every step keeps. -/
namespace Go.Proofs.Ythebiibiapjdiaa
open Go

section
variable {F : Fence} {n : Nat} {P : Program} {ops : Array Oper} {Q : Exit → Act → World → Prop} {md : Region.Mode} {S : World → Prop}

/-- From here on, in each order that may come, the region ends in Q; S holds behind each step. -/
def OrdS (F : Fence) (n : Nat) (P : Program) (md : Region.Mode) (ops : Array Oper) (Q : Exit → Act → World → Prop) (S : World → Prop) : Nat → Array Bool → Act → World → Prop
  | 0, l, a, w => Region.ready md ops l = [] ∧ Q .normal a w
  | k + 1, l, a, w => (Region.ready md ops l = [] → Q .normal a w) ∧
      ∀ i, i ∈ Region.ready md ops l → wpOpIn F n P ops Q i (fun a1 w1 => S w1 ∧ OrdS F n P md ops Q S k (l.setIfInBounds i true) a1 w1) a w

theorem OrdS.plain (k : Nat) : ∀ (l : Array Bool) (a : Act) (w : World), OrdS F n P md ops Q S k l a w → wpAnyIn F n P md ops Q k l a w := by
  induction k with
  | zero => intro l a w h; exact h
  | succ k ih => intro l a w h; exact ⟨h.1, fun i hi => wpOpIn_mono (fun a1 w1 h1 => ih _ a1 w1 h1.2) (h.2 i hi)⟩

/-- The beginning. -/
theorem ordS_begin {id : Nat} {a : Act} {w : World} (hm : P.follows .mixedOrders = true) (hS : S w.drew) (h : S w.drew → OrdS F n P .any ops Q S ops.size (Array.replicate ops.size false) a w.drew) :
    (Code.region id ops true).wpIn F n P Q a w := wpIn_region_any hm (OrdS.plain _ _ _ _ (h hS))

/-- o tells v in every world of S, and is about to call nobody. -/
def TellsS (P : Program) (ops : Array Oper) (S : World → Prop) (o : Oper) (v : Value) (a : Act) : Prop := YieldsIf P ops S o v a ∧ ∀ w, o.about P w a.eval = none

theorem TellsS.put {oi : Oper} {v : Value} {a : Act} (hs : ∀ cs b, oi.op ≠ .select cs b) (h : TellsS P ops S oi v a) {dst : Option Tmp} (hd : ∀ d, dst = some d → d ∉ oi.looksAt ops) (u : Value) : TellsS P ops S oi v (a.put dst u) :=
  ⟨h.1.of_same (execOp_put oi hs a dst u hd) (wanted_put oi a dst u hd), fun w => (about_put oi w a dst u hd).trans (h.2 w)⟩

theorem TellsS.step {i : Nat} {o : Oper} {v : Value} {a : Act} (hi : ops[i]? = some o) (hdef : ∀ c, o.op ≠ .defer c) (h : TellsS P ops S o v a) {K : Act → World → Prop} {w : World} (hS : S w)
    (hK : K (a.put o.dst v) w) : wpOpIn F n P ops Q i K a w := by
  have hno : ∀ f, o.about P w a.eval = some f → F.fn f := fun f hf => absurd hf (by rw [h.2 w]; simp)
  unfold wpOpIn
  rw [hi]
  obtain ⟨⟨hw, hv⟩ | ⟨hw, rfl⟩, _⟩ := h
  · simp only [hw, if_true]
    refine ⟨hno, ?_⟩
    rw [Oper.semAt_plain F _ _ hdef, hv w hS]
    exact hK
  · simp only [hw, Bool.false_eq_true, if_false]
    exact ⟨hno, hK⟩

/-- Who is apart from oi may come ahead of it. -/
theorem TellsS.past {j : Nat} {oi oj : Oper} {v : Value} (hj : ops[j]? = some oj) (hap : oi.apart ops oj = true) (hsi : ∀ cs b, oi.op ≠ .select cs b) (hsj : ∀ cs b, oj.op ≠ .select cs b) (hdj : ∀ c, oj.op ≠ .defer c)
    (hQ : ∀ c a w, Q (.panic c) (a.put oi.dst v) w → Q (.panic c) a w) {K : Act → World → Prop} {a : Act} {w : World} (hy : TellsS P ops S oi v a) (h : wpOpIn F n P ops Q j K (a.put oi.dst v) w) :
    wpOpIn F n P ops Q j (fun a1 w1 => TellsS P ops S oi v a1 ∧ K (a1.put oi.dst v) w1) a w := by
  obtain ⟨p1, p2, p3⟩ := Oper.apart_spec hap
  have goes : ∀ u w1, K ((a.put oi.dst v).put oj.dst u) w1 → TellsS P ops S oi v (a.put oj.dst u) ∧ K ((a.put oj.dst u).put oi.dst v) w1 := fun u w1 hk =>
    ⟨hy.put hsi p3 u, by rw [← Act.put_comm a v u p2]; exact hk⟩
  unfold wpOpIn at h ⊢
  simp only [hj] at h ⊢
  rw [wanted_put oj a oi.dst v p1, about_put oj w a oi.dst v p1] at h
  by_cases hw : Region.wanted oj (yielded ops a.tmps) = true
  case neg =>
    rw [if_neg hw] at h ⊢
    exact ⟨h.1, goes _ _ h.2⟩
  rw [if_pos hw] at h ⊢
  unfold Oper.wpIn at h ⊢
  rw [about_put oj w a oi.dst v p1, Oper.semAt_plain F _ _ hdj, execOp_put oj hsj a oi.dst v p1] at h
  rw [Oper.semAt_plain F _ _ hdj]
  refine ⟨h.1, ?_⟩
  replace h := h.2
  generalize (execOp a.eval oj).run P w = r at h ⊢
  match r with
  | .ok (.value u) w1 => exact goes u w1 h
  | .ok .skip w1 => exact goes _ w1 h
  | .ok (.defer d) w1 =>
    have hyD : TellsS P ops S oi v { a with defers := d :: a.defers } := ⟨hy.1.of_same rfl rfl, hy.2⟩
    refine ⟨hyD.put hsi p3 undef, ?_⟩
    have h' : K (({ (a.put oi.dst v) with defers := d :: (a.put oi.dst v).defers } : Act).put oj.dst undef) w1 := h
    rw [← Act.put_comm _ v undef p2, ← Act.put_defers]
    exact h'
  | .ok (.enter f args) w1 =>
    refine ⟨h.1, CallsIn.mono h.2 fun e w2 he => ?_⟩
    match e, he with
    | .returned u, he => exact goes u w2 he
    | .panicked c, he => exact hQ _ _ _ he
    | .outgrown, he => exact he
  | .ok (.row row args) w1 => exact ⟨h.1, RowsIn.mono h.2 fun u w2 he => goes u w2 he⟩
  | .ok (.round l f tmps assign body) w1 =>
    refine ⟨h.1, RoundIn.mono h.2 fun e w2 he => ?_⟩
    match e, he with
    | .returned u, he => exact goes u w2 he
    | .panicked c, he => exact hQ _ _ _ he
    | .outgrown, he => exact he
  | .halt x w1 =>
    cases x with
    | panic u => exact hQ _ _ _ h
    | _ => exact h

theorem OrdS.first {i : Nat} {oi : Oper} {v : Value} (hi : ops[i]? = some oi) (hsel : ∀ (j : Nat) (o : Oper) cs b, ops[j]? = some o → o.op ≠ .select cs b) (hdef : ∀ (j : Nat) (o : Oper) c, ops[j]? = some o → o.op ≠ .defer c)
    (hQ : ∀ c a w, Q (.panic c) (a.put oi.dst v) w → Q (.panic c) a w) (k : Nat) : ∀ (l : Array Bool) (a : Act) (w : World),
      (∀ j oj, ops[j]? = some oj → j ≠ i → l.getD j true = false → (∀ e ∈ oj.after, Region.binds md e = true → e.on ≠ i) → oi.apart ops oj = true) →
      i ∈ Region.ready md ops l → TellsS P ops S oi v a → S w → OrdS F n P md ops Q S k (l.setIfInBounds i true) (a.put oi.dst v) w → OrdS F n P md ops Q S (k + 1) l a w := by
  induction k with
  | zero =>
    intro l a w _ hr hy hS H
    refine ⟨fun h => absurd hr (by simp [h]), fun j hj => ?_⟩
    by_cases e : j = i
    · subst e
      exact hy.step hi (fun c => hdef _ _ c hi) hS ⟨hS, H⟩
    · have hm := ready_mono hj e
      rw [H.1] at hm
      cases hm
  | succ k ih =>
    intro l a w hfree hr hy hS H
    refine ⟨fun h => absurd hr (by simp [h]), fun j hj => ?_⟩
    by_cases e : j = i
    · subst e
      exact hy.step hi (fun c => hdef _ _ c hi) hS ⟨hS, H⟩
    · obtain ⟨hun, oj, hoj, hall⟩ := mem_ready.1 hj
      have hli : l.getD i true = false := (mem_ready.1 hr).1
      have hnot : ∀ x ∈ oj.after, Region.binds md x = true → x.on ≠ i := fun x hx hb heq => by
        have h1 := hall x hx hb
        rw [heq] at h1
        rcases Nat.lt_or_ge i l.size with hl | hl <;> simp_all
      have h2 := hy.past hoj (hfree j oj hoj e hun hnot) (fun cs b => hsel i oi cs b hi) (fun cs b => hsel j oj cs b hoj) (fun c => hdef j oj c hoj) hQ (H.2 j (ready_mono hj e))
      refine wpOpIn_mono (fun a1 w1 h3 => ?_) h2
      obtain ⟨hy1, hS1, H1⟩ := h3
      refine ⟨hS1, ih (l.setIfInBounds j true) a1 w1 ?_ (ready_mono hr (Ne.symm e)) hy1 hS1 (by rw [Array.setIfInBounds_comm _ _ e]; exact H1)⟩
      intro x ox hx hxi hxun hno
      refine hfree x ox hx hxi ?_ hno
      by_cases hjx : j = x
      · subst hjx; exact hun
      · rwa [getD_set_ne true hjx] at hxun

/-- No operation is a defer statement. -/
def noDefer (ops : Array Oper) : Bool := ops.all (fun o => match o.op with | .defer _ => false | _ => true)
theorem noDefer_spec (h : noDefer ops = true) (j : Nat) (o : Oper) (c : Call) (ho : ops[j]? = some o) : o.op ≠ .defer c := by
  intro e
  have := Array.all_eq_true_iff_forall_mem.1 h o (Array.mem_of_getElem? ho)
  simp [e] at this

/-- Take number i first. -/
theorem ordS_take {i : Nat} {oi : Oper} {v : Value} {k : Nat} {l : Array Bool} {a : Act} {w : World} (hi : ops[i]? = some oi) (hr : (Region.ready md ops l).contains i = true) (hf : Region.free md ops l i = true)
    (hs : Region.noSelect ops = true) (hd : noDefer ops = true) (hQ : ∀ c a w, Q (.panic c) (a.put oi.dst v) w → Q (.panic c) a w) (hS : S w)
    (hy : YieldsIf P ops S oi v a) (hab : ∀ w, oi.about P w a.eval = none) (h : OrdS F n P md ops Q S k (l.setIfInBounds i true) (a.put oi.dst v) w) : OrdS F n P md ops Q S (k + 1) l a w :=
  OrdS.first hi (Region.noSelect_spec hs) (noDefer_spec hd) hQ k l a w (Region.free_spec hi hf) (by simpa using hr) ⟨hy, hab⟩ hS h

/-- One alone may come. -/
theorem ordS_one {i : Nat} {o : Oper} {k : Nat} {l : Array Bool} {a : Act} {w : World} (hr : Region.ready md ops l = [i]) (ho : ops[i]? = some o) (hw : Region.wanted o (yielded ops a.tmps) = true)
    (h : ∀ K : Act → World → Prop, (∀ a1 w1, S w1 → OrdS F n P md ops Q S k (l.setIfInBounds i true) a1 w1 → K a1 w1) → Oper.wpIn F n P o a w K Q) : OrdS F n P md ops Q S (k + 1) l a w := by
  refine ⟨fun h0 => absurd (hr.symm.trans h0) (by simp), fun j hj => ?_⟩
  rw [hr] at hj
  obtain rfl := List.mem_singleton.1 hj
  refine wpOpIn_step ho fun K' hK' => ?_
  rw [if_pos hw]
  exact h K' fun a1 w1 hs hrest => hK' a1 w1 ⟨hs, hrest⟩

/-- One alone may come, and its guard passes it over. -/
theorem ordS_skip {i : Nat} {o : Oper} {k : Nat} {l : Array Bool} {a : Act} {w : World} (hr : Region.ready md ops l = [i]) (ho : ops[i]? = some o) (hw : Region.wanted o (yielded ops a.tmps) = false) (hF : ∀ f, F.fn f) (hS : S w)
    (h : OrdS F n P md ops Q S k (l.setIfInBounds i true) (a.put o.dst undef) w) : OrdS F n P md ops Q S (k + 1) l a w := by
  refine ⟨fun h0 => absurd (hr.symm.trans h0) (by simp), fun j hj => ?_⟩
  rw [hr] at hj
  obtain rfl := List.mem_singleton.1 hj
  refine wpOpIn_step ho fun K' hK' => ?_
  rw [if_neg (by rw [hw]; exact Bool.false_ne_true)]
  exact ⟨fun f _ => hF f, hK' _ _ ⟨hS, h⟩⟩

/-- All have come. -/
theorem ordS_done {l : Array Bool} {a : Act} {w : World} {k : Nat} (hr : Region.ready md ops l = []) (h : Q .normal a w) : OrdS F n P md ops Q S k l a w := by
  cases k with
  | zero => exact ⟨hr, h⟩
  | succ k => exact ⟨fun _ => h, by rw [hr]; simp⟩
end
end Go.Proofs.Ythebiibiapjdiaa

/- A straight line, as an iterator: its contract. -/
namespace Go.Proofs.Ythebiibiapjdiaa
open Go.RowKit Go.Shelf
attribute [local go_sem] Oper.semAt_some

/-- The cell number k of a line. -/
def lineK (X Y Z V n : Int) (k : Nat) : Int × Int := (X + pF (k * (Z - X)) n, Y + pF (k * (V - Y)) n)
/-- A line's cells, n being how far its ends lie apart. -/
def lineF (X Y Z V : Int) (n : Nat) : List (Int × Int) := (List.range (n + 1)).map (lineK X Y Z V n)
section
variable {X Y Z V : Int} {n k : Nat}
theorem lineF_len : (lineF X Y Z V n).length = n + 1 := by simp [lineF]
theorem lineF_at (h : k < n + 1) : (lineF X Y Z V n)[k]? = some (lineK X Y Z V n k) := by simp [lineF, h]
theorem lineF_snoc (h : k < n + 1) : (lineF X Y Z V n).take (k + 1) = (lineF X Y Z V n).take k ++ [lineK X Y Z V n k] := by
  have hl : k < (lineF X Y Z V n).length := by rw [lineF_len]; exact h
  rw [List.take_succ_eq_append_getElem hl]
  simp [lineF]
theorem lineF_all (h : n + 1 ≤ k) : (lineF X Y Z V n).take k = lineF X Y Z V n := List.take_of_length_le (by rw [lineF_len]; exact h)
end
theorem pF_bd {v : Int} {n : Nat} (hv : -1048576 ≤ v ∧ v ≤ 1048576) (hn : n ≤ 4096) : -4194305 ≤ pF v n ∧ pF v n ≤ 4194304 := by
  by_cases h0 : (n : Int) = 0
  · rw [h0, pF_nil]
    omega
  · have hp : pF v n = (2 * v + n) / (2 * n) := by simp only [pF, if_neg h0]
    obtain ⟨q1, q2⟩ := tdiv_bd (2 * (n : Int)) (t := 2 * v + n) (by omega)
    rw [hp]
    by_cases hr : (2 * v + (n : Int)).tmod (2 * n) < 0
    · rw [div_low (by omega) hr]; omega
    · rw [div_up (by omega) (by omega)]; omega
/-- k steps of n, of no more than n, are no more than these bounds. -/
theorem step_bd {k n : Nat} {d : Int} (hk : k < n + 1) (hn : n ≤ 512) (hd : -(n : Int) ≤ d ∧ d ≤ n) : -1048576 ≤ (k : Int) * d ∧ (k : Int) * d ≤ 1048576 := by
  have h1 : (k : Int) * d ≤ k * (n : Int) := Int.mul_le_mul_of_nonneg_left hd.2 (by omega)
  have h2 : (k : Int) * -(n : Int) ≤ k * d := Int.mul_le_mul_of_nonneg_left hd.1 (by omega)
  have h3 : (k : Int) * n ≤ 512 * 512 := Int.mul_le_mul (by omega) (by omega) (by omega) (by omega)
  rw [Int.mul_neg] at h2
  omega

/-- What a line's iterator holds. -/
def LineAt (W : World) (p : Nat) (X Y Z V n : Int) : Prop :=
  W.cell? ⟨p, 0, none⟩ = some (.int .i64 X) ∧ W.cell? ⟨p, 1, none⟩ = some (.int .i64 Y) ∧ W.cell? ⟨p + 1, 0, none⟩ = some (.int .i64 Z) ∧ W.cell? ⟨p + 1, 1, none⟩ = some (.int .i64 V) ∧ W.cell? ⟨p + 2, 0, none⟩ = some (.int .i64 n)
theorem LineAt.kept {W W' : World} {p : Nat} {X Y Z V n : Int} (h : LineAt W p X Y Z V n) (x : KP p 3 W W') : LineAt W' p X Y Z V n :=
  ⟨x.cell (by omega) (by omega) h.1, x.cell (by omega) (by omega) h.2.1, x.cell (by omega) (by omega) h.2.2.1, x.cell (by omega) (by omega) h.2.2.2.1, x.cell (by omega) (by omega) h.2.2.2.2⟩
theorem LineAt.below {W W' : World} {p : Nat} {X Y Z V n : Int} (h : LineAt W p X Y Z V n) (x : Below W.heap.size W W') : LineAt W' p X Y Z V n :=
  ⟨cell_later x h.1, cell_later x h.2.1, cell_later x h.2.2.1, cell_later x h.2.2.2.1, cell_later x h.2.2.2.2⟩

set_option maxHeartbeats 1000000 in
theorem line_mk (X Y Z V n : Int) (w : World) :
    Calls Try.prog 78 #[.agg #[.int .i64 X, .int .i64 Y], .agg #[.int .i64 Z, .int .i64 V], .int .i64 n] w fun e w' => e = .returned (.func (.func 98) #[] #[.pointer (some ⟨w.heap.size + 2, 0, none⟩), .pointer (some ⟨w.heap.size, 0, none⟩), .pointer (some ⟨w.heap.size + 1, 0, none⟩)]) ∧
      LineAt w' w.heap.size X Y Z V n ∧ w'.heap.size = w.heap.size + 3 ∧ Below w.heap.size w w' := by
  go_enter Try.func78, Try.ntmps78
  go_wp2
  go_ret
  refine ⟨rfl, ?_, by simp, bl_al (bl_al (bl_al (bl0 _) _) _) _⟩
  unfold LineAt
  simp [go_sem]

set_option maxRecDepth 100000 in
set_option maxHeartbeats 2000000 in
theorem line1_in (l p : Nat) (X Y Z V : Int) (n : Nat) (hn : n ≤ 512) (hX : plainB X Y = true) (hZ : plainB Z V = true) (hdx : -(n : Int) ≤ Z - X ∧ Z - X ≤ n) (hdy : -(n : Int) ≤ V - Y ∧ V - Y ≤ n)
    (J Jx : List (Int × Int) → World → Prop) (W : World) (hJ : AbP p 3 J)
    (hY : ∀ pre x W1, J pre W1 → pre ++ [x] <+: lineF X Y Z V n → YieldAt Fence.wide 0 Try.prog l #[.agg #[.int .i64 x.1, .int .i64 x.2]] W1 fun e W' =>
      (e = .returned (.bool true) ∧ J (pre ++ [x]) W' ∧ KP p 3 W1 W') ∨ (e = .returned (.bool false) ∧ Jx (pre ++ [x]) W' ∧ KP p 3 W1 W'))
    (hs : LineAt W p X Y Z V n) (h0 : J [] W) :
    CallsIn Fence.wide 10 Try.prog 98 #[.func (.yield l) #[] #[], .pointer (some ⟨p + 2, 0, none⟩), .pointer (some ⟨p, 0, none⟩), .pointer (some ⟨p + 1, 0, none⟩)] W fun e W' => (∃ v, e = .returned v) ∧
      (J (lineF X Y Z V n) W' ∨ ∃ q, q <+: lineF X Y Z V n ∧ Jx q W') := by
  obtain ⟨x1, x2, y1, y2⟩ := plainB_iff.1 hX
  obtain ⟨z1, z2, v1, v2⟩ := plainB_iff.1 hZ
  obtain ⟨s0, s1, s2, s3, s4⟩ := hs
  refine callsIn_of_wp Try.func98 rfl trivial ?_ rfl
  simp only [Try.ntmps98, List.size_toArray, List.length_cons, List.length_nil, Nat.reduceAdd, Nat.reduceSub, Array.replicate_succ, Array.replicate_zero, List.push_toArray, List.append_toArray, List.nil_append, List.cons_append]
  gi_wp2
  gi_loopw [5, 8] (fun _ i wr => ∃ k : Nat, k ≤ n + 1 ∧ i = .int .i64 k ∧ J ((lineF X Y Z V n).take k) wr ∧ LineAt wr p X Y Z V n) (fun _ i _ => n + 1 - (intOf i).toNat)
  case atStart => exact ⟨0, Nat.zero_le _, rfl, h0, s0, s1, s2, s3, s4⟩
  case round =>
    obtain ⟨k, hk, rfl, hJr, hL⟩ := hrel
    clear s0 s1 s2 s3 s4
    obtain ⟨s0, s1, s2, s3, s4⟩ := hL
    by_cases hlt : k < n + 1
    · have hlt2 : (k : Int) < (n : Int) + 1 := by omega
      obtain ⟨m1, m2⟩ := step_bd hlt hn hdx
      obtain ⟨m3, m4⟩ := step_bd hlt hn hdy
      obtain ⟨p1, p2⟩ := pF_bd (n := n) ⟨m1, m2⟩ (by omega)
      obtain ⟨p3, p4⟩ := pF_bd (n := n) ⟨m3, m4⟩ (by omega)
      have e1 : IntKind.i64.wrap (Z - X) = Z - X := IntWalk.i64_in _ (by omega)
      have e2 : IntKind.i64.wrap ((k : Int) * (Z - X)) = (k : Int) * (Z - X) := IntWalk.i64_in _ (by omega)
      have e3 : IntKind.i64.wrap (V - Y) = V - Y := IntWalk.i64_in _ (by omega)
      have e4 : IntKind.i64.wrap ((k : Int) * (V - Y)) = (k : Int) * (V - Y) := IntWalk.i64_in _ (by omega)
      have e5 : IntKind.i64.wrap (X + pF ((k : Int) * (Z - X)) n) = X + pF ((k : Int) * (Z - X)) n := IntWalk.i64_in _ (by omega)
      have e6 : IntKind.i64.wrap (Y + pF ((k : Int) * (V - Y)) n) = Y + pF ((k : Int) * (V - Y)) n := IntWalk.i64_in _ (by omega)
      gi_wp2
      have hB := bl_dr (bl0 wr)
      refine ordS_begin (S := (fun w' => w'.cell? ⟨p, 0, none⟩ = some (.int .i64 X) ∧ w'.cell? ⟨p, 1, none⟩ = some (.int .i64 Y) ∧ w'.cell? ⟨p + 1, 0, none⟩ = some (.int .i64 Z) ∧ w'.cell? ⟨p + 1, 1, none⟩ = some (.int .i64 V) ∧ w'.cell? ⟨p + 2, 0, none⟩ = some (.int .i64 (n : Int)))) (by kernel_rfl) ⟨s0, s1, s2, s3, s4⟩ (fun hH => ?_)
      first
        | (refine' ordS_take (i := 0) (oi := { dst := some 11, op := Op.move (Operand.tmp 0), type := 48, pos := _, after := #[], guard := none }) (v := _) rfl (by kernel_rfl) (by kernel_rfl) (by kernel_rfl) (by kernel_rfl) (fun _ _ _ h => h) (by assumption) (Or.inl ⟨by rfl, ?hy1⟩) (fun _ => rfl) ?rest1
           case hy1 => (intro w hSw; (try dsimp only at hSw); go_simp; try with_reducible rfl))
        | (refine ordS_take (i := 0) (oi := { dst := some 11, op := Op.move (Operand.tmp 0), type := 48, pos := _, after := #[], guard := none }) (v := undef) rfl (by kernel_rfl) (by kernel_rfl) (by kernel_rfl) (by kernel_rfl) (fun _ _ _ h => h) (by assumption) (Or.inr ⟨by rfl, rfl⟩) (fun _ => rfl) ?_)
      try simp only [Act.put, List.setIfInBounds_toArray, List.set_cons_zero, List.set_cons_succ]
      first
        | (refine' ordS_take (i := 1) (oi := { dst := some 12, op := Op.fieldAddr 37 (Operand.tmp 2) 0, type := 0, pos := _, after := #[], guard := none }) (v := _) rfl (by kernel_rfl) (by kernel_rfl) (by kernel_rfl) (by kernel_rfl) (fun _ _ _ h => h) (by assumption) (Or.inl ⟨by rfl, ?hy2⟩) (fun _ => rfl) ?rest2
           case hy2 => (intro w hSw; (try dsimp only at hSw); go_simp; try with_reducible rfl))
        | (refine ordS_take (i := 1) (oi := { dst := some 12, op := Op.fieldAddr 37 (Operand.tmp 2) 0, type := 0, pos := _, after := #[], guard := none }) (v := undef) rfl (by kernel_rfl) (by kernel_rfl) (by kernel_rfl) (by kernel_rfl) (fun _ _ _ h => h) (by assumption) (Or.inr ⟨by rfl, rfl⟩) (fun _ => rfl) ?_)
      try simp only [Act.put, List.setIfInBounds_toArray, List.set_cons_zero, List.set_cons_succ]
      first
        | (refine' ordS_take (i := 2) (oi := { dst := some 13, op := Op.load 3 (Operand.tmp 12), type := 3, pos := _, after := #[{ on := 1, ground := Ground.data }], guard := none }) (v := _) rfl (by kernel_rfl) (by kernel_rfl) (by kernel_rfl) (by kernel_rfl) (fun _ _ _ h => h) (by assumption) (Or.inl ⟨by rfl, ?hy3⟩) (fun _ => rfl) ?rest3
           case hy3 => (intro w hSw; (try dsimp only at hSw); go_simp; try with_reducible rfl))
        | (refine ordS_take (i := 2) (oi := { dst := some 13, op := Op.load 3 (Operand.tmp 12), type := 3, pos := _, after := #[{ on := 1, ground := Ground.data }], guard := none }) (v := undef) rfl (by kernel_rfl) (by kernel_rfl) (by kernel_rfl) (by kernel_rfl) (fun _ _ _ h => h) (by assumption) (Or.inr ⟨by rfl, rfl⟩) (fun _ => rfl) ?_)
      try simp only [Act.put, List.setIfInBounds_toArray, List.set_cons_zero, List.set_cons_succ]
      first
        | (refine' ordS_take (i := 3) (oi := { dst := some 14, op := Op.move (Operand.tmp 5), type := 3, pos := _, after := #[], guard := none }) (v := _) rfl (by kernel_rfl) (by kernel_rfl) (by kernel_rfl) (by kernel_rfl) (fun _ _ _ h => h) (by assumption) (Or.inl ⟨by rfl, ?hy4⟩) (fun _ => rfl) ?rest4
           case hy4 => (intro w hSw; (try dsimp only at hSw); go_simp; try with_reducible rfl))
        | (refine ordS_take (i := 3) (oi := { dst := some 14, op := Op.move (Operand.tmp 5), type := 3, pos := _, after := #[], guard := none }) (v := undef) rfl (by kernel_rfl) (by kernel_rfl) (by kernel_rfl) (by kernel_rfl) (fun _ _ _ h => h) (by assumption) (Or.inr ⟨by rfl, rfl⟩) (fun _ => rfl) ?_)
      try simp only [Act.put, List.setIfInBounds_toArray, List.set_cons_zero, List.set_cons_succ]
      first
        | (refine' ordS_take (i := 4) (oi := { dst := some 15, op := Op.fieldAddr 37 (Operand.tmp 3) 0, type := 0, pos := _, after := #[], guard := none }) (v := _) rfl (by kernel_rfl) (by kernel_rfl) (by kernel_rfl) (by kernel_rfl) (fun _ _ _ h => h) (by assumption) (Or.inl ⟨by rfl, ?hy5⟩) (fun _ => rfl) ?rest5
           case hy5 => (intro w hSw; (try dsimp only at hSw); go_simp; try with_reducible rfl))
        | (refine ordS_take (i := 4) (oi := { dst := some 15, op := Op.fieldAddr 37 (Operand.tmp 3) 0, type := 0, pos := _, after := #[], guard := none }) (v := undef) rfl (by kernel_rfl) (by kernel_rfl) (by kernel_rfl) (by kernel_rfl) (fun _ _ _ h => h) (by assumption) (Or.inr ⟨by rfl, rfl⟩) (fun _ => rfl) ?_)
      try simp only [Act.put, List.setIfInBounds_toArray, List.set_cons_zero, List.set_cons_succ]
      first
        | (refine' ordS_take (i := 5) (oi := { dst := some 16, op := Op.load 3 (Operand.tmp 15), type := 3, pos := _, after := #[{ on := 4, ground := Ground.data }], guard := none }) (v := _) rfl (by kernel_rfl) (by kernel_rfl) (by kernel_rfl) (by kernel_rfl) (fun _ _ _ h => h) (by assumption) (Or.inl ⟨by rfl, ?hy6⟩) (fun _ => rfl) ?rest6
           case hy6 => (intro w hSw; (try dsimp only at hSw); go_simp; try with_reducible rfl))
        | (refine ordS_take (i := 5) (oi := { dst := some 16, op := Op.load 3 (Operand.tmp 15), type := 3, pos := _, after := #[{ on := 4, ground := Ground.data }], guard := none }) (v := undef) rfl (by kernel_rfl) (by kernel_rfl) (by kernel_rfl) (by kernel_rfl) (fun _ _ _ h => h) (by assumption) (Or.inr ⟨by rfl, rfl⟩) (fun _ => rfl) ?_)
      try simp only [Act.put, List.setIfInBounds_toArray, List.set_cons_zero, List.set_cons_succ]
      first
        | (refine' ordS_take (i := 6) (oi := { dst := some 17, op := Op.fieldAddr 37 (Operand.tmp 2) 0, type := 0, pos := _, after := #[], guard := none }) (v := _) rfl (by kernel_rfl) (by kernel_rfl) (by kernel_rfl) (by kernel_rfl) (fun _ _ _ h => h) (by assumption) (Or.inl ⟨by rfl, ?hy7⟩) (fun _ => rfl) ?rest7
           case hy7 => (intro w hSw; (try dsimp only at hSw); go_simp; try with_reducible rfl))
        | (refine ordS_take (i := 6) (oi := { dst := some 17, op := Op.fieldAddr 37 (Operand.tmp 2) 0, type := 0, pos := _, after := #[], guard := none }) (v := undef) rfl (by kernel_rfl) (by kernel_rfl) (by kernel_rfl) (by kernel_rfl) (fun _ _ _ h => h) (by assumption) (Or.inr ⟨by rfl, rfl⟩) (fun _ => rfl) ?_)
      try simp only [Act.put, List.setIfInBounds_toArray, List.set_cons_zero, List.set_cons_succ]
      first
        | (refine' ordS_take (i := 7) (oi := { dst := some 18, op := Op.load 3 (Operand.tmp 17), type := 3, pos := _, after := #[{ on := 6, ground := Ground.data }], guard := none }) (v := _) rfl (by kernel_rfl) (by kernel_rfl) (by kernel_rfl) (by kernel_rfl) (fun _ _ _ h => h) (by assumption) (Or.inl ⟨by rfl, ?hy8⟩) (fun _ => rfl) ?rest8
           case hy8 => (intro w hSw; (try dsimp only at hSw); go_simp; try with_reducible rfl))
        | (refine ordS_take (i := 7) (oi := { dst := some 18, op := Op.load 3 (Operand.tmp 17), type := 3, pos := _, after := #[{ on := 6, ground := Ground.data }], guard := none }) (v := undef) rfl (by kernel_rfl) (by kernel_rfl) (by kernel_rfl) (by kernel_rfl) (fun _ _ _ h => h) (by assumption) (Or.inr ⟨by rfl, rfl⟩) (fun _ => rfl) ?_)
      try simp only [Act.put, List.setIfInBounds_toArray, List.set_cons_zero, List.set_cons_succ]
      first
        | (refine' ordS_take (i := 8) (oi := { dst := some 19, op := Op.binOp BinOp.sub 3 (Operand.tmp 16) (Operand.tmp 18) 3, type := 3, pos := _, after := #[{ on := 5, ground := Ground.data }, { on := 7, ground := Ground.data }], guard := none }) (v := _) rfl (by kernel_rfl) (by kernel_rfl) (by kernel_rfl) (by kernel_rfl) (fun _ _ _ h => h) (by assumption) (Or.inl ⟨by rfl, ?hy9⟩) (fun _ => rfl) ?rest9
           case hy9 => (intro w hSw; (try dsimp only at hSw); go_simp; try with_reducible rfl))
        | (refine ordS_take (i := 8) (oi := { dst := some 19, op := Op.binOp BinOp.sub 3 (Operand.tmp 16) (Operand.tmp 18) 3, type := 3, pos := _, after := #[{ on := 5, ground := Ground.data }, { on := 7, ground := Ground.data }], guard := none }) (v := undef) rfl (by kernel_rfl) (by kernel_rfl) (by kernel_rfl) (by kernel_rfl) (fun _ _ _ h => h) (by assumption) (Or.inr ⟨by rfl, rfl⟩) (fun _ => rfl) ?_)
      try simp only [Act.put, List.setIfInBounds_toArray, List.set_cons_zero, List.set_cons_succ]
      first
        | (refine' ordS_take (i := 9) (oi := { dst := some 20, op := Op.binOp BinOp.mul 3 (Operand.tmp 14) (Operand.tmp 19) 3, type := 3, pos := _, after := #[{ on := 3, ground := Ground.data }, { on := 8, ground := Ground.data }], guard := none }) (v := _) rfl (by kernel_rfl) (by kernel_rfl) (by kernel_rfl) (by kernel_rfl) (fun _ _ _ h => h) (by assumption) (Or.inl ⟨by rfl, ?hy10⟩) (fun _ => rfl) ?rest10
           case hy10 => (intro w hSw; (try dsimp only at hSw); go_simp; try with_reducible rfl))
        | (refine ordS_take (i := 9) (oi := { dst := some 20, op := Op.binOp BinOp.mul 3 (Operand.tmp 14) (Operand.tmp 19) 3, type := 3, pos := _, after := #[{ on := 3, ground := Ground.data }, { on := 8, ground := Ground.data }], guard := none }) (v := undef) rfl (by kernel_rfl) (by kernel_rfl) (by kernel_rfl) (by kernel_rfl) (fun _ _ _ h => h) (by assumption) (Or.inr ⟨by rfl, rfl⟩) (fun _ => rfl) ?_)
      try simp only [Act.put, List.setIfInBounds_toArray, List.set_cons_zero, List.set_cons_succ]
      first
        | (refine' ordS_take (i := 10) (oi := { dst := some 21, op := Op.load 3 (Operand.tmp 1), type := 3, pos := _, after := #[], guard := none }) (v := _) rfl (by kernel_rfl) (by kernel_rfl) (by kernel_rfl) (by kernel_rfl) (fun _ _ _ h => h) (by assumption) (Or.inl ⟨by rfl, ?hy11⟩) (fun _ => rfl) ?rest11
           case hy11 => (intro w hSw; (try dsimp only at hSw); go_simp; try with_reducible rfl))
        | (refine ordS_take (i := 10) (oi := { dst := some 21, op := Op.load 3 (Operand.tmp 1), type := 3, pos := _, after := #[], guard := none }) (v := undef) rfl (by kernel_rfl) (by kernel_rfl) (by kernel_rfl) (by kernel_rfl) (fun _ _ _ h => h) (by assumption) (Or.inr ⟨by rfl, rfl⟩) (fun _ => rfl) ?_)
      try simp only [Act.put, List.setIfInBounds_toArray, List.set_cons_zero, List.set_cons_succ]
      first
        | (refine' ordS_take (i := 13) (oi := { dst := some 24, op := Op.fieldAddr 37 (Operand.tmp 2) 1, type := 0, pos := _, after := #[], guard := none }) (v := _) rfl (by kernel_rfl) (by kernel_rfl) (by kernel_rfl) (by kernel_rfl) (fun _ _ _ h => h) (by assumption) (Or.inl ⟨by rfl, ?hy12⟩) (fun _ => rfl) ?rest12
           case hy12 => (intro w hSw; (try dsimp only at hSw); go_simp; try with_reducible rfl))
        | (refine ordS_take (i := 13) (oi := { dst := some 24, op := Op.fieldAddr 37 (Operand.tmp 2) 1, type := 0, pos := _, after := #[], guard := none }) (v := undef) rfl (by kernel_rfl) (by kernel_rfl) (by kernel_rfl) (by kernel_rfl) (fun _ _ _ h => h) (by assumption) (Or.inr ⟨by rfl, rfl⟩) (fun _ => rfl) ?_)
      try simp only [Act.put, List.setIfInBounds_toArray, List.set_cons_zero, List.set_cons_succ]
      first
        | (refine' ordS_take (i := 14) (oi := { dst := some 25, op := Op.load 3 (Operand.tmp 24), type := 3, pos := _, after := #[{ on := 13, ground := Ground.data }], guard := none }) (v := _) rfl (by kernel_rfl) (by kernel_rfl) (by kernel_rfl) (by kernel_rfl) (fun _ _ _ h => h) (by assumption) (Or.inl ⟨by rfl, ?hy13⟩) (fun _ => rfl) ?rest13
           case hy13 => (intro w hSw; (try dsimp only at hSw); go_simp; try with_reducible rfl))
        | (refine ordS_take (i := 14) (oi := { dst := some 25, op := Op.load 3 (Operand.tmp 24), type := 3, pos := _, after := #[{ on := 13, ground := Ground.data }], guard := none }) (v := undef) rfl (by kernel_rfl) (by kernel_rfl) (by kernel_rfl) (by kernel_rfl) (fun _ _ _ h => h) (by assumption) (Or.inr ⟨by rfl, rfl⟩) (fun _ => rfl) ?_)
      try simp only [Act.put, List.setIfInBounds_toArray, List.set_cons_zero, List.set_cons_succ]
      first
        | (refine' ordS_take (i := 15) (oi := { dst := some 26, op := Op.move (Operand.tmp 5), type := 3, pos := _, after := #[], guard := none }) (v := _) rfl (by kernel_rfl) (by kernel_rfl) (by kernel_rfl) (by kernel_rfl) (fun _ _ _ h => h) (by assumption) (Or.inl ⟨by rfl, ?hy14⟩) (fun _ => rfl) ?rest14
           case hy14 => (intro w hSw; (try dsimp only at hSw); go_simp; try with_reducible rfl))
        | (refine ordS_take (i := 15) (oi := { dst := some 26, op := Op.move (Operand.tmp 5), type := 3, pos := _, after := #[], guard := none }) (v := undef) rfl (by kernel_rfl) (by kernel_rfl) (by kernel_rfl) (by kernel_rfl) (fun _ _ _ h => h) (by assumption) (Or.inr ⟨by rfl, rfl⟩) (fun _ => rfl) ?_)
      try simp only [Act.put, List.setIfInBounds_toArray, List.set_cons_zero, List.set_cons_succ]
      first
        | (refine' ordS_take (i := 16) (oi := { dst := some 27, op := Op.fieldAddr 37 (Operand.tmp 3) 1, type := 0, pos := _, after := #[], guard := none }) (v := _) rfl (by kernel_rfl) (by kernel_rfl) (by kernel_rfl) (by kernel_rfl) (fun _ _ _ h => h) (by assumption) (Or.inl ⟨by rfl, ?hy15⟩) (fun _ => rfl) ?rest15
           case hy15 => (intro w hSw; (try dsimp only at hSw); go_simp; try with_reducible rfl))
        | (refine ordS_take (i := 16) (oi := { dst := some 27, op := Op.fieldAddr 37 (Operand.tmp 3) 1, type := 0, pos := _, after := #[], guard := none }) (v := undef) rfl (by kernel_rfl) (by kernel_rfl) (by kernel_rfl) (by kernel_rfl) (fun _ _ _ h => h) (by assumption) (Or.inr ⟨by rfl, rfl⟩) (fun _ => rfl) ?_)
      try simp only [Act.put, List.setIfInBounds_toArray, List.set_cons_zero, List.set_cons_succ]
      first
        | (refine' ordS_take (i := 17) (oi := { dst := some 28, op := Op.load 3 (Operand.tmp 27), type := 3, pos := _, after := #[{ on := 16, ground := Ground.data }], guard := none }) (v := _) rfl (by kernel_rfl) (by kernel_rfl) (by kernel_rfl) (by kernel_rfl) (fun _ _ _ h => h) (by assumption) (Or.inl ⟨by rfl, ?hy16⟩) (fun _ => rfl) ?rest16
           case hy16 => (intro w hSw; (try dsimp only at hSw); go_simp; try with_reducible rfl))
        | (refine ordS_take (i := 17) (oi := { dst := some 28, op := Op.load 3 (Operand.tmp 27), type := 3, pos := _, after := #[{ on := 16, ground := Ground.data }], guard := none }) (v := undef) rfl (by kernel_rfl) (by kernel_rfl) (by kernel_rfl) (by kernel_rfl) (fun _ _ _ h => h) (by assumption) (Or.inr ⟨by rfl, rfl⟩) (fun _ => rfl) ?_)
      try simp only [Act.put, List.setIfInBounds_toArray, List.set_cons_zero, List.set_cons_succ]
      first
        | (refine' ordS_take (i := 18) (oi := { dst := some 29, op := Op.fieldAddr 37 (Operand.tmp 2) 1, type := 0, pos := _, after := #[], guard := none }) (v := _) rfl (by kernel_rfl) (by kernel_rfl) (by kernel_rfl) (by kernel_rfl) (fun _ _ _ h => h) (by assumption) (Or.inl ⟨by rfl, ?hy17⟩) (fun _ => rfl) ?rest17
           case hy17 => (intro w hSw; (try dsimp only at hSw); go_simp; try with_reducible rfl))
        | (refine ordS_take (i := 18) (oi := { dst := some 29, op := Op.fieldAddr 37 (Operand.tmp 2) 1, type := 0, pos := _, after := #[], guard := none }) (v := undef) rfl (by kernel_rfl) (by kernel_rfl) (by kernel_rfl) (by kernel_rfl) (fun _ _ _ h => h) (by assumption) (Or.inr ⟨by rfl, rfl⟩) (fun _ => rfl) ?_)
      try simp only [Act.put, List.setIfInBounds_toArray, List.set_cons_zero, List.set_cons_succ]
      first
        | (refine' ordS_take (i := 19) (oi := { dst := some 30, op := Op.load 3 (Operand.tmp 29), type := 3, pos := _, after := #[{ on := 18, ground := Ground.data }], guard := none }) (v := _) rfl (by kernel_rfl) (by kernel_rfl) (by kernel_rfl) (by kernel_rfl) (fun _ _ _ h => h) (by assumption) (Or.inl ⟨by rfl, ?hy18⟩) (fun _ => rfl) ?rest18
           case hy18 => (intro w hSw; (try dsimp only at hSw); go_simp; try with_reducible rfl))
        | (refine ordS_take (i := 19) (oi := { dst := some 30, op := Op.load 3 (Operand.tmp 29), type := 3, pos := _, after := #[{ on := 18, ground := Ground.data }], guard := none }) (v := undef) rfl (by kernel_rfl) (by kernel_rfl) (by kernel_rfl) (by kernel_rfl) (fun _ _ _ h => h) (by assumption) (Or.inr ⟨by rfl, rfl⟩) (fun _ => rfl) ?_)
      try simp only [Act.put, List.setIfInBounds_toArray, List.set_cons_zero, List.set_cons_succ]
      first
        | (refine' ordS_take (i := 20) (oi := { dst := some 31, op := Op.binOp BinOp.sub 3 (Operand.tmp 28) (Operand.tmp 30) 3, type := 3, pos := _, after := #[{ on := 17, ground := Ground.data }, { on := 19, ground := Ground.data }], guard := none }) (v := _) rfl (by kernel_rfl) (by kernel_rfl) (by kernel_rfl) (by kernel_rfl) (fun _ _ _ h => h) (by assumption) (Or.inl ⟨by rfl, ?hy19⟩) (fun _ => rfl) ?rest19
           case hy19 => (intro w hSw; (try dsimp only at hSw); go_simp; try with_reducible rfl))
        | (refine ordS_take (i := 20) (oi := { dst := some 31, op := Op.binOp BinOp.sub 3 (Operand.tmp 28) (Operand.tmp 30) 3, type := 3, pos := _, after := #[{ on := 17, ground := Ground.data }, { on := 19, ground := Ground.data }], guard := none }) (v := undef) rfl (by kernel_rfl) (by kernel_rfl) (by kernel_rfl) (by kernel_rfl) (fun _ _ _ h => h) (by assumption) (Or.inr ⟨by rfl, rfl⟩) (fun _ => rfl) ?_)
      try simp only [Act.put, List.setIfInBounds_toArray, List.set_cons_zero, List.set_cons_succ]
      first
        | (refine' ordS_take (i := 21) (oi := { dst := some 32, op := Op.binOp BinOp.mul 3 (Operand.tmp 26) (Operand.tmp 31) 3, type := 3, pos := _, after := #[{ on := 15, ground := Ground.data }, { on := 20, ground := Ground.data }], guard := none }) (v := _) rfl (by kernel_rfl) (by kernel_rfl) (by kernel_rfl) (by kernel_rfl) (fun _ _ _ h => h) (by assumption) (Or.inl ⟨by rfl, ?hy20⟩) (fun _ => rfl) ?rest20
           case hy20 => (intro w hSw; (try dsimp only at hSw); go_simp; try with_reducible rfl))
        | (refine ordS_take (i := 21) (oi := { dst := some 32, op := Op.binOp BinOp.mul 3 (Operand.tmp 26) (Operand.tmp 31) 3, type := 3, pos := _, after := #[{ on := 15, ground := Ground.data }, { on := 20, ground := Ground.data }], guard := none }) (v := undef) rfl (by kernel_rfl) (by kernel_rfl) (by kernel_rfl) (by kernel_rfl) (fun _ _ _ h => h) (by assumption) (Or.inr ⟨by rfl, rfl⟩) (fun _ => rfl) ?_)
      try simp only [Act.put, List.setIfInBounds_toArray, List.set_cons_zero, List.set_cons_succ]
      first
        | (refine' ordS_take (i := 22) (oi := { dst := some 33, op := Op.load 3 (Operand.tmp 1), type := 3, pos := _, after := #[], guard := none }) (v := _) rfl (by kernel_rfl) (by kernel_rfl) (by kernel_rfl) (by kernel_rfl) (fun _ _ _ h => h) (by assumption) (Or.inl ⟨by rfl, ?hy21⟩) (fun _ => rfl) ?rest21
           case hy21 => (intro w hSw; (try dsimp only at hSw); go_simp; try with_reducible rfl))
        | (refine ordS_take (i := 22) (oi := { dst := some 33, op := Op.load 3 (Operand.tmp 1), type := 3, pos := _, after := #[], guard := none }) (v := undef) rfl (by kernel_rfl) (by kernel_rfl) (by kernel_rfl) (by kernel_rfl) (fun _ _ _ h => h) (by assumption) (Or.inr ⟨by rfl, rfl⟩) (fun _ => rfl) ?_)
      try simp only [Act.put, List.setIfInBounds_toArray, List.set_cons_zero, List.set_cons_succ]
      try simp only [e1, e2, e3, e4]
      refine ordS_one (i := 11) (o := { dst := some 22, op := Op.call { callee := Callee.value (Operand.func 99), args := #[Operand.tmp 20, Operand.tmp 21], argTypes := #[3, 3] }, type := 3, pos := _, after := #[{ on := 9, ground := Ground.data }, { on := 10, ground := Ground.data }], guard := none }) (by kernel_rfl) rfl (by rfl) (fun K hK => ?_)
      go_simp
      refine ⟨trivial, ?_⟩
      with_reducible refine (callsIn_wide.2 (nearest_any _ _ _ ⟨m1, m2⟩ (by omega))).mono ?_
      rintro e w8 ⟨rfl, hb⟩
      replace s0 := cell_later hb (cell_later hB s0); replace s1 := cell_later hb (cell_later hB s1); replace s2 := cell_later hb (cell_later hB s2); replace s3 := cell_later hb (cell_later hB s3); replace s4 := cell_later hb (cell_later hB s4)
      have hB2 := bl_tr hB hb
      have hS8 : (fun w' => w'.cell? ⟨p, 0, none⟩ = some (.int .i64 X) ∧ w'.cell? ⟨p, 1, none⟩ = some (.int .i64 Y) ∧ w'.cell? ⟨p + 1, 0, none⟩ = some (.int .i64 Z) ∧ w'.cell? ⟨p + 1, 1, none⟩ = some (.int .i64 V) ∧ w'.cell? ⟨p + 2, 0, none⟩ = some (.int .i64 (n : Int))) w8 := ⟨s0, s1, s2, s3, s4⟩
      refine hK _ _ hS8 ?_
      clear hK K hb
      try simp only [Act.put, List.setIfInBounds_toArray, List.set_cons_zero, List.set_cons_succ]
      first
        | (refine' ordS_take (i := 12) (oi := { dst := some 23, op := Op.binOp BinOp.add 3 (Operand.tmp 13) (Operand.tmp 22) 3, type := 3, pos := _, after := #[{ on := 2, ground := Ground.data }, { on := 11, ground := Ground.data }], guard := none }) (v := _) rfl (by kernel_rfl) (by kernel_rfl) (by kernel_rfl) (by kernel_rfl) (fun _ _ _ h => h) (by assumption) (Or.inl ⟨by rfl, ?hy22⟩) (fun _ => rfl) ?rest22
           case hy22 => (intro w hSw; (try dsimp only at hSw); go_simp; try with_reducible rfl))
        | (refine ordS_take (i := 12) (oi := { dst := some 23, op := Op.binOp BinOp.add 3 (Operand.tmp 13) (Operand.tmp 22) 3, type := 3, pos := _, after := #[{ on := 2, ground := Ground.data }, { on := 11, ground := Ground.data }], guard := none }) (v := undef) rfl (by kernel_rfl) (by kernel_rfl) (by kernel_rfl) (by kernel_rfl) (fun _ _ _ h => h) (by assumption) (Or.inr ⟨by rfl, rfl⟩) (fun _ => rfl) ?_)
      try simp only [Act.put, List.setIfInBounds_toArray, List.set_cons_zero, List.set_cons_succ]
      refine ordS_one (i := 23) (o := { dst := some 34, op := Op.call { callee := Callee.value (Operand.func 99), args := #[Operand.tmp 32, Operand.tmp 33], argTypes := #[3, 3] }, type := 3, pos := _, after := #[{ on := 21, ground := Ground.data }, { on := 22, ground := Ground.data }, { on := 11, ground := Ground.chain }], guard := none }) (by kernel_rfl) rfl (by rfl) (fun K hK => ?_)
      go_simp
      refine ⟨trivial, ?_⟩
      with_reducible refine (callsIn_wide.2 (nearest_any _ _ _ ⟨m3, m4⟩ (by omega))).mono ?_
      rintro e w9 ⟨rfl, hb⟩
      replace s0 := cell_later hb s0; replace s1 := cell_later hb s1; replace s2 := cell_later hb s2; replace s3 := cell_later hb s3; replace s4 := cell_later hb s4
      have hB3 := bl_tr hB2 hb
      have hS9 : (fun w' => w'.cell? ⟨p, 0, none⟩ = some (.int .i64 X) ∧ w'.cell? ⟨p, 1, none⟩ = some (.int .i64 Y) ∧ w'.cell? ⟨p + 1, 0, none⟩ = some (.int .i64 Z) ∧ w'.cell? ⟨p + 1, 1, none⟩ = some (.int .i64 V) ∧ w'.cell? ⟨p + 2, 0, none⟩ = some (.int .i64 (n : Int))) w9 := ⟨s0, s1, s2, s3, s4⟩
      refine hK _ _ hS9 ?_
      clear hK K hb
      try simp only [Act.put, List.setIfInBounds_toArray, List.set_cons_zero, List.set_cons_succ]
      first
        | (refine' ordS_take (i := 24) (oi := { dst := some 35, op := Op.binOp BinOp.add 3 (Operand.tmp 25) (Operand.tmp 34) 3, type := 3, pos := _, after := #[{ on := 14, ground := Ground.data }, { on := 23, ground := Ground.data }], guard := none }) (v := _) rfl (by kernel_rfl) (by kernel_rfl) (by kernel_rfl) (by kernel_rfl) (fun _ _ _ h => h) (by assumption) (Or.inl ⟨by rfl, ?hy23⟩) (fun _ => rfl) ?rest23
           case hy23 => (intro w hSw; (try dsimp only at hSw); go_simp; try with_reducible rfl))
        | (refine ordS_take (i := 24) (oi := { dst := some 35, op := Op.binOp BinOp.add 3 (Operand.tmp 25) (Operand.tmp 34) 3, type := 3, pos := _, after := #[{ on := 14, ground := Ground.data }, { on := 23, ground := Ground.data }], guard := none }) (v := undef) rfl (by kernel_rfl) (by kernel_rfl) (by kernel_rfl) (by kernel_rfl) (fun _ _ _ h => h) (by assumption) (Or.inr ⟨by rfl, rfl⟩) (fun _ => rfl) ?_)
      try simp only [Act.put, List.setIfInBounds_toArray, List.set_cons_zero, List.set_cons_succ]
      first
        | (refine' ordS_take (i := 25) (oi := { dst := some 36, op := Op.build 37 #[(0, Operand.tmp 23), (1, Operand.tmp 35)], type := 37, pos := _, after := #[{ on := 12, ground := Ground.data }, { on := 24, ground := Ground.data }], guard := none }) (v := _) rfl (by kernel_rfl) (by kernel_rfl) (by kernel_rfl) (by kernel_rfl) (fun _ _ _ h => h) (by assumption) (Or.inl ⟨by rfl, ?hy24⟩) (fun _ => rfl) ?rest24
           case hy24 => (intro w hSw; (try dsimp only at hSw); go_simp; try with_reducible rfl))
        | (refine ordS_take (i := 25) (oi := { dst := some 36, op := Op.build 37 #[(0, Operand.tmp 23), (1, Operand.tmp 35)], type := 37, pos := _, after := #[{ on := 12, ground := Ground.data }, { on := 24, ground := Ground.data }], guard := none }) (v := undef) rfl (by kernel_rfl) (by kernel_rfl) (by kernel_rfl) (by kernel_rfl) (fun _ _ _ h => h) (by assumption) (Or.inr ⟨by rfl, rfl⟩) (fun _ => rfl) ?_)
      try simp only [Act.put, List.setIfInBounds_toArray, List.set_cons_zero, List.set_cons_succ]
      try simp only [e5, e6]
      have hJ9 := hJ _ _ _ none hJr (grown_of_below hB3) (fun r e => by cases e)
      obtain ⟨fn, tmps, assign, body, hy, hR⟩ := yieldAt_wide 9 (hY _ (lineK X Y Z V n k) w9 hJ9 (by rw [← lineF_snoc hlt]; exact List.take_prefix _ _))
      simp only [lineK] at hy
      refine ordS_one (i := 26) (o := { dst := some 37, op := Op.call { callee := Callee.value (Operand.tmp 11), args := #[Operand.tmp 36], argTypes := #[37] }, type := 4, pos := _, after := #[{ on := 0, ground := Ground.data }, { on := 25, ground := Ground.data }, { on := 23, ground := Ground.chain }], guard := none }) (by kernel_rfl) rfl (by rfl) (fun K hK => ?_)
      go_simp
      refine hR.mono ?_
      rintro e w10 (⟨rfl, hJ10, hk10⟩ | ⟨rfl, hJx, hk10⟩)
      · have hS10 : (fun w' => w'.cell? ⟨p, 0, none⟩ = some (.int .i64 X) ∧ w'.cell? ⟨p, 1, none⟩ = some (.int .i64 Y) ∧ w'.cell? ⟨p + 1, 0, none⟩ = some (.int .i64 Z) ∧ w'.cell? ⟨p + 1, 1, none⟩ = some (.int .i64 V) ∧ w'.cell? ⟨p + 2, 0, none⟩ = some (.int .i64 (n : Int))) w10 := ⟨hk10.cell (by omega) (by omega) s0, hk10.cell (by omega) (by omega) s1, hk10.cell (by omega) (by omega) s2, hk10.cell (by omega) (by omega) s3, hk10.cell (by omega) (by omega) s4⟩
        refine hK _ _ hS10 ?_
        clear hK K
        try simp only [Act.put, List.setIfInBounds_toArray, List.set_cons_zero, List.set_cons_succ]
        first
          | (refine' ordS_take (i := 27) (oi := { dst := some 38, op := Op.unOp UnOp.not 4 (Operand.tmp 37), type := 4, pos := _, after := #[{ on := 26, ground := Ground.data }], guard := none }) (v := _) rfl (by kernel_rfl) (by kernel_rfl) (by kernel_rfl) (by kernel_rfl) (fun _ _ _ h => h) (by assumption) (Or.inl ⟨by rfl, ?hy25⟩) (fun _ => rfl) ?rest25
             case hy25 => (intro w hSw; (try dsimp only at hSw); go_simp; try with_reducible rfl))
          | (refine ordS_take (i := 27) (oi := { dst := some 38, op := Op.unOp UnOp.not 4 (Operand.tmp 37), type := 4, pos := _, after := #[{ on := 26, ground := Ground.data }], guard := none }) (v := undef) rfl (by kernel_rfl) (by kernel_rfl) (by kernel_rfl) (by kernel_rfl) (fun _ _ _ h => h) (by assumption) (Or.inr ⟨by rfl, rfl⟩) (fun _ => rfl) ?_)
        try simp only [Act.put, List.setIfInBounds_toArray, List.set_cons_zero, List.set_cons_succ]
        refine ordS_done (by kernel_rfl) ?_
        gi_wp2
        go_roundw
        case rel => exact ⟨k + 1, by omega, by go_num, by rw [lineF_snoc hlt]; exact hJ10, hS10⟩
        case measure => simp [intOf]; omega
      · have hS10 : (fun w' => w'.cell? ⟨p, 0, none⟩ = some (.int .i64 X) ∧ w'.cell? ⟨p, 1, none⟩ = some (.int .i64 Y) ∧ w'.cell? ⟨p + 1, 0, none⟩ = some (.int .i64 Z) ∧ w'.cell? ⟨p + 1, 1, none⟩ = some (.int .i64 V) ∧ w'.cell? ⟨p + 2, 0, none⟩ = some (.int .i64 (n : Int))) w10 := ⟨hk10.cell (by omega) (by omega) s0, hk10.cell (by omega) (by omega) s1, hk10.cell (by omega) (by omega) s2, hk10.cell (by omega) (by omega) s3, hk10.cell (by omega) (by omega) s4⟩
        refine hK _ _ hS10 ?_
        clear hK K
        try simp only [Act.put, List.setIfInBounds_toArray, List.set_cons_zero, List.set_cons_succ]
        first
          | (refine' ordS_take (i := 27) (oi := { dst := some 38, op := Op.unOp UnOp.not 4 (Operand.tmp 37), type := 4, pos := _, after := #[{ on := 26, ground := Ground.data }], guard := none }) (v := _) rfl (by kernel_rfl) (by kernel_rfl) (by kernel_rfl) (by kernel_rfl) (fun _ _ _ h => h) (by assumption) (Or.inl ⟨by rfl, ?hy26⟩) (fun _ => rfl) ?rest26
             case hy26 => (intro w hSw; (try dsimp only at hSw); go_simp; try with_reducible rfl))
          | (refine ordS_take (i := 27) (oi := { dst := some 38, op := Op.unOp UnOp.not 4 (Operand.tmp 37), type := 4, pos := _, after := #[{ on := 26, ground := Ground.data }], guard := none }) (v := undef) rfl (by kernel_rfl) (by kernel_rfl) (by kernel_rfl) (by kernel_rfl) (fun _ _ _ h => h) (by assumption) (Or.inr ⟨by rfl, rfl⟩) (fun _ => rfl) ?_)
        try simp only [Act.put, List.setIfInBounds_toArray, List.set_cons_zero, List.set_cons_succ]
        refine ordS_done (by kernel_rfl) ?_
        gi_wp2
        refine bodyPost_ret (results_none rfl _ _ _) rfl ?_
        refine ⟨⟨_, rfl⟩, .inr ⟨_, ?_, hJx⟩⟩
        rw [← lineF_snoc hlt]
        exact List.take_prefix _ _
    · have hge : (n : Int) + 1 ≤ (k : Int) := by omega
      have hall := lineF_all (X := X) (Y := Y) (Z := Z) (V := V) (n := n) (k := k) (by omega)
      rw [hall] at hJr
      gi_wp2
      go_end0
      exact ⟨⟨_, rfl⟩, .inl hJr⟩
end Go.Proofs.Ythebiibiapjdiaa

/- Rows of cells in memory; a row of one's own that grows within a loop over an iterator. -/
namespace Go.Proofs.Ythebiibiapjdiaa
open Go.RowKit Go.Shelf

theorem addr_add (b off i : Nat) : (⟨b, off, none⟩ : Addr).add i = ⟨b, off + i, none⟩ := by unfold Addr.add; split <;> simp_all
theorem own_later {w w' : World} {B : Nat} {e : TypeId} {size : Nat} {v : Value} {n : Nat} {xs : List Value} (h : w.ownsRow B e size v n xs) (hb : Below w.heap.size w w') : w'.ownsRow B e size v n xs := by
  refine ⟨h.1, ?_⟩
  rcases h.2 with h | ⟨g, cap, cur, h1, h2, h3, h4⟩
  · exact .inl h
  · exact .inr ⟨g, cap, cur, h1, h2, (hb.block g (Array.getElem?_eq_some_iff.1 h3).1).trans h3, h4⟩
/-- A row of cells in memory. -/
def RowC (W : World) (a : Option Addr) (zs : List (Int × Int)) : Prop :=
  zs = [] ∨ ∃ b o, a = some ⟨b, o, none⟩ ∧ ∀ i z, zs[i]? = some z → W.cell? ⟨b, o + i * 2, none⟩ = some (.int .i64 z.1) ∧ W.cell? ⟨b, o + i * 2 + 1, none⟩ = some (.int .i64 z.2)
theorem RowC.below {W W' : World} {a : Option Addr} {zs : List (Int × Int)} (h : RowC W a zs) (hb : Below W.heap.size W W') : RowC W' a zs := by
  rcases h with h | ⟨b, o, h1, h2⟩
  · exact .inl h
  · exact .inr ⟨b, o, h1, fun i z hz => ⟨cell_later hb (h2 i z hz).1, cell_later hb (h2 i z hz).2⟩⟩
theorem RowC.cell {W : World} {a : Option Addr} {zs : List (Int × Int)} (h : RowC W a zs) {k : Nat} (hk : k < zs.length) : ∃ b o, a = some ⟨b, o, none⟩ ∧ W.cell? ⟨b, o + k * 2, none⟩ = some (.int .i64 zs[k].1) ∧ W.cell? ⟨b, o + k * 2 + 1, none⟩ = some (.int .i64 zs[k].2) := by
  rcases h with rfl | ⟨b, o, h1, h2⟩
  · simp at hk
  · exact ⟨b, o, h1, (h2 k _ (List.getElem?_eq_getElem hk)).1, (h2 k _ (List.getElem?_eq_getElem hk)).2⟩
def flatC (zs : List (Int × Int)) : List Value := zs.flatMap (fun z => [.int .i64 z.1, .int .i64 z.2])
theorem flatC_snoc (zs : List (Int × Int)) (z : Int × Int) : flatC (zs ++ [z]) = flatC zs ++ [.int .i64 z.1, .int .i64 z.2] := by simp [flatC, List.flatMap_append]
theorem flatC_at : ∀ (zs : List (Int × Int)) (i : Nat) (z : Int × Int), zs[i]? = some z → (flatC zs)[i * 2]? = some (.int .i64 z.1) ∧ (flatC zs)[i * 2 + 1]? = some (.int .i64 z.2)
  | [], i, z, h => by simp at h
  | y :: zs, 0, z, h => by simp at h; subst h; simp [flatC]
  | y :: zs, i + 1, z, h => by
    have := flatC_at zs i z (by simpa using h)
    have e : flatC (y :: zs) = .int .i64 y.1 :: .int .i64 y.2 :: flatC zs := rfl
    rw [e, show (i + 1) * 2 = i * 2 + 1 + 1 by omega]
    simpa using this
theorem rowC_of_own {w : World} {base : Nat} {v : Value} {zs : List (Int × Int)} (h : w.ownsRow base 37 2 v zs.length (flatC zs)) : ∃ a cap, v = .slice a zs.length cap ∧ RowC w a zs := by
  have hown := h
  rcases h.2 with ⟨rfl, h0⟩ | ⟨g, cap, cur, rfl, hb, hg, _⟩
  · refine ⟨none, 0, by rw [h0], .inl (List.eq_nil_of_length_eq_zero h0)⟩
  · refine ⟨_, cap, rfl, .inr ⟨g, 0, rfl, fun i z hz => ?_⟩⟩
    obtain ⟨e0, e1⟩ := flatC_at zs i z hz
    have a0 := hown.cells (g := g) rfl _ _ e0
    have a1 := hown.cells (g := g) rfl _ _ e1
    rw [addr_add] at a0 a1
    rw [Nat.zero_add] at a0 a1 ⊢
    exact ⟨a0, a1⟩
theorem Try.infoCell : (Try.prog.info? 37).map (fun i => (i.zero, i.size, i.bytes)) = some (some (.agg #[.int .i64 0, .int .i64 0]), 2, 16) := by kernel_rfl


/-- What such a loop holds: its row, in a box m; what lies below p lies as it lay. -/
def RowI (p : Nat) (w : World) (m : Nat) (pre : List (Int × Int)) (W : World) : Prop := Below p w W ∧ ∃ v, Boxed W m 27 v ∧ W.ownsRow m 37 2 v pre.length (flatC pre) ∧ True
theorem rowI_own {p n₁ : Nat} {w : World} (hn : p ≤ n₁) (hp : p ≤ w.heap.size) (m : Nat) : OwnFrom n₁ (RowI p w m) := fun s C D row hs hg hr =>
  ⟨hs.1.grown hg (Nat.le_trans hp hs.1.size) (fun r e => Nat.le_trans hn (hr r e).1), holdsRow_own m m 27 37 2 (fun s : List (Int × Int) => s.length) flatC (fun _ _ => True) s C D row hs.2 hg (fun r e => (hr r e).2)⟩
theorem rowI_abp {p c : Nat} {w : World} {m : Nat} (hc : p + c ≤ m) (hp : p ≤ w.heap.size) : AbP p c (RowI p w m) := by
  rintro s A B row ⟨hb, v, hv, hr, _⟩ hg hrow
  refine ⟨hb.grown hg (Nat.le_trans hp hb.size) (fun r e => (hrow r e).1), v, hv.kept hg (fun e => ?_), hr.kept hg ?_, trivial⟩
  · have := (hrow m e.symm).2.1
    omega
  · rcases hr.2 with ⟨rfl, _⟩ | ⟨g, cap, cur, rfl, hgm, _⟩
    · exact .inl rfl
    · refine .inr fun e => ?_
      have := (hrow g (by simpa [Value.ownBlock] using e.symm)).2.1
      omega
end Go.Proofs.Ythebiibiapjdiaa

/- All that an iterator hands in, as a row: AppendSeq, Collect; Line. -/
namespace Go.Proofs.Ythebiibiapjdiaa
open Go.RowKit Go.Shelf
attribute [local go_sem] Oper.semAt_some

def encC (x : Int × Int) : Array Value := #[.agg #[.int .i64 x.1, .int .i64 x.2]]
theorem iter_line (p : Nat) (X Y Z V : Int) (n : Nat) (w : World) (hn : n ≤ 512) (hX : plainB X Y = true) (hZ : plainB Z V = true) (hdx : -(n : Int) ≤ Z - X ∧ Z - X ≤ n) (hdy : -(n : Int) ≤ V - Y ∧ V - Y ≤ n) (hs : LineAt w p X Y Z V n) :
    IterQ p 3 98 #[.pointer (some ⟨p + 2, 0, none⟩), .pointer (some ⟨p, 0, none⟩), .pointer (some ⟨p + 1, 0, none⟩)] encC (lineF X Y Z V n) w :=
  fun l J Jx W hW hJ _ hY h0 => line1_in l p X Y Z V n hn hX hZ hdx hdy J Jx W hJ hY (hs.below hW) h0

set_option maxRecDepth 100000 in
set_option maxHeartbeats 4000000 in
theorem appendSeq_any (p c gf : Nat) (lb : Array Value) (xs : List (Int × Int)) (hl : xs.length ≤ 100000) (w : World) (hit : ∀ W, Below w.heap.size w W → IterQ p c gf lb encC xs W) (hp : p + c ≤ w.heap.size)
    (hen : ∀ args w', (callFunc gf args).run Try.prog w' = .ok (.enter gf args) w') :
    Calls Try.prog 97 #[.slice none 0 0, .func (.func gf) #[] lb] w fun e w' => ∃ a cap, e = .returned (.slice a xs.length cap) ∧ RowC w' a xs ∧ Below p w w' := by
  obtain ⟨i0, hi, hz0, hz1, hz2⟩ := info_parts Try.infoCell
  refine (callsIn_wide (n := 11)).1 (callsIn_of_wp_marks Try.func97 rfl trivial ?_ rfl)
  simp only [Try.ntmps97, List.size_toArray, List.length_cons, List.length_nil, Nat.reduceAdd, Nat.reduceSub, Array.replicate_succ, Array.replicate_zero, List.push_toArray, List.append_toArray, List.nil_append, List.cons_append]
  gi_wp2
  obtain ⟨W0, hW0⟩ : ∃ W0, w.alloc (.cells #[.slice none 0 0] 27) = W0 := ⟨_, rfl⟩
  have hz : W0.heap.size = w.heap.size + 1 := by rw [← hW0]; simp
  have hk0 : Below w.heap.size w W0 := by rw [← hW0]; exact bl_al (bl0 _) _
  have hb0 : Boxed W0 w.heap.size 27 (.slice none 0 0) := by rw [← hW0]; exact Boxed.new w _ _
  rw [hW0]
  clear hW0
  refine range_q p c gf lb xs (hit W0 hk0) rfl (fun _ => rfl) (by omega) hen
    (RowI p w w.heap.size) (fun _ _ _ => False)
    (rowI_own (by omega) (by omega) _) (fun _ _ _ _ _ h _ _ => h) (rowI_abp hp (by omega)) (fun _ _ _ _ _ h _ _ => h)
    ⟨hk0.mono (by omega), _, hb0, World.ownsRow_nil _ _ _ _, trivial⟩
    (fun x a' W => ∃ Bx, W.cell? ⟨Bx, 0, none⟩ = some (.int .i64 x.1) ∧ W.cell? ⟨Bx, 1, none⟩ = some (.int .i64 x.2) ∧ a' = { tmps := #[.slice none 0 0, .func (.func gf) #[] lb, .pointer (some ⟨w.heap.size, 0, none⟩), undef, .slice none 0 0, .pointer (some ⟨Bx, 0, none⟩), .func (.func gf) #[] lb, .agg #[.int .i64 x.1, .int .i64 x.2], undef, undef, undef, undef, undef], defers := [] })
    ?ax ?assign ?body ?done ?stop
  case ax =>
    rintro c a' _ C D row ⟨Bx, h2, h3, h4⟩ hg' hr
    exact ⟨Bx, cell_kept h2 hg' (fun r e => (hr r e).2), cell_kept h3 hg' (fun r e => (hr r e).2), h4⟩
  case assign =>
    rintro l pre x W K hi' hK
    have hbW := bl_al (bl0 W) (.cells #[.int .i64 x.1, .int .i64 x.2] 37)
    have hK' := hK _ _ (KeepsOthers.from (KeepsOthers.alloc W (.cells #[.int .i64 x.1, .int .i64 x.2] 37)) _) (KP.of_below hbW (by have := hi'.1.size; omega)) (rowI_own (n₁ := W0.heap.size) (by omega) (by omega) _ pre W _ none hi' (grown_of_below hbW) (fun r e => by cases e)) ⟨W.heap.size, by simp [go_sem], by simp [go_sem], rfl⟩
    clear hK
    simp [encC]
    gi_wp2
    exact hK'
  case body =>
    rintro l pre x a' W hWl _ ⟨hB, v, hbx, hrow, _⟩ ⟨Bx, d0, d1, rfl⟩ hlt
    have hpl : pre.length < 100000 := by have := hlt.length_le; simp at this; omega
    have cb := hbx.cell
    have fb := hbx.frozen
    have hWz := hB.size
    gi_wp2_with (gi_at_builtin; refine wpListIn_append_own _ rfl _ _ 27 rfl w.heap.size 37 i0 (.agg #[.int .i64 0, .int .i64 0]) 2 16 Try.underlying27 hi hz0 hz1 hz2 rfl (by decide) _ _ _ rfl (hrow.alloc _) ⟨W.heap.size, 0, none⟩ 1 1 [.int .i64 x.1, .int .i64 x.2] rfl rfl ?c1 ?c2 ?c3 ?c4 ?c5 ?_)
    case c1 => exact cell_two_new _ _ _ _
    case c2 => intro u hu; simp at hu; rcases hu with rfl | rfl <;> rfl
    case c3 => unfold maxLen; omega
    case c4 => omega
    case c5 => rw [World.size_alloc]; omega
    intro v' w1 hown' hgrow _
    obtain ⟨g, cap, rfl⟩ := ownsRow_succ hown'
    obtain ⟨q1, q2, q3, q4, q5⟩ := Boxed.appended hbx (by decide) hrow (by omega) (Nat.le_refl _) hown' hgrow
    have c1 := q1.cell
    have f1 := q1.frozen
    gi_wp2
    refine ⟨q4.from _, KP.of_below' q5 hp q4.size, hB.trans (q5.mono (by omega)), _, q2, ?_, trivial⟩
    rw [flatC_snoc, List.length_append]
    exact q3
  case done =>
    rintro D W hD ⟨hB, v, hbx, hrow, _⟩ hK
    have cb := hbx.cell
    obtain ⟨a, cap, rfl, hrc⟩ := rowC_of_own (ownsRow_putObj hrow (.deferred none) hK rfl)
    gi_wp2
    refine ⟨by simp, .inl ⟨_, _, rfl, run_takeDeferred hK, ?_⟩⟩
    exact ⟨_, by simp [results, Try.results97, go_sem], a, cap, rfl, hrc, hB.grown (grownBy_putObj' W D _) (by have := hB.size; omega) (fun r e => by cases e; omega)⟩
  case stop =>
    intro D cc q W _ _ h
    exact h.elim

set_option maxHeartbeats 1000000 in
theorem collect_any (p c gf : Nat) (lb : Array Value) (xs : List (Int × Int)) (hl : xs.length ≤ 100000) (w : World) (hit : ∀ W, Below w.heap.size w W → IterQ p c gf lb encC xs W) (hp : p + c ≤ w.heap.size)
    (hen : ∀ args w', (callFunc gf args).run Try.prog w' = .ok (.enter gf args) w') :
    Calls Try.prog 77 #[.func (.func gf) #[] lb] w fun e w' => ∃ a cap, e = .returned (.slice a xs.length cap) ∧ RowC w' a xs ∧ Below p w w' := by
  go_enter Try.func77, Try.ntmps77
  go_wp2_with fail
  refine (appendSeq_any p c gf lb xs hl _ hit hp hen).mono ?_
  rintro e w1 ⟨a, cap, rfl, hr, hb⟩
  go_wp2
  go_ret
  exact ⟨_, _, rfl, hr, hb⟩

/-- How far two cells lie apart, as a number. -/
theorem far_nat (X Y Z V : Int) : ∃ n : Nat, max (apartI X Z) (apartI Y V) = n ∧ (-(n : Int) ≤ Z - X ∧ Z - X ≤ n) ∧ (-(n : Int) ≤ V - Y ∧ V - Y ≤ n) := by
  refine ⟨(max (apartI X Z) (apartI Y V)).toNat, ?_, ?_, ?_⟩ <;> unfold apartI <;> omega

set_option maxHeartbeats 1000000 in
theorem line_yes (X Y Z V : Int) (n : Nat) (w : World) (hX : plainB X Y = true) (hZ : plainB Z V = true) (hf : max (apartI X Z) (apartI Y V) = n) (hn : n ≤ 512) :
    Calls Try.prog 29 #[.agg #[.int .i64 X, .int .i64 Y], .agg #[.int .i64 Z, .int .i64 V]] w fun e w' => ∃ a cap, e = .returned (.tuple #[.slice a (lineF X Y Z V n).length cap, .int .i64 0]) ∧ RowC w' a (lineF X Y Z V n) ∧ Below w.heap.size w w' := by
  obtain ⟨n', hn', hdx, hdy⟩ := far_nat X Y Z V
  have en : n = n' := by omega
  subst en
  clear hn'
  have hA := bl0 w
  go_enter Try.func29, Try.ntmps29
  go_wp2_with fail
  refine (far_yes _ _ _ _ _ hX hZ).mono ?_
  rintro e w1 ⟨rfl, hb⟩
  have hk : Below w.heap.size w w1 := by first | exact hb | exact bl_tr (bl_al (bl0 _) _) hb | exact bl_tr (bl_dr (bl_al (bl0 _) _)) hb | exact bl_tr (bl_al (bl_al (bl0 _) _) _) hb | exact bl_tr (bl_dr (bl_al (bl_al (bl0 _) _) _)) hb | exact bl_tr (bl_al (bl_al (bl_al (bl0 _) _) _) _) hb | exact bl_tr (bl_dr (bl_al (bl_al (bl_al (bl0 _) _) _) _)) hb | exact bl_tr (bl_al (bl_al (bl_al (bl_al (bl0 _) _) _) _) _) hb | exact bl_tr (bl_dr (bl_al (bl_al (bl_al (bl_al (bl0 _) _) _) _) _)) hb | exact bl_tr (bl_al (bl_al (bl_al (bl_al (bl_al (bl0 _) _) _) _) _) _) hb | exact bl_tr (bl_dr (bl_al (bl_al (bl_al (bl_al (bl_al (bl0 _) _) _) _) _) _)) hb | exact bl_tr (bl_al (bl_al (bl_al (bl_al (bl_al (bl_al (bl0 _) _) _) _) _) _) _) hb | exact bl_tr (bl_dr (bl_al (bl_al (bl_al (bl_al (bl_al (bl_al (bl0 _) _) _) _) _) _) _)) hb | exact bl_tr (bl_dr (bl0 _)) hb
  replace hA := bl_tr hA hk
  have a0 := cell_later hb (v := .int .i64 X) (a := ⟨w.heap.size, 0, none⟩) (by simp [go_sem])
  have a1 := cell_later hb (v := .int .i64 Y) (a := ⟨w.heap.size, 1, none⟩) (by simp [go_sem])
  have b0 := cell_later hb (v := .int .i64 Z) (a := ⟨w.heap.size + 1, 0, none⟩) (by simp [go_sem])
  have b1 := cell_later hb (v := .int .i64 V) (a := ⟨w.heap.size + 1, 1, none⟩) (by simp [go_sem])
  clear hb hk
  have za0 := blk_lt a0
  have za1 := blk_lt a1
  have zb0 := blk_lt b0
  have zb1 := blk_lt b1
  rw [hf]
  go_wp2_with fail
  refine (line_mk _ _ _ _ _ _).mono ?_
  rintro e w2 ⟨rfl, hL, hz, hb⟩
  have hA2 := bl_tr hA hb
  go_wp2_with fail
  refine (collect_any w1.heap.size 3 98 _ (lineF X Y Z V n) (by rw [lineF_len]; omega) _ (fun W hW => iter_line w1.heap.size X Y Z V n W hn hX hZ hdx hdy (hL.below hW)) (by omega) (enters_of Try.func98 (by kernel_rfl) rfl)).mono ?_
  rintro e w3 ⟨a, cap, rfl, hr, hb3⟩
  go_wp2
  go_ret2
  exact ⟨_, _, rfl, hr, hA2.trans (hb3.mono hA.size)⟩

set_option maxHeartbeats 1000000 in
theorem line_long (X Y Z V : Int) (w : World) (hX : plainB X Y = true) (hZ : plainB Z V = true) (hf : 512 < max (apartI X Z) (apartI Y V)) :
    Calls Try.prog 29 #[.agg #[.int .i64 X, .int .i64 Y], .agg #[.int .i64 Z, .int .i64 V]] w fun e w' => e = .returned (.tuple #[.slice none 0 0, .int .i64 12]) ∧ Below w.heap.size w w' := by
  have hA := bl0 w
  go_enter Try.func29, Try.ntmps29
  go_wp2_with fail
  refine (far_yes _ _ _ _ _ hX hZ).mono ?_
  rintro e w1 ⟨rfl, hb⟩
  have hk : Below w.heap.size w w1 := by first | exact hb | exact bl_tr (bl_al (bl0 _) _) hb | exact bl_tr (bl_dr (bl_al (bl0 _) _)) hb | exact bl_tr (bl_al (bl_al (bl0 _) _) _) hb | exact bl_tr (bl_dr (bl_al (bl_al (bl0 _) _) _)) hb | exact bl_tr (bl_al (bl_al (bl_al (bl0 _) _) _) _) hb | exact bl_tr (bl_dr (bl_al (bl_al (bl_al (bl0 _) _) _) _)) hb | exact bl_tr (bl_al (bl_al (bl_al (bl_al (bl0 _) _) _) _) _) hb | exact bl_tr (bl_dr (bl_al (bl_al (bl_al (bl_al (bl0 _) _) _) _) _)) hb | exact bl_tr (bl_al (bl_al (bl_al (bl_al (bl_al (bl0 _) _) _) _) _) _) hb | exact bl_tr (bl_dr (bl_al (bl_al (bl_al (bl_al (bl_al (bl0 _) _) _) _) _) _)) hb | exact bl_tr (bl_al (bl_al (bl_al (bl_al (bl_al (bl_al (bl0 _) _) _) _) _) _) _) hb | exact bl_tr (bl_dr (bl_al (bl_al (bl_al (bl_al (bl_al (bl_al (bl0 _) _) _) _) _) _) _)) hb | exact bl_tr (bl_dr (bl0 _)) hb
  replace hA := bl_tr hA hk
  clear hb hk
  generalize max (apartI X Z) (apartI Y V) = m at *
  go_wp2
  go_ret2
  exact ⟨rfl, hA⟩
set_option maxHeartbeats 1000000 in
theorem line_no (X Y Z V : Int) (w : World) (hp : (plainB X Y && plainB Z V) = false) :
    Calls Try.prog 29 #[.agg #[.int .i64 X, .int .i64 Y], .agg #[.int .i64 Z, .int .i64 V]] w fun e w' => e = .returned (.tuple #[.slice none 0 0, .int .i64 10]) ∧ Below w.heap.size w w' := by
  have hA := bl0 w
  go_enter Try.func29, Try.ntmps29
  go_wp2_with fail
  refine (far_no _ _ _ _ _ hp).mono ?_
  rintro e w1 ⟨rfl, hb⟩
  have hk : Below w.heap.size w w1 := by first | exact hb | exact bl_tr (bl_al (bl0 _) _) hb | exact bl_tr (bl_dr (bl_al (bl0 _) _)) hb | exact bl_tr (bl_al (bl_al (bl0 _) _) _) hb | exact bl_tr (bl_dr (bl_al (bl_al (bl0 _) _) _)) hb | exact bl_tr (bl_al (bl_al (bl_al (bl0 _) _) _) _) hb | exact bl_tr (bl_dr (bl_al (bl_al (bl_al (bl0 _) _) _) _)) hb | exact bl_tr (bl_al (bl_al (bl_al (bl_al (bl0 _) _) _) _) _) hb | exact bl_tr (bl_dr (bl_al (bl_al (bl_al (bl_al (bl0 _) _) _) _) _)) hb | exact bl_tr (bl_al (bl_al (bl_al (bl_al (bl_al (bl0 _) _) _) _) _) _) hb | exact bl_tr (bl_dr (bl_al (bl_al (bl_al (bl_al (bl_al (bl0 _) _) _) _) _) _)) hb | exact bl_tr (bl_al (bl_al (bl_al (bl_al (bl_al (bl_al (bl0 _) _) _) _) _) _) _) hb | exact bl_tr (bl_dr (bl_al (bl_al (bl_al (bl_al (bl_al (bl_al (bl0 _) _) _) _) _) _) _)) hb | exact bl_tr (bl_dr (bl0 _)) hb
  replace hA := bl_tr hA hk
  clear hb hk
  go_wp2
  go_ret2
  exact ⟨rfl, hA⟩
end Go.Proofs.Ythebiibiapjdiaa

/- A region that draws its order: an append to a row of one's own, where it alone may come. -/
namespace Go.Proofs.Ythebiibiapjdiaa
open Go

theorem ordS_append {F : Fence} {n : Nat} {P : Program} {ops : Array Oper} {Q : Exit → Act → World → Prop} {md : Region.Mode} {S : World → Prop} {i : Nat} {o : Oper} {j : Nat} {l : Array Bool} {a : Act} (w : World)
    (hr : Region.ready md ops l = [i]) (ho : ops[i]? = some o) (hw : Region.wanted o (yielded ops a.tmps) = true) (s x : Operand) (t : TypeId) (hop : o.op = Op.call { callee := Callee.builtin Builtin.append, args := #[s, x], argTypes := #[t, t] })
    (base : Nat) (e : TypeId) (ti : TypeInfo) (z : Value) (size bytes : Nat) (h1 : P.underlying t = some (.slice e)) (h2 : P.info? e = some ti) (h3 : ti.zero = some z) (h4 : ti.size = size) (h5 : ti.bytes = bytes) (h6 : z.cells.size = size) (h7 : 0 < size)
    (v : Value) (k : Nat) (xs : List Value) (hs : a.eval s = v) (hown : w.ownsRow base e size v k xs) (ad : Addr) (m c : Nat) (news : List Value) (hx : a.eval x = .slice (some ad) m c) (hn : news.length = m * size)
    (hc : ∀ j u, news[j]? = some u → w.cell? (ad.add j) = some u) (h1c : ∀ u ∈ news, u.oneCell' = true) (b1 : k + m ≤ maxLen) (b2 : (k + m) * bytes ≤ 140737488355328) (b3 : base ≤ w.heap.size)
    (hK : ∀ v' w', w'.ownsRow base e size v' (k + m) (xs ++ news) → w.grownBy w' v.ownBlock → S w' ∧ OrdS F n P md ops Q S j (l.setIfInBounds i true) (a.put o.dst v') w') :
    OrdS F n P md ops Q S (j + 1) l a w := by
  refine ordS_one hr ho hw fun K hK' => ?_
  obtain ⟨v', w', hrun, r1, r2, r3⟩ := run_append_own (P := P) w base t o.type e ti z size bytes h1 h2 h3 h4 h5 h6 h7 v k xs hown ad m c news hn hc h1c b1 b2 b3
  unfold Oper.wpIn
  refine ⟨?_, ?_⟩
  · simp [Oper.about, hop, resolve, Target.leads, Sem.run_pure]
  · rw [Oper.semAt_plain F _ _ (by rw [hop]; intro c hc'; cases hc')]
    simp [execOp, hop, resolve, invoke, builtin, hs, hx, hrun, Result.andThen]
    exact hK' _ _ (hK v' w' r1 r2).1 (hK v' w' r1 r2).2
end Go.Proofs.Ythebiibiapjdiaa
