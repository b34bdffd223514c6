/- Package geom: contracts of At outside a map, and of boxes. -/
import Derived.Test.YthmmmblkjgcchaaDoorGc
namespace Go.Proofs.YthmmmblkjgcchaaDoor
open Go.RowKit

set_option maxHeartbeats 400000 in
theorem at_no (W H i : Int) (w : World) (hi : atB W H i = false) :
    Calls Tryd.prog 59 #[.agg #[.int .i64 W, .int .i64 H], .int .i64 i] w fun e w' => e = .returned (.tuple #[.agg #[.int .i64 0, .int .i64 0], .int .i64 10]) ∧ Below w.heap.size w w' := by
  have hi' : ¬ (1 ≤ W ∧ W ≤ 256 ∧ 1 ≤ H ∧ H ≤ 256 ∧ 0 ≤ i ∧ i < W * H) := by simpa [atB] using hi
  cases hm : mayB W H
  · go_enter Tryd.func59, Tryd.ntmps59
    go_wp2_with (go_at_call 62; refine (may_any _ _ _).mono ?_; rintro e w' ⟨rfl, hb⟩; obtain ⟨hc, hf⟩ := bcell hb)
    have q0 : w'.cell? ⟨w.heap.size + 1, 0, none⟩ = some (.int .i64 0) := (hc _ _ (by simp)).trans (by simp [go_sem])
    have q1 : w'.cell? ⟨w.heap.size + 1, 1, none⟩ = some (.int .i64 0) := (hc _ _ (by simp)).trans (by simp [go_sem])
    clear hc hf
    refine bodyPost_ret (v := .tuple #[.agg #[.int .i64 0, .int .i64 0], .int .i64 10]) (by simp [results, Tryd.results59, go_sem, q0, q1]) rfl ⟨rfl, ?_⟩
    exact bl_st (bl_st (bl_tr (bl_al (bl_al (bl0 _) _) _) hb) (by omega) _) (by omega) _
  · obtain ⟨h1, h2, h3, h4⟩ := mayB_iff.1 hm
    obtain ⟨m1, m2⟩ : 0 ≤ W * H ∧ W * H ≤ 65536 := ⟨Int.mul_nonneg (by omega) (by omega), by have a : W * H ≤ 256 * H := Int.mul_le_mul_of_nonneg_right h2 (by omega); omega⟩
    have hj : i < 0 ∨ W * H ≤ i := by omega
    clear hi'
    by_cases hl : i < 0
    all_goals
      go_enter Tryd.func59, Tryd.ntmps59
      go_wp2_with (go_at_call 62; refine (may_any _ _ _).mono ?_; rintro e w' ⟨rfl, hb⟩; obtain ⟨hc, hf⟩ := bcell hb)
      have q0 : w'.cell? ⟨w.heap.size + 1, 0, none⟩ = some (.int .i64 0) := (hc _ _ (by simp)).trans (by simp [go_sem])
      have q1 : w'.cell? ⟨w.heap.size + 1, 1, none⟩ = some (.int .i64 0) := (hc _ _ (by simp)).trans (by simp [go_sem])
      clear hc hf
      refine bodyPost_ret (v := .tuple #[.agg #[.int .i64 0, .int .i64 0], .int .i64 10]) (by simp [results, Tryd.results59, go_sem, q0, q1]) rfl ⟨rfl, ?_⟩
      exact bl_st (bl_st (bl_tr (bl_al (bl_al (bl0 _) _) _) hb) (by omega) _) (by omega) _

def rightB (X Y W H : Int) : Bool := decide (-1048576 ≤ X ∧ X ≤ 1048576 ∧ -1048576 ≤ Y ∧ Y ≤ 1048576 ∧ 0 ≤ W ∧ W ≤ 256 ∧ 0 ≤ H ∧ H ≤ 256)
theorem rightB_iff {X Y W H : Int} : rightB X Y W H = true ↔ -1048576 ≤ X ∧ X ≤ 1048576 ∧ -1048576 ≤ Y ∧ Y ≤ 1048576 ∧ 0 ≤ W ∧ W ≤ 256 ∧ 0 ≤ H ∧ H ≤ 256 := by simp [rightB]
def hasB (X Y W H A B : Int) : Bool := rightB X Y W H && decide (X ≤ A ∧ A < X + W ∧ Y ≤ B ∧ B < Y + H)
theorem hasB_iff {X Y W H A B : Int} : hasB X Y W H A B = true ↔ rightB X Y W H = true ∧ X ≤ A ∧ A < X + W ∧ Y ≤ B ∧ B < Y + H := by simp [hasB]
def fitsB (U V X Y W H : Int) : Bool := rightB X Y W H && mayB U V && decide (0 < W ∧ 0 < H ∧ 0 ≤ X ∧ 0 ≤ Y ∧ X + W ≤ U ∧ Y + H ≤ V)
theorem fitsB_iff {U V X Y W H : Int} : fitsB U V X Y W H = true ↔ rightB X Y W H = true ∧ mayB U V = true ∧ 0 < W ∧ 0 < H ∧ 0 ≤ X ∧ 0 ≤ Y ∧ X + W ≤ U ∧ Y + H ≤ V := by simp [fitsB, and_assoc]



end Go.Proofs.YthmmmblkjgcchaaDoor
