/- Package geom: contracts of At outside a map, and of boxes. -/
import Derived.Test.YtlmloedjakpogabDoorGc
namespace Go.Proofs.YtlmloedjakpogabDoor
open Go.RowKit


def rightB (X Y W H : Int) : Bool := decide (-1048576 ≤ X ∧ X ≤ 1048576 ∧ -1048576 ≤ Y ∧ Y ≤ 1048576 ∧ 0 ≤ W ∧ W ≤ 256 ∧ 0 ≤ H ∧ H ≤ 256)
theorem rightB_iff {X Y W H : Int} : rightB X Y W H = true ↔ -1048576 ≤ X ∧ X ≤ 1048576 ∧ -1048576 ≤ Y ∧ Y ≤ 1048576 ∧ 0 ≤ W ∧ W ≤ 256 ∧ 0 ≤ H ∧ H ≤ 256 := by simp [rightB]
def hasB (X Y W H A B : Int) : Bool := rightB X Y W H && decide (X ≤ A ∧ A < X + W ∧ Y ≤ B ∧ B < Y + H)
theorem hasB_iff {X Y W H A B : Int} : hasB X Y W H A B = true ↔ rightB X Y W H = true ∧ X ≤ A ∧ A < X + W ∧ Y ≤ B ∧ B < Y + H := by simp [hasB]
def fitsB (U V X Y W H : Int) : Bool := rightB X Y W H && mayB U V && decide (0 < W ∧ 0 < H ∧ 0 ≤ X ∧ 0 ≤ Y ∧ X + W ≤ U ∧ Y + H ≤ V)
theorem fitsB_iff {U V X Y W H : Int} : fitsB U V X Y W H = true ↔ rightB X Y W H = true ∧ mayB U V = true ∧ 0 < W ∧ 0 < H ∧ 0 ≤ X ∧ 0 ≤ Y ∧ X + W ≤ U ∧ Y + H ≤ V := by simp [fitsB, and_assoc]



end Go.Proofs.YtlmloedjakpogabDoor
