/- What the maps' calls tell, each by one contract. -/
import Derived.Test.YtgbhafadibdmcaaDoorAb
namespace Go.Proofs.YtgbhafadibdmcaaDoor
open Go.RowKit

/-- What Dir tells. -/
def dirX (p q : IC) : Int := if (plB p && plB q) = true then (if besI p q = -1 then 1 else 0) else 10
def dirV (p q : IC) : Int := if dirX p q = 0 then besI p q else 0
/-- What Step tells. -/
def stpX (A B : Int) (c : IC) (d : Int) : Int := if 0 ≤ d ∧ d < 4 then (if (onB A B c && onB A B (stepI c d)) = true then 0 else 10) else 1
def stpV (A B : Int) (c : IC) (d : Int) : IC := if stpX A B c d = 0 then stepI c d else (0, 0)
theorem step_any (A B : Int) (c : IC) (d : Int) (w : World) (hs : Stp w) :
    Calls Tryd.prog 89 #[.agg #[.int .i64 A, .int .i64 B], .agg #[.int .i64 c.1, .int .i64 c.2], .int .i64 d] w fun e w' => e = .returned (.tuple #[.agg #[.int .i64 (stpV A B c d).1, .int .i64 (stpV A B c d).2], .int .i64 (stpX A B c d)]) ∧ Below w.heap.size w w' := by
  by_cases hd : 0 ≤ d ∧ d < 4
  · cases h1 : onB A B c
    · have e1 : stpX A B c d = 10 := by unfold stpX; rw [if_pos hd, if_neg (by rw [h1]; simp)]
      have e2 : stpV A B c d = (0, 0) := by unfold stpV; rw [if_neg (by rw [e1]; decide)]
      rw [e1, e2]
      exact step_off _ _ _ _ _ w hd.1 hd.2 h1
    · cases h2 : onB A B (stepI c d)
      · have e1 : stpX A B c d = 10 := by unfold stpX; rw [if_pos hd, if_neg (by rw [h1, h2]; simp)]
        have e2 : stpV A B c d = (0, 0) := by unfold stpV; rw [if_neg (by rw [e1]; decide)]
        rw [e1, e2]
        exact step_out _ _ _ _ _ w hs hd.1 hd.2 h1 h2
      · have e1 : stpX A B c d = 0 := by unfold stpX; rw [if_pos hd, if_pos (by rw [h1, h2]; rfl)]
        have e2 : stpV A B c d = stepI c d := by unfold stpV; rw [if_pos e1]
        rw [e1, e2]
        exact step_yes _ _ _ _ _ w hs hd.1 hd.2 h1 h2
  · have e1 : stpX A B c d = 1 := by unfold stpX; rw [if_neg hd]
    have e2 : stpV A B c d = (0, 0) := by unfold stpV; rw [if_neg (by rw [e1]; decide)]
    rw [e1, e2]
    exact step_arg _ _ _ _ _ w (by omega)
end Go.Proofs.YtgbhafadibdmcaaDoor
