/- What the maps' calls tell, each by one contract. -/
import Derived.Test.YtldpajfendkhbaaDoorAb
namespace Go.Proofs.YtldpajfendkhbaaDoor
open Go.RowKit

/-- What Dir tells. -/
def dirX (p q : IC) : Int := if (plB p && plB q) = true then (if besI p q = -1 then 1 else 0) else 10
def dirV (p q : IC) : Int := if dirX p q = 0 then besI p q else 0
theorem dir_any (p q : IC) (w : World) (hs : Stp w) :
    Calls Tryd.prog 31 #[.agg #[.int .i64 p.1, .int .i64 p.2], .agg #[.int .i64 q.1, .int .i64 q.2]] w fun e w' => e = .returned (.tuple #[.int .i64 (dirV p q), .int .i64 (dirX p q)]) ∧ Below w.heap.size w w' := by
  cases h : (plB p && plB q)
  · have h1 : dirX p q = 10 := by unfold dirX; rw [if_neg (by rw [h]; decide)]
    have h2 : dirV p q = 0 := by unfold dirV; rw [if_neg (by rw [h1]; decide)]
    rw [h1, h2]
    exact dir_no _ _ _ _ w h
  · obtain ⟨ha, hb⟩ := Bool.and_eq_true_iff.1 h
    have h1 : dirX p q = dirE (q.1 - p.1) (q.2 - p.2) := by unfold dirX; rw [if_pos h]; rfl
    have h2 : dirV p q = dirN (q.1 - p.1) (q.2 - p.2) := by
      unfold dirV dirN
      rw [h1]
      unfold dirE besI
      by_cases e : dirI (q.1 - p.1) (q.2 - p.2) = -1
      · rw [if_pos e, if_pos e, if_neg (by decide)]
      · rw [if_neg e, if_neg e, if_pos rfl]
    rw [h1, h2]
    exact dir_yes _ _ _ _ w hs ha hb
/-- What Step tells. -/
def stpX (A B : Int) (c : IC) (d : Int) : Int := if 0 ≤ d ∧ d < 4 then (if (onB A B c && onB A B (stepI c d)) = true then 0 else 10) else 1
def stpV (A B : Int) (c : IC) (d : Int) : IC := if stpX A B c d = 0 then stepI c d else (0, 0)
theorem step_any (A B : Int) (c : IC) (d : Int) (w : World) (hs : Stp w) :
    Calls Tryd.prog 58 #[.agg #[.int .i64 A, .int .i64 B], .agg #[.int .i64 c.1, .int .i64 c.2], .int .i64 d] w fun e w' => e = .returned (.tuple #[.agg #[.int .i64 (stpV A B c d).1, .int .i64 (stpV A B c d).2], .int .i64 (stpX A B c d)]) ∧ Below w.heap.size w w' := by
  by_cases hd : 0 ≤ d ∧ d < 4
  · cases h1 : onB A B c
    · have e1 : stpX A B c d = 10 := by unfold stpX; rw [if_pos hd, if_neg (by rw [h1]; simp)]
      have e2 : stpV A B c d = (0, 0) := by unfold stpV; rw [if_neg (by rw [e1]; decide)]
      rw [e1, e2]
      exact step_off _ _ _ _ _ w hd.1 hd.2 h1
    · cases h2 : onB A B (stepI c d)
      · have e1 : stpX A B c d = 10 := by unfold stpX; rw [if_pos hd, if_neg (by rw [h1, h2]; simp)]
        have e2 : stpV A B c d = (0, 0) := by unfold stpV; rw [if_neg (by rw [e1]; decide)]
        rw [e1, e2]
        exact step_out _ _ _ _ _ w hs hd.1 hd.2 h1 h2
      · have e1 : stpX A B c d = 0 := by unfold stpX; rw [if_pos hd, if_pos (by rw [h1, h2]; rfl)]
        have e2 : stpV A B c d = stepI c d := by unfold stpV; rw [if_pos e1]
        rw [e1, e2]
        exact step_yes _ _ _ _ _ w hs hd.1 hd.2 h1 h2
  · have e1 : stpX A B c d = 1 := by unfold stpX; rw [if_neg hd]
    have e2 : stpV A B c d = (0, 0) := by unfold stpV; rw [if_neg (by rw [e1]; decide)]
    rw [e1, e2]
    exact step_arg _ _ _ _ _ w (by omega)
theorem walk_self (c : IC) (w : World) :
    Calls Tryd.prog 66 #[.agg #[.int .i64 c.1, .int .i64 c.2], .agg #[.int .i64 c.1, .int .i64 c.2]] w fun e w' => e = .returned (.tuple #[.int .i64 0, .int .i64 (if plB c = true then 0 else 10)]) ∧ Below w.heap.size w w' := by
  cases h : plB c
  · exact walk_no _ _ _ _ w (by rw [show plainB c.1 c.2 = false from h]; rfl)
  · have := walk_yes c.1 c.2 c.1 c.2 w h h
    rw [show apartI c.1 c.1 + apartI c.2 c.2 = 0 by unfold apartI; omega] at this
    exact this
end Go.Proofs.YtldpajfendkhbaaDoor
