/- Parts: the reference's clusters beside one. -/
import Derived.Test.YtbdfjdipjacamaaDoorDs
namespace Go.Proofs.YtbdfjdipjacamaaDoor
open Go.RowKit

/-- What the reference finds in a direction. -/
def refZ (W H S : Int) (p : IC) (d : Int) : Int := if toP W H S p d = true then numP W S (stepI p d) else -1
theorem crn_bd {W H S : Int} {p : IC} {d : Int} (hr : rightP W H S = true) (h1 : 0 ≤ p.1) (h2 : p.1 < lieN W S) (h3 : 0 ≤ p.2) (h4 : p.2 < lieN H S) : 0 ≤ (crnP W H S p d).1 ∧ (crnP W H S p d).1 ≤ 600 ∧ 0 ≤ (crnP W H S p d).2 ∧ (crnP W H S p d).2 ≤ 600 := by
  obtain ⟨⟨t1, t2, t3, t4⟩, ⟨t5, t6, t7, t8⟩, t9, t10⟩ := bx_bd hr h1 h2 h3 h4
  unfold crnP
  refine ⟨?_, ?_, ?_, ?_⟩ <;> simp only <;> split <;> omega
theorem refZ_none {W H S : Int} {p : IC} {d : Int} (hr : rightP W H S = true) : (refZ W H S p d < 0 ↔ toP W H S p d = false) := by
  unfold refZ
  cases h : toP W H S p d
  · simp
  · simp only [if_true]
    have := (toP_iff hr).1 h
    unfold numP
    have m := Int.mul_nonneg this.2.2.1 (show 0 ≤ lieN W S by omega)
    simp; omega

def RbsR (l : List Int) (w : World) (e : Ending) (w' : World) : Prop := ∃ b c, e = .returned (.slice b l.length c) ∧ RowN w' b l ∧ Below w.heap.size w w'
end Go.Proofs.YtbdfjdipjacamaaDoor
