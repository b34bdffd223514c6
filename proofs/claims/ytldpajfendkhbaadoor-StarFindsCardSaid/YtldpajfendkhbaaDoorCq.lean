/- The frame's parts for the laws of least costs: two ends as an argument. -/
import Derived.Test.YtldpajfendkhbaaDoorAf
namespace Go.Proofs.YtldpajfendkhbaaDoor
open Go.ChangeShapes Go.WideShapes Go.ChangeAt Go.RowKit Go.Joins

theorem array4 {cs : Array Value} (h : cs.size = 4) : ∃ c0 c1 c2 c3, cs = #[c0, c1, c2, c3] := by
  obtain ⟨l⟩ := cs
  match l, h with
  | [c0, c1, c2, c3], _ => exact ⟨c0, c1, c2, c3, rfl⟩
end Go.Proofs.YtldpajfendkhbaaDoor
