/- Parts: the laws' helpers; the chapter's examples. -/
import Derived.Test.YtbdfjdipjacamaaDoorDj
namespace Go.Proofs.YtbdfjdipjacamaaDoor
open Go.RowKit

theorem take_sameN {α : Type} {xs ys : List α} {k : Nat} (hk : k < xs.length) (hk2 : k < ys.length) (h : xs.take k = ys.take k) (e : xs[k] = ys[k]) : xs.take (k + 1) = ys.take (k + 1) := by
  rw [List.take_succ_eq_append_getElem hk, List.take_succ_eq_append_getElem hk2, h, e]
theorem take_allN {α : Type} {xs ys : List α} {k : Nat} (h1 : xs.length ≤ k) (h2 : xs.length = ys.length) (h : xs.take k = ys.take k) : xs = ys := by
  rw [List.take_of_length_le h1, List.take_of_length_le (by omega)] at h
  exact h
theorem not_sameN {α : Type} {xs ys : List α} {k : Nat} (hk : k < xs.length) (hk2 : k < ys.length) (e : xs[k] ≠ ys[k]) : xs ≠ ys := by rintro rfl; exact e rfl

def smallP (W H S : Int) : Bool := rightP W H S && decide (W * H ≤ 400)
end Go.Proofs.YtbdfjdipjacamaaDoor
