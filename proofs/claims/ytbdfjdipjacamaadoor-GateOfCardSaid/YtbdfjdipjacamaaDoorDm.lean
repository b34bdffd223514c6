/- Parts: rows of pairs compared; the chapter's examples. -/
import Derived.Test.YtbdfjdipjacamaaDoorDl
namespace Go.Proofs.YtbdfjdipjacamaaDoor
open Go.RowKit

def sameQ (a b : IC × IC) : Bool := decide (a.1.1 = b.1.1 ∧ a.1.2 = b.1.2 ∧ a.2.1 = b.2.1 ∧ a.2.2 = b.2.2)
theorem sameQ_iff {a b : IC × IC} : sameQ a b = true ↔ a = b := by
  unfold sameQ
  rw [decide_eq_true_eq]
  constructor
  · rintro ⟨h1, h2, h3, h4⟩
    exact Prod.ext (Prod.ext h1 h2) (Prod.ext h3 h4)
  · rintro rfl
    exact ⟨rfl, rfl, rfl, rfl⟩

theorem rowN_new3 (w : World) (a b c : Int) (t : TypeId) : RowN (w.alloc (.cells #[.int .i64 a, .int .i64 b, .int .i64 c] t)) (some ⟨w.heap.size, 0, none⟩) [a, b, c] := by
  refine .inr ⟨w.heap.size, 0, rfl, fun i z hz => ?_⟩
  match i, hz with
  | 0, hz => simp at hz; subst hz; simp [go_sem]
  | 1, hz => simp at hz; subst hz; simp [go_sem]
  | 2, hz => simp at hz; subst hz; simp [go_sem]
theorem rowPP_new2 (w : World) (a b : IC × IC) (t : TypeId) : RowPP (w.alloc (.cells #[.int .i64 a.1.1, .int .i64 a.1.2, .int .i64 a.2.1, .int .i64 a.2.2, .int .i64 b.1.1, .int .i64 b.1.2, .int .i64 b.2.1, .int .i64 b.2.2] t)) (some ⟨w.heap.size, 0, none⟩) [a, b] := by
  refine .inr ⟨w.heap.size, 0, rfl, fun i z hz => ?_⟩
  match i, hz with
  | 0, hz => simp at hz; subst hz; simp [go_sem]
  | 1, hz => simp at hz; subst hz; simp [go_sem]

end Go.Proofs.YtbdfjdipjacamaaDoor
