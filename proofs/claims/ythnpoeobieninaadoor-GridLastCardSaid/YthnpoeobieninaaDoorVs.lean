/- Facts of the turned cells, by their numbers. -/
import Derived.Test.YthnpoeobieninaaDoorVn
namespace Go.Proofs.YthnpoeobieninaaDoor
open Go.RowKit

theorem bsame (b : Bool) : (b != b) = false := bne_self_eq_false b
theorem isame (b : Int) : (b == b) = true := beq_self_eq_true b
theorem turnTo_grow (X : Int) (xs ys : List Int) (k j : Nat) : turnTo X xs ys k <+: turnTo X xs ys (k + j) := by
  induction j with
  | zero => exact List.prefix_rfl
  | succ j ih => exact ih.trans (by rw [← Nat.add_assoc, turnTo]; exact List.prefix_append _ _)
theorem turnTo_at {X : Int} {xs ys : List Int} {k : Nat} (h1 : k < xs.length) (h2 : k < ys.length) (e : xs[k] ≠ ys[k]) :
    ∃ hn : (turnTo X xs ys k).length < (turnF X xs ys).length, (turnF X xs ys)[(turnTo X xs ys k).length] = ((k : Int) % X, (k : Int) / X) := by
  have h := turnTo_other (X := X) h1 h2 e
  have hp : turnTo X xs ys (k + 1) <+: turnF X xs ys := by
    have := turnTo_grow X xs ys (k + 1) (xs.length - (k + 1))
    rw [show k + 1 + (xs.length - (k + 1)) = xs.length by omega] at this
    exact this
  obtain ⟨t, ht⟩ := hp
  rw [h] at ht
  refine ⟨by rw [← ht]; simp, ?_⟩
  simp [← ht]

end Go.Proofs.YthnpoeobieninaaDoor
