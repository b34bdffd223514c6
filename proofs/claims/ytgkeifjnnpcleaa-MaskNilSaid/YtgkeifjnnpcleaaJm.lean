/- The numbers of a set's cells: the mathematics. -/
import Derived.Test.YtgkeifjnnpcleaaKn
namespace Go.Proofs.Ytgkeifjnnpcleaa
open Go.RowKit

/-- The bits of a byte, the lowest first. -/
def bl (x : Nat) : List Nat := (List.range 8).filter (fun i => x.testBit i)
theorem bl_zero : bl 0 = [] := by decide
theorem bl_steps : ∀ n : Fin 256, n.val = 0 ∨ (bl n.val = Lib.trailingZeros8 n.val :: bl (n.val &&& (n.val - 1)) ∧ (n.val &&& (n.val - 1)) < n.val ∧ Lib.trailingZeros8 n.val < 8) := by decide +kernel
theorem bl_step (x : Nat) (h : x < 256) (h0 : x ≠ 0) : bl x = Lib.trailingZeros8 x :: bl (x &&& (x - 1)) ∧ (x &&& (x - 1)) < x ∧ Lib.trailingZeros8 x < 8 := by
  rcases bl_steps ⟨x, h⟩ with h1 | h1
  · exact absurd h1 h0
  · exact h1
/-- The numbers that the first k bytes tell. -/
def numOf (k i : Nat) : Int := (k : Int) * 8 + (i : Int)
def numsTo (bs : List Nat) (k : Nat) : List Int := (List.range k).flatMap (fun j => (bl (bs.getD j 0)).map (numOf j))
theorem numsTo_zero (bs : List Nat) : numsTo bs 0 = [] := rfl
theorem numsTo_succ (bs : List Nat) (k : Nat) : numsTo bs (k + 1) = numsTo bs k ++ (bl (bs.getD k 0)).map (numOf k) := by simp [numsTo, List.range_succ, List.flatMap_append]
theorem numsTo_prefix (bs : List Nat) {k m : Nat} (h : k ≤ m) : numsTo bs k <+: numsTo bs m := by
  induction m with
  | zero => obtain rfl : k = 0 := by omega
            exact List.prefix_refl _
  | succ m ih =>
    by_cases hk : k ≤ m
    · exact (ih hk).trans ⟨_, (numsTo_succ bs m).symm⟩
    · obtain rfl : k = m + 1 := by omega
      exact List.prefix_refl _
def numsOf (bs : List Nat) : List Int := numsTo bs bs.length
theorem part_prefix (bs : List Nat) (k : Nat) (hk : k < bs.length) (d r : List Nat) (h : bl (bs.getD k 0) = d ++ r) : numsTo bs k ++ d.map (numOf k) <+: numsOf bs := by
  have h1 : numsTo bs k ++ d.map (numOf k) <+: numsTo bs (k + 1) := by
    rw [numsTo_succ, h, List.map_append, ← List.append_assoc]
    exact ⟨_, rfl⟩
  exact h1.trans (numsTo_prefix bs hk)
theorem part_lt (bs : List Nat) (k : Nat) (hk : k < bs.length) (d r : List Nat) (z : Nat) (h : bl (bs.getD k 0) = d ++ z :: r) : (numsTo bs k ++ d.map (numOf k)).length < (numsOf bs).length := by
  have h1 := (part_prefix bs k hk (d ++ [z]) r (by rw [h]; simp)).length_le
  simp at h1 ⊢
  omega
theorem tz_call (x : Nat) (hx : x < 256) (w : World) : Calls Try.prog 53 #[.int .u8 (x : Int)] w fun e w' => e = .returned (.int .i64 (Lib.trailingZeros8 x : Nat)) ∧ w = w' := by
  refine (Try.bits_TrailingZeros8 (x : Int) w (by omega) (by omega)).mono ?_
  rintro e w' ⟨rfl, rfl⟩
  exact ⟨rfl, rfl⟩
end Go.Proofs.Ytgkeifjnnpcleaa
