/- When a set's bytes are right: no bit beyond the last cell. -/
import Derived.Test.YtgkeifjnnpcleaaJn
import Derived.Test.YtgkeifjnnpcleaaJo
namespace Go.Proofs.Ytgkeifjnnpcleaa
open Go.RowKit

theorem low_iff (x r : Nat) : ((x : Int) / 2 ^ r = 0) ↔ x < 2 ^ r := by
  have h : ((x : Int) / 2 ^ r) = ((x / 2 ^ r : Nat) : Int) := by simp
  rw [h]
  have hp : 0 < 2 ^ r := Nat.two_pow_pos r
  constructor
  · intro h0
    have h1 : x / 2 ^ r = 0 := by omega
    exact (Nat.div_eq_zero_iff_lt hp).1 h1
  · intro h0
    rw [Nat.div_eq_of_lt h0]; rfl
theorem good_spare {X Y : Int} {bs : List Nat} (hm : mayB X Y = true) (hlen : (bs.length : Int) = (X * Y + 7) / 8) (hbs : IsBytes bs) : spareB X Y bs = false ↔ Good X Y bs := by
  obtain ⟨h1, h2, h3, h4⟩ := mayB_iff.1 hm
  obtain ⟨m1, m2⟩ : 1 ≤ X * Y ∧ X * Y ≤ 65536 := ⟨by have := Int.mul_pos (show 0 < X by omega) (show 0 < Y by omega); omega, by have a : X * Y ≤ 256 * Y := Int.mul_le_mul_of_nonneg_right h2 (by omega); omega⟩
  obtain ⟨a, ha⟩ : ∃ a : Nat, X * Y = (a : Int) := ⟨(X * Y).toNat, by omega⟩
  have hr : (X * Y % 8).toNat = a % 8 := by omega
  have hn : bs.length = (a + 7) / 8 := by omega
  have hl : bs.getD (bs.length - 1) 0 < 256 := by
    have hlt : bs.length - 1 < bs.length := by omega
    rw [List.getD_eq_getElem?_getD, List.getElem?_eq_getElem hlt]
    exact hbs _ (List.getElem_mem hlt)
  unfold spareB
  rw [hr]
  simp only [decide_eq_false_iff_not, not_and, Decidable.not_not]
  rw [low_iff]
  constructor
  · intro h
    refine ⟨hm, hlen, hbs, fun i hi => ?_⟩
    by_cases ho : bs.length * 8 ≤ i
    · exact bit_out bs i ho
    · have e1 : i / 8 = bs.length - 1 := by omega
      have e2 : a % 8 ≤ i % 8 := by omega
      have hx := h (by omega)
      unfold bitAt
      rw [e1]
      exact Nat.testBit_lt_two_pow (Nat.lt_of_lt_of_le hx (Nat.pow_le_pow_right (by omega) e2))
  · rintro ⟨_, _, _, g⟩ hne
    refine Nat.lt_pow_two_of_testBit _ fun i hi => ?_
    by_cases h8 : 8 ≤ i
    · exact Nat.testBit_lt_two_pow (Nat.lt_of_lt_of_le hl (by rw [show 256 = 2 ^ 8 from rfl]; exact Nat.pow_le_pow_right (by omega) h8))
    · have := g ((bs.length - 1) * 8 + i) (by omega)
      unfold bitAt at this
      rwa [show ((bs.length - 1) * 8 + i) / 8 = bs.length - 1 by omega, show ((bs.length - 1) * 8 + i) % 8 = i by omega] at this
end Go.Proofs.Ytgkeifjnnpcleaa
