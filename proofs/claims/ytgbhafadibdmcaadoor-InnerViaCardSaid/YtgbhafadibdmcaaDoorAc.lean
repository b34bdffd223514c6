/- Paths: what the maps' calls tell, each by one contract; a cell's cost. -/
import Derived.Test.YtgbhafadibdmcaaDoorAcg
import Derived.Test.YtgbhafadibdmcaaDoorVf
import Derived.Test.YtgbhafadibdmcaaDoorWr
import Derived.Test.YtgbhafadibdmcaaDoorOh
import Derived.Deep.RegionHeld3
namespace Go.Proofs.YtgbhafadibdmcaaDoor
open Go.RowKit

theorem costAt_at {A B : Int} {zs : List Int} {c : IC} (hi : onB A B c = true) (hn : (zs.length : Int) = A * B) : ∃ j : Nat, c.2 * A + c.1 = j ∧ ∃ h : j < zs.length, zs[j] = costAt A zs c := by
  obtain ⟨h1, h2, h3, h4, h5, h6, h7, h8⟩ := inB_iff.1 hi
  obtain ⟨m1, m2⟩ := mul_bd h7 (by omega) h1 h2
  have e : (c.2 + 1) * A ≤ B * A := Int.mul_le_mul_of_nonneg_right (by omega) (by omega)
  rw [Int.add_mul, Int.one_mul, Int.mul_comm B A] at e
  refine ⟨(c.2 * A + c.1).toNat, by omega, by omega, ?_⟩
  unfold costAt
  rw [List.getD_eq_getElem?_getD, List.getElem?_eq_getElem (by omega)]
  rfl
end Go.Proofs.YtgbhafadibdmcaaDoor
