/- Package geom: contracts of distances. -/
import Derived.Test.YtgbhafadibdmcaaDoorGb
namespace Go.Proofs.YtgbhafadibdmcaaDoor
open Go.RowKit

theorem ret_ii {k k' : IntKind} {a b c d : Int} (h : a = b) (h2 : c = d) : Ending.returned (.tuple #[.int k a, .int k' c]) = .returned (.tuple #[.int k b, .int k' d]) := by rw [h, h2]
def apartI (a b : Int) : Int := max (a - b) (b - a)
theorem apartI_def (a b : Int) : apartI a b = max (a - b) (b - a) := rfl
theorem apartI_bd {a b : Int} (h1 : -1048576 ≤ a) (h2 : a ≤ 1048576) (h3 : -1048576 ≤ b) (h4 : b ≤ 1048576) : 0 ≤ apartI a b ∧ apartI a b ≤ 2097152 := by unfold apartI; omega



end Go.Proofs.YtgbhafadibdmcaaDoor
