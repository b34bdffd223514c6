/- Package geom: contracts of Dir. -/
import Derived.Test.YtgbhafadibdmcaaDoorGe
import Derived.Deep.LoopGhost
namespace Go.Proofs.YtgbhafadibdmcaaDoor
open Go.RowKit

def dirI (dx dy : Int) : Int := if dx = 0 ∧ dy = -1 then 0 else if dx = 1 ∧ dy = 0 then 1 else if dx = 0 ∧ dy = 1 then 2 else if dx = -1 ∧ dy = 0 then 3 else -1

def NoD (k : Nat) (dx dy : Int) : Prop := (0 < k → ¬ (dx = 0 ∧ dy = -1)) ∧ (1 < k → ¬ (dx = 1 ∧ dy = 0)) ∧ (2 < k → ¬ (dx = 0 ∧ dy = 1)) ∧ (3 < k → ¬ (dx = -1 ∧ dy = 0))
end Go.Proofs.YtgbhafadibdmcaaDoor
