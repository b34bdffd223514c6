/- The document's answers for geom: contracts of the reference's plain functions. -/
import Derived.Test.YtldpajfendkhbaaDoorGe
namespace Go.Proofs.YtldpajfendkhbaaDoor
open Go.RowKit

set_option maxHeartbeats 400000 in
theorem rmay_any (W H : Int) (w : World) :
    Calls Tryd.prog 41 #[.agg #[.int .i64 W, .int .i64 H]] w fun e w' => e = .returned (.bool (mayB W H)) ∧ Below w.heap.size w w' := by
  go_enter Tryd.func41, Tryd.ntmps41
  go_wp2
  all_goals
    go_ret
    exact ⟨ret_bool (by rw [Bool.eq_iff_iff]; simp [mayB]; try omega), bl_al (bl0 _) _⟩





end Go.Proofs.YtldpajfendkhbaaDoor
