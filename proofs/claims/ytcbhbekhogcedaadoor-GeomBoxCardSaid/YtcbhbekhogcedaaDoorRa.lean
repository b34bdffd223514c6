/- The document's answers for geom: contracts of the reference's plain functions. -/
import Derived.Test.YtcbhbekhogcedaaDoorGe
namespace Go.Proofs.YtcbhbekhogcedaaDoor
open Go.RowKit

set_option maxHeartbeats 400000 in
theorem rmay_any (W H : Int) (w : World) :
    Calls Tryd.prog 14 #[.agg #[.int .i64 W, .int .i64 H]] w fun e w' => e = .returned (.bool (mayB W H)) ∧ Below w.heap.size w w' := by
  go_enter Tryd.func14, Tryd.ntmps14
  go_wp2
  all_goals
    go_ret
    exact ⟨ret_bool (by rw [Bool.eq_iff_iff]; simp [mayB]; try omega), bl_al (bl0 _) _⟩


set_option maxHeartbeats 400000 in
theorem rplain_any (X Y : Int) (w : World) :
    Calls Tryd.prog 17 #[.agg #[.int .i64 X, .int .i64 Y]] w fun e w' => e = .returned (.bool (plainB X Y)) ∧ Below w.heap.size w w' := by
  go_enter Tryd.func17, Tryd.ntmps17
  go_wp2
  all_goals
    go_ret
    exact ⟨ret_bool (by rw [Bool.eq_iff_iff]; simp [plainB]; try omega), bl_al (bl0 _) _⟩



end Go.Proofs.YtcbhbekhogcedaaDoor
