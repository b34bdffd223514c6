/- The document's answers for geom: contracts of the reference's plain functions. -/
import Derived.Test.YtlmloedjakpogabDoorGe
namespace Go.Proofs.YtlmloedjakpogabDoor
open Go.RowKit

set_option maxHeartbeats 400000 in
theorem rmay_any (W H : Int) (w : World) :
    Calls Tryd.prog 35 #[.agg #[.int .i64 W, .int .i64 H]] w fun e w' => e = .returned (.bool (mayB W H)) ∧ Below w.heap.size w w' := by
  go_enter Tryd.func35, Tryd.ntmps35
  go_wp2
  all_goals
    go_ret
    exact ⟨ret_bool (by rw [Bool.eq_iff_iff]; simp [mayB]; try omega), bl_al (bl0 _) _⟩

set_option maxHeartbeats 400000 in
theorem rin_any (W H X Y : Int) (w : World) :
    Calls Tryd.prog 22 #[.agg #[.int .i64 W, .int .i64 H], .agg #[.int .i64 X, .int .i64 Y]] w fun e w' => e = .returned (.bool (inB W H X Y)) ∧ Below w.heap.size w w' := by
  by_cases hm : mayB W H = true
  all_goals
    go_enter Tryd.func22, Tryd.ntmps22
    go_wp2_with (go_at_call 35; refine (rmay_any _ _ _).mono ?_; rintro e w' ⟨rfl, hb⟩; obtain ⟨hc, hf⟩ := bcell hb)
    all_goals
      go_ret
      refine ⟨ret_bool (by rw [Bool.eq_iff_iff]; have hm' := @mayB_iff W H; simp_all [inB] <;> omega), ?_⟩
      exact bl_tr (bl_al (bl_al (bl0 _) _) _) hb




end Go.Proofs.YtlmloedjakpogabDoor
