/- Package geom: contracts of Index, At, Far, Walk, boxes. -/
import Derived.Test.YtlmloedjakpogabDoorGa
import Derived.Deep.QuietTactic
import Derived.BigQuiet
import Derived.BigRegion
namespace Go.Proofs.YtlmloedjakpogabDoor
open Go.RowKit

theorem mul_bd {Y W : Int} (h1 : 0 ≤ Y) (h2 : Y ≤ 255) (h3 : 1 ≤ W) (h4 : W ≤ 256) : 0 ≤ Y * W ∧ Y * W ≤ 65280 := by
  constructor
  · exact Int.mul_nonneg h1 (by omega)
  · have a : Y * W ≤ 255 * W := Int.mul_le_mul_of_nonneg_right h2 (by omega)
    omega

set_option maxHeartbeats 400000 in
theorem index_no (W H X Y : Int) (w : World) (hi : inB W H X Y = false) :
    Calls Tryd.prog 37 #[.agg #[.int .i64 W, .int .i64 H], .agg #[.int .i64 X, .int .i64 Y]] w fun e w' => e = .returned (.tuple #[.int .i64 0, .int .i64 10]) ∧ Below w.heap.size w w' := by
  go_enter Tryd.func37, Tryd.ntmps37
  go_wp2_with (go_at_call 31; refine (in_any _ _ _ _ _).mono ?_; rintro e w' ⟨rfl, hb⟩; obtain ⟨hc, hf⟩ := bcell hb)
  go_ret2
  exact ⟨rfl, bl_tr (bl_al (bl_al (bl0 _) _) _) hb⟩

set_option maxHeartbeats 400000 in
theorem index_yes (W H X Y : Int) (w : World) (hi : inB W H X Y = true) :
    Calls Tryd.prog 37 #[.agg #[.int .i64 W, .int .i64 H], .agg #[.int .i64 X, .int .i64 Y]] w fun e w' => e = .returned (.tuple #[.int .i64 (Y * W + X), .int .i64 0]) ∧ Below w.heap.size w w' := by
  obtain ⟨h1, h2, h3, h4, h5, h6, h7, h8⟩ := inB_iff.1 hi
  obtain ⟨m1, m2⟩ := mul_bd h7 (by omega) h1 h2
  go_enter Tryd.func37, Tryd.ntmps37
  go_wp2_with (go_at_call 31; refine (in_any _ _ _ _ _).mono ?_; rintro e w' ⟨rfl, hb⟩; obtain ⟨hc, hf⟩ := bcell hb)
  go_ret2
  exact ⟨rfl, bl_tr (bl_al (bl_al (bl0 _) _) _) hb⟩

end Go.Proofs.YtlmloedjakpogabDoor
