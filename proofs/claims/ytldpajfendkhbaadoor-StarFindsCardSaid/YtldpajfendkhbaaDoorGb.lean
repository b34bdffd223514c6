/- Package geom: contracts of Index, At, Far, Walk, boxes. -/
import Derived.Test.YtldpajfendkhbaaDoorGa
import Derived.Deep.QuietTactic
import Derived.BigQuiet
import Derived.BigRegion
namespace Go.Proofs.YtldpajfendkhbaaDoor
open Go.RowKit

theorem mul_bd {Y W : Int} (h1 : 0 ≤ Y) (h2 : Y ≤ 255) (h3 : 1 ≤ W) (h4 : W ≤ 256) : 0 ≤ Y * W ∧ Y * W ≤ 65280 := by
  constructor
  · exact Int.mul_nonneg h1 (by omega)
  · have a : Y * W ≤ 255 * W := Int.mul_le_mul_of_nonneg_right h2 (by omega)
    omega

set_option maxHeartbeats 400000 in
theorem index_no (W H X Y : Int) (w : World) (hi : inB W H X Y = false) :
    Calls Tryd.prog 34 #[.agg #[.int .i64 W, .int .i64 H], .agg #[.int .i64 X, .int .i64 Y]] w fun e w' => e = .returned (.tuple #[.int .i64 0, .int .i64 10]) ∧ Below w.heap.size w w' := by
  go_enter Tryd.func34, Tryd.ntmps34
  go_wp2_with (go_at_call 21; refine (in_any _ _ _ _ _).mono ?_; rintro e w' ⟨rfl, hb⟩; obtain ⟨hc, hf⟩ := bcell hb)
  go_ret2
  exact ⟨rfl, bl_tr (bl_al (bl_al (bl0 _) _) _) hb⟩

set_option maxHeartbeats 400000 in
theorem index_yes (W H X Y : Int) (w : World) (hi : inB W H X Y = true) :
    Calls Tryd.prog 34 #[.agg #[.int .i64 W, .int .i64 H], .agg #[.int .i64 X, .int .i64 Y]] w fun e w' => e = .returned (.tuple #[.int .i64 (Y * W + X), .int .i64 0]) ∧ Below w.heap.size w w' := by
  obtain ⟨h1, h2, h3, h4, h5, h6, h7, h8⟩ := inB_iff.1 hi
  obtain ⟨m1, m2⟩ := mul_bd h7 (by omega) h1 h2
  go_enter Tryd.func34, Tryd.ntmps34
  go_wp2_with (go_at_call 21; refine (in_any _ _ _ _ _).mono ?_; rintro e w' ⟨rfl, hb⟩; obtain ⟨hc, hf⟩ := bcell hb)
  go_ret2
  exact ⟨rfl, bl_tr (bl_al (bl_al (bl0 _) _) _) hb⟩

def atB (W H i : Int) : Bool := decide (1 ≤ W ∧ W ≤ 256 ∧ 1 ≤ H ∧ H ≤ 256 ∧ 0 ≤ i ∧ i < W * H)
theorem atB_iff {W H i : Int} : atB W H i = true ↔ 1 ≤ W ∧ W ≤ 256 ∧ 1 ≤ H ∧ H ≤ 256 ∧ 0 ≤ i ∧ i < W * H := by simp [atB]

set_option maxHeartbeats 400000 in
theorem at_yes (W H i : Int) (w : World) (hi : atB W H i = true) :
    Calls Tryd.prog 56 #[.agg #[.int .i64 W, .int .i64 H], .int .i64 i] w fun e w' => e = .returned (.tuple #[.agg #[.int .i64 (i % W), .int .i64 (i / W)], .int .i64 0]) ∧ Below w.heap.size w w' := by
  obtain ⟨h1, h2, h3, h4, h5, h6⟩ := atB_iff.1 hi
  obtain ⟨m1, m2⟩ : 0 ≤ W * H ∧ W * H ≤ 65536 := ⟨Int.mul_nonneg (by omega) (by omega), by have a : W * H ≤ 256 * H := Int.mul_le_mul_of_nonneg_right h2 (by omega); omega⟩
  have hm : mayB W H = true := mayB_iff.2 ⟨h1, h2, h3, h4⟩
  have hz : (W == 0) = false := by simp; omega
  go_enter Tryd.func56, Tryd.ntmps56
  go_wp2_with (go_at_call 33; refine (may_any _ _ _).mono ?_; rintro e w' ⟨rfl, hb⟩; obtain ⟨hc, hf⟩ := bcell hb)
  go_region
  all_goals go_wp2
  have q0 : w'.cell? ⟨w.heap.size + 1, 0, none⟩ = some (.int .i64 0) := (hc _ _ (by simp)).trans (by simp [go_sem])
  have q1 : w'.cell? ⟨w.heap.size + 1, 1, none⟩ = some (.int .i64 0) := (hc _ _ (by simp)).trans (by simp [go_sem])
  clear hc hf
  refine bodyPost_ret (v := .tuple #[.agg #[.int .i64 (i % W), .int .i64 (i / W)], .int .i64 0]) (by simp [results, Tryd.results56, go_sem, q0, q1]) rfl ⟨rfl, ?_⟩
  exact bl_dr (bl_st (bl_st (bl_tr (bl_al (bl_al (bl0 _) _) _) hb) (by omega) _) (by omega) _)
end Go.Proofs.YtldpajfendkhbaaDoor
