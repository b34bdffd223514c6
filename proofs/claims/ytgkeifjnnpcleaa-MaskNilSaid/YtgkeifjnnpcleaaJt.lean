/- Package geom: the contract of At outside a map, and anywhere. -/
import Derived.Test.YtgkeifjnnpcleaaGb
namespace Go.Proofs.Ytgkeifjnnpcleaa
open Go.RowKit

set_option maxHeartbeats 400000 in
theorem at_no (W H i : Int) (w : World) (hi : atB W H i = false) :
    Calls Try.prog 51 #[.agg #[.int .i64 W, .int .i64 H], .int .i64 i] w fun e w' => e = .returned (.tuple #[.agg #[.int .i64 0, .int .i64 0], .int .i64 10]) ∧ Below w.heap.size w w' := by
  have hi' : ¬ (1 ≤ W ∧ W ≤ 256 ∧ 1 ≤ H ∧ H ≤ 256 ∧ 0 ≤ i ∧ i < W * H) := by simpa [atB] using hi
  cases hm : mayB W H
  · go_enter Try.func51, Try.ntmps51
    go_wp2_with (go_at_call 27; refine (may_any _ _ _).mono ?_; rintro e w' ⟨rfl, hb⟩; obtain ⟨hc, hf⟩ := bcell hb)
    have q0 : w'.cell? ⟨w.heap.size + 1, 0, none⟩ = some (.int .i64 0) := (hc _ _ (by simp)).trans (by simp [go_sem])
    have q1 : w'.cell? ⟨w.heap.size + 1, 1, none⟩ = some (.int .i64 0) := (hc _ _ (by simp)).trans (by simp [go_sem])
    clear hc hf
    refine bodyPost_ret (v := .tuple #[.agg #[.int .i64 0, .int .i64 0], .int .i64 10]) (by simp [results, Try.results51, go_sem, q0, q1]) rfl ⟨rfl, ?_⟩
    exact bl_st (bl_st (bl_tr (bl_al (bl_al (bl0 _) _) _) hb) (by omega) _) (by omega) _
  · obtain ⟨h1, h2, h3, h4⟩ := mayB_iff.1 hm
    obtain ⟨m1, m2⟩ : 0 ≤ W * H ∧ W * H ≤ 65536 := ⟨Int.mul_nonneg (by omega) (by omega), by have a : W * H ≤ 256 * H := Int.mul_le_mul_of_nonneg_right h2 (by omega); omega⟩
    have hj : i < 0 ∨ W * H ≤ i := by omega
    clear hi'
    by_cases hl : i < 0
    all_goals
      go_enter Try.func51, Try.ntmps51
      go_wp2_with (go_at_call 27; refine (may_any _ _ _).mono ?_; rintro e w' ⟨rfl, hb⟩; obtain ⟨hc, hf⟩ := bcell hb)
      have q0 : w'.cell? ⟨w.heap.size + 1, 0, none⟩ = some (.int .i64 0) := (hc _ _ (by simp)).trans (by simp [go_sem])
      have q1 : w'.cell? ⟨w.heap.size + 1, 1, none⟩ = some (.int .i64 0) := (hc _ _ (by simp)).trans (by simp [go_sem])
      clear hc hf
      refine bodyPost_ret (v := .tuple #[.agg #[.int .i64 0, .int .i64 0], .int .i64 10]) (by simp [results, Try.results51, go_sem, q0, q1]) rfl ⟨rfl, ?_⟩
      exact bl_st (bl_st (bl_tr (bl_al (bl_al (bl0 _) _) _) hb) (by omega) _) (by omega) _

/-- The cell that At answers. -/
def cellAt (X Y i : Int) : Int × Int := if atB X Y i = true then (i % X, i / X) else (0, 0)
theorem at_any (X Y i : Int) (w : World) : Calls Try.prog 51 #[.agg #[.int .i64 X, .int .i64 Y], .int .i64 i] w fun e w' =>
    ∃ r : Int, e = .returned (.tuple #[.agg #[.int .i64 (cellAt X Y i).1, .int .i64 (cellAt X Y i).2], .int .i64 r]) ∧ Below w.heap.size w w' := by
  cases h : atB X Y i
  · refine (at_no X Y i w h).mono ?_
    rintro e w' ⟨rfl, hb⟩
    exact ⟨10, by simp [cellAt, h], hb⟩
  · refine (at_yes X Y i w h).mono ?_
    rintro e w' ⟨rfl, hb⟩
    exact ⟨0, by simp [cellAt, h], hb⟩
end Go.Proofs.Ytgkeifjnnpcleaa
