/- Package mask: its small functions: how many bytes a set has, where a bit stands, which bits are no cell's. -/
import Derived.Test.YtgkeifjnnpcleaaGb
import Derived.Test.YtgkeifjnnpcleaaShelf
namespace Go.Proofs.Ytgkeifjnnpcleaa
open Go.RowKit

set_option maxHeartbeats 400000 in
theorem length_any (W H : Int) (w : World) (hm : mayB W H = true) :
    Calls Try.prog 40 #[.agg #[.int .i64 W, .int .i64 H]] w fun e w' => e = .returned (.int .i64 ((W * H + 7) / 8)) ∧ Below w.heap.size w w' := by
  obtain ⟨h1, h2, h3, h4⟩ := mayB_iff.1 hm
  obtain ⟨m1, m2⟩ : 0 ≤ W * H ∧ W * H ≤ 65536 := ⟨Int.mul_nonneg (by omega) (by omega), by have a : W * H ≤ 256 * H := Int.mul_le_mul_of_nonneg_right h2 (by omega); omega⟩
  go_enter Try.func40, Try.ntmps40
  go_wp2
  go_ret
  exact ⟨rfl, bl_al (bl0 _) _⟩

set_option maxHeartbeats 400000 in
theorem place_any (i : Int) (w : World) (h0 : 0 ≤ i) (h1 : i ≤ 65536) :
    Calls Try.prog 41 #[.int .i64 i] w fun e w' => e = .returned (.tuple #[.int .i64 (i / 8), .int .u8 (2 ^ (i % 8).toNat % 256)]) ∧ Below w.heap.size w w' := by
  go_enter Try.func41, Try.ntmps41
  go_wp2
  go_quiet (fail)
  go_wp2
  go_ret2
  exact ⟨rfl, bl_drn _ _⟩

set_option maxHeartbeats 400000 in
theorem spare_any (W H x : Int) (w : World) (hm : mayB W H = true) :
    Calls Try.prog 44 #[.agg #[.int .i64 W, .int .i64 H], .int .u8 x] w fun e w' => e = .returned (.bool (decide (W * H % 8 ≠ 0 ∧ x / 2 ^ (W * H % 8).toNat ≠ 0))) ∧ Below w.heap.size w w' := by
  obtain ⟨h1, h2, h3, h4⟩ := mayB_iff.1 hm
  obtain ⟨m1, m2⟩ : 0 ≤ W * H ∧ W * H ≤ 65536 := ⟨Int.mul_nonneg (by omega) (by omega), by have a : W * H ≤ 256 * H := Int.mul_le_mul_of_nonneg_right h2 (by omega); omega⟩
  go_enter Try.func44, Try.ntmps44
  go_wp2
  all_goals
    go_ret
    refine ⟨ret_bool (by rw [Bool.eq_iff_iff]; simp [*]), bl_al (bl0 _) _⟩
end Go.Proofs.Ytgkeifjnnpcleaa
