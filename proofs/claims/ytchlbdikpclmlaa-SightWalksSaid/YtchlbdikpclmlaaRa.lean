/- The document's answers for geom: contracts of the reference's plain functions. -/
import Derived.Test.YtchlbdikpclmlaaGc
namespace Go.Proofs.Ytchlbdikpclmlaa
open Go.RowKit

set_option maxHeartbeats 400000 in
theorem rmay_any (W H : Int) (w : World) :
    Calls Try.prog 39 #[.agg #[.int .i64 W, .int .i64 H]] w fun e w' => e = .returned (.bool (mayB W H)) ∧ Below w.heap.size w w' := by
  go_enter Try.func39, Try.ntmps39
  go_wp2
  all_goals
    go_ret
    exact ⟨ret_bool (by rw [Bool.eq_iff_iff]; simp [mayB]; try omega), bl_al (bl0 _) _⟩

set_option maxHeartbeats 400000 in
theorem rin_any (W H X Y : Int) (w : World) :
    Calls Try.prog 20 #[.agg #[.int .i64 W, .int .i64 H], .agg #[.int .i64 X, .int .i64 Y]] w fun e w' => e = .returned (.bool (inB W H X Y)) ∧ Below w.heap.size w w' := by
  by_cases hm : mayB W H = true
  all_goals
    go_enter Try.func20, Try.ntmps20
    go_wp2_with (go_at_call 39; refine (rmay_any _ _ _).mono ?_; rintro e w' ⟨rfl, hb⟩; obtain ⟨hc, hf⟩ := bcell hb)
    all_goals
      go_ret
      refine ⟨ret_bool (by rw [Bool.eq_iff_iff]; have hm' := @mayB_iff W H; simp_all [inB] <;> omega), ?_⟩
      exact bl_tr (bl_al (bl_al (bl0 _) _) _) hb

set_option maxHeartbeats 400000 in
theorem rplain_any (X Y : Int) (w : World) :
    Calls Try.prog 11 #[.agg #[.int .i64 X, .int .i64 Y]] w fun e w' => e = .returned (.bool (plainB X Y)) ∧ Below w.heap.size w w' := by
  go_enter Try.func11, Try.ntmps11
  go_wp2
  all_goals
    go_ret
    exact ⟨ret_bool (by rw [Bool.eq_iff_iff]; simp [plainB]; try omega), bl_al (bl0 _) _⟩

set_option maxHeartbeats 400000 in
theorem rabs_any (a b : Int) (w : World) (h1 : -1048576 ≤ a) (h2 : a ≤ 1048576) (h3 : -1048576 ≤ b) (h4 : b ≤ 1048576) :
    Calls Try.prog 37 #[.int .i64 (a - b)] w fun e w' => e = .returned (.int .i64 (apartI a b)) ∧ w' = w := by
  go_enter Try.func37, Try.ntmps37
  go_wp2
  all_goals
    go_ret
    exact ⟨ret_int (by unfold apartI; omega), rfl⟩


set_option maxHeartbeats 400000 in
theorem rfar_any (X Y Z V : Int) (w : World) (hp : plainB X Y = true) (hq : plainB Z V = true) :
    Calls Try.prog 13 #[.agg #[.int .i64 X, .int .i64 Y], .agg #[.int .i64 Z, .int .i64 V]] w fun e w' => e = .returned (.int .i64 (max (apartI X Z) (apartI Y V))) ∧ Below w.heap.size w w' := by
  obtain ⟨a1, a2, a3, a4⟩ := plainB_iff.1 hp
  obtain ⟨b1, b2, b3, b4⟩ := plainB_iff.1 hq
  obtain ⟨c1, c2⟩ := apartI_bd a1 a2 b1 b2
  obtain ⟨d1, d2⟩ := apartI_bd a3 a4 b3 b4
  go_enter Try.func13, Try.ntmps13
  go_wp2
  go_quiet ((go_at_call 37; exact Calls.quiet_of_same (rabs_any _ _ _ (by omega) (by omega) (by omega) (by omega))))
  all_goals go_wp2
  all_goals
    go_ret
    exact ⟨ret_int (by omega), bl_tr (bl_al (bl_al (bl0 _) _) _) (bl_drn _ _)⟩
end Go.Proofs.Ytchlbdikpclmlaa
