/- Whether two fields are the same; whether one is small. -/
import Derived.Test.YtchlbdikpclmlaaVf
namespace Go.Proofs.Ytchlbdikpclmlaa
open Go.RowKit


/-- Whether a field is small. -/
def smallB (W H n : Int) : Bool := decide (n ≤ 600) && (!mayB W H || (decide (W ≤ 24) && decide (H ≤ 24)))
set_option maxHeartbeats 2000000 in
theorem small_any (W H : Int) (a : Option Addr) (n c : Nat) (w : World) :
    Calls Try.prog 16 #[.agg #[.int .i64 W, .int .i64 H, .slice a n c]] w fun e w' => e = .returned (.bool (smallB W H n)) ∧ Below w.heap.size w w' := by
  by_cases hn : (n : Int) ≤ 600
  · cases hm : mayB W H
    · have h4 : smallB W H n = true := by simp [smallB, hn, hm]
      rw [h4]
      clear h4
      go_enter Try.func16, Try.ntmps16
      go_wp2_with (go_at_call 39; refine (rmay_any _ _ _).mono ?_; rintro e w' ⟨rfl, hb⟩; obtain ⟨hcc, hf⟩ := bcell hb)
      go_ret
      exact ⟨rfl, bl_tr (bl_al (bl0 _) _) hb⟩
    · have h4 : smallB W H n = (decide (W ≤ 24) && decide (H ≤ 24)) := by simp [smallB, hn, hm]
      rw [h4]
      clear h4
      by_cases h5 : W ≤ 24
      · go_enter Try.func16, Try.ntmps16
        go_wp2_with (go_at_call 39; refine (rmay_any _ _ _).mono ?_; rintro e w' ⟨rfl, hb⟩; obtain ⟨hcc, hf⟩ := bcell hb)
        go_ret
        exact ⟨ret_bool (by simp [h5]), bl_tr (bl_al (bl0 _) _) hb⟩
      · go_enter Try.func16, Try.ntmps16
        go_wp2_with (go_at_call 39; refine (rmay_any _ _ _).mono ?_; rintro e w' ⟨rfl, hb⟩; obtain ⟨hcc, hf⟩ := bcell hb)
        go_ret
        exact ⟨ret_bool (by simp; omega), bl_tr (bl_al (bl0 _) _) hb⟩
  · have h4 : smallB W H n = false := by simp [smallB, hn]
    rw [h4]
    clear h4
    go_enter Try.func16, Try.ntmps16
    go_wp2
    go_ret
    exact ⟨rfl, bl_al (bl0 _) _⟩
end Go.Proofs.Ytchlbdikpclmlaa
