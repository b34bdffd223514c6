/- Package geom: contracts of At outside a map, and of boxes. -/
import Derived.Test.YtldpajfendkhbaaDoorGc
namespace Go.Proofs.YtldpajfendkhbaaDoor
open Go.RowKit

set_option maxHeartbeats 400000 in
theorem at_no (W H i : Int) (w : World) (hi : atB W H i = false) :
    Calls Tryd.prog 56 #[.agg #[.int .i64 W, .int .i64 H], .int .i64 i] w fun e w' => e = .returned (.tuple #[.agg #[.int .i64 0, .int .i64 0], .int .i64 10]) ∧ Below w.heap.size w w' := by
  have hi' : ¬ (1 ≤ W ∧ W ≤ 256 ∧ 1 ≤ H ∧ H ≤ 256 ∧ 0 ≤ i ∧ i < W * H) := by simpa [atB] using hi
  cases hm : mayB W H
  · go_enter Tryd.func56, Tryd.ntmps56
    go_wp2_with (go_at_call 33; refine (may_any _ _ _).mono ?_; rintro e w' ⟨rfl, hb⟩; obtain ⟨hc, hf⟩ := bcell hb)
    have q0 : w'.cell? ⟨w.heap.size + 1, 0, none⟩ = some (.int .i64 0) := (hc _ _ (by simp)).trans (by simp [go_sem])
    have q1 : w'.cell? ⟨w.heap.size + 1, 1, none⟩ = some (.int .i64 0) := (hc _ _ (by simp)).trans (by simp [go_sem])
    clear hc hf
    refine bodyPost_ret (v := .tuple #[.agg #[.int .i64 0, .int .i64 0], .int .i64 10]) (by simp [results, Tryd.results56, go_sem, q0, q1]) rfl ⟨rfl, ?_⟩
    exact bl_st (bl_st (bl_tr (bl_al (bl_al (bl0 _) _) _) hb) (by omega) _) (by omega) _
  · obtain ⟨h1, h2, h3, h4⟩ := mayB_iff.1 hm
    obtain ⟨m1, m2⟩ : 0 ≤ W * H ∧ W * H ≤ 65536 := ⟨Int.mul_nonneg (by omega) (by omega), by have a : W * H ≤ 256 * H := Int.mul_le_mul_of_nonneg_right h2 (by omega); omega⟩
    have hj : i < 0 ∨ W * H ≤ i := by omega
    clear hi'
    by_cases hl : i < 0
    all_goals
      go_enter Tryd.func56, Tryd.ntmps56
      go_wp2_with (go_at_call 33; refine (may_any _ _ _).mono ?_; rintro e w' ⟨rfl, hb⟩; obtain ⟨hc, hf⟩ := bcell hb)
      have q0 : w'.cell? ⟨w.heap.size + 1, 0, none⟩ = some (.int .i64 0) := (hc _ _ (by simp)).trans (by simp [go_sem])
      have q1 : w'.cell? ⟨w.heap.size + 1, 1, none⟩ = some (.int .i64 0) := (hc _ _ (by simp)).trans (by simp [go_sem])
      clear hc hf
      refine bodyPost_ret (v := .tuple #[.agg #[.int .i64 0, .int .i64 0], .int .i64 10]) (by simp [results, Tryd.results56, go_sem, q0, q1]) rfl ⟨rfl, ?_⟩
      exact bl_st (bl_st (bl_tr (bl_al (bl_al (bl0 _) _) _) hb) (by omega) _) (by omega) _

def rightB (X Y W H : Int) : Bool := decide (-1048576 ≤ X ∧ X ≤ 1048576 ∧ -1048576 ≤ Y ∧ Y ≤ 1048576 ∧ 0 ≤ W ∧ W ≤ 256 ∧ 0 ≤ H ∧ H ≤ 256)
theorem rightB_iff {X Y W H : Int} : rightB X Y W H = true ↔ -1048576 ≤ X ∧ X ≤ 1048576 ∧ -1048576 ≤ Y ∧ Y ≤ 1048576 ∧ 0 ≤ W ∧ W ≤ 256 ∧ 0 ≤ H ∧ H ≤ 256 := by simp [rightB]
def hasB (X Y W H A B : Int) : Bool := rightB X Y W H && decide (X ≤ A ∧ A < X + W ∧ Y ≤ B ∧ B < Y + H)
theorem hasB_iff {X Y W H A B : Int} : hasB X Y W H A B = true ↔ rightB X Y W H = true ∧ X ≤ A ∧ A < X + W ∧ Y ≤ B ∧ B < Y + H := by simp [hasB]
def fitsB (U V X Y W H : Int) : Bool := rightB X Y W H && mayB U V && decide (0 < W ∧ 0 < H ∧ 0 ≤ X ∧ 0 ≤ Y ∧ X + W ≤ U ∧ Y + H ≤ V)
theorem fitsB_iff {U V X Y W H : Int} : fitsB U V X Y W H = true ↔ rightB X Y W H = true ∧ mayB U V = true ∧ 0 < W ∧ 0 < H ∧ 0 ≤ X ∧ 0 ≤ Y ∧ X + W ≤ U ∧ Y + H ≤ V := by simp [fitsB, and_assoc]

set_option maxHeartbeats 800000 in
theorem right_any (X Y W H : Int) (w : World) :
    Calls Tryd.prog 59 #[.agg #[.int .i64 X, .int .i64 Y, .int .i64 W, .int .i64 H]] w fun e w' => e = .returned (.bool (rightB X Y W H)) ∧ Below w.heap.size w w' := by
  cases hx : nearB X <;> cases hy : nearB Y
  all_goals
    go_enter Tryd.func59, Tryd.ntmps59
    go_wp2_with (go_at_call 65; refine (near_any _ _).mono ?_; rintro e w' ⟨rfl, rfl⟩)
    all_goals
      go_ret
      refine ⟨ret_bool (by rw [Bool.eq_iff_iff]; have hx' := @nearB_iff X; have hy' := @nearB_iff Y; simp_all [rightB] <;> omega), ?_⟩
      exact bl_al (bl0 _) _

set_option maxHeartbeats 800000 in
theorem has_any (X Y W H A B : Int) (w : World) :
    Calls Tryd.prog 43 #[.agg #[.int .i64 X, .int .i64 Y, .int .i64 W, .int .i64 H], .agg #[.int .i64 A, .int .i64 B]] w fun e w' => e = .returned (.bool (hasB X Y W H A B)) ∧ Below w.heap.size w w' := by
  cases hr : rightB X Y W H
  · go_enter Tryd.func43, Tryd.ntmps43
    go_wp2_with (go_at_call 59; refine (right_any _ _ _ _ _).mono ?_; rintro e w' ⟨rfl, hb⟩; obtain ⟨hc, hf⟩ := bcell hb)
    go_ret
    exact ⟨ret_bool (by simp [hasB, hr]), bl_tr (bl_al (bl_al (bl0 _) _) _) hb⟩
  · obtain ⟨h1, h2, h3, h4, h5, h6, h7, h8⟩ := rightB_iff.1 hr
    go_enter Tryd.func43, Tryd.ntmps43
    go_wp2_with (go_at_call 59; refine (right_any _ _ _ _ _).mono ?_; rintro e w' ⟨rfl, hb⟩; obtain ⟨hc, hf⟩ := bcell hb)
    all_goals
      go_ret
      refine ⟨ret_bool (by rw [Bool.eq_iff_iff]; simp [hasB, hr]; try omega), ?_⟩
      exact bl_tr (bl_al (bl_al (bl0 _) _) _) hb

set_option maxHeartbeats 800000 in
theorem fits_any (U V X Y W H : Int) (w : World) :
    Calls Tryd.prog 42 #[.agg #[.int .i64 U, .int .i64 V], .agg #[.int .i64 X, .int .i64 Y, .int .i64 W, .int .i64 H]] w fun e w' => e = .returned (.bool (fitsB U V X Y W H)) ∧ Below w.heap.size w w' := by
  cases hr : rightB X Y W H
  · go_enter Tryd.func42, Tryd.ntmps42
    go_wp2_with (go_at_call 59; refine (right_any _ _ _ _ _).mono ?_; rintro e w' ⟨rfl, hb⟩; obtain ⟨hc, hf⟩ := bcell hb)
    go_ret
    exact ⟨ret_bool (by simp [fitsB, hr]), bl_tr (bl_al (bl_al (bl0 _) _) _) hb⟩
  · obtain ⟨h1, h2, h3, h4, h5, h6, h7, h8⟩ := rightB_iff.1 hr
    by_cases hw : W = 0
    · subst hw
      go_enter Tryd.func42, Tryd.ntmps42
      go_wp2_with (go_at_call 59; refine (right_any _ _ _ _ _).mono ?_; rintro e w' ⟨rfl, hb⟩; obtain ⟨hc, hf⟩ := bcell hb)
      go_ret
      exact ⟨ret_bool (by simp [fitsB]), bl_tr (bl_al (bl_al (bl0 _) _) _) hb⟩
    by_cases hh : H = 0
    · subst hh
      have hw' : (W == 0) = false := by simpa using hw
      go_enter Tryd.func42, Tryd.ntmps42
      go_wp2_with (go_at_call 59; refine (right_any _ _ _ _ _).mono ?_; rintro e w' ⟨rfl, hb⟩; obtain ⟨hc, hf⟩ := bcell hb)
      go_ret
      exact ⟨ret_bool (by simp [fitsB]), bl_tr (bl_al (bl_al (bl0 _) _) _) hb⟩
    have hw' : (W == 0) = false := by simpa using hw
    have hh' : (H == 0) = false := by simpa using hh
    cases ha : inB U V X Y
    · go_enter Tryd.func42, Tryd.ntmps42
      go_wp2_with (first
        | (go_at_call 59; refine (right_any _ _ _ _ _).mono ?_; rintro e w' ⟨rfl, hb⟩; obtain ⟨hc, hf⟩ := bcell hb)
        | (go_at_call 21; refine (in_any _ _ _ _ _).mono ?_; rintro e w2 ⟨rfl, hb2⟩; obtain ⟨hc2, hf2⟩ := bcell hb2))
      go_ret
      refine ⟨ret_bool ?_, bl_tr (bl_tr (bl_al (bl_al (bl0 _) _) _) hb) hb2⟩
      rw [Bool.eq_iff_iff]; simp [inB] at ha; simp [fitsB, hr, mayB]; omega
    · have hi := inB_iff.1 ha
      have s1 : 0 ≤ X + W - 1 := by omega
      have s2 : 0 ≤ Y + H - 1 := by omega
      go_enter Tryd.func42, Tryd.ntmps42
      go_wp2_with (go_at_call 59; refine (right_any _ _ _ _ _).mono ?_; rintro e w1 ⟨rfl, hb⟩; obtain ⟨hc, hf⟩ := bcell hb)
      refine (in_any _ _ _ _ _).mono ?_
      rintro e w2 ⟨rfl, hb2⟩
      replace hb := bl_tr hb hb2
      clear hc hf hb2
      obtain ⟨hc, hf⟩ := bcell hb
      go_wp2_with fail
      refine (in_any _ _ _ _ _).mono ?_
      rintro e w3 ⟨rfl, hb3⟩
      go_wp2
      go_ret
      refine ⟨ret_bool ?_, bl_tr (bl_tr (bl_al (bl_al (bl0 _) _) _) hb) hb3⟩
      rw [Bool.eq_iff_iff]; simp only [fitsB_iff, mayB_iff, hr]; simp [inB]; omega
end Go.Proofs.YtldpajfendkhbaaDoor
