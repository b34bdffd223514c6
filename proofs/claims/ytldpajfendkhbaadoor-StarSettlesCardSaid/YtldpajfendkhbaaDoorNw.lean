/- A search by guess: what comes to the goal, against a flood. -/
import Derived.Test.YtldpajfendkhbaaDoorNv
namespace Go.Proofs.YtldpajfendkhbaaDoor
open Go.RowKit

theorem goal_of {A H : Int} {zs : List Int} {F T : IC} {d : Nat → Int} {E1 C1 M1 : Int} {P1 : List IC} (hz : AllH zs) (h1 : seekT A H zs F T zs.length = ⟨E1, P1, C1, M1⟩) (hd : mayB A H = true → (zs.length : Int) = A * H → onB A H F = true → Far (gph A H zs) (numN A F) d) (hE : E1 = 0) :
    mayB A H = true ∧ (zs.length : Int) = A * H ∧ onB A H F = true ∧ onB A H T = true ∧ GoalR A H zs F T d ⟨E1, P1, C1, M1⟩ := by
  by_cases he : errS A H zs.length F T zs.length = 0
  · obtain ⟨q1, q2, q3, _⟩ := errS_ok he
    obtain ⟨hm, hn⟩ := chkF_may q1
    have e1 := seek_ends (budget := ((zs.length : Nat) : Int)) hm hn hz q2 q3 (by omega) (hd hm hn q2)
    rw [h1] at e1
    rcases e1 with ⟨e1, _⟩ | g1 | ⟨_, i1⟩
    · cases e1; cases hE
    · exact ⟨hm, hn, q2, q3, g1⟩
    · omega
  · rw [seek_err he] at h1
    cases h1
    exact absurd hE he
def lsN (d : Nat → Int) (A : Int) (T : IC) (C : Int) (k : Nat) : Nat := (List.range k).countP (fun i => decide (d i ≠ 18446744073709551615 ∧ d i + guessI (cellN A i) T < C))
def msN (d : Nat → Int) (A : Int) (T : IC) (C : Int) (k : Nat) : Nat := (List.range k).countP (fun i => decide (d i ≠ 18446744073709551615 ∧ d i + guessI (cellN A i) T ≤ C))
theorem lsN_next (d : Nat → Int) (A : Int) (T : IC) (C : Int) (k : Nat) : lsN d A T C (k + 1) = lsN d A T C k + if d k ≠ 18446744073709551615 ∧ d k + guessI (cellN A k) T < C then 1 else 0 := by
  unfold lsN
  rw [List.range_succ, List.countP_append]
  simp [List.countP_cons]
theorem msN_next (d : Nat → Int) (A : Int) (T : IC) (C : Int) (k : Nat) : msN d A T C (k + 1) = msN d A T C k + if d k ≠ 18446744073709551615 ∧ d k + guessI (cellN A k) T ≤ C then 1 else 0 := by
  unfold msN
  rw [List.range_succ, List.countP_append]
  simp [List.countP_cons]
theorem lsN_le (d : Nat → Int) (A : Int) (T : IC) (C : Int) (k : Nat) : lsN d A T C k ≤ k ∧ msN d A T C k ≤ k := by
  have h1 := List.countP_le_length (p := fun i => decide (d i ≠ 18446744073709551615 ∧ d i + guessI (cellN A i) T < C)) (l := List.range k)
  have h2 := List.countP_le_length (p := fun i => decide (d i ≠ 18446744073709551615 ∧ d i + guessI (cellN A i) T ≤ C)) (l := List.range k)
  rw [List.length_range] at h1 h2
  exact ⟨h1, h2⟩
theorem GoalR.counts {A H : Int} {zs : List Int} {F T : IC} {d : Nat → Int} {t : Told} (h : GoalR A H zs F T d t) : ((lsN d A T t.C zs.length : Nat) : Int) ≤ t.M ∧ t.M ≤ ((msN d A T t.C zs.length : Nat) : Int) := by
  obtain ⟨m, e, _, _, h1, h2⟩ := h.num
  rw [e]
  exact ⟨by unfold lsN; omega, by unfold msN; omega⟩
end Go.Proofs.YtldpajfendkhbaaDoor
