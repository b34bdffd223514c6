/- A search by guess: against a flood, all its ends. -/
import Derived.Test.YtldpajfendkhbaaDoorNw
import Derived.Test.YtldpajfendkhbaaDoorAg
namespace Go.Proofs.YtldpajfendkhbaaDoor
open Go.RowKit

theorem errW_all {A H : Int} {n : Nat} {F : IC} (hn : errW A H n (0, 0, A, H) F = 0) : chkF A H n = 0 ∧ onB A H F = true := by
  obtain ⟨h1, h2, h3⟩ := errW_ok hn
  exact ⟨h1, box_on (b := (0, 0, A, H)) h2 h3⟩
theorem errW_on {A H : Int} {n : Nat} {F : IC} (hc : chkF A H n = 0) (hF : onB A H F = true) : errW A H n (0, 0, A, H) F = 0 := by
  obtain ⟨hm, _⟩ := chkF_may hc
  obtain ⟨a1, a2, a3, a4⟩ := mayB_iff.1 hm
  obtain ⟨b1, b2, b3, b4, b5, b6, b7, b8⟩ := inB_iff.1 hF
  have hR : rightB 0 0 A H = true := rightB_iff.2 ⟨by omega, by omega, by omega, by omega, by omega, by omega, by omega, by omega⟩
  unfold errW
  rw [if_pos hc, if_pos ⟨fitsB_iff.2 ⟨hR, hm, by show 0 < A; omega, by show 0 < H; omega, Int.le_refl _, Int.le_refl _, by show 0 + A ≤ A; omega, by show 0 + H ≤ H; omega⟩, hasB_iff.2 ⟨hR, b5, by show F.1 < 0 + A; omega, b7, by show F.2 < 0 + H; omega⟩⟩]
theorem least_off {A H : Int} {zs : List Int} {F T : IC} {E1 C1 M1 : Int} {P1 : List IC} (h1 : seekT A H zs F T zs.length = ⟨E1, P1, C1, M1⟩) (he : errW A H zs.length (0, 0, A, H) F ≠ 0) : E1 = errW A H zs.length (0, 0, A, H) F ∧ P1 = [] := by
  have hS : errS A H zs.length F T zs.length = errW A H zs.length (0, 0, A, H) F := by
    by_cases hc : chkF A H zs.length = 0
    · have hF : ¬ onB A H F = true := fun q => he (errW_on hc q)
      unfold errS
      rw [if_neg (fun q => q hc), if_neg (fun q => hF q.1)]
      unfold errW at he ⊢
      rw [if_pos hc] at he ⊢
      split at he
      · exact absurd rfl he
      · rename_i q
        rw [if_neg q]
    · unfold errS errW
      rw [if_pos hc, if_neg hc]
  rw [seek_err (by rw [hS]; exact he), hS] at h1
  cases h1
  exact ⟨rfl, rfl⟩
theorem least_on {A H : Int} {zs : List Int} {F T : IC} {d : Nat → Int} {E1 C1 M1 : Int} {P1 : List IC} (hz : AllH zs) (h1 : seekT A H zs F T zs.length = ⟨E1, P1, C1, M1⟩) (he : errW A H zs.length (0, 0, A, H) F = 0) (hd : mayB A H = true → (zs.length : Int) = A * H → Far (gph A H zs) (numN A F) d) :
    (mayB A H = true ∧ (zs.length : Int) = A * H ∧ onB A H F = true) ∧ ((onB A H T = false ∧ E1 = 10 ∧ P1 = []) ∨ (onB A H T = true ∧ ((E1 = 22 ∧ P1 = [] ∧ C1 = 0 ∧ M1 = (reachN A zs T d zs.length : Nat) ∧ d (numN A T) = 18446744073709551615) ∨ GoalR A H zs F T d ⟨E1, P1, C1, M1⟩))) := by
  obtain ⟨hc, hF⟩ := errW_all he
  obtain ⟨hm, hn⟩ := chkF_may hc
  refine ⟨⟨hm, hn, hF⟩, ?_⟩
  by_cases hT : onB A H T = true
  · right
    refine ⟨hT, ?_⟩
    have e1 := seek_ends (budget := ((zs.length : Nat) : Int)) hm hn hz hF hT (by omega) (hd hm hn)
    rw [h1] at e1
    rcases e1 with ⟨e1, i1⟩ | g1 | ⟨_, i1⟩
    · cases e1
      exact .inl ⟨rfl, rfl, rfl, rfl, i1⟩
    · exact .inr g1
    · omega
  · left
    have hS : errS A H zs.length F T zs.length = 10 := by
      unfold errS
      rw [if_neg (fun q => q hc), if_neg (fun q => hT q.2)]
    rw [seek_err (by rw [hS]; decide), hS] at h1
    cases h1
    exact ⟨Bool.eq_false_iff.2 hT, rfl, rfl⟩
theorem path_ok {A H : Int} {zs : List Int} {F T : IC} {d : Nat → Int} {t : Told} (hm : mayB A H = true) (hn : (zs.length : Int) = A * H) (h : GoalR A H zs F T d t) : pathE A H zs t.P (chkF A H zs.length) = 0 ∧ costP A H zs t.P = t.C := by
  have hc : chkF A H (zs.length : Nat) = 0 := by unfold chkF; rw [if_pos hm, if_pos hn]
  have hne : t.P ≠ [] := fun q => by have := h.path.pos; rw [q] at this; simp at this
  have hp : pathE A H zs t.P (chkF A H zs.length) = 0 := by
    unfold pathE
    rw [if_neg (fun q => q hc), if_neg hne]
    exact (isPath_iff hne).2 h.path
  refine ⟨hp, ?_⟩
  unfold costP
  rw [if_pos hp]
  exact h.cost
theorem reachN_next (A : Int) (zs : List Int) (T : IC) (d : Nat → Int) (k : Nat) : reachN A zs T d (k + 1) = reachN A zs T d k + if d k ≠ 18446744073709551615 ∧ zs.getD (numN A T) 0 ≠ 0 then 1 else 0 := by
  unfold reachN
  rw [List.range_succ, List.countP_append]
  simp [List.countP_cons]
theorem reachN_le (A : Int) (zs : List Int) (T : IC) (d : Nat → Int) (k : Nat) : reachN A zs T d k ≤ k := by
  have h1 := List.countP_le_length (p := fun i => decide (d i ≠ 18446744073709551615 ∧ zs.getD (numN A T) 0 ≠ 0)) (l := List.range k)
  rw [List.length_range] at h1
  exact h1
end Go.Proofs.YtldpajfendkhbaaDoor
