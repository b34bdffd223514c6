/- A path the other way round: its mathematics. -/
import Derived.Test.YtlmloedjakpogabDoorAt
import Derived.Test.YtlmloedjakpogabDoorAp
namespace Go.Proofs.YtlmloedjakpogabDoor
open Go.RowKit

theorem rev_at {l : List IC} {k : Nat} (h : k < l.length) : cK l.reverse k = cK l (l.length - 1 - k) := by
  unfold cK
  rw [List.getD_eq_getElem?_getD, List.getD_eq_getElem?_getD, List.getElem?_reverse h]
/-- The opposite direction. -/
def oppI (d : Int) : Int := if d = 0 then 2 else if d = 1 then 3 else if d = 2 then 0 else 1
theorem dir_four {dx dy : Int} (h : dirI dx dy ≠ -1) : (dx = 0 ∧ dy = -1) ∨ (dx = 1 ∧ dy = 0) ∨ (dx = 0 ∧ dy = 1) ∨ (dx = -1 ∧ dy = 0) := by
  unfold dirI at h
  split at h
  · left; assumption
  · split at h
    · right; left; assumption
    · split at h
      · right; right; left; assumption
      · split at h
        · right; right; right; assumption
        · exact absurd rfl h
theorem bes_back {p q : IC} (h : besI p q ≠ -1) : besI q p = oppI (besI p q) := by
  obtain ⟨a, b⟩ := p
  obtain ⟨c, d⟩ := q
  unfold besI at h ⊢
  simp only at h ⊢
  rw [show a - c = -(c - a) by omega, show b - d = -(d - b) by omega]
  generalize c - a = dx at *
  generalize d - b = dy at *
  rcases dir_four h with ⟨rfl, rfl⟩ | ⟨rfl, rfl⟩ | ⟨rfl, rfl⟩ | ⟨rfl, rfl⟩ <;> rfl
theorem oppI_ne {d : Int} : oppI d ≠ -1 := by unfold oppI; split <;> first | omega | (split <;> first | omega | (split <;> omega))
section
variable {A B : Int} {zs : List Int} {l : List IC}
theorem IsPath.rev (h : IsPath A B zs l) : IsPath A B zs l.reverse := by
  refine ⟨by rw [List.length_reverse]; exact h.pos, fun k hk => ?_, fun k hk => ?_, fun k hk => ?_⟩
  · rw [List.length_reverse] at hk
    rw [rev_at hk]
    exact h.on _ (by omega)
  · rw [List.length_reverse] at hk
    rw [rev_at (by omega), rev_at hk]
    obtain ⟨j, hj⟩ : ∃ j, l.length - 1 - (k + 1) = j := ⟨_, rfl⟩
    rw [hj, show l.length - 1 - k = j + 1 by omega, bes_back (h.bes j (by omega))]
    exact oppI_ne
  · rw [List.length_reverse] at hk
    rw [rev_at hk]
    exact h.cost _ (by omega)
theorem rev_movL (h : IsPath A B zs l) {q : Nat} (hq : q + 1 < l.length) : (movL l.reverse).getD (l.length - 1 - 1 - q) 0 = oppI ((movL l).getD q 0) := by
  rw [movL_at hq, movL_at (by rw [List.length_reverse]; omega), rev_at (by omega), rev_at (by omega)]
  rw [show l.length - 1 - (l.length - 1 - 1 - q) = q + 1 by omega, show l.length - 1 - (l.length - 1 - 1 - q + 1) = q by omega]
  exact bes_back (h.bes q hq)
end
theorem pathE_rev {A B : Int} {zs : List Int} {l : List IC} : pathE A B zs l (chkF A B zs.length) = 0 ↔ pathE A B zs l.reverse (chkF A B zs.length) = 0 := by
  have key : ∀ m : List IC, pathE A B zs m (chkF A B zs.length) = 0 → pathE A B zs m.reverse (chkF A B zs.length) = 0 := by
    intro m h
    obtain ⟨hc, hne, hok⟩ := pathE_ok h
    have hp := ((isPath_iff hne).1 hok).rev
    have hne2 : m.reverse ≠ [] := by simpa using hne
    unfold pathE
    rw [if_neg (fun e => e hc), if_neg hne2]
    exact (isPath_iff hne2).2 hp
  exact ⟨key l, fun h => by have := key _ h; rw [List.reverse_reverse] at this; exact this⟩
theorem costS_cons {A : Int} {zs : List Int} {l : List IC} (h : l ≠ []) : costS A zs l = costAt A zs (cK l 0) + costS A zs l.tail := by
  cases l with
  | nil => exact absurd rfl h
  | cons c l => simp [costS, cK]
theorem costS_rev (A : Int) (zs : List Int) (l : List IC) : costS A zs l.reverse = costS A zs l := by
  induction l with
  | nil => rfl
  | cons c l ih =>
    rw [List.reverse_cons, costS_snoc, ih]
    simp [costS]
    omega
theorem cost_turn {A : Int} {zs : List Int} {l : List IC} (h : l ≠ []) : costS A zs l.tail + costAt A zs (cK l 0) = costS A zs l.reverse.tail + costAt A zs (cK l (l.length - 1)) := by
  have h1 := costS_cons (A := A) (zs := zs) h
  have h2 := costS_cons (A := A) (zs := zs) (l := l.reverse) (by simpa using h)
  have hp := List.length_pos_iff.2 h
  rw [costS_rev, rev_at hp, Nat.sub_zero] at h2
  omega
end Go.Proofs.YtlmloedjakpogabDoor
