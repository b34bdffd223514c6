/- Paths one behind the other: their mathematics. -/
import Derived.Test.YtlmloedjakpogabDoorAt
import Derived.Test.YtlmloedjakpogabDoorAp
namespace Go.Proofs.YtlmloedjakpogabDoor
open Go.RowKit

section
variable {A B : Int} {zs : List Int} {a b : List IC}
theorem jn_len (h : joinOk a b) : (a ++ b.tail).length = a.length + b.length - 1 := by
  have h1 := List.length_pos_iff.2 h.2.1
  rw [List.length_append, List.length_tail]
  omega
theorem jn_fst {k : Nat} (hk : k < a.length) : cK (a ++ b.tail) k = cK a k := by
  unfold cK
  rw [List.getD_eq_getElem?_getD, List.getD_eq_getElem?_getD, List.getElem?_append_left hk]
theorem jn_snd (h : joinOk a b) {k : Nat} (hk : k < b.length) : cK (a ++ b.tail) (a.length - 1 + k) = cK b k := by
  have h1 := List.length_pos_iff.2 h.1
  cases k with
  | zero => rw [Nat.add_zero, jn_fst (by omega)]; exact h.2.2
  | succ k =>
    unfold cK
    rw [List.getD_eq_getElem?_getD, List.getD_eq_getElem?_getD, List.getElem?_append_right (by omega), List.getElem?_tail]
    rw [show a.length - 1 + (k + 1) - a.length + 1 = k + 1 by omega]
theorem jn_take : (a ++ b.tail).take a.length = a := by simp
theorem jn_drop (h : joinOk a b) : (a ++ b.tail).drop (a.length - 1) = b := by
  have h1 := List.length_pos_iff.2 h.1
  have h2 := List.length_pos_iff.2 h.2.1
  have hl := jn_len h
  refine list_ext (by rw [List.length_drop, hl]; omega) fun k hk => ?_
  rw [List.length_drop, hl] at hk
  have e : cK ((a ++ b.tail).drop (a.length - 1)) k = cK (a ++ b.tail) (a.length - 1 + k) := by
    unfold cK
    rw [List.getD_eq_getElem?_getD, List.getD_eq_getElem?_getD, List.getElem?_drop]
  rw [e, jn_snd h (by omega)]
theorem jn_atA {k : Nat} (hk : k < a.length) : pathAt A B zs (a ++ b.tail) k = pathAt A B zs a k := by
  cases k with
  | zero => show errC _ _ _ _ = errC _ _ _ _; rw [jn_fst hk]
  | succ k => show errP _ _ _ _ _ = errP _ _ _ _ _; rw [jn_fst (by omega), jn_fst hk]
theorem jn_atB (h : joinOk a b) {k : Nat} (hk : k + 1 < b.length) : pathAt A B zs (a ++ b.tail) (a.length - 1 + (k + 1)) = pathAt A B zs b (k + 1) := by
  show errP A B zs (cK (a ++ b.tail) (a.length - 1 + k)) (cK (a ++ b.tail) (a.length - 1 + k + 1)) = errP A B zs (cK b k) (cK b (k + 1))
  rw [show a.length - 1 + k + 1 = a.length - 1 + (k + 1) by omega, jn_snd h (by omega), jn_snd h hk]
theorem jn_path (h : joinOk a b) (chk : Int) : pathE A B zs (a ++ b.tail) chk = if pathE A B zs a chk = 0 then pathE A B zs b chk else pathE A B zs a chk := by
  by_cases hc : chk = 0
  case neg =>
    unfold pathE
    rw [if_pos hc, if_pos hc, if_pos hc, if_neg hc]
  case pos =>
    have h1 := List.length_pos_iff.2 h.1
    have h2 := List.length_pos_iff.2 h.2.1
    have hl := jn_len h
    have hne : a ++ b.tail ≠ [] := by simp [h.1]
    rw [pathE_at hc hne, pathE_at hc h.1, pathE_at hc h.2.1]
    have hA : firstE (pathAt A B zs (a ++ b.tail)) a.length = firstE (pathAt A B zs a) a.length := firstE_congr fun k hk => jn_atA hk
    by_cases h0 : firstE (pathAt A B zs a) a.length = 0
    · rw [if_pos h0]
      have hpa := (isPath_iff h.1).1 h0
      have hb0 : pathAt A B zs b 0 = 0 := by
        show errC A B zs (cK b 0) = 0
        unfold errC
        rw [← h.2.2, if_pos (hpa.on _ (by omega)), if_neg (hpa.cost _ (by omega))]
      have key : ∀ n, n + 1 ≤ b.length → firstE (pathAt A B zs (a ++ b.tail)) (a.length - 1 + (n + 1)) = firstE (pathAt A B zs b) (n + 1) := by
        intro n
        induction n with
        | zero =>
          intro _
          rw [show a.length - 1 + (0 + 1) = a.length by omega, hA, h0]
          show 0 = firstE (pathAt A B zs b) 1
          rw [firstE_next rfl, hb0]
        | succ n ih =>
          intro hn
          have ih := ih (by omega)
          have e := jn_atB (A := A) (B := B) (zs := zs) h (k := n) (by omega)
          show firstE _ (a.length - 1 + (n + 1) + 1) = firstE _ (n + 1 + 1)
          rw [firstE, firstE, ih, e]
      have := key (b.length - 1) (by omega)
      rw [show b.length - 1 + 1 = b.length by omega, show a.length - 1 + b.length = (a ++ b.tail).length by omega] at this
      exact this
    · rw [if_neg h0, firstE_stop (k := a.length) (by rw [hA]; exact h0) (by omega), hA]
theorem jn_cost (h : joinOk a b) : costS A zs (a ++ b.tail).tail = costS A zs a.tail + costS A zs b.tail := by
  obtain ⟨x, xs, rfl⟩ := List.exists_cons_of_ne_nil h.1
  simp [costS]
theorem jn_movL (h : joinOk a b) : movL (a ++ b.tail) = movL a ++ movL b := by
  have h1 := List.length_pos_iff.2 h.1
  have h2 := List.length_pos_iff.2 h.2.1
  have hl := jn_len h
  refine list_extI (by rw [List.length_append, movL_len, movL_len, movL_len, hl]; omega) fun k hk => ?_
  rw [movL_len, hl] at hk
  rw [movL_at (by omega)]
  by_cases hka : k < a.length - 1
  · have e : (movL a ++ movL b).getD k 0 = (movL a).getD k 0 := by
      rw [List.getD_eq_getElem?_getD, List.getD_eq_getElem?_getD, List.getElem?_append_left (by rw [movL_len]; exact hka)]
    rw [e, movL_at (by omega), jn_fst (by omega), jn_fst (by omega)]
  · obtain ⟨m, rfl⟩ : ∃ m, k = a.length - 1 + m := ⟨k - (a.length - 1), by omega⟩
    have e : (movL a ++ movL b).getD (a.length - 1 + m) 0 = (movL b).getD m 0 := by
      rw [List.getD_eq_getElem?_getD, List.getD_eq_getElem?_getD, List.getElem?_append_right (by rw [movL_len]; omega), movL_len]
      rw [show a.length - 1 + m - (a.length - 1) = m by omega]
    rw [e, movL_at (by omega), jn_snd h (by omega), show a.length - 1 + m + 1 = a.length - 1 + (m + 1) by omega, jn_snd h (by omega)]
end
end Go.Proofs.YtlmloedjakpogabDoor
