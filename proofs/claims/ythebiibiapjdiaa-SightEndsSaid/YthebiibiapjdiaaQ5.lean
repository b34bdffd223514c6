/- Texts joined: Sm. -/
import Derived.Test.YthebiibiapjdiaaQ4
/- Sight: what is seen along a line ends with the first wall. -/
namespace Go.Proofs.Ythebiibiapjdiaa
open Go.RowKit

theorem takeTo_free_at (wl : Int × Int → Bool) : ∀ (l : List (Int × Int)) (i : Nat) (c : Int × Int), (takeTo wl l)[i]? = some c → i + 1 < (takeTo wl l).length → wl c = false
  | [], i, c, h, _ => by simp [takeTo] at h
  | d :: r, i, c, h, hl => by
    rw [takeTo] at h hl
    cases hd : wl d with
    | true => rw [if_pos hd] at hl; simp at hl
    | false =>
      rw [if_neg (by rw [hd]; decide)] at h hl
      cases i with
      | zero => simp at h; rw [← h]; exact hd
      | succ i => exact takeTo_free_at wl r i c (by simpa using h) (by simp at hl; omega)
theorem takeTo_last (wl : Int × Int → Bool) : ∀ (l : List (Int × Int)), (takeTo wl l).length < l.length → ∃ m c, (takeTo wl l).length = m + 1 ∧ (takeTo wl l)[m]? = some c ∧ wl c = true
  | [], h => by simp [takeTo] at h
  | d :: r, h => by
    rw [takeTo] at h ⊢
    cases hd : wl d with
    | true => exact ⟨0, d, by simp, by simp, hd⟩
    | false =>
      rw [if_neg (by rw [hd]; decide)] at h
      simp only [Bool.false_eq_true, if_false]
      obtain ⟨m, c, h1, h2, h3⟩ := takeTo_last wl r (by simp at h; omega)
      exact ⟨m + 1, c, by simp [h1], by simpa using h2, h3⟩
theorem walkL_free_at (wl : Int × Int → Bool) (l : List (Int × Int)) {i : Nat} {c : Int × Int} (h : (walkL wl l)[i]? = some c) (h0 : 0 < i) (hl : i + 1 < (walkL wl l).length) : wl c = false := by
  cases l with
  | nil => simp [walkL] at h
  | cons d r =>
    rw [walkL] at h hl
    obtain ⟨j, rfl⟩ : ∃ j, i = j + 1 := ⟨i - 1, by omega⟩
    exact takeTo_free_at wl r j c (by simpa using h) (by simp at hl; omega)
theorem walkL_last (wl : Int × Int → Bool) (l : List (Int × Int)) {m : Nat} {c : Int × Int} (hm : (walkL wl l).length = m + 1) (h : (walkL wl l)[m]? = some c) (hl : m + 1 < l.length) : 0 < m ∧ wl c = true := by
  cases l with
  | nil => simp at hl
  | cons d r =>
    rw [walkL] at hm h
    obtain ⟨j, e, h1, h2, h3⟩ := takeTo_last wl r (by simp at hm hl; omega)
    have hmj : m = j + 1 := by simp at hm; omega
    subst hmj
    rw [List.getElem?_cons_succ, h2] at h
    cases h
    exact ⟨by omega, h3⟩
/-- The law's test of one cell. -/
theorem ends_test {A : Int} {zs : List Int} {X Y Z V : Int} {n m k : Nat} {c : Int × Int} (hm : (seenF A zs X Y Z V n).length = m + 1) (hk : k ≤ m) (h : (seenF A zs X Y Z V n)[k]? = some c) :
    ((wallB A zs c && decide (0 < (k : Int))) != (decide ((k : Int) = m) && decide ((k : Int) < n)) && !((wallB A zs c && decide (0 < (k : Int))) && decide ((k : Int) = n))) = false := by
  have hle := seen_len A zs X Y Z V n
  rcases Nat.lt_or_ge k m with hlt | hge
  · have e1 : (wallB A zs c && decide (0 < (k : Int))) = false := by
      by_cases h0 : 0 < k
      · have hw : wallB A zs c = false := walkL_free_at (wallB A zs) _ h h0 (by show k + 1 < (seenF A zs X Y Z V n).length; omega)
        rw [hw]; rfl
      · rw [decide_eq_false (show ¬ 0 < (k : Int) by omega), Bool.and_false]
    rw [e1, decide_eq_false (show ¬ (k : Int) = m by omega)]
    rfl
  · obtain rfl : k = m := by omega
    rcases Nat.lt_or_ge k n with hln | hgn
    · obtain ⟨h0, hw⟩ := walkL_last (wallB A zs) (lineF X Y Z V n) hm h (by rw [lineF_len]; omega)
      rw [hw, decide_eq_true (show 0 < (k : Int) by omega), decide_eq_true (show (k : Int) = k from rfl), decide_eq_true (show (k : Int) < n by omega)]
      rfl
    · obtain rfl : k = n := by omega
      rw [decide_eq_false (show ¬ (k : Int) < k by omega), Bool.and_false, decide_eq_true (show (k : Int) = k from rfl), Bool.and_true]
      cases (wallB A zs c && decide (0 < (k : Int))) <;> rfl
theorem ends_is {A : Int} {zs : List Int} {X Y Z V : Int} {n m : Nat} (hf : max (apartI X Z) (apartI Y V) = n) (hm : (seenF A zs X Y Z V n).length = m + 1) :
    decide ((Z, V) ∈ seenF A zs X Y Z V n) = decide ((m : Int) + 1 = (n : Int) + 1) := by
  obtain ⟨x, y, h1, h2⟩ := seen_end hf hm
  have hle := seen_len A zs X Y Z V n
  rw [h2, decide_eq_decide]
  have hp := take_prefix_walk (wallB A zs) (lineF X Y Z V n)
  have hx : (x, y) = lineK X Y Z V n m := by
    obtain ⟨t, ht⟩ := hp
    have h3 : (lineF X Y Z V n)[m]? = some (x, y) := by
      rw [← ht, List.getElem?_append_left (by show m < (seenF A zs X Y Z V n).length; omega)]
      exact h1
    rw [lineF_at (by omega)] at h3
    exact (Option.some.inj h3).symm
  rw [hx, ← line_end hf]
  constructor
  · intro h
    have := line_inj hf h (by omega) (Nat.le_refl _)
    omega
  · intro h
    have : m = n := by omega
    rw [this]
theorem seen_at {A : Int} {zs : List Int} {X Y Z V : Int} {n k : Nat} {c : Int × Int} (h : (seenF A zs X Y Z V n)[k]? = some c) : (lineF X Y Z V n)[k]? = some c := by
  obtain ⟨t, ht⟩ := take_prefix_walk (wallB A zs) (lineF X Y Z V n)
  have hk : k < (walkL (wallB A zs) (lineF X Y Z V n)).length := (List.getElem?_eq_some_iff.1 h).1
  rw [← ht, List.getElem?_append_left hk]
  exact h
theorem ends_key {t : Bool} {k L n : Nat} (hk : k ≤ L) (hL : L ≤ n) (h : ((t && decide (0 < (k : Int))) != (decide ((k : Int) = L) && decide ((k : Int) < n)) && !((t && decide (0 < (k : Int))) && decide ((k : Int) = n))) = false) :
    (t = false ∧ k ≠ L) ∨ (t = true ∧ k = 0 ∧ k ≠ L) ∨ (t = true ∧ 0 < k ∧ k = L ∧ k < n) ∨ (t = false ∧ k = L ∧ k = n) ∨ (t = true ∧ k = 0 ∧ k = L ∧ k = n) ∨ (t = true ∧ 0 < k ∧ k = L ∧ k = n) := by
  by_cases h0 : 0 < k
  · by_cases h1 : k = L
    · by_cases h2 : k < n
      · rw [decide_eq_true (show 0 < (k : Int) by omega), decide_eq_true (show (k : Int) = L by omega), decide_eq_true (show (k : Int) < n by omega), decide_eq_false (show ¬ (k : Int) = n by omega)] at h
        cases t
        · cases h
        · exact .inr (.inr (.inl ⟨rfl, h0, h1, h2⟩))
      · cases t
        · exact .inr (.inr (.inr (.inl ⟨rfl, h1, by omega⟩)))
        · exact .inr (.inr (.inr (.inr (.inr ⟨rfl, h0, h1, by omega⟩))))
    · rw [decide_eq_true (show 0 < (k : Int) by omega), decide_eq_false (show ¬ (k : Int) = L by omega), decide_eq_false (show ¬ (k : Int) = n by omega)] at h
      cases t
      · exact .inl ⟨rfl, h1⟩
      · cases h
  · by_cases h1 : k = L
    · by_cases h2 : k < n
      · rw [decide_eq_false (show ¬ 0 < (k : Int) by omega), decide_eq_true (show (k : Int) = L by omega), decide_eq_true (show (k : Int) < n by omega), decide_eq_false (show ¬ (k : Int) = n by omega)] at h
        cases t <;> cases h
      · cases t
        · exact .inr (.inr (.inr (.inl ⟨rfl, h1, by omega⟩)))
        · exact .inr (.inr (.inr (.inr (.inl ⟨rfl, by omega, h1, by omega⟩))))
    · cases t
      · exact .inl ⟨rfl, h1⟩
      · exact .inr (.inl ⟨rfl, by omega, h1⟩)
end Go.Proofs.Ythebiibiapjdiaa
