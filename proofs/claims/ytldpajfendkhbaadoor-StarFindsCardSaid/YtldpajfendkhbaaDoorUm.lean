/- Costs: what they are together, how often, which one is the least; rows of them: numbers and lists alone. -/
import Derived.Test.YtldpajfendkhbaaDoorProg
import GoSem.Claim
namespace Go.Proofs.YtldpajfendkhbaaDoor

def INF : Int := 18446744073709551615
/-- A cost. -/
def inU (a : Int) : Prop := 0 ≤ a ∧ a ≤ 18446744073709551615
def AllU (l : List Int) : Prop := ∀ z ∈ l, inU z
def addC (a b : Int) : Int := if a + b ≤ 18446744073709551615 then a + b else 18446744073709551615
def timesC (a n : Int) : Int := if n < 1 then 0 else if a * n ≤ 18446744073709551615 then a * n else 18446744073709551615
def minC (a b : Int) : Int := if b < a then b else a
def sumC (l : List Int) : Int := l.foldl addC 0

theorem inU_wf {a : Int} (h : inU a) : (Lit.int .u64 a).wf = true := by
  unfold inU at h
  simp only [Lit.wf, Bool.and_eq_true, decide_eq_true_eq]
  exact h
theorem inU_of {a : Int} (h : (Lit.int .u64 a).wf = true) : inU a := by
  unfold inU
  simp only [Lit.wf, Bool.and_eq_true, decide_eq_true_eq] at h
  exact h
theorem inU0 : inU 0 := ⟨by decide, by decide⟩
theorem inU_inf : inU 18446744073709551615 := ⟨by decide, by decide⟩
theorem addC_in {a b : Int} (h : inU a) (k : inU b) : inU (addC a b) := by unfold inU addC at *; split <;> omega
theorem addC_comm (a b : Int) : addC a b = addC b a := by unfold addC; rw [Int.add_comm]
theorem addC_assoc {a b c : Int} (h : inU a) (k : inU b) (l : inU c) : addC (addC a b) c = addC a (addC b c) := by
  unfold inU addC at *; repeat' split
  all_goals omega
theorem addC_le {a b : Int} (h : inU a) (k : inU b) : a ≤ addC a b ∧ b ≤ addC a b := by
  unfold inU addC at *; split <;> omega
theorem addC_zero {a : Int} (h : inU a) : addC a 0 = a := by unfold inU addC at *; split <;> omega
theorem zero_addC {a : Int} (h : inU a) : addC 0 a = a := by unfold inU addC at *; split <;> omega
theorem addC_inf {a : Int} (h : inU a) : addC a 18446744073709551615 = 18446744073709551615 := by unfold inU addC at *; split <;> omega
theorem addC_mono {a b : Int} (c : Int) (h : a ≤ b) : addC a c ≤ addC b c := by
  unfold addC
  repeat' split
  all_goals omega
theorem timesC_in {a n : Int} (h : inU a) : inU (timesC a n) := by
  unfold timesC
  split
  · exact inU0
  · split
    · exact ⟨Int.mul_nonneg h.1 (by omega), by assumption⟩
    · exact inU_inf
theorem timesC_one {a : Int} (h : inU a) : timesC a 1 = a := by
  unfold timesC inU at *
  rw [if_neg (by decide), Int.mul_one, if_pos h.2]
theorem timesC_low {a n : Int} (h : n ≤ 0) : timesC a n = 0 := by unfold timesC; rw [if_pos (by omega)]
theorem timesC_succ {a n : Int} (h : inU a) (hn : 0 ≤ n) : timesC a (n + 1) = addC (timesC a n) a := by
  have hm := Int.mul_nonneg h.1 hn
  have e : a * (n + 1) = a * n + a := by rw [Int.mul_add, Int.mul_one]
  unfold timesC addC inU at *
  rw [e]
  by_cases h0 : n < 1
  · obtain rfl : n = 0 := by omega
    simp
  · rw [if_neg (by omega), if_neg h0]
    generalize a * n = m at *
    repeat' split
    all_goals omega
/-- Doubling: one round of the reference's Times. -/
theorem timesC_two {a n : Int} (h : inU a) (hn : 0 ≤ n) : timesC (addC a a) n = timesC a (2 * n) := by
  have hm := Int.mul_nonneg h.1 hn
  have e : a * (2 * n) = a * n + a * n := by rw [Int.mul_left_comm]; omega
  by_cases h0 : n < 1
  · obtain rfl : n = 0 := by omega
    simp [timesC]
  unfold timesC
  rw [if_neg h0, if_neg (show ¬ 2 * n < 1 by omega), e]
  by_cases h1 : a + a ≤ 18446744073709551615
  · rw [show addC a a = a + a by unfold addC; rw [if_pos h1], Int.add_mul]
  · rw [show addC a a = 18446744073709551615 by unfold addC; rw [if_neg h1]]
    have h2 : a * 1 ≤ a * n := Int.mul_le_mul_of_nonneg_left (by omega) h.1
    rw [Int.mul_one] at h2
    generalize a * n = m at *
    rw [if_neg (show ¬ m + m ≤ 18446744073709551615 by omega)]
    split <;> omega
theorem timesC_odd {a n : Int} (h : inU a) (hn : 1 ≤ n) (ho : n % 2 = 1) (o : Int) (hu : inU o) : addC (addC o a) (timesC (addC a a) (n / 2)) = addC o (timesC a n) := by
  have e : n = 2 * (n / 2) + 1 := by omega
  rw [timesC_two h (by omega)]
  conv => rhs; rw [e, timesC_succ h (by omega)]
  rw [addC_comm (timesC a (2 * (n / 2))) a, addC_assoc hu h (timesC_in h)]
theorem timesC_even {a n : Int} (h : inU a) (hn : 1 ≤ n) (ho : ¬ n % 2 = 1) : timesC (addC a a) (n / 2) = timesC a n := by
  have e : 2 * (n / 2) = n := by omega
  rw [timesC_two h (by omega), e]

theorem sumC_nil : sumC [] = 0 := rfl
theorem sumC_snoc (l : List Int) (a : Int) : sumC (l ++ [a]) = addC (sumC l) a := by simp [sumC, List.foldl_append]
theorem AllU.take {l : List Int} (h : AllU l) (k : Nat) : AllU (l.take k) := fun z hz => h z (List.mem_of_mem_take hz)
theorem sumC_in {l : List Int} (h : AllU l) : inU (sumC l) := by
  unfold sumC
  suffices ∀ (l : List Int) (o : Int), inU o → AllU l → inU (l.foldl addC o) from this l 0 inU0 h
  intro l
  induction l with
  | nil => exact fun o ho _ => ho
  | cons a l ih => exact fun o ho hl => ih _ (addC_in ho (hl a (by simp))) (fun z hz => hl z (by simp [hz]))
theorem sumC_succ (l : List Int) (k : Nat) (hk : k < l.length) : sumC (l.take (k + 1)) = addC (sumC (l.take k)) l[k] := by
  rw [List.take_succ_eq_append_getElem hk, sumC_snoc]

/-- Which one is the first of the least costs of the first k. -/
def LeastTo (l : List Int) (k : Nat) (p : Nat) (v : Int) : Prop :=
  (v = 18446744073709551615 ∧ p = 0 ∧ ∀ i z, i < k → l[i]? = some z → z = 18446744073709551615) ∨
  (p < k ∧ l[p]? = some v ∧ v < 18446744073709551615 ∧ (∀ i z, i < p → l[i]? = some z → v < z) ∧ ∀ i z, i < k → l[i]? = some z → v ≤ z)
theorem LeastTo.zero (l : List Int) : LeastTo l 0 0 18446744073709551615 := .inl ⟨rfl, rfl, fun i z h => by omega⟩
theorem LeastTo.less {l : List Int} {k p : Nat} {v z : Int} (h : LeastTo l k p v) (hz : l[k]? = some z) (hl : z < v) (hv : v ≤ 18446744073709551615) : LeastTo l (k + 1) k z := by
  refine .inr ⟨by omega, hz, by omega, fun i y hi hy => ?_, fun i y hi hy => ?_⟩
  · rcases h with ⟨h1, h2, h3⟩ | ⟨h1, h2, h3, h4, h5⟩
    · have := h3 i y hi hy; omega
    · have := h5 i y hi hy; omega
  · by_cases e : i = k
    · subst e; rw [hz] at hy; cases hy; omega
    · rcases h with ⟨h1, h2, h3⟩ | ⟨h1, h2, h3, h4, h5⟩
      · have := h3 i y (by omega) hy; omega
      · have := h5 i y (by omega) hy; omega
theorem LeastTo.more {l : List Int} {k p : Nat} {v z : Int} (h : LeastTo l k p v) (hz : l[k]? = some z) (hl : ¬ z < v) (hzu : z ≤ 18446744073709551615) : LeastTo l (k + 1) p v := by
  rcases h with ⟨h1, h2, h3⟩ | ⟨h1, h2, h3, h4, h5⟩
  · refine .inl ⟨h1, h2, fun i y hi hy => ?_⟩
    by_cases e : i = k
    · subst e; rw [hz] at hy; cases hy; omega
    · exact h3 i y (by omega) hy
  · refine .inr ⟨by omega, h2, h3, h4, fun i y hi hy => ?_⟩
    by_cases e : i = k
    · subst e; rw [hz] at hy; cases hy; omega
    · exact h5 i y (by omega) hy
theorem LeastTo.at {l : List Int} {k p : Nat} {v : Int} (h : LeastTo l k p v) : v ≤ 18446744073709551615 := by
  rcases h with ⟨h1, _⟩ | ⟨_, _, h, _⟩ <;> omega

/-- Is the cost at place i the first of the least ones? -/
def isLeast (l : List Int) (i : Nat) : Bool := match l[i]? with
  | none => false
  | some v => decide (v < 18446744073709551615) && (List.range l.length).all (fun k => match l[k]? with
    | none => true
    | some z => decide (v < z) || (decide (v = z) && decide (i ≤ k)))
def leastC (l : List Int) : Nat × Bool := match (List.range l.length).find? (isLeast l) with
  | some i => (i, true)
  | none => (0, false)
theorem isLeast_iff (l : List Int) (i : Nat) : isLeast l i = true ↔ ∃ v, l[i]? = some v ∧ v < 18446744073709551615 ∧ ∀ k z, l[k]? = some z → v < z ∨ (v = z ∧ i ≤ k) := by
  unfold isLeast
  cases h : l[i]? with
  | none => simp
  | some v =>
    simp only [Bool.and_eq_true, decide_eq_true_eq, List.all_eq_true, List.mem_range]
    constructor
    · rintro ⟨h1, h2⟩
      refine ⟨v, rfl, h1, fun k z hz => ?_⟩
      have := h2 k (List.getElem?_eq_some_iff.1 hz).1
      rw [hz] at this
      simpa using this
    · rintro ⟨v', e, h1, h2⟩
      cases e
      refine ⟨h1, fun k hk => ?_⟩
      rw [List.getElem?_eq_getElem hk]
      simpa using h2 k _ (List.getElem?_eq_getElem hk)
theorem isLeast_one {l : List Int} {i j : Nat} (h : isLeast l i = true) (k : isLeast l j = true) : i = j := by
  obtain ⟨v, hv, _, h1⟩ := (isLeast_iff l i).1 h
  obtain ⟨u, hu, _, h2⟩ := (isLeast_iff l j).1 k
  have a := h1 j u hu
  have b := h2 i v hv
  omega
theorem leastC_yes {l : List Int} {i : Nat} (h : isLeast l i = true) : leastC l = (i, true) := by
  obtain ⟨v, hv, _, _⟩ := (isLeast_iff l i).1 h
  have hi := (List.getElem?_eq_some_iff.1 hv).1
  unfold leastC
  cases e : (List.range l.length).find? (isLeast l) with
  | none => have := List.find?_eq_none.1 e i (by simpa using hi); simp [h] at this
  | some j => rw [isLeast_one h (List.find?_some e)]
theorem leastC_no {l : List Int} (h : ∀ i, isLeast l i = false) : leastC l = (0, false) := by
  unfold leastC
  cases e : (List.range l.length).find? (isLeast l) with
  | none => rfl
  | some j => have := List.find?_some e; rw [h j] at this; cases this
theorem leastC_of {l : List Int} {p : Nat} {v : Int} (h : LeastTo l l.length p v) : leastC l = (p, decide (v < 18446744073709551615)) := by
  rcases h with ⟨rfl, rfl, h3⟩ | ⟨h1, h2, h3, h4, h5⟩
  · rw [leastC_no (fun i => ?_)]
    · rfl
    · rw [Bool.eq_false_iff]
      intro hi
      obtain ⟨v, hv, hlt, _⟩ := (isLeast_iff l i).1 hi
      have := h3 i v (List.getElem?_eq_some_iff.1 hv).1 hv
      omega
  · rw [decide_eq_true h3]
    refine leastC_yes ((isLeast_iff l p).2 ⟨v, h2, h3, fun k z hz => ?_⟩)
    by_cases e : k < p
    · exact .inl (h4 k z e hz)
    · have := h5 k z (List.getElem?_eq_some_iff.1 hz).1 hz
      omega

/-- Two rows joined. -/
def joinC (xs ys : List Int) : List Int := List.zipWith minC xs ys
theorem joinC_len (xs ys : List Int) : (joinC xs ys).length = min xs.length ys.length := List.length_zipWith
theorem minC_in {a b : Int} (h : inU a) (k : inU b) : inU (minC a b) := by unfold minC; split <;> assumption
theorem minC_comm (a b : Int) : minC a b = minC b a := by unfold minC; split <;> split <;> omega
theorem minC_assoc (a b c : Int) : minC (minC a b) c = minC a (minC b c) := by
  unfold minC
  repeat' split
  all_goals omega
theorem minC_self (a : Int) : minC a a = a := by unfold minC; split <;> rfl
theorem minC_inf {a : Int} (h : inU a) : minC 18446744073709551615 a = a := by unfold minC inU at *; split <;> omega
theorem inf_minC {a : Int} (h : inU a) : minC a 18446744073709551615 = a := by unfold minC inU at *; split <;> omega
theorem addC_minC (a b c : Int) : addC a (minC b c) = minC (addC a b) (addC a c) := by
  unfold addC minC
  repeat' split
  all_goals omega
end Go.Proofs.YtldpajfendkhbaaDoor
