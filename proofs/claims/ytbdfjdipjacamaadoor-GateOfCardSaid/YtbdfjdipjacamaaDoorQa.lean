/- Gates: the mathematics of runs. -/
import Derived.Test.YtbdfjdipjacamaaDoorDv
namespace Go.Proofs.YtbdfjdipjacamaaDoor
open Go.RowKit

/-- How many open ones stand right ahead of i. -/
def aheadN (o : Nat → Bool) : Nat → Nat
  | 0 => 0
  | i + 1 => if o i = true then aheadN o i + 1 else 0
/-- How many open ones stand from s on, of the next m. -/
def runN (o : Nat → Bool) : Nat → Nat → Nat
  | 0, _ => 0
  | m + 1, s => if o s = true then runN o m (s + 1) + 1 else 0
def isG (o : Nat → Bool) (n i : Nat) : Bool := o i && decide (aheadN o i = (aheadN o i + runN o (n - (i + 1)) (i + 1)) / 2)
def gTo (o : Nat → Bool) (n k : Nat) : List Nat := (List.range k).filter (isG o n)
theorem gTo_succ (o : Nat → Bool) (n k : Nat) : gTo o n (k + 1) = gTo o n k ++ if isG o n k = true then [k] else [] := by
  unfold gTo
  rw [List.range_succ, List.filter_append]
  congr 1
  cases h : isG o n k <;> simp [h]
theorem gTo_no {o : Nat → Bool} {n k : Nat} (h : o k = false) : gTo o n (k + 1) = gTo o n k := by
  rw [gTo_succ, if_neg (by unfold isG; rw [h]; simp), List.append_nil]
theorem aheadN_le (o : Nat → Bool) : ∀ i, aheadN o i ≤ i
  | 0 => Nat.le_refl _
  | i + 1 => by unfold aheadN; have := aheadN_le o i; split <;> omega
theorem runN_le (o : Nat → Bool) : ∀ m s, runN o m s ≤ m
  | 0, _ => Nat.le_refl _
  | m + 1, s => by unfold runN; have := runN_le o m (s + 1); split <;> omega
theorem aheadN_run {o : Nat → Bool} {f : Nat} (h0 : aheadN o f = 0) : ∀ d, (∀ i, f ≤ i → i < f + d → o i = true) → aheadN o (f + d) = d
  | 0, _ => h0
  | d + 1, h => by
    have ih := aheadN_run h0 d (fun i h1 h2 => h i h1 (by omega))
    show aheadN o ((f + d) + 1) = d + 1
    unfold aheadN
    rw [if_pos (h (f + d) (by omega) (by omega)), ih]
theorem runN_run {o : Nat → Bool} {n k : Nat} (hk : k ≤ n) (he : k = n ∨ o k = false) : ∀ d s, s + d = k → (∀ i, s ≤ i → i < k → o i = true) → runN o (n - s) s = d
  | 0, s, hs, _ => by
    have : s = k := by omega
    subst this
    rcases he with rfl | he
    · rw [Nat.sub_self]; rfl
    · cases h : n - s with
      | zero => rfl
      | succ m => unfold runN; rw [if_neg (by rw [he]; decide)]
  | d + 1, s, hs, h => by
    have ih := runN_run hk he d (s + 1) (by omega) (fun i h1 h2 => h i (by omega) h2)
    obtain ⟨m, hm⟩ : ∃ m, n - s = m + 1 := ⟨n - s - 1, by omega⟩
    rw [hm]
    unfold runN
    rw [if_pos (h s (Nat.le_refl _) (by omega)), show m = n - (s + 1) by omega, ih]
theorem isG_run {o : Nat → Bool} {n f k i : Nat} (h0 : aheadN o f = 0) (hk : k ≤ n) (ho : ∀ i, f ≤ i → i < k → o i = true) (he : k = n ∨ o k = false) (h1 : f ≤ i) (h2 : i < k) : isG o n i = decide (i = f + (k - f - 1) / 2) := by
  have ha := aheadN_run (o := o) h0 (i - f) (fun j a b => ho j a (by omega))
  rw [show f + (i - f) = i by omega] at ha
  have hb := runN_run (o := o) hk he (k - (i + 1)) (i + 1) (by omega) (fun j a b => ho j (by omega) b)
  unfold isG
  rw [ha, hb, ho i h1 h2, Bool.true_and, decide_eq_decide]
  omega
/-- A run has one gate: of two pairs in the middle the first one. -/
theorem gTo_run {o : Nat → Bool} {n f k : Nat} (h0 : aheadN o f = 0) (hf : f < k) (hk : k ≤ n) (ho : ∀ i, f ≤ i → i < k → o i = true) (he : k = n ∨ o k = false) : gTo o n k = gTo o n f ++ [f + (k - f - 1) / 2] := by
  have key : ∀ d, f + d ≤ k → gTo o n (f + d) = gTo o n f ++ if f + (k - f - 1) / 2 < f + d then [f + (k - f - 1) / 2] else [] := by
    intro d
    induction d with
    | zero => intro _; rw [if_neg (by omega), List.append_nil]; rfl
    | succ d ih =>
      intro hd
      show gTo o n ((f + d) + 1) = _
      rw [gTo_succ, ih (by omega), isG_run h0 hk ho he (by omega) (by omega), List.append_assoc]
      congr 1
      by_cases h1 : f + (k - f - 1) / 2 < f + d
      · rw [if_pos h1, if_neg (by simp; omega), if_pos (by omega), List.append_nil]
      · rw [if_neg h1, List.nil_append]
        by_cases h2 : f + d = f + (k - f - 1) / 2
        · rw [if_pos (by simp [h2]), if_pos (by omega), h2]
        · rw [if_neg (by simp; omega), if_neg (by omega)]
  have := key (k - f) (by omega)
  rw [show f + (k - f) = k by omega, if_pos (by omega)] at this
  exact this
/-- How the run stands behind i pairs: 0 none, 1 its gate has not come, 2 it has. -/
def sinceV (o : Nat → Bool) (n i : Nat) : Nat :=
  if aheadN o i = 0 then 0 else if i - aheadN o i + (aheadN o i + runN o (n - i) i - 1) / 2 < i then 2 else 1
theorem since_shut {o : Nat → Bool} {n i : Nat} (h : i = n ∨ o i = false) : sinceV o n i ≠ 1 := by
  have hr : runN o (n - i) i = 0 := by
    rcases h with rfl | h
    · rw [Nat.sub_self]; rfl
    · cases hm : n - i with
      | zero => rfl
      | succ m => unfold runN; rw [if_neg (by rw [h]; decide)]
  have ha := aheadN_le o i
  unfold sinceV
  rw [hr]
  split
  · decide
  · rw [if_pos (by omega)]; decide
theorem since_next_no {o : Nat → Bool} {n i : Nat} (h : o i = false) : sinceV o n (i + 1) = 0 := by
  unfold sinceV
  rw [if_pos (by unfold aheadN; rw [if_neg (by rw [h]; decide)])]
theorem since_open {o : Nat → Bool} {n i : Nat} (hi : i < n) (h : o i = true) : (isG o n i = true → sinceV o n i ≠ 2 ∧ sinceV o n (i + 1) = 2) ∧ (isG o n i = false → sinceV o n (i + 1) = if sinceV o n i = 0 then 1 else sinceV o n i) := by
  have ha := aheadN_le o i
  obtain ⟨m, hm⟩ : ∃ m, n - i = m + 1 := ⟨n - i - 1, by omega⟩
  have hr : runN o (n - i) i = runN o (n - (i + 1)) (i + 1) + 1 := by
    rw [hm]
    conv => lhs; unfold runN
    rw [if_pos h, show m = n - (i + 1) by omega]
  have e1 : aheadN o (i + 1) = aheadN o i + 1 := by conv => lhs; unfold aheadN
                                                    rw [if_pos h]
  have hg : isG o n i = decide (aheadN o i = (aheadN o i + runN o (n - (i + 1)) (i + 1)) / 2) := by unfold isG; rw [h, Bool.true_and]
  unfold sinceV
  rw [hg, e1, hr]
  generalize aheadN o i = a at *
  generalize runN o (n - (i + 1)) (i + 1) = b at *
  simp only [decide_eq_true_eq, decide_eq_false_iff_not]
  rw [if_neg (show ¬ a + 1 = 0 by omega)]
  constructor
  · intro hq
    refine ⟨?_, by rw [if_pos (by omega)]⟩
    split
    · decide
    · rw [if_neg (by omega)]; decide
  · intro hq
    by_cases h0 : a = 0
    · rw [if_pos h0, if_pos rfl, if_neg (by omega)]
    · rw [if_neg h0]
      by_cases h1 : i - a + (a + (b + 1) - 1) / 2 < i
      · rw [if_pos h1, if_pos (by omega)]; rfl
      · rw [if_neg h1, if_neg (by omega)]; rfl
theorem since_zero (o : Nat → Bool) (n : Nat) : sinceV o n 0 = 0 := rfl

/-- Is the i-th pair of a row open? -/
def opnAt {α : Type} (op : α → Bool) (l : List α) (i : Nat) : Bool := match l[i]? with | some x => op x | none => false
theorem opnAt_lt {α : Type} {op : α → Bool} {l : List α} {i : Nat} (h : i < l.length) : opnAt op l i = op l[i] := by
  unfold opnAt; rw [List.getElem?_eq_getElem h]
/-- The gates of a border. -/
def pickL {α : Type} (l : List α) (is : List Nat) : List α := is.filterMap (fun i => l[i]?)
theorem pickL_app {α : Type} (l : List α) (a b : List Nat) : pickL l (a ++ b) = pickL l a ++ pickL l b := by unfold pickL; rw [List.filterMap_append]
theorem pickL_one {α : Type} {l : List α} {i : Nat} (h : i < l.length) : pickL l [i] = [l[i]] := by simp [pickL, List.getElem?_eq_getElem h]
def gatesTo {α : Type} (op : α → Bool) (l : List α) (k : Nat) : List α := pickL l (gTo (opnAt op l) l.length k)
def gatesL {α : Type} (op : α → Bool) (l : List α) : List α := gatesTo op l l.length
theorem gatesTo_no {α : Type} {op : α → Bool} {l : List α} {k : Nat} (h : opnAt op l k = false) : gatesTo op l (k + 1) = gatesTo op l k := by
  unfold gatesTo; rw [gTo_no h]
theorem gatesTo_succ {α : Type} {op : α → Bool} {l : List α} {k : Nat} (h : k < l.length) : gatesTo op l (k + 1) = gatesTo op l k ++ if isG (opnAt op l) l.length k = true then [l[k]] else [] := by
  unfold gatesTo
  rw [gTo_succ, pickL_app]
  congr 1
  split
  · exact pickL_one h
  · rfl
theorem gatesTo_run {α : Type} {op : α → Bool} {l : List α} {f k : Nat} (h0 : aheadN (opnAt op l) f = 0) (hf : f < k) (hk : k ≤ l.length) (ho : ∀ i, f ≤ i → i < k → opnAt op l i = true) (he : k = l.length ∨ opnAt op l k = false) :
    gatesTo op l k = gatesTo op l f ++ [l[f + (k - f - 1) / 2]'(by omega)] := by
  unfold gatesTo
  rw [gTo_run h0 hf hk ho he, pickL_app, pickL_one]
theorem gatesTo_le {α : Type} (op : α → Bool) (l : List α) (k : Nat) : (gatesTo op l k).length ≤ k := by
  unfold gatesTo pickL
  refine Nat.le_trans (List.length_filterMap_le _ _) ?_
  unfold gTo
  exact Nat.le_trans (List.length_filter_le _ _) (by simp)
theorem gatesL_le {α : Type} (op : α → Bool) (l : List α) : (gatesL op l).length ≤ l.length := gatesTo_le op l _
theorem mem_gatesTo {α : Type} {op : α → Bool} {l : List α} {x : α} : ∀ {k : Nat}, k ≤ l.length → x ∈ gatesTo op l k → x ∈ l ∧ op x = true := by
  intro k
  induction k with
  | zero => intro _ h; simp [gatesTo, gTo, pickL] at h
  | succ k ih =>
    intro hk h
    rw [gatesTo_succ (by omega)] at h
    rcases List.mem_append.1 h with h | h
    · exact ih (by omega) h
    · split at h
      · rename_i hg
        simp at h
        subst h
        refine ⟨List.getElem_mem _, ?_⟩
        unfold isG at hg
        rw [Bool.and_eq_true, opnAt_lt (show k < l.length by omega)] at hg
        exact hg.1
      · simp at h
/-- The gates hang on which pairs are open alone. -/
theorem gatesL_congr {α : Type} {op op2 : α → Bool} {l : List α} (h : ∀ x ∈ l, op x = op2 x) : gatesL op l = gatesL op2 l := by
  have e : opnAt op l = opnAt op2 l := by
    funext i
    unfold opnAt
    cases hi : l[i]? with
    | none => rfl
    | some x => exact h x (List.mem_of_getElem? hi)
  unfold gatesL gatesTo
  rw [e]
end Go.Proofs.YtbdfjdipjacamaaDoor
