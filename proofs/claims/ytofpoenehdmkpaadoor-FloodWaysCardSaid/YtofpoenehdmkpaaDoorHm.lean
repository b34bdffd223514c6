/- Heap: the mathematics of things that rise and sink. -/
import Derived.Test.YtofpoenehdmkpaaDoorProg
namespace Go.Proofs.YtofpoenehdmkpaaDoor
structure Th where
  id : Int
  F : Int
  H : Int
  Y : Int
  X : Int
  deriving DecidableEq

instance : Inhabited Th := ⟨⟨0, 0, 0, 0, 0⟩⟩

/-- A key is less than another one. -/
def lessK (a b : Th) : Bool := if a.F = b.F then (if a.H = b.H then (if a.Y = b.Y then decide (a.X < b.X) else decide (a.Y < b.Y)) else decide (a.H < b.H)) else decide (a.F < b.F)
/-- Two have one key. -/
def sameK (a b : Th) : Bool := decide (a.F = b.F ∧ a.H = b.H ∧ a.Y = b.Y ∧ a.X = b.X)
/-- A thing goes ahead of another one. -/
def aheadT (a b : Th) : Bool := if sameK a b then decide (a.id < b.id) else lessK a b

theorem aheadT_iff (a b : Th) : aheadT a b = true ↔ a.F < b.F ∨ a.F = b.F ∧ (a.H < b.H ∨ a.H = b.H ∧ (a.Y < b.Y ∨ a.Y = b.Y ∧ (a.X < b.X ∨ a.X = b.X ∧ a.id < b.id))) := by
  unfold aheadT sameK lessK
  grind
theorem ahead_irr (a : Th) : aheadT a a = false := by
  rw [← Bool.not_eq_true, aheadT_iff]; omega
theorem ahead_asymm {a b : Th} (h : aheadT a b = true) : aheadT b a = false := by
  rw [← Bool.not_eq_true, aheadT_iff]; rw [aheadT_iff] at h; omega
theorem ahead_trans {a b c : Th} (h : aheadT a b = true) (k : aheadT b c = true) : aheadT a c = true := by
  rw [aheadT_iff] at *; omega
theorem ahead_le {a b c : Th} (h : aheadT b a = false) (k : aheadT c b = false) : aheadT c a = false := by
  rw [← Bool.not_eq_true, aheadT_iff] at *; omega
theorem ahead_total {a b : Th} (h : aheadT a b = false) (k : aheadT b a = false) : a = b := by
  rw [← Bool.not_eq_true, aheadT_iff] at *
  cases a; cases b; simp at *; omega

/-- The thing at a place. -/
abbrev atT (l : List Th) (j : Nat) : Th := l.getD j default
theorem atT_set (l : List Th) (i j : Nat) (x : Th) (h : i < l.length) : atT (l.set i x) j = if i = j then x else atT l j := by
  simp only [atT, List.getD_eq_getElem?_getD, List.getElem?_set]
  split
  · simp
  · rfl

/-- None goes ahead of the one above it. -/
def HO (l : List Th) : Prop := ∀ j, 0 < j → j < l.length → aheadT (atT l j) (atT l ((j - 1) / 2)) = false
/-- The state of a heap: its things, their places, how many places are told. -/
structure HS where
  ts : List Th
  f : Int → Option Nat
  n : Nat
def upd (f : Int → Option Nat) (i : Int) (v : Option Nat) : Int → Option Nat := fun j => if j = i then v else f j
def putS (s : HS) (at_ : Nat) (t : Th) : HS := ⟨s.ts.set at_ t, upd s.f t.id (some at_), if (s.f t.id).isSome then s.n else s.n + 1⟩
/-- Rising. -/
def riseS (s : HS) (i : Nat) (t : Th) : HS :=
  if h : i = 0 then putS s i t else if aheadT t (atT s.ts ((i - 1) / 2)) then riseS (putS s i (atT s.ts ((i - 1) / 2))) ((i - 1) / 2) t else putS s i t
termination_by i
decreasing_by omega
/-- The place below that goes ahead. -/
def belowS (l : List Th) (i : Nat) : Option Nat :=
  if l.length ≤ 2 * i + 1 then none else if 2 * i + 2 < l.length ∧ aheadT (atT l (2 * i + 2)) (atT l (2 * i + 1)) = true then some (2 * i + 2) else some (2 * i + 1)
/-- Sinking. -/
def sinkS (s : HS) (i : Nat) (t : Th) : HS :=
  if h : s.ts.length ≤ 2 * i + 1 then putS s i t else
  if aheadT (atT s.ts (if 2 * i + 2 < s.ts.length ∧ aheadT (atT s.ts (2 * i + 2)) (atT s.ts (2 * i + 1)) = true then 2 * i + 2 else 2 * i + 1)) t then
    sinkS (putS s i (atT s.ts (if 2 * i + 2 < s.ts.length ∧ aheadT (atT s.ts (2 * i + 2)) (atT s.ts (2 * i + 1)) = true then 2 * i + 2 else 2 * i + 1))) (if 2 * i + 2 < s.ts.length ∧ aheadT (atT s.ts (2 * i + 2)) (atT s.ts (2 * i + 1)) = true then 2 * i + 2 else 2 * i + 1) t
  else putS s i t
termination_by s.ts.length - i
decreasing_by
  simp only [putS, List.length_set]
  split <;> omega

/-- What is told of places, but for one. -/
structure PI (s : HS) (i : Nat) (t : Th) : Prop where
  lt : i < s.ts.length
  nd : ((s.ts.set i t).map Th.id).Nodup
  pl : ∀ j, j < s.ts.length → j ≠ i → s.f (atT s.ts j).id = some j
  no : ∀ x, (∀ j, j < s.ts.length → (atT (s.ts.set i t) j).id ≠ x) → s.f x = none
/-- What is told of places. -/
structure PF (s : HS) : Prop where
  nd : (s.ts.map Th.id).Nodup
  pl : ∀ j, j < s.ts.length → s.f (atT s.ts j).id = some j
  no : ∀ x, (∀ j, j < s.ts.length → (atT s.ts j).id ≠ x) → s.f x = none
  n : s.n = s.ts.length

theorem nodup_at {l : List Th} (h : (l.map Th.id).Nodup) {i j : Nat} (hi : i < l.length) (hj : j < l.length) (e : (atT l i).id = (atT l j).id) : i = j := by
  have h1 : i < (l.map Th.id).length := by simpa using hi
  have h2 : j < (l.map Th.id).length := by simpa using hj
  simp only [atT, List.getD_eq_getElem?_getD, List.getElem?_eq_getElem hi, List.getElem?_eq_getElem hj, Option.getD_some] at e
  have e' : (l.map Th.id)[i] = (l.map Th.id)[j] := by simpa using e
  exact (List.getElem?_inj h1 h).1 (by rw [List.getElem?_eq_getElem h1, List.getElem?_eq_getElem h2, e'])

theorem swap_perm (l : List Th) {i j : Nat} (t : Th) (hi : i < l.length) (hj : j < l.length) (hne : i ≠ j) : ((l.set i (atT l j)).set j t).Perm (l.set i t) := by
  have h := @List.set_set_perm Th (l.set i t) i j (by simpa using hi) (by simpa using hj)
  have hj' : j < (l.set i t).length := by simpa using hj
  have e : (l.set i t).set i ((l.set i t)[j]'hj') = l.set i (atT l j) := by
    simp [hne, atT, List.getD_eq_getElem?_getD, hj]
  rw [e] at h
  simpa using h

/-- A step of either: the thing at place j moves to i. -/
theorem PI.step {s : HS} {i j : Nat} {t : Th} (h : PI s i t) (hj : j < s.ts.length) (hne : i ≠ j) : PI (putS s i (atT s.ts j)) j t ∧ (putS s i (atT s.ts j)).n = s.n ∧ (putS s i (atT s.ts j)).f t.id = s.f t.id := by
  have hpm := swap_perm s.ts t h.lt hj hne
  have hid : ∀ k, k < s.ts.length → k ≠ i → k ≠ j → (atT s.ts k).id ≠ (atT s.ts j).id := fun k hk hki hkj e => by
    have := nodup_at h.nd (i := k) (j := j) (by simpa using hk) (by simpa using hj) (by rw [atT_set _ _ _ _ h.lt, atT_set _ _ _ _ h.lt, if_neg (Ne.symm hki), if_neg hne]; exact e)
    exact hkj this
  have hti : t.id ≠ (atT s.ts j).id := fun e => by
    have := nodup_at h.nd (i := i) (j := j) (by simpa using h.lt) (by simpa using hj) (by rw [atT_set _ _ _ _ h.lt, atT_set _ _ _ _ h.lt, if_pos rfl, if_neg hne]; exact e)
    exact hne this
  refine ⟨⟨by simpa [putS] using hj, (hpm.map Th.id).nodup_iff.2 h.nd, ?_, ?_⟩, ?_, ?_⟩
  · intro k hk hkj
    simp only [putS, List.length_set] at hk ⊢
    rw [atT_set _ _ _ _ h.lt]
    by_cases hki : i = k
    · rw [if_pos hki, upd, if_pos rfl, hki]
    · rw [if_neg hki, upd, if_neg (hid k hk (Ne.symm hki) hkj)]
      exact h.pl k hk (Ne.symm hki)
  · intro x hx
    simp only [putS, List.length_set] at hx ⊢
    have h1 : x ≠ (atT s.ts j).id := fun e => by
      refine hx i h.lt ?_
      rw [atT_set _ _ _ _ (by simpa using hj), if_neg (Ne.symm hne), atT_set _ _ _ _ h.lt, if_pos rfl, e]
    rw [upd, if_neg h1]
    refine h.no x fun k hk e => ?_
    rw [atT_set _ _ _ _ h.lt] at e
    by_cases hki : i = k
    · rw [if_pos hki] at e
      refine hx j hj ?_
      rw [atT_set _ _ _ _ (by simpa using hj), if_pos rfl, e]
    · rw [if_neg hki] at e
      by_cases hkj : k = j
      · subst hkj; exact h1 e.symm
      · refine hx k hk ?_
        rw [atT_set _ _ _ _ (by simpa using hj), if_neg (Ne.symm hkj), atT_set _ _ _ _ h.lt, if_neg hki, e]
  · have e := h.pl j hj (Ne.symm hne)
    simp only [putS, e]
    rfl
  · simp only [putS, upd, if_neg hti]
theorem PI.done {s : HS} {i : Nat} {t : Th} (h : PI s i t) (hn : s.n + (if (s.f t.id).isSome then 0 else 1) = s.ts.length) : PF (putS s i t) := by
  refine ⟨h.nd, ?_, ?_, ?_⟩
  · intro k hk
    simp only [putS, List.length_set] at hk ⊢
    rw [atT_set _ _ _ _ h.lt]
    by_cases hki : i = k
    · rw [if_pos hki, upd, if_pos rfl, hki]
    · rw [if_neg hki, upd, if_neg]
      · exact h.pl k hk (Ne.symm hki)
      · intro e
        have := nodup_at h.nd (i := k) (j := i) (by simpa using hk) (by simpa using h.lt) (by rw [atT_set _ _ _ _ h.lt, atT_set _ _ _ _ h.lt, if_neg hki, if_pos rfl]; exact e)
        exact hki this.symm
  · intro x hx
    simp only [putS, List.length_set] at hx ⊢
    rw [upd, if_neg]
    · exact h.no x hx
    · intro e
      refine hx i h.lt ?_
      rw [atT_set _ _ _ _ h.lt, if_pos rfl, e]
  · simp only [putS, List.length_set]
    split at hn <;> split <;> simp_all

/-- Rising: what holds. -/
structure RI (l : List Th) (i : Nat) (t : Th) : Prop where
  a : ∀ j, 0 < j → j < l.length → j ≠ i → aheadT (atT (l.set i t) j) (atT (l.set i t) ((j - 1) / 2)) = false
  b : ∀ j, 0 < j → j < l.length → (j - 1) / 2 = i → 0 < i → aheadT (atT (l.set i t) j) (atT (l.set i t) ((i - 1) / 2)) = false

theorem rise_all (i : Nat) : ∀ (s : HS) (t : Th), PI s i t → RI s.ts i t → s.n + (if (s.f t.id).isSome then 0 else 1) = s.ts.length →
    PF (riseS s i t) ∧ HO (riseS s i t).ts ∧ (riseS s i t).ts.Perm (s.ts.set i t) := by
  induction i using Nat.strongRecOn with
  | _ i ih =>
    intro s t hp hr hn
    have hlt := hp.lt
    rw [riseS]
    by_cases h0 : i = 0
    · rw [dif_pos h0]
      refine ⟨hp.done hn, ?_, List.Perm.refl _⟩
      intro j hj hjl
      exact hr.a j hj (by simpa [putS] using hjl) (by omega)
    · rw [dif_neg h0]
      have hup : (i - 1) / 2 < i := by omega
      by_cases ha : aheadT t (atT s.ts ((i - 1) / 2)) = true
      · rw [if_pos ha]
        obtain ⟨q1, q2, q3⟩ := hp.step (j := (i - 1) / 2) (by omega) (by omega)
        have hne : i ≠ (i - 1) / 2 := by omega
        have hlu : (i - 1) / 2 < s.ts.length := by omega
        have e1 : ∀ j, atT ((putS s i (atT s.ts ((i - 1) / 2))).ts.set ((i - 1) / 2) t) j = if (i - 1) / 2 = j then t else if i = j then atT s.ts ((i - 1) / 2) else atT s.ts j := by
          intro j
          rw [atT_set _ _ _ _ (by simpa [putS] using hlu)]
          simp only [putS]
          rw [atT_set _ _ _ _ hlt]
        have e2 : ∀ j, atT (s.ts.set i t) j = if i = j then t else atT s.ts j := fun j => atT_set _ _ _ _ hlt
        have hr' : RI (putS s i (atT s.ts ((i - 1) / 2))).ts ((i - 1) / 2) t := by
          have hA := hr.a
          have hB := hr.b
          simp only [e2] at hA hB
          refine ⟨?_, ?_⟩
          · intro j hj hjl hju
            simp only [putS, List.length_set] at hjl
            rw [e1, e1]
            by_cases hji : i = j
            · subst hji
              rw [if_neg (Ne.symm hju), if_pos rfl, if_pos rfl]
              exact ahead_asymm ha
            · rw [if_neg (Ne.symm hju), if_neg hji]
              have A := hA j hj hjl (Ne.symm hji)
              rw [if_neg hji] at A
              by_cases h1 : (i - 1) / 2 = (j - 1) / 2
              · rw [if_pos h1]
                rw [if_neg (by omega), ← h1] at A
                exact ahead_le (ahead_asymm ha) A
              · rw [if_neg h1]
                by_cases h2 : i = (j - 1) / 2
                · rw [if_pos h2]
                  have B := hB j hj hjl h2.symm (by omega)
                  rw [if_neg hji, if_neg hne] at B
                  exact B
                · rw [if_neg h2]
                  rw [if_neg h2] at A
                  exact A
          · intro j hj hjl hju hu
            simp only [putS, List.length_set] at hjl
            have A := hA ((i - 1) / 2) hu (by omega) (by omega)
            rw [if_neg hne, if_neg (by omega)] at A
            rw [e1, e1, if_neg (show ¬(i - 1) / 2 = ((i - 1) / 2 - 1) / 2 by omega), if_neg (show ¬i = ((i - 1) / 2 - 1) / 2 by omega), if_neg (show ¬(i - 1) / 2 = j by omega)]
            by_cases hji : i = j
            · rw [if_pos hji]; exact A
            · rw [if_neg hji]
              have A2 := hA j hj hjl (Ne.symm hji)
              rw [if_neg hji, if_neg (by omega), hju] at A2
              exact ahead_le A A2
        obtain ⟨w1, w2, w3⟩ := ih _ hup _ t q1 hr' (by rw [q2, q3]; simpa [putS] using hn)
        exact ⟨w1, w2, w3.trans (swap_perm s.ts t hlt hlu hne)⟩
      · rw [if_neg ha]
        refine ⟨hp.done hn, ?_, List.Perm.refl _⟩
        intro j hj hjl
        simp only [putS, List.length_set] at hjl ⊢
        by_cases hji : j = i
        · rw [hji, atT_set _ _ _ _ hlt, atT_set _ _ _ _ hlt, if_pos rfl, if_neg (by omega)]
          simpa using ha
        · exact hr.a j hj hjl hji

/-- Sinking: what holds. -/
structure SI (l : List Th) (i : Nat) (t : Th) : Prop where
  a : ∀ j, 0 < j → j < l.length → (j - 1) / 2 ≠ i → aheadT (atT (l.set i t) j) (atT (l.set i t) ((j - 1) / 2)) = false
  b : ∀ j, 0 < j → j < l.length → (j - 1) / 2 = i → 0 < i → aheadT (atT (l.set i t) j) (atT (l.set i t) ((i - 1) / 2)) = false

theorem sink_all (k : Nat) : ∀ (s : HS) (i : Nat) (t : Th), s.ts.length - i ≤ k → PI s i t → SI s.ts i t → s.n + (if (s.f t.id).isSome then 0 else 1) = s.ts.length →
    PF (sinkS s i t) ∧ HO (sinkS s i t).ts ∧ (sinkS s i t).ts.Perm (s.ts.set i t) := by
  induction k with
  | zero => intro s i t hk hp; have := hp.lt; omega
  | succ k ih =>
    intro s i t hk hp hr hn
    have hlt := hp.lt
    rw [sinkS]
    have e2 : ∀ j, atT (s.ts.set i t) j = if i = j then t else atT s.ts j := fun j => atT_set _ _ _ _ hlt
    have hA := hr.a
    have hB := hr.b
    simp only [e2] at hA hB
    by_cases h0 : s.ts.length ≤ 2 * i + 1
    · rw [dif_pos h0]
      refine ⟨hp.done hn, ?_, List.Perm.refl _⟩
      intro j hj hjl
      exact hr.a j hj (by simpa [putS] using hjl) (by simp [putS] at hjl; omega)
    · rw [dif_neg h0]
      obtain ⟨d, hd⟩ : ∃ d, (if 2 * i + 2 < s.ts.length ∧ aheadT (atT s.ts (2 * i + 2)) (atT s.ts (2 * i + 1)) = true then 2 * i + 2 else 2 * i + 1) = d := ⟨_, rfl⟩
      rw [hd]
      have hd1 : d < s.ts.length ∧ (d - 1) / 2 = i ∧ i < d := by
        by_cases hc : 2 * i + 2 < s.ts.length ∧ aheadT (atT s.ts (2 * i + 2)) (atT s.ts (2 * i + 1)) = true
        · rw [if_pos hc] at hd; omega
        · rw [if_neg hc] at hd; omega
      obtain ⟨hdl, hdp, hid⟩ := hd1
      have hd2 : ∀ j, 0 < j → j < s.ts.length → (j - 1) / 2 = i → aheadT (atT s.ts j) (atT s.ts d) = false := by
        intro j hj hjl hjp
        by_cases hc : 2 * i + 2 < s.ts.length ∧ aheadT (atT s.ts (2 * i + 2)) (atT s.ts (2 * i + 1)) = true
        · rw [if_pos hc] at hd
          subst hd
          rcases (show j = 2 * i + 1 ∨ j = 2 * i + 2 by omega) with rfl | rfl
          · exact ahead_asymm hc.2
          · exact ahead_irr _
        · rw [if_neg hc] at hd
          subst hd
          rcases (show j = 2 * i + 1 ∨ j = 2 * i + 2 by omega) with rfl | rfl
          · exact ahead_irr _
          · rw [← Bool.not_eq_true]; exact fun e => hc ⟨hjl, e⟩
      clear hd
      by_cases ha : aheadT (atT s.ts d) t = true
      · rw [if_pos ha]
        obtain ⟨q1, q2, q3⟩ := hp.step (j := d) hdl (by omega)
        have hne : i ≠ d := by omega
        have e1 : ∀ j, atT ((putS s i (atT s.ts d)).ts.set d t) j = if d = j then t else if i = j then atT s.ts d else atT s.ts j := by
          intro j
          rw [atT_set _ _ _ _ (by simpa [putS] using hdl)]
          simp only [putS]
          rw [atT_set _ _ _ _ hlt]
        have hr' : SI (putS s i (atT s.ts d)).ts d t := by
          refine ⟨?_, ?_⟩
          · intro j hj hjl hjd
            simp only [putS, List.length_set] at hjl
            rw [e1, e1, if_neg (show ¬d = (j - 1) / 2 from Ne.symm hjd)]
            by_cases h1 : d = j
            · rw [if_pos h1, if_pos (by omega)]
              exact ahead_asymm ha
            · rw [if_neg h1]
              by_cases h2 : i = (j - 1) / 2
              · rw [if_pos h2, if_neg (by omega)]
                exact hd2 j hj hjl h2.symm
              · rw [if_neg h2]
                have A := hA j hj hjl (Ne.symm h2)
                rw [if_neg h2] at A
                by_cases h3 : i = j
                · rw [if_pos h3]
                  have B := hB d (by omega) hdl hdp (by omega)
                  rw [if_neg hne, if_neg (by omega)] at B
                  rw [← h3]
                  exact B
                · rw [if_neg h3] at A ⊢
                  exact A
          · intro j hj hjl hjd hd0
            simp only [putS, List.length_set] at hjl
            have A := hA j hj hjl (by omega)
            rw [if_neg (by omega), if_neg (by omega), hjd] at A
            rw [e1, e1, if_neg (by omega), if_neg (by omega), if_neg (by omega), if_pos (by omega)]
            exact A
        obtain ⟨w1, w2, w3⟩ := ih _ d t (by simp only [putS, List.length_set]; omega) q1 hr' (by rw [q2, q3]; simpa [putS] using hn)
        exact ⟨w1, w2, w3.trans (swap_perm s.ts t hlt hdl hne)⟩
      · rw [if_neg ha]
        refine ⟨hp.done hn, ?_, List.Perm.refl _⟩
        intro j hj hjl
        simp only [putS, List.length_set] at hjl ⊢
        by_cases hji : (j - 1) / 2 = i
        · rw [e2, e2, if_neg (by omega), if_pos (by omega)]
          exact ahead_le (by simpa using ha) (hd2 j hj hjl hji)
        · exact hr.a j hj hjl hji

theorem least_first {l : List Th} (h : HO l) : ∀ j, j < l.length → aheadT (atT l j) (atT l 0) = false := by
  intro j
  induction j using Nat.strongRecOn with
  | _ j ih =>
    intro hj
    by_cases h0 : j = 0
    · subst h0; exact ahead_irr _
    · exact ahead_le (ih _ (by omega) (by omega)) (h j (by omega) hj)

/-- A heap that holds things. -/
structure HI (s : HS) (m : List Th) : Prop where
  pf : PF s
  ho : HO s.ts
  pm : s.ts.Perm m

theorem HI.nil : HI ⟨[], fun _ => none, 0⟩ [] :=
  ⟨⟨List.Pairwise.nil, fun j h => absurd h (Nat.not_lt_zero j), fun _ _ => rfl, rfl⟩, fun j _ h => absurd h (Nat.not_lt_zero j), List.Perm.refl _⟩
theorem HI.len {s : HS} {m : List Th} (h : HI s m) : s.ts.length = m.length := h.pm.length_eq
theorem HI.nodup {s : HS} {m : List Th} (h : HI s m) : (m.map Th.id).Nodup := (h.pm.map Th.id).nodup_iff.1 h.pf.nd
theorem atT_mem {l : List Th} {j : Nat} (h : j < l.length) : atT l j ∈ l := by
  simp [atT, List.getD_eq_getElem?_getD, h]
theorem mem_atT {l : List Th} {x : Th} (h : x ∈ l) : ∃ j, j < l.length ∧ atT l j = x := by
  obtain ⟨j, hj, rfl⟩ := List.mem_iff_getElem.1 h
  exact ⟨j, hj, by simp [atT, List.getD_eq_getElem?_getD, hj]⟩
/-- Where a thing stands. -/
theorem PF.some {s : HS} (h : PF s) {x : Int} {p : Nat} (e : s.f x = some p) : p < s.ts.length ∧ (atT s.ts p).id = x := by
  by_cases hx : ∀ j, j < s.ts.length → (atT s.ts j).id ≠ x
  · rw [h.no x hx] at e; cases e
  · obtain ⟨j, hj⟩ := Classical.not_forall.1 hx
    obtain ⟨hj1, hj2⟩ := Classical.not_imp.1 hj
    have hj3 := Classical.not_not.1 hj2
    have := h.pl j hj1
    rw [hj3, e] at this
    cases this
    exact ⟨hj1, hj3⟩
/-- The key of a thing, in a list. -/
def findT (m : List Th) (x : Int) : Option Th := m.find? (fun t => decide (t.id = x))
theorem findT_some {m : List Th} {x : Int} {t : Th} (hn : (m.map Th.id).Nodup) (hm : t ∈ m) (e : t.id = x) : findT m x = some t := by
  induction m with
  | nil => cases hm
  | cons a m ih =>
    rw [List.map_cons, List.nodup_cons] at hn
    unfold findT
    rw [List.find?_cons]
    by_cases ha : a.id = x
    · rw [decide_eq_true ha]
      rcases List.mem_cons.1 hm with rfl | h
      · rfl
      · exact absurd (List.mem_map.2 ⟨t, h, e.trans ha.symm⟩) hn.1
    · rw [decide_eq_false ha]
      rcases List.mem_cons.1 hm with rfl | h
      · exact absurd e ha
      · exact ih hn.2 h
theorem findT_none {m : List Th} {x : Int} (h : ∀ t ∈ m, t.id ≠ x) : findT m x = none := by
  unfold findT
  rw [List.find?_eq_none]
  intro t ht e
  exact h t ht (of_decide_eq_true e)
theorem findT_mem {m : List Th} {x : Int} {t : Th} (h : findT m x = some t) : t ∈ m ∧ t.id = x := by
  unfold findT at h
  have h2 := List.find?_some h
  exact ⟨List.mem_of_find?_eq_some h, of_decide_eq_true h2⟩
theorem HI.find {s : HS} {m : List Th} (h : HI s m) (x : Int) : (s.f x).map (atT s.ts) = findT m x := by
  cases e : s.f x with
  | none =>
    symm
    refine findT_none fun t ht e2 => ?_
    obtain ⟨j, hj, rfl⟩ := mem_atT (h.pm.mem_iff.2 ht)
    have := h.pf.pl j hj
    rw [e2, e] at this
    cases this
  | some p =>
    obtain ⟨h1, h2⟩ := h.pf.some e
    exact (findT_some h.nodup (h.pm.mem_iff.1 (atT_mem h1)) h2).symm
theorem HI.ids {s : HS} {m : List Th} (h : HI s m) (x : Int) : (s.f x).isSome = (findT m x).isSome := by
  rw [← h.find x]; cases s.f x <;> rfl

/-- A thing more. -/
def pushS (s : HS) (t : Th) : HS := riseS ⟨s.ts ++ [t], s.f, s.n⟩ s.ts.length t
theorem atT_app (l : List Th) (t : Th) (j : Nat) (h : j < l.length) : atT (l ++ [t]) j = atT l j := by
  simp only [atT, List.getD_eq_getElem?_getD]
  rw [List.getElem?_append_left h]
theorem HI.push {s : HS} {m : List Th} (h : HI s m) {t : Th} (hn : s.f t.id = none) : HI (pushS s t) (m ++ [t]) := by
  have es : (s.ts ++ [t]).set s.ts.length t = s.ts ++ [t] := by simp
  have hnt : ∀ j, j < s.ts.length → (atT s.ts j).id ≠ t.id := fun j hj e => by
    have := h.pf.pl j hj
    rw [e, hn] at this; cases this
  obtain ⟨h1, h2, h3⟩ := rise_all s.ts.length ⟨s.ts ++ [t], s.f, s.n⟩ t
    ⟨by simp, by
      simp only [es, List.map_append, List.map_cons, List.map_nil]
      refine List.nodup_append.2 ⟨h.pf.nd, by simp, fun a ha b hb e => ?_⟩
      obtain ⟨x, hx, rfl⟩ := List.mem_map.1 ha
      obtain ⟨j, hj, rfl⟩ := mem_atT hx
      exact hnt j hj (e.trans (List.mem_singleton.1 hb)),
    fun j hj hne => by
      simp only [List.length_append, List.length_singleton] at hj
      simp only
      rw [atT_app _ _ _ (by omega)]
      exact h.pf.pl j (by omega),
    fun x hx => h.pf.no x fun j hj e => hx j (by simp; omega) (by simp only [es]; rw [atT_app _ _ _ hj]; exact e)⟩
    ⟨fun j hj hjl hne => by
      simp only [List.length_append, List.length_singleton] at hjl
      simp only [es]
      rw [atT_app _ _ _ (by omega), atT_app _ _ _ (by omega)]
      exact h.ho j hj (by omega),
    fun j hj hjl hp _ => by simp only [List.length_append, List.length_singleton] at hjl; omega⟩
    (by simp [hn, h.pf.n])
  refine ⟨h1, h2, h3.trans ?_⟩
  simp only [es]
  exact h.pm.append_right [t]

/-- A lesser key. -/
theorem set_map {l : List Th} (hn : (l.map Th.id).Nodup) {p : Nat} (hp : p < l.length) {t : Th} (e : (atT l p).id = t.id) : l.set p t = l.map (fun x => if x.id = t.id then t else x) := by
  apply List.ext_getElem?
  intro i
  rw [List.getElem?_set, List.getElem?_map]
  by_cases hi : p = i
  · subst hi
    rw [if_pos rfl, if_pos hp, List.getElem?_eq_getElem hp, Option.map_some]
    simp only [atT, List.getD_eq_getElem?_getD, List.getElem?_eq_getElem hp, Option.getD_some] at e
    rw [if_pos e]
  · rw [if_neg hi]
    by_cases hil : i < l.length
    · rw [List.getElem?_eq_getElem hil, Option.map_some, if_neg]
      intro e2
      refine hi (nodup_at hn hp hil ?_)
      rw [e, ← e2]
      simp [atT, List.getD_eq_getElem?_getD, hil]
    · rw [List.getElem?_eq_none (by omega)]; rfl
theorem less_ahead {a b : Th} (h : lessK a b = true) : aheadT a b = true := by
  rw [aheadT_iff]
  unfold lessK at h
  grind
theorem HI.lower {s : HS} {m : List Th} (h : HI s m) {t : Th} {p : Nat} (hp : s.f t.id = some p) (hk : lessK t (atT s.ts p) = true) : HI (riseS s p t) (m.map (fun x => if x.id = t.id then t else x)) := by
  obtain ⟨hpl, hid⟩ := h.pf.some hp
  have hnd : ((s.ts.set p t).map Th.id) = s.ts.map Th.id := by
    apply List.ext_getElem?
    intro i
    simp only [List.getElem?_map, List.getElem?_set]
    by_cases hi : p = i
    · subst hi
      simp only [atT, List.getD_eq_getElem?_getD, List.getElem?_eq_getElem hpl, Option.getD_some] at hid
      simp [hpl, hid]
    · simp [hi]
  have e2 : ∀ j, atT (s.ts.set p t) j = if p = j then t else atT s.ts j := fun j => atT_set _ _ _ _ hpl
  have ha := less_ahead hk
  obtain ⟨h1, h2, h3⟩ := rise_all p s t
    ⟨hpl, hnd ▸ h.pf.nd, fun j hj _ => h.pf.pl j hj, fun x hx => h.pf.no x fun j hj e => hx j hj (by
      rw [e2]
      by_cases hi : p = j
      · subst hi; rw [if_pos rfl, ← hid, e]
      · rw [if_neg hi, e])⟩
    ⟨fun j hj hjl hne => by
      rw [e2, e2, if_neg (Ne.symm hne)]
      have A := h.ho j hj hjl
      by_cases hq : p = (j - 1) / 2
      · rw [if_pos hq]
        rw [← hq] at A
        exact ahead_le (ahead_asymm ha) A
      · rw [if_neg hq]; exact A,
    fun j hj hjl hq h0 => by
      rw [e2, e2, if_neg (by omega), if_neg (by omega)]
      have A := h.ho j hj hjl
      rw [hq] at A
      exact ahead_le (h.ho p h0 hpl) A⟩
    (by simp [hp, h.pf.n])
  refine ⟨h1, h2, h3.trans ?_⟩
  rw [set_map h.pf.nd hpl hid]
  exact h.pm.map _

/-- The first thing taken. -/
def popS (s : HS) : HS :=
  if s.ts.length - 1 = 0 then ⟨s.ts.take (s.ts.length - 1), upd s.f (atT s.ts 0).id none, s.n - 1⟩
  else sinkS ⟨s.ts.take (s.ts.length - 1), upd s.f (atT s.ts 0).id none, s.n - 1⟩ 0 (atT s.ts (s.ts.length - 1))
theorem atT_take (l : List Th) {n j : Nat} (h : j < n) : atT (l.take n) j = atT l j := by
  simp [atT, List.getD_eq_getElem?_getD, h]
theorem filter_tail {a : Th} {l : List Th} (hn : ((a :: l).map Th.id).Nodup) : (a :: l).filter (fun x => decide (x.id ≠ a.id)) = l := by
  rw [List.map_cons, List.nodup_cons] at hn
  rw [List.filter_cons]
  simp only [ne_eq, not_true_eq_false, decide_false, Bool.false_eq_true, if_false]
  rw [List.filter_eq_self]
  intro x hx
  exact decide_eq_true fun e => hn.1 (List.mem_map.2 ⟨x, hx, e⟩)
theorem HI.first {s : HS} {m : List Th} (h : HI s m) (h0 : m ≠ []) : atT s.ts 0 ∈ m ∧ ∀ x ∈ m, aheadT x (atT s.ts 0) = false := by
  have hl : 0 < s.ts.length := by rw [h.len]; exact List.length_pos_iff.2 h0
  refine ⟨h.pm.mem_iff.1 (atT_mem hl), fun x hx => ?_⟩
  obtain ⟨j, hj, rfl⟩ := mem_atT (h.pm.mem_iff.2 hx)
  exact least_first h.ho j hj
theorem HI.pop {s : HS} {m : List Th} (h : HI s m) (h0 : m ≠ []) : HI (popS s) (m.filter (fun x => decide (x.id ≠ (atT s.ts 0).id))) := by
  have hl : 0 < s.ts.length := by rw [h.len]; exact List.length_pos_iff.2 h0
  have hpm := h.pm.filter (fun x => decide (x.id ≠ (atT s.ts 0).id))
  obtain ⟨a, l, hal⟩ : ∃ a l, s.ts = a :: l := by
    cases e : s.ts with
    | nil => rw [e] at hl; simp at hl
    | cons a l => exact ⟨a, l, rfl⟩
  have ha : atT s.ts 0 = a := by rw [hal]; rfl
  have htl : s.ts.filter (fun x => decide (x.id ≠ (atT s.ts 0).id)) = l := by
    rw [ha, hal]; exact filter_tail (hal ▸ h.pf.nd)
  rw [htl] at hpm
  unfold popS
  by_cases h1 : s.ts.length - 1 = 0
  · rw [if_pos h1]
    have hl0 : l = [] := by rw [hal] at h1; simpa using h1
    subst hl0
    refine ⟨⟨by rw [h1]; simp, fun j hj => ?_, fun x hx => ?_, ?_⟩, fun j hj hjl => ?_, by rw [h1]; simpa using hpm⟩
    · simp [h1] at hj
    · simp only [upd]
      split
      · rfl
      · rename_i hne
        refine h.pf.no x fun j hj e => hne ?_
        rw [← e, (show j = 0 by omega)]
    · simp only [h1, List.take_zero, List.length_nil, h.pf.n]
    · simp [h1] at hjl
  · rw [if_neg h1]
    obtain ⟨b, l', hlb⟩ : ∃ b l', l = l' ++ [b] := by
      rcases List.eq_nil_or_concat l with e | ⟨l', b, e⟩
      · rw [hal, e] at h1; simp at h1
      · exact ⟨b, l', by rw [e, List.concat_eq_append]⟩
    have hlast : atT s.ts (s.ts.length - 1) = b := by
      rw [hal, hlb]
      simp [atT, List.getD_eq_getElem?_getD]
    have htk : s.ts.take (s.ts.length - 1) = a :: l' := by
      rw [hal, hlb]
      simp
    have hset : (s.ts.take (s.ts.length - 1)).set 0 b = b :: l' := by rw [htk]; rfl
    have hidb : b.id ≠ a.id := fun e => by
      have := h.pf.nd
      rw [hal, hlb, List.map_cons, List.nodup_cons] at this
      exact this.1 (List.mem_map.2 ⟨b, by simp, e⟩)
    have hlen : s.ts.length = l'.length + 2 := by rw [hal, hlb]; simp
    have hne0 : ∀ j, 0 < j → j < s.ts.length → (atT s.ts j).id ≠ a.id := fun j hj hjl e => by
      have := nodup_at h.pf.nd hjl hl (e.trans (by rw [ha]))
      omega
    have hfb : s.f b.id = some (s.ts.length - 1) := by rw [← hlast]; exact h.pf.pl _ (by omega)
    have hplb : (b :: l').Perm l := by rw [hlb]; exact List.perm_append_comm (l₁ := [b]) (l₂ := l')
    have hndl : (l.map Th.id).Nodup := by
      have := h.pf.nd
      rw [hal, List.map_cons, List.nodup_cons] at this
      exact this.2
    have hat : ∀ j, 0 < j → j < s.ts.length - 1 → atT (b :: l') j = atT s.ts j := fun j hj hjl => by
      rw [← hset, atT_set _ _ _ _ (by rw [htk]; simp), if_neg (by omega), atT_take _ hjl]
    rw [hlast]
    obtain ⟨h2, h3, h4⟩ := sink_all (s.ts.length) ⟨s.ts.take (s.ts.length - 1), upd s.f (atT s.ts 0).id none, s.n - 1⟩ 0 b (by simp)
      ⟨by simp; omega, by simp only [hset]; exact (hplb.map Th.id).nodup_iff.2 hndl,
      fun j hj hj0 => by
        simp only [List.length_take] at hj
        simp only
        rw [atT_take _ (by omega), upd, if_neg (by rw [ha]; exact hne0 j (by omega) (by omega))]
        exact h.pf.pl j (by omega),
      fun x hx => by
        simp only [hset, List.length_take] at hx
        simp only [upd]
        split
        · rfl
        · rename_i hxa
          refine h.pf.no x fun j hj e => ?_
          by_cases hj0 : j = 0
          · subst hj0; exact hxa e.symm
          · by_cases hjl : j = s.ts.length - 1
            · refine hx 0 (by omega) ?_
              rw [hjl, hlast] at e
              exact e
            · refine hx j (by omega) ?_
              rw [hat j (by omega) (by omega)]
              exact e⟩
      ⟨fun j hj hjl hp => by
        simp only [List.length_take] at hjl
        simp only [hset]
        rw [hat j hj (by omega), hat _ (by omega) (by omega)]
        exact h.ho j hj (by omega),
      fun j hj hjl hp h0 => absurd h0 (Nat.lt_irrefl 0)⟩
      (by
        simp only [List.length_take, h.pf.n, upd, ha, if_neg hidb, hfb]
        simp)
    refine ⟨h2, h3, h4.trans ?_⟩
    simp only [hset]
    exact hplb.trans hpm
end Go.Proofs.YtofpoenehdmkpaaDoor
