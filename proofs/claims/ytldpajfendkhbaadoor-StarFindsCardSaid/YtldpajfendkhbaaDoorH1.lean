/- Texts joined: Hm, Ha, Hb, Hc, Hd, He, Ea, Hf, Hg, Hi, Hj, Hk, Hl. -/
import Derived.Test.YtldpajfendkhbaaDoorProg
import Derived.Test.YtldpajfendkhbaaDoorGa
import Derived.WalkKit
import Derived.WalkSpells
import Derived.WalkLawsBesides
import Derived.LoopTactic
import Derived.Deep.QuietTactic
import Derived.BigQuiet
import Derived.Deep.RegionHeld3
import Derived.Lib.Hide
import Derived.OwnWalk
import Derived.Laws.AppendOwn
import Derived.Laws.OwnMore
import Derived.Laws.Rows
import Derived.Maps.OwnSet
import Derived.Test.YtldpajfendkhbaaDoorOz
import Derived.RangeFuncCalls
import Derived.Deep.Cut
import Derived.WalkMore
import Derived.Maps.AppendAt
/- Heap: the mathematics of things that rise and sink. -/
namespace Go.Proofs.YtldpajfendkhbaaDoor
structure Th where
  id : Int
  F : Int
  H : Int
  Y : Int
  X : Int
  deriving DecidableEq

instance : Inhabited Th := ⟨⟨0, 0, 0, 0, 0⟩⟩

/-- A key is less than another one. -/
def lessK (a b : Th) : Bool := if a.F = b.F then (if a.H = b.H then (if a.Y = b.Y then decide (a.X < b.X) else decide (a.Y < b.Y)) else decide (a.H < b.H)) else decide (a.F < b.F)
/-- Two have one key. -/
def sameK (a b : Th) : Bool := decide (a.F = b.F ∧ a.H = b.H ∧ a.Y = b.Y ∧ a.X = b.X)
/-- A thing goes ahead of another one. -/
def aheadT (a b : Th) : Bool := if sameK a b then decide (a.id < b.id) else lessK a b

theorem aheadT_iff (a b : Th) : aheadT a b = true ↔ a.F < b.F ∨ a.F = b.F ∧ (a.H < b.H ∨ a.H = b.H ∧ (a.Y < b.Y ∨ a.Y = b.Y ∧ (a.X < b.X ∨ a.X = b.X ∧ a.id < b.id))) := by
  unfold aheadT sameK lessK
  grind
theorem ahead_irr (a : Th) : aheadT a a = false := by
  rw [← Bool.not_eq_true, aheadT_iff]; omega
theorem ahead_asymm {a b : Th} (h : aheadT a b = true) : aheadT b a = false := by
  rw [← Bool.not_eq_true, aheadT_iff]; rw [aheadT_iff] at h; omega
theorem ahead_trans {a b c : Th} (h : aheadT a b = true) (k : aheadT b c = true) : aheadT a c = true := by
  rw [aheadT_iff] at *; omega
theorem ahead_le {a b c : Th} (h : aheadT b a = false) (k : aheadT c b = false) : aheadT c a = false := by
  rw [← Bool.not_eq_true, aheadT_iff] at *; omega
theorem ahead_total {a b : Th} (h : aheadT a b = false) (k : aheadT b a = false) : a = b := by
  rw [← Bool.not_eq_true, aheadT_iff] at *
  cases a; cases b; simp at *; omega

/-- The thing at a place. -/
abbrev atT (l : List Th) (j : Nat) : Th := l.getD j default
theorem atT_set (l : List Th) (i j : Nat) (x : Th) (h : i < l.length) : atT (l.set i x) j = if i = j then x else atT l j := by
  simp only [atT, List.getD_eq_getElem?_getD, List.getElem?_set]
  split
  · simp
  · rfl

/-- None goes ahead of the one above it. -/
def HO (l : List Th) : Prop := ∀ j, 0 < j → j < l.length → aheadT (atT l j) (atT l ((j - 1) / 2)) = false
/-- The state of a heap: its things, their places, how many places are told. -/
structure HS where
  ts : List Th
  f : Int → Option Nat
  n : Nat
def upd (f : Int → Option Nat) (i : Int) (v : Option Nat) : Int → Option Nat := fun j => if j = i then v else f j
def putS (s : HS) (at_ : Nat) (t : Th) : HS := ⟨s.ts.set at_ t, upd s.f t.id (some at_), if (s.f t.id).isSome then s.n else s.n + 1⟩
/-- Rising. -/
def riseS (s : HS) (i : Nat) (t : Th) : HS :=
  if h : i = 0 then putS s i t else if aheadT t (atT s.ts ((i - 1) / 2)) then riseS (putS s i (atT s.ts ((i - 1) / 2))) ((i - 1) / 2) t else putS s i t
termination_by i
decreasing_by omega
/-- The place below that goes ahead. -/
def belowS (l : List Th) (i : Nat) : Option Nat :=
  if l.length ≤ 2 * i + 1 then none else if 2 * i + 2 < l.length ∧ aheadT (atT l (2 * i + 2)) (atT l (2 * i + 1)) = true then some (2 * i + 2) else some (2 * i + 1)
/-- Sinking. -/
def sinkS (s : HS) (i : Nat) (t : Th) : HS :=
  if h : s.ts.length ≤ 2 * i + 1 then putS s i t else
  if aheadT (atT s.ts (if 2 * i + 2 < s.ts.length ∧ aheadT (atT s.ts (2 * i + 2)) (atT s.ts (2 * i + 1)) = true then 2 * i + 2 else 2 * i + 1)) t then
    sinkS (putS s i (atT s.ts (if 2 * i + 2 < s.ts.length ∧ aheadT (atT s.ts (2 * i + 2)) (atT s.ts (2 * i + 1)) = true then 2 * i + 2 else 2 * i + 1))) (if 2 * i + 2 < s.ts.length ∧ aheadT (atT s.ts (2 * i + 2)) (atT s.ts (2 * i + 1)) = true then 2 * i + 2 else 2 * i + 1) t
  else putS s i t
termination_by s.ts.length - i
decreasing_by
  simp only [putS, List.length_set]
  split <;> omega

/-- What is told of places, but for one. -/
structure PI (s : HS) (i : Nat) (t : Th) : Prop where
  lt : i < s.ts.length
  nd : ((s.ts.set i t).map Th.id).Nodup
  pl : ∀ j, j < s.ts.length → j ≠ i → s.f (atT s.ts j).id = some j
  no : ∀ x, (∀ j, j < s.ts.length → (atT (s.ts.set i t) j).id ≠ x) → s.f x = none
/-- What is told of places. -/
structure PF (s : HS) : Prop where
  nd : (s.ts.map Th.id).Nodup
  pl : ∀ j, j < s.ts.length → s.f (atT s.ts j).id = some j
  no : ∀ x, (∀ j, j < s.ts.length → (atT s.ts j).id ≠ x) → s.f x = none
  n : s.n = s.ts.length

theorem nodup_at {l : List Th} (h : (l.map Th.id).Nodup) {i j : Nat} (hi : i < l.length) (hj : j < l.length) (e : (atT l i).id = (atT l j).id) : i = j := by
  have h1 : i < (l.map Th.id).length := by simpa using hi
  have h2 : j < (l.map Th.id).length := by simpa using hj
  simp only [atT, List.getD_eq_getElem?_getD, List.getElem?_eq_getElem hi, List.getElem?_eq_getElem hj, Option.getD_some] at e
  have e' : (l.map Th.id)[i] = (l.map Th.id)[j] := by simpa using e
  exact (List.getElem?_inj h1 h).1 (by rw [List.getElem?_eq_getElem h1, List.getElem?_eq_getElem h2, e'])

theorem swap_perm (l : List Th) {i j : Nat} (t : Th) (hi : i < l.length) (hj : j < l.length) (hne : i ≠ j) : ((l.set i (atT l j)).set j t).Perm (l.set i t) := by
  have h := @List.set_set_perm Th (l.set i t) i j (by simpa using hi) (by simpa using hj)
  have hj' : j < (l.set i t).length := by simpa using hj
  have e : (l.set i t).set i ((l.set i t)[j]'hj') = l.set i (atT l j) := by
    simp [hne, atT, List.getD_eq_getElem?_getD, hj]
  rw [e] at h
  simpa using h

/-- A step of either: the thing at place j moves to i. -/
theorem PI.step {s : HS} {i j : Nat} {t : Th} (h : PI s i t) (hj : j < s.ts.length) (hne : i ≠ j) : PI (putS s i (atT s.ts j)) j t ∧ (putS s i (atT s.ts j)).n = s.n ∧ (putS s i (atT s.ts j)).f t.id = s.f t.id := by
  have hpm := swap_perm s.ts t h.lt hj hne
  have hid : ∀ k, k < s.ts.length → k ≠ i → k ≠ j → (atT s.ts k).id ≠ (atT s.ts j).id := fun k hk hki hkj e => by
    have := nodup_at h.nd (i := k) (j := j) (by simpa using hk) (by simpa using hj) (by rw [atT_set _ _ _ _ h.lt, atT_set _ _ _ _ h.lt, if_neg (Ne.symm hki), if_neg hne]; exact e)
    exact hkj this
  have hti : t.id ≠ (atT s.ts j).id := fun e => by
    have := nodup_at h.nd (i := i) (j := j) (by simpa using h.lt) (by simpa using hj) (by rw [atT_set _ _ _ _ h.lt, atT_set _ _ _ _ h.lt, if_pos rfl, if_neg hne]; exact e)
    exact hne this
  refine ⟨⟨by simpa [putS] using hj, (hpm.map Th.id).nodup_iff.2 h.nd, ?_, ?_⟩, ?_, ?_⟩
  · intro k hk hkj
    simp only [putS, List.length_set] at hk ⊢
    rw [atT_set _ _ _ _ h.lt]
    by_cases hki : i = k
    · rw [if_pos hki, upd, if_pos rfl, hki]
    · rw [if_neg hki, upd, if_neg (hid k hk (Ne.symm hki) hkj)]
      exact h.pl k hk (Ne.symm hki)
  · intro x hx
    simp only [putS, List.length_set] at hx ⊢
    have h1 : x ≠ (atT s.ts j).id := fun e => by
      refine hx i h.lt ?_
      rw [atT_set _ _ _ _ (by simpa using hj), if_neg (Ne.symm hne), atT_set _ _ _ _ h.lt, if_pos rfl, e]
    rw [upd, if_neg h1]
    refine h.no x fun k hk e => ?_
    rw [atT_set _ _ _ _ h.lt] at e
    by_cases hki : i = k
    · rw [if_pos hki] at e
      refine hx j hj ?_
      rw [atT_set _ _ _ _ (by simpa using hj), if_pos rfl, e]
    · rw [if_neg hki] at e
      by_cases hkj : k = j
      · subst hkj; exact h1 e.symm
      · refine hx k hk ?_
        rw [atT_set _ _ _ _ (by simpa using hj), if_neg (Ne.symm hkj), atT_set _ _ _ _ h.lt, if_neg hki, e]
  · have e := h.pl j hj (Ne.symm hne)
    simp only [putS, e]
    rfl
  · simp only [putS, upd, if_neg hti]
theorem PI.done {s : HS} {i : Nat} {t : Th} (h : PI s i t) (hn : s.n + (if (s.f t.id).isSome then 0 else 1) = s.ts.length) : PF (putS s i t) := by
  refine ⟨h.nd, ?_, ?_, ?_⟩
  · intro k hk
    simp only [putS, List.length_set] at hk ⊢
    rw [atT_set _ _ _ _ h.lt]
    by_cases hki : i = k
    · rw [if_pos hki, upd, if_pos rfl, hki]
    · rw [if_neg hki, upd, if_neg]
      · exact h.pl k hk (Ne.symm hki)
      · intro e
        have := nodup_at h.nd (i := k) (j := i) (by simpa using hk) (by simpa using h.lt) (by rw [atT_set _ _ _ _ h.lt, atT_set _ _ _ _ h.lt, if_neg hki, if_pos rfl]; exact e)
        exact hki this.symm
  · intro x hx
    simp only [putS, List.length_set] at hx ⊢
    rw [upd, if_neg]
    · exact h.no x hx
    · intro e
      refine hx i h.lt ?_
      rw [atT_set _ _ _ _ h.lt, if_pos rfl, e]
  · simp only [putS, List.length_set]
    split at hn <;> split <;> simp_all

/-- Rising: what holds. -/
structure RI (l : List Th) (i : Nat) (t : Th) : Prop where
  a : ∀ j, 0 < j → j < l.length → j ≠ i → aheadT (atT (l.set i t) j) (atT (l.set i t) ((j - 1) / 2)) = false
  b : ∀ j, 0 < j → j < l.length → (j - 1) / 2 = i → 0 < i → aheadT (atT (l.set i t) j) (atT (l.set i t) ((i - 1) / 2)) = false

theorem rise_all (i : Nat) : ∀ (s : HS) (t : Th), PI s i t → RI s.ts i t → s.n + (if (s.f t.id).isSome then 0 else 1) = s.ts.length →
    PF (riseS s i t) ∧ HO (riseS s i t).ts ∧ (riseS s i t).ts.Perm (s.ts.set i t) := by
  induction i using Nat.strongRecOn with
  | _ i ih =>
    intro s t hp hr hn
    have hlt := hp.lt
    rw [riseS]
    by_cases h0 : i = 0
    · rw [dif_pos h0]
      refine ⟨hp.done hn, ?_, List.Perm.refl _⟩
      intro j hj hjl
      exact hr.a j hj (by simpa [putS] using hjl) (by omega)
    · rw [dif_neg h0]
      have hup : (i - 1) / 2 < i := by omega
      by_cases ha : aheadT t (atT s.ts ((i - 1) / 2)) = true
      · rw [if_pos ha]
        obtain ⟨q1, q2, q3⟩ := hp.step (j := (i - 1) / 2) (by omega) (by omega)
        have hne : i ≠ (i - 1) / 2 := by omega
        have hlu : (i - 1) / 2 < s.ts.length := by omega
        have e1 : ∀ j, atT ((putS s i (atT s.ts ((i - 1) / 2))).ts.set ((i - 1) / 2) t) j = if (i - 1) / 2 = j then t else if i = j then atT s.ts ((i - 1) / 2) else atT s.ts j := by
          intro j
          rw [atT_set _ _ _ _ (by simpa [putS] using hlu)]
          simp only [putS]
          rw [atT_set _ _ _ _ hlt]
        have e2 : ∀ j, atT (s.ts.set i t) j = if i = j then t else atT s.ts j := fun j => atT_set _ _ _ _ hlt
        have hr' : RI (putS s i (atT s.ts ((i - 1) / 2))).ts ((i - 1) / 2) t := by
          have hA := hr.a
          have hB := hr.b
          simp only [e2] at hA hB
          refine ⟨?_, ?_⟩
          · intro j hj hjl hju
            simp only [putS, List.length_set] at hjl
            rw [e1, e1]
            by_cases hji : i = j
            · subst hji
              rw [if_neg (Ne.symm hju), if_pos rfl, if_pos rfl]
              exact ahead_asymm ha
            · rw [if_neg (Ne.symm hju), if_neg hji]
              have A := hA j hj hjl (Ne.symm hji)
              rw [if_neg hji] at A
              by_cases h1 : (i - 1) / 2 = (j - 1) / 2
              · rw [if_pos h1]
                rw [if_neg (by omega), ← h1] at A
                exact ahead_le (ahead_asymm ha) A
              · rw [if_neg h1]
                by_cases h2 : i = (j - 1) / 2
                · rw [if_pos h2]
                  have B := hB j hj hjl h2.symm (by omega)
                  rw [if_neg hji, if_neg hne] at B
                  exact B
                · rw [if_neg h2]
                  rw [if_neg h2] at A
                  exact A
          · intro j hj hjl hju hu
            simp only [putS, List.length_set] at hjl
            have A := hA ((i - 1) / 2) hu (by omega) (by omega)
            rw [if_neg hne, if_neg (by omega)] at A
            rw [e1, e1, if_neg (show ¬(i - 1) / 2 = ((i - 1) / 2 - 1) / 2 by omega), if_neg (show ¬i = ((i - 1) / 2 - 1) / 2 by omega), if_neg (show ¬(i - 1) / 2 = j by omega)]
            by_cases hji : i = j
            · rw [if_pos hji]; exact A
            · rw [if_neg hji]
              have A2 := hA j hj hjl (Ne.symm hji)
              rw [if_neg hji, if_neg (by omega), hju] at A2
              exact ahead_le A A2
        obtain ⟨w1, w2, w3⟩ := ih _ hup _ t q1 hr' (by rw [q2, q3]; simpa [putS] using hn)
        exact ⟨w1, w2, w3.trans (swap_perm s.ts t hlt hlu hne)⟩
      · rw [if_neg ha]
        refine ⟨hp.done hn, ?_, List.Perm.refl _⟩
        intro j hj hjl
        simp only [putS, List.length_set] at hjl ⊢
        by_cases hji : j = i
        · rw [hji, atT_set _ _ _ _ hlt, atT_set _ _ _ _ hlt, if_pos rfl, if_neg (by omega)]
          simpa using ha
        · exact hr.a j hj hjl hji

/-- Sinking: what holds. -/
structure SI (l : List Th) (i : Nat) (t : Th) : Prop where
  a : ∀ j, 0 < j → j < l.length → (j - 1) / 2 ≠ i → aheadT (atT (l.set i t) j) (atT (l.set i t) ((j - 1) / 2)) = false
  b : ∀ j, 0 < j → j < l.length → (j - 1) / 2 = i → 0 < i → aheadT (atT (l.set i t) j) (atT (l.set i t) ((i - 1) / 2)) = false

theorem sink_all (k : Nat) : ∀ (s : HS) (i : Nat) (t : Th), s.ts.length - i ≤ k → PI s i t → SI s.ts i t → s.n + (if (s.f t.id).isSome then 0 else 1) = s.ts.length →
    PF (sinkS s i t) ∧ HO (sinkS s i t).ts ∧ (sinkS s i t).ts.Perm (s.ts.set i t) := by
  induction k with
  | zero => intro s i t hk hp; have := hp.lt; omega
  | succ k ih =>
    intro s i t hk hp hr hn
    have hlt := hp.lt
    rw [sinkS]
    have e2 : ∀ j, atT (s.ts.set i t) j = if i = j then t else atT s.ts j := fun j => atT_set _ _ _ _ hlt
    have hA := hr.a
    have hB := hr.b
    simp only [e2] at hA hB
    by_cases h0 : s.ts.length ≤ 2 * i + 1
    · rw [dif_pos h0]
      refine ⟨hp.done hn, ?_, List.Perm.refl _⟩
      intro j hj hjl
      exact hr.a j hj (by simpa [putS] using hjl) (by simp [putS] at hjl; omega)
    · rw [dif_neg h0]
      obtain ⟨d, hd⟩ : ∃ d, (if 2 * i + 2 < s.ts.length ∧ aheadT (atT s.ts (2 * i + 2)) (atT s.ts (2 * i + 1)) = true then 2 * i + 2 else 2 * i + 1) = d := ⟨_, rfl⟩
      rw [hd]
      have hd1 : d < s.ts.length ∧ (d - 1) / 2 = i ∧ i < d := by
        by_cases hc : 2 * i + 2 < s.ts.length ∧ aheadT (atT s.ts (2 * i + 2)) (atT s.ts (2 * i + 1)) = true
        · rw [if_pos hc] at hd; omega
        · rw [if_neg hc] at hd; omega
      obtain ⟨hdl, hdp, hid⟩ := hd1
      have hd2 : ∀ j, 0 < j → j < s.ts.length → (j - 1) / 2 = i → aheadT (atT s.ts j) (atT s.ts d) = false := by
        intro j hj hjl hjp
        by_cases hc : 2 * i + 2 < s.ts.length ∧ aheadT (atT s.ts (2 * i + 2)) (atT s.ts (2 * i + 1)) = true
        · rw [if_pos hc] at hd
          subst hd
          rcases (show j = 2 * i + 1 ∨ j = 2 * i + 2 by omega) with rfl | rfl
          · exact ahead_asymm hc.2
          · exact ahead_irr _
        · rw [if_neg hc] at hd
          subst hd
          rcases (show j = 2 * i + 1 ∨ j = 2 * i + 2 by omega) with rfl | rfl
          · exact ahead_irr _
          · rw [← Bool.not_eq_true]; exact fun e => hc ⟨hjl, e⟩
      clear hd
      by_cases ha : aheadT (atT s.ts d) t = true
      · rw [if_pos ha]
        obtain ⟨q1, q2, q3⟩ := hp.step (j := d) hdl (by omega)
        have hne : i ≠ d := by omega
        have e1 : ∀ j, atT ((putS s i (atT s.ts d)).ts.set d t) j = if d = j then t else if i = j then atT s.ts d else atT s.ts j := by
          intro j
          rw [atT_set _ _ _ _ (by simpa [putS] using hdl)]
          simp only [putS]
          rw [atT_set _ _ _ _ hlt]
        have hr' : SI (putS s i (atT s.ts d)).ts d t := by
          refine ⟨?_, ?_⟩
          · intro j hj hjl hjd
            simp only [putS, List.length_set] at hjl
            rw [e1, e1, if_neg (show ¬d = (j - 1) / 2 from Ne.symm hjd)]
            by_cases h1 : d = j
            · rw [if_pos h1, if_pos (by omega)]
              exact ahead_asymm ha
            · rw [if_neg h1]
              by_cases h2 : i = (j - 1) / 2
              · rw [if_pos h2, if_neg (by omega)]
                exact hd2 j hj hjl h2.symm
              · rw [if_neg h2]
                have A := hA j hj hjl (Ne.symm h2)
                rw [if_neg h2] at A
                by_cases h3 : i = j
                · rw [if_pos h3]
                  have B := hB d (by omega) hdl hdp (by omega)
                  rw [if_neg hne, if_neg (by omega)] at B
                  rw [← h3]
                  exact B
                · rw [if_neg h3] at A ⊢
                  exact A
          · intro j hj hjl hjd hd0
            simp only [putS, List.length_set] at hjl
            have A := hA j hj hjl (by omega)
            rw [if_neg (by omega), if_neg (by omega), hjd] at A
            rw [e1, e1, if_neg (by omega), if_neg (by omega), if_neg (by omega), if_pos (by omega)]
            exact A
        obtain ⟨w1, w2, w3⟩ := ih _ d t (by simp only [putS, List.length_set]; omega) q1 hr' (by rw [q2, q3]; simpa [putS] using hn)
        exact ⟨w1, w2, w3.trans (swap_perm s.ts t hlt hdl hne)⟩
      · rw [if_neg ha]
        refine ⟨hp.done hn, ?_, List.Perm.refl _⟩
        intro j hj hjl
        simp only [putS, List.length_set] at hjl ⊢
        by_cases hji : (j - 1) / 2 = i
        · rw [e2, e2, if_neg (by omega), if_pos (by omega)]
          exact ahead_le (by simpa using ha) (hd2 j hj hjl hji)
        · exact hr.a j hj hjl hji

theorem least_first {l : List Th} (h : HO l) : ∀ j, j < l.length → aheadT (atT l j) (atT l 0) = false := by
  intro j
  induction j using Nat.strongRecOn with
  | _ j ih =>
    intro hj
    by_cases h0 : j = 0
    · subst h0; exact ahead_irr _
    · exact ahead_le (ih _ (by omega) (by omega)) (h j (by omega) hj)

/-- A heap that holds things. -/
structure HI (s : HS) (m : List Th) : Prop where
  pf : PF s
  ho : HO s.ts
  pm : s.ts.Perm m

theorem HI.nil : HI ⟨[], fun _ => none, 0⟩ [] :=
  ⟨⟨List.Pairwise.nil, fun j h => absurd h (Nat.not_lt_zero j), fun _ _ => rfl, rfl⟩, fun j _ h => absurd h (Nat.not_lt_zero j), List.Perm.refl _⟩
theorem HI.len {s : HS} {m : List Th} (h : HI s m) : s.ts.length = m.length := h.pm.length_eq
theorem HI.nodup {s : HS} {m : List Th} (h : HI s m) : (m.map Th.id).Nodup := (h.pm.map Th.id).nodup_iff.1 h.pf.nd
theorem atT_mem {l : List Th} {j : Nat} (h : j < l.length) : atT l j ∈ l := by
  simp [atT, List.getD_eq_getElem?_getD, h]
theorem mem_atT {l : List Th} {x : Th} (h : x ∈ l) : ∃ j, j < l.length ∧ atT l j = x := by
  obtain ⟨j, hj, rfl⟩ := List.mem_iff_getElem.1 h
  exact ⟨j, hj, by simp [atT, List.getD_eq_getElem?_getD, hj]⟩
/-- Where a thing stands. -/
theorem PF.some {s : HS} (h : PF s) {x : Int} {p : Nat} (e : s.f x = some p) : p < s.ts.length ∧ (atT s.ts p).id = x := by
  by_cases hx : ∀ j, j < s.ts.length → (atT s.ts j).id ≠ x
  · rw [h.no x hx] at e; cases e
  · obtain ⟨j, hj⟩ := Classical.not_forall.1 hx
    obtain ⟨hj1, hj2⟩ := Classical.not_imp.1 hj
    have hj3 := Classical.not_not.1 hj2
    have := h.pl j hj1
    rw [hj3, e] at this
    cases this
    exact ⟨hj1, hj3⟩
/-- The key of a thing, in a list. -/
def findT (m : List Th) (x : Int) : Option Th := m.find? (fun t => decide (t.id = x))
theorem findT_some {m : List Th} {x : Int} {t : Th} (hn : (m.map Th.id).Nodup) (hm : t ∈ m) (e : t.id = x) : findT m x = some t := by
  induction m with
  | nil => cases hm
  | cons a m ih =>
    rw [List.map_cons, List.nodup_cons] at hn
    unfold findT
    rw [List.find?_cons]
    by_cases ha : a.id = x
    · rw [decide_eq_true ha]
      rcases List.mem_cons.1 hm with rfl | h
      · rfl
      · exact absurd (List.mem_map.2 ⟨t, h, e.trans ha.symm⟩) hn.1
    · rw [decide_eq_false ha]
      rcases List.mem_cons.1 hm with rfl | h
      · exact absurd e ha
      · exact ih hn.2 h
theorem findT_none {m : List Th} {x : Int} (h : ∀ t ∈ m, t.id ≠ x) : findT m x = none := by
  unfold findT
  rw [List.find?_eq_none]
  intro t ht e
  exact h t ht (of_decide_eq_true e)
theorem findT_mem {m : List Th} {x : Int} {t : Th} (h : findT m x = some t) : t ∈ m ∧ t.id = x := by
  unfold findT at h
  have h2 := List.find?_some h
  exact ⟨List.mem_of_find?_eq_some h, of_decide_eq_true h2⟩
theorem HI.find {s : HS} {m : List Th} (h : HI s m) (x : Int) : (s.f x).map (atT s.ts) = findT m x := by
  cases e : s.f x with
  | none =>
    symm
    refine findT_none fun t ht e2 => ?_
    obtain ⟨j, hj, rfl⟩ := mem_atT (h.pm.mem_iff.2 ht)
    have := h.pf.pl j hj
    rw [e2, e] at this
    cases this
  | some p =>
    obtain ⟨h1, h2⟩ := h.pf.some e
    exact (findT_some h.nodup (h.pm.mem_iff.1 (atT_mem h1)) h2).symm
theorem HI.ids {s : HS} {m : List Th} (h : HI s m) (x : Int) : (s.f x).isSome = (findT m x).isSome := by
  rw [← h.find x]; cases s.f x <;> rfl

/-- A thing more. -/
def pushS (s : HS) (t : Th) : HS := riseS ⟨s.ts ++ [t], s.f, s.n⟩ s.ts.length t
theorem atT_app (l : List Th) (t : Th) (j : Nat) (h : j < l.length) : atT (l ++ [t]) j = atT l j := by
  simp only [atT, List.getD_eq_getElem?_getD]
  rw [List.getElem?_append_left h]
theorem HI.push {s : HS} {m : List Th} (h : HI s m) {t : Th} (hn : s.f t.id = none) : HI (pushS s t) (m ++ [t]) := by
  have es : (s.ts ++ [t]).set s.ts.length t = s.ts ++ [t] := by simp
  have hnt : ∀ j, j < s.ts.length → (atT s.ts j).id ≠ t.id := fun j hj e => by
    have := h.pf.pl j hj
    rw [e, hn] at this; cases this
  obtain ⟨h1, h2, h3⟩ := rise_all s.ts.length ⟨s.ts ++ [t], s.f, s.n⟩ t
    ⟨by simp, by
      simp only [es, List.map_append, List.map_cons, List.map_nil]
      refine List.nodup_append.2 ⟨h.pf.nd, by simp, fun a ha b hb e => ?_⟩
      obtain ⟨x, hx, rfl⟩ := List.mem_map.1 ha
      obtain ⟨j, hj, rfl⟩ := mem_atT hx
      exact hnt j hj (e.trans (List.mem_singleton.1 hb)),
    fun j hj hne => by
      simp only [List.length_append, List.length_singleton] at hj
      simp only
      rw [atT_app _ _ _ (by omega)]
      exact h.pf.pl j (by omega),
    fun x hx => h.pf.no x fun j hj e => hx j (by simp; omega) (by simp only [es]; rw [atT_app _ _ _ hj]; exact e)⟩
    ⟨fun j hj hjl hne => by
      simp only [List.length_append, List.length_singleton] at hjl
      simp only [es]
      rw [atT_app _ _ _ (by omega), atT_app _ _ _ (by omega)]
      exact h.ho j hj (by omega),
    fun j hj hjl hp _ => by simp only [List.length_append, List.length_singleton] at hjl; omega⟩
    (by simp [hn, h.pf.n])
  refine ⟨h1, h2, h3.trans ?_⟩
  simp only [es]
  exact h.pm.append_right [t]

/-- A lesser key. -/
theorem set_map {l : List Th} (hn : (l.map Th.id).Nodup) {p : Nat} (hp : p < l.length) {t : Th} (e : (atT l p).id = t.id) : l.set p t = l.map (fun x => if x.id = t.id then t else x) := by
  apply List.ext_getElem?
  intro i
  rw [List.getElem?_set, List.getElem?_map]
  by_cases hi : p = i
  · subst hi
    rw [if_pos rfl, if_pos hp, List.getElem?_eq_getElem hp, Option.map_some]
    simp only [atT, List.getD_eq_getElem?_getD, List.getElem?_eq_getElem hp, Option.getD_some] at e
    rw [if_pos e]
  · rw [if_neg hi]
    by_cases hil : i < l.length
    · rw [List.getElem?_eq_getElem hil, Option.map_some, if_neg]
      intro e2
      refine hi (nodup_at hn hp hil ?_)
      rw [e, ← e2]
      simp [atT, List.getD_eq_getElem?_getD, hil]
    · rw [List.getElem?_eq_none (by omega)]; rfl
theorem less_ahead {a b : Th} (h : lessK a b = true) : aheadT a b = true := by
  rw [aheadT_iff]
  unfold lessK at h
  grind
theorem HI.lower {s : HS} {m : List Th} (h : HI s m) {t : Th} {p : Nat} (hp : s.f t.id = some p) (hk : lessK t (atT s.ts p) = true) : HI (riseS s p t) (m.map (fun x => if x.id = t.id then t else x)) := by
  obtain ⟨hpl, hid⟩ := h.pf.some hp
  have hnd : ((s.ts.set p t).map Th.id) = s.ts.map Th.id := by
    apply List.ext_getElem?
    intro i
    simp only [List.getElem?_map, List.getElem?_set]
    by_cases hi : p = i
    · subst hi
      simp only [atT, List.getD_eq_getElem?_getD, List.getElem?_eq_getElem hpl, Option.getD_some] at hid
      simp [hpl, hid]
    · simp [hi]
  have e2 : ∀ j, atT (s.ts.set p t) j = if p = j then t else atT s.ts j := fun j => atT_set _ _ _ _ hpl
  have ha := less_ahead hk
  obtain ⟨h1, h2, h3⟩ := rise_all p s t
    ⟨hpl, hnd ▸ h.pf.nd, fun j hj _ => h.pf.pl j hj, fun x hx => h.pf.no x fun j hj e => hx j hj (by
      rw [e2]
      by_cases hi : p = j
      · subst hi; rw [if_pos rfl, ← hid, e]
      · rw [if_neg hi, e])⟩
    ⟨fun j hj hjl hne => by
      rw [e2, e2, if_neg (Ne.symm hne)]
      have A := h.ho j hj hjl
      by_cases hq : p = (j - 1) / 2
      · rw [if_pos hq]
        rw [← hq] at A
        exact ahead_le (ahead_asymm ha) A
      · rw [if_neg hq]; exact A,
    fun j hj hjl hq h0 => by
      rw [e2, e2, if_neg (by omega), if_neg (by omega)]
      have A := h.ho j hj hjl
      rw [hq] at A
      exact ahead_le (h.ho p h0 hpl) A⟩
    (by simp [hp, h.pf.n])
  refine ⟨h1, h2, h3.trans ?_⟩
  rw [set_map h.pf.nd hpl hid]
  exact h.pm.map _

/-- The first thing taken. -/
def popS (s : HS) : HS :=
  if s.ts.length - 1 = 0 then ⟨s.ts.take (s.ts.length - 1), upd s.f (atT s.ts 0).id none, s.n - 1⟩
  else sinkS ⟨s.ts.take (s.ts.length - 1), upd s.f (atT s.ts 0).id none, s.n - 1⟩ 0 (atT s.ts (s.ts.length - 1))
theorem atT_take (l : List Th) {n j : Nat} (h : j < n) : atT (l.take n) j = atT l j := by
  simp [atT, List.getD_eq_getElem?_getD, h]
theorem filter_tail {a : Th} {l : List Th} (hn : ((a :: l).map Th.id).Nodup) : (a :: l).filter (fun x => decide (x.id ≠ a.id)) = l := by
  rw [List.map_cons, List.nodup_cons] at hn
  rw [List.filter_cons]
  simp only [ne_eq, not_true_eq_false, decide_false, Bool.false_eq_true, if_false]
  rw [List.filter_eq_self]
  intro x hx
  exact decide_eq_true fun e => hn.1 (List.mem_map.2 ⟨x, hx, e⟩)
theorem HI.first {s : HS} {m : List Th} (h : HI s m) (h0 : m ≠ []) : atT s.ts 0 ∈ m ∧ ∀ x ∈ m, aheadT x (atT s.ts 0) = false := by
  have hl : 0 < s.ts.length := by rw [h.len]; exact List.length_pos_iff.2 h0
  refine ⟨h.pm.mem_iff.1 (atT_mem hl), fun x hx => ?_⟩
  obtain ⟨j, hj, rfl⟩ := mem_atT (h.pm.mem_iff.2 hx)
  exact least_first h.ho j hj
theorem HI.pop {s : HS} {m : List Th} (h : HI s m) (h0 : m ≠ []) : HI (popS s) (m.filter (fun x => decide (x.id ≠ (atT s.ts 0).id))) := by
  have hl : 0 < s.ts.length := by rw [h.len]; exact List.length_pos_iff.2 h0
  have hpm := h.pm.filter (fun x => decide (x.id ≠ (atT s.ts 0).id))
  obtain ⟨a, l, hal⟩ : ∃ a l, s.ts = a :: l := by
    cases e : s.ts with
    | nil => rw [e] at hl; simp at hl
    | cons a l => exact ⟨a, l, rfl⟩
  have ha : atT s.ts 0 = a := by rw [hal]; rfl
  have htl : s.ts.filter (fun x => decide (x.id ≠ (atT s.ts 0).id)) = l := by
    rw [ha, hal]; exact filter_tail (hal ▸ h.pf.nd)
  rw [htl] at hpm
  unfold popS
  by_cases h1 : s.ts.length - 1 = 0
  · rw [if_pos h1]
    have hl0 : l = [] := by rw [hal] at h1; simpa using h1
    subst hl0
    refine ⟨⟨by rw [h1]; simp, fun j hj => ?_, fun x hx => ?_, ?_⟩, fun j hj hjl => ?_, by rw [h1]; simpa using hpm⟩
    · simp [h1] at hj
    · simp only [upd]
      split
      · rfl
      · rename_i hne
        refine h.pf.no x fun j hj e => hne ?_
        rw [← e, (show j = 0 by omega)]
    · simp only [h1, List.take_zero, List.length_nil, h.pf.n]
    · simp [h1] at hjl
  · rw [if_neg h1]
    obtain ⟨b, l', hlb⟩ : ∃ b l', l = l' ++ [b] := by
      rcases List.eq_nil_or_concat l with e | ⟨l', b, e⟩
      · rw [hal, e] at h1; simp at h1
      · exact ⟨b, l', by rw [e, List.concat_eq_append]⟩
    have hlast : atT s.ts (s.ts.length - 1) = b := by
      rw [hal, hlb]
      simp [atT, List.getD_eq_getElem?_getD]
    have htk : s.ts.take (s.ts.length - 1) = a :: l' := by
      rw [hal, hlb]
      simp
    have hset : (s.ts.take (s.ts.length - 1)).set 0 b = b :: l' := by rw [htk]; rfl
    have hidb : b.id ≠ a.id := fun e => by
      have := h.pf.nd
      rw [hal, hlb, List.map_cons, List.nodup_cons] at this
      exact this.1 (List.mem_map.2 ⟨b, by simp, e⟩)
    have hlen : s.ts.length = l'.length + 2 := by rw [hal, hlb]; simp
    have hne0 : ∀ j, 0 < j → j < s.ts.length → (atT s.ts j).id ≠ a.id := fun j hj hjl e => by
      have := nodup_at h.pf.nd hjl hl (e.trans (by rw [ha]))
      omega
    have hfb : s.f b.id = some (s.ts.length - 1) := by rw [← hlast]; exact h.pf.pl _ (by omega)
    have hplb : (b :: l').Perm l := by rw [hlb]; exact List.perm_append_comm (l₁ := [b]) (l₂ := l')
    have hndl : (l.map Th.id).Nodup := by
      have := h.pf.nd
      rw [hal, List.map_cons, List.nodup_cons] at this
      exact this.2
    have hat : ∀ j, 0 < j → j < s.ts.length - 1 → atT (b :: l') j = atT s.ts j := fun j hj hjl => by
      rw [← hset, atT_set _ _ _ _ (by rw [htk]; simp), if_neg (by omega), atT_take _ hjl]
    rw [hlast]
    obtain ⟨h2, h3, h4⟩ := sink_all (s.ts.length) ⟨s.ts.take (s.ts.length - 1), upd s.f (atT s.ts 0).id none, s.n - 1⟩ 0 b (by simp)
      ⟨by simp; omega, by simp only [hset]; exact (hplb.map Th.id).nodup_iff.2 hndl,
      fun j hj hj0 => by
        simp only [List.length_take] at hj
        simp only
        rw [atT_take _ (by omega), upd, if_neg (by rw [ha]; exact hne0 j (by omega) (by omega))]
        exact h.pf.pl j (by omega),
      fun x hx => by
        simp only [hset, List.length_take] at hx
        simp only [upd]
        split
        · rfl
        · rename_i hxa
          refine h.pf.no x fun j hj e => ?_
          by_cases hj0 : j = 0
          · subst hj0; exact hxa e.symm
          · by_cases hjl : j = s.ts.length - 1
            · refine hx 0 (by omega) ?_
              rw [hjl, hlast] at e
              exact e
            · refine hx j (by omega) ?_
              rw [hat j (by omega) (by omega)]
              exact e⟩
      ⟨fun j hj hjl hp => by
        simp only [List.length_take] at hjl
        simp only [hset]
        rw [hat j hj (by omega), hat _ (by omega) (by omega)]
        exact h.ho j hj (by omega),
      fun j hj hjl hp h0 => absurd h0 (Nat.lt_irrefl 0)⟩
      (by
        simp only [List.length_take, h.pf.n, upd, ha, if_neg hidb, hfb]
        simp)
    refine ⟨h2, h3, h4.trans ?_⟩
    simp only [hset]
    exact hplb.trans hpm
end Go.Proofs.YtldpajfendkhbaaDoor

/- Heap: a heap in memory; which key is less, which thing goes ahead. -/
namespace Go.Proofs.YtldpajfendkhbaaDoor
open Go.RowKit Go.Maps


/-! ### All but some blocks lie -/
/-- All blocks but those of S lie as they lay. -/
def KeptS (S : Nat → Prop) (A B : World) : Prop := Below 0 A B ∧ ∀ k, k < A.heap.size → ¬ S k → B.heap[k]? = A.heap[k]?
theorem KeptS.refl (S : Nat → Prop) (A : World) : KeptS S A A := ⟨(bl0 A).mono (Nat.zero_le _), fun _ _ _ => rfl⟩
theorem KeptS.of_below {S : Nat → Prop} {A B : World} (h : Below A.heap.size A B) : KeptS S A B := ⟨h.mono (Nat.zero_le _), fun k hk _ => h.block k hk⟩
theorem KeptS.trans {S T : Nat → Prop} {A B C : World} (x : KeptS S A B) (y : KeptS T B C) (h : ∀ k, k < A.heap.size → T k → S k) : KeptS S A C :=
  ⟨x.1.trans y.1, fun k h1 h2 => (y.2 k (Nat.lt_of_lt_of_le h1 x.1.size) (fun t => h2 (h k h1 t))).trans (x.2 k h1 h2)⟩
theorem KeptS.below {S : Nat → Prop} {A B C : World} (x : KeptS S A B) (y : Below B.heap.size B C) : KeptS S A C := x.trans (T := S) (.of_below y) (fun _ _ h => h)
theorem KeptS.cell {S : Nat → Prop} {k o : Nat} {A B : World} {v : Value} (x : KeptS S A B) (c : A.cell? ⟨k, o, none⟩ = some v) (h : ¬ S k) : B.cell? ⟨k, o, none⟩ = some v :=
  (World.cell?_of_block (a := ⟨k, o, none⟩) (x.2 k (blk_lt c) h)).trans c
theorem KeptS.frozen {S : Nat → Prop} {k o : Nat} {A B : World} {v : Value} (x : KeptS S A B) (c : A.cell? ⟨k, o, none⟩ = some v) (f : A.frozen? ⟨k, o, none⟩ = false) (h : ¬ S k) : B.frozen? ⟨k, o, none⟩ = false :=
  (World.frozen?_of_block (a := ⟨k, o, none⟩) (x.2 k (blk_lt c) h)).trans f
theorem KeptS.wide {S T : Nat → Prop} {A B : World} (x : KeptS S A B) (h : ∀ k, S k → T k) : KeptS T A B := ⟨x.1, fun k h1 h2 => x.2 k h1 (fun e => h2 (h k e))⟩
theorem KeptS.of_grown {S : Nat → Prop} {A B : World} {r : Option Nat} (y : A.grownBy B r) (h : ∀ k, r = some k → k < A.heap.size → S k) : KeptS S A B :=
  ⟨⟨y.os, y.tape, y.output, y.size, fun k hk => absurd hk (Nat.not_lt_zero k)⟩, fun k h1 h2 => y.block k h1 (fun e => h2 (h k e.symm h1))⟩
theorem KeptS.to_below {S : Nat → Prop} {B0 : Nat} {A B : World} (x : KeptS S A B) (h : ∀ k, k < B0 → ¬ S k) (hB : B0 ≤ A.heap.size) : Below B0 A B :=
  ⟨x.1.os, x.1.tape, x.1.output, x.1.size, fun k hk => x.2 k (Nat.lt_of_lt_of_le hk hB) (h k hk)⟩
theorem hgrown_set (W : World) (h k : Nat) (u : Value) : W.grownBy (W.setCell ⟨h, k, none⟩ u) (some h) :=
  ⟨rfl, rfl, rfl, by simp, fun i _ hi => Below.heap_setCell _ _ _ i (fun e => hi (by rw [e]))⟩
theorem hset_same (w : World) (g i : Nat) (cs : Array Value) (t : TypeId) (v : Value) (hg : w.heap[g]? = some (.cells cs t (0, 0))) : (w.setCell ⟨g, i, none⟩ v).heap[g]? = some (.cells (cs.setIfInBounds i v) t (0, 0)) := heap_setCell_same w g i cs t v hg
theorem hown_base {w : World} {B B' : Nat} {e : TypeId} {size : Nat} {v : Value} {n : Nat} {xs : List Value} (h : w.ownsRow B e size v n xs) (hB : B' ≤ B) : w.ownsRow B' e size v n xs := by
  refine ⟨h.1, ?_⟩
  rcases h.2 with h | ⟨g, cap, cur, h1, h2, h3⟩
  · exact .inl h
  · exact .inr ⟨g, cap, cur, h1, Nat.le_trans hB h2, h3⟩
theorem KeptS.own {S : Nat → Prop} {w w' : World} {B : Nat} {e : TypeId} {size : Nat} {v : Value} {n : Nat} {xs : List Value} (x : KeptS S w w') (h : w.ownsRow B e size v n xs) (hn : ∀ g, v.ownBlock = some g → ¬ S g) : w'.ownsRow B e size v n xs := by
  refine ⟨h.1, ?_⟩
  rcases h.2 with h | ⟨g, cap, cur, h1, h2, h3, h4⟩
  · exact .inl h
  · exact .inr ⟨g, cap, cur, h1, h2, (x.2 g (Array.getElem?_eq_some_iff.1 h3).1 (hn g (by rw [h1]; rfl))).trans h3, h4⟩

theorem hadd (g k : Nat) : (⟨g, 0, none⟩ : Addr).add k = ⟨g, k, none⟩ := by
  unfold Addr.add
  split <;> simp_all

/-! ### Places: a map -/
theorem Tryd.keyInt : Keyed Tryd.prog 3 := int_keyed Tryd.underlying3
theorem zero_int (w : World) : (zeroValue 3).run Tryd.prog w = .ok (.int .i64 0) w := by kernel_rfl
/-- Places in memory: the map in block b, of n entries. -/
def PlacesAt (W : World) (b n : Nat) (f : Int → Option Nat) : Prop := ∃ D : DataW Unit, W.ownsMap Tryd.prog 3 (plainElem Tryd.prog 3) b n D ∧ Maps.size D = n ∧
  ∀ i : Int, (Lit.int .i64 i).wf = true → Maps.has D (.int .i64 i) = (f i).isSome ∧ ∀ p, f i = some p → D.atKey (.int .i64 i) (.lit (.int .i64 0)) = .lit (.int .i64 (p : Int))
theorem PlacesAt.lt {W : World} {b n : Nat} {f : Int → Option Nat} (h : PlacesAt W b n f) : b < W.heap.size := by
  obtain ⟨D, h, _⟩ := h; exact h.lt
theorem PlacesAt.keptS {S : Nat → Prop} {W W' : World} {b n : Nat} {f : Int → Option Nat} (h : PlacesAt W b n f) (x : KeptS S W W') (hn : ¬ S b) : PlacesAt W' b n f := by
  obtain ⟨D, ⟨es, clock, h1, h2⟩, h3⟩ := h
  exact ⟨D, ⟨es, clock, (x.2 b (Array.getElem?_eq_some_iff.1 h1).1 hn).trans h1, h2⟩, h3⟩
theorem PlacesAt.below {W W' : World} {b n : Nat} {f : Int → Option Nat} (h : PlacesAt W b n f) (x : Below W.heap.size W W') : PlacesAt W' b n f :=
  h.keptS (S := fun _ => False) (.of_below x) (fun h => h)
theorem own_tight {W : World} {P : Program} {k : TypeId} {R : Value → Option (DataW Unit × List MemPlace)} {b n : Nat} {D : DataW Unit} (h : W.ownsMap P k R b n D) : W.ownsMap P k R b (Maps.size D) D := by
  obtain ⟨es, clock, h1, h2, h3, rfl⟩ := h
  refine ⟨es, clock, h1, h2, ?_, rfl⟩
  simp [Maps.size, length_sorted]
theorem wf64_nat {p : Nat} (h : p < maxLen) : (Lit.int .i64 (p : Int)).wf = true := WalkArith.wf_i64 (by unfold maxLen at h; omega)
/-- Which place is told. -/
theorem PlacesAt.look {W : World} {b n : Nat} {f : Int → Option Nat} (h : PlacesAt W b n f) {i : Int} (hi : (Lit.int .i64 i).wf = true) :
    (Instr.lookup 95 (.map (some b)) (.int .i64 i) true).run Tryd.prog W = .ok (.tuple #[.int .i64 (((f i).getD 0 : Nat) : Int), .bool (f i).isSome]) W := by
  obtain ⟨D, hown, _, hD⟩ := h
  obtain ⟨h1, h2⟩ := hD i hi
  obtain ⟨v, ps, hrun, hv⟩ := hown.look_ok Tryd.keyInt Tryd.underlying95 (zero_int W) (plainElem_int Tryd.underlying3 (by decide)) (keyOf_int_mk Tryd.underlying3 hi)
  obtain ⟨c, rfl, hc, _⟩ := plainElem_int_inv Tryd.underlying3 hv
  have hc' := congrArg Prod.fst hc
  simp only at hc'
  rw [hrun, h1]
  cases e : f i with
  | none =>
    rw [e] at h1
    rw [atKey_of_not_has h1] at hc'
    cases hc'
    rfl
  | some p =>
    rw [h2 p e] at hc'
    cases hc'
    rfl
/-- A place is told. -/
theorem PlacesAt.store {W : World} {b n : Nat} {f : Int → Option Nat} (h : PlacesAt W b n f) {i : Int} (hi : (Lit.int .i64 i).wf = true) (hn : n < maxLen) {p : Nat} (hp : p < maxLen) :
    ∃ W', (Instr.mapUpdate 95 (.map (some b)) (.int .i64 i) (.int .i64 (p : Int))).run Tryd.prog W = .ok () W' ∧ PlacesAt W' b (if (f i).isSome then n else n + 1) (upd f i (some p)) ∧ W.mapTurned W' b := by
  obtain ⟨D, hown, hs, hD⟩ := h
  have hk : WideAt.IsKeyLit (.int .i64 i) := by trivial
  obtain ⟨W', hrun, h1, h2⟩ := hown.store Tryd.keyInt Tryd.underlying95 hn (keyOf_int_mk Tryd.underlying3 hi) (plainElem_int Tryd.underlying3 (wf64_nat hp))
  have hsz := size_put (hown.tidy Tryd.keyInt) (k := .int .i64 i) (.lit (.int .i64 (p : Int)))
  rw [(hD i hi).1, hs] at hsz
  refine ⟨W', hrun, ⟨_, hsz ▸ own_tight h1, hsz, fun j hj => ?_⟩, h2⟩
  by_cases e : j = i
  · subst e
    rw [has_put_same hown.isMap hk, upd, if_pos rfl]
    refine ⟨rfl, fun q hq => ?_⟩
    cases hq
    exact atKey_put_same hown.isMap hk _ _
  · have hne : Lit.int .i64 j ≠ Lit.int .i64 i := fun h => e (by injection h)
    rw [has_put_other hne, upd, if_neg e]
    refine ⟨(hD j hj).1, fun q hq => ?_⟩
    rw [atKey_put_other hne]
    exact (hD j hj).2 q hq
/-- A place is told no more. -/
theorem PlacesAt.drop {W : World} {b n : Nat} {f : Int → Option Nat} (h : PlacesAt W b n f) {i : Int} (hi : (Lit.int .i64 i).wf = true) (ty : TypeId) :
    ∃ W', (Builtin.delete_ #[95, 3] ty #[.map (some b), .int .i64 i]).run Tryd.prog W = .ok (.tuple #[]) W' ∧ PlacesAt W' b (if (f i).isSome then n - 1 else n) (upd f i none) ∧ W.mapTurned W' b := by
  obtain ⟨D, hown, hs, hD⟩ := h
  obtain ⟨W', hrun, h1, h2⟩ := hown.drop Tryd.keyInt Tryd.underlying95 (keyOf_int_mk Tryd.underlying3 hi) ty
  have hsz := size_del (hown.tidy Tryd.keyInt) (k := .int .i64 i)
  rw [(hD i hi).1, hs] at hsz
  have hsz' : Maps.size (D.del (.int .i64 i)) = (if (f i).isSome then n - 1 else n) := by
    split at hsz <;> split <;> simp_all <;> omega
  refine ⟨W', hrun, ⟨_, hsz' ▸ own_tight h1, hsz', fun j hj => ?_⟩, h2⟩
  by_cases e : j = i
  · subst e
    rw [has_del_same, upd, if_pos rfl]
    exact ⟨rfl, fun q hq => by cases hq⟩
  · have hne : Lit.int .i64 j ≠ Lit.int .i64 i := fun h => e (by injection h)
    rw [has_del_other hne, upd, if_neg e]
    refine ⟨(hD j hj).1, fun q hq => ?_⟩
    rw [atKey_del_other hne]
    exact (hD j hj).2 q hq
theorem places_new (W : World) : PlacesAt (W.alloc (.map #[] 0)) W.heap.size 0 (fun _ => none) :=
  ⟨.map [], World.ownsMap_made _ _ _ _, rfl, fun _ _ => ⟨rfl, fun _ h => by cases h⟩⟩

/-! ### Things -/
/-- Numbers that a machine holds. -/
def wfT (t : Th) : Prop := (Lit.int .i64 t.id).wf = true
def flatT (ts : List Th) : List Value := ts.flatMap (fun t => [.int .i64 t.id, .int .u64 t.F, .int .u64 t.H, .int .i64 t.Y, .int .i64 t.X])
theorem flatT_cons (t : Th) (ts : List Th) : flatT (t :: ts) = .int .i64 t.id :: .int .u64 t.F :: .int .u64 t.H :: .int .i64 t.Y :: .int .i64 t.X :: flatT ts := rfl
theorem flatT_snoc (ts : List Th) (t : Th) : flatT (ts ++ [t]) = flatT ts ++ [.int .i64 t.id, .int .u64 t.F, .int .u64 t.H, .int .i64 t.Y, .int .i64 t.X] := by simp [flatT, List.flatMap_append]
theorem flatT_len : ∀ ts : List Th, (flatT ts).length = ts.length * 5
  | [] => rfl
  | t :: ts => by
    have := flatT_len ts
    rw [flatT_cons]
    simp
    omega
theorem flatT_at : ∀ (ts : List Th) (i : Nat), i < ts.length → (flatT ts)[i * 5]? = some (.int .i64 (atT ts i).id) ∧ (flatT ts)[i * 5 + 1]? = some (.int .u64 (atT ts i).F) ∧ (flatT ts)[i * 5 + 2]? = some (.int .u64 (atT ts i).H) ∧ (flatT ts)[i * 5 + 3]? = some (.int .i64 (atT ts i).Y) ∧ (flatT ts)[i * 5 + 4]? = some (.int .i64 (atT ts i).X)
  | [], i, h => by simp at h
  | t :: ts, 0, _ => by simp [flatT_cons, atT]
  | t :: ts, i + 1, h => by
    have := flatT_at ts i (by simpa using h)
    rw [flatT_cons, show (i + 1) * 5 = i * 5 + 1 + 1 + 1 + 1 + 1 by omega]
    simpa [atT] using this
theorem flatT_set : ∀ (ts : List Th) (n : Nat) (t : Th), n < ts.length → flatT (ts.set n t) = (((((flatT ts).set (n * 5) (.int .i64 t.id)).set (n * 5 + 1) (.int .u64 t.F)).set (n * 5 + 2) (.int .u64 t.H)).set (n * 5 + 3) (.int .i64 t.Y)).set (n * 5 + 4) (.int .i64 t.X)
  | [], n, t, h => by simp at h
  | u :: ts, 0, t, h => by simp [flatT_cons]
  | u :: ts, n + 1, t, h => by
    have ih := flatT_set ts n t (by simpa using h)
    rw [List.set_cons_succ, flatT_cons, flatT_cons, ih, show (n + 1) * 5 = n * 5 + 1 + 1 + 1 + 1 + 1 by omega]
    simp only [List.set_cons_succ]
theorem flatT_one (ts : List Th) : ∀ u ∈ flatT ts, u.oneCell' = true := by
  intro u hu
  simp only [flatT, List.mem_flatMap] at hu
  obtain ⟨o, _, h⟩ := hu
  simp at h
  rcases h with rfl | rfl | rfl | rfl | rfl <;> rfl
theorem flatT_take (ts : List Th) (n : Nat) : flatT (ts.take n) = (flatT ts).take (n * 5) := by
  induction ts generalizing n with
  | nil => simp [flatT]
  | cons t ts ih =>
    cases n with
    | zero => simp [flatT]
    | succ n =>
      rw [List.take_succ_cons, flatT_cons, flatT_cons, ih, show (n + 1) * 5 = n * 5 + 1 + 1 + 1 + 1 + 1 by omega]
      simp only [List.take_succ_cons]

/-- A heap in memory: its block p, the map in block b, its things in the row v; all of it from block B on. -/
structure HeapAt (W : World) (B p b : Nat) (v : Value) (s : HS) : Prop where
  hp : W.heap[p]? = some (.cells #[v, .map (some b)] 98 (0, 0))
  row : W.ownsRow B 126 5 v s.ts.length (flatT s.ts)
  pl : PlacesAt W b s.n s.f
  wf : ∀ t ∈ s.ts, wfT t
  bp : B ≤ p
  bb : B ≤ b
/-- The blocks of a heap. -/
def HB (p b : Nat) (v : Value) : Nat → Prop := fun k => k = p ∨ k = b ∨ v.ownBlock = some k
section
variable {W W' : World} {B p b : Nat} {v : Value} {s : HS}
theorem HeapAt.keptS {S : Nat → Prop} (h : HeapAt W B p b v s) (x : KeptS S W W') (hn : ∀ k, HB p b v k → ¬ S k) : HeapAt W' B p b v s :=
  ⟨(x.2 p (Array.getElem?_eq_some_iff.1 h.hp).1 (hn p (.inl rfl))).trans h.hp, x.own h.row (fun g hg => hn g (.inr (.inr hg))), h.pl.keptS x (hn b (.inr (.inl rfl))), h.wf, h.bp, h.bb⟩
theorem HeapAt.below (h : HeapAt W B p b v s) (x : Below W.heap.size W W') : HeapAt W' B p b v s :=
  h.keptS (S := fun _ => False) (.of_below x) (fun _ _ h => h)
theorem HeapAt.c0 (h : HeapAt W B p b v s) : W.cell? ⟨p, 0, none⟩ = some v := by simp [World.cell?, h.hp]
theorem HeapAt.c1 (h : HeapAt W B p b v s) : W.cell? ⟨p, 1, none⟩ = some (.map (some b)) := by simp [World.cell?, h.hp]
theorem HeapAt.fz (h : HeapAt W B p b v s) (o : Nat) : W.frozen? ⟨p, o, none⟩ = false := by simp [World.frozen?, h.hp]
theorem HeapAt.lt (h : HeapAt W B p b v s) : ∀ k, HB p b v k → B ≤ k ∧ k < W.heap.size := by
  rintro k (rfl | rfl | e)
  · exact ⟨h.bp, (Array.getElem?_eq_some_iff.1 h.hp).1⟩
  · exact ⟨h.bb, h.pl.lt⟩
  · exact h.row.lt k e
theorem HeapAt.pb (h : HeapAt W B p b v s) : p ≠ b := by
  rintro rfl
  obtain ⟨D, ⟨es, clock, h1, _⟩, _⟩ := h.pl
  rw [h.hp] at h1; cases h1
theorem HeapAt.gb (h : HeapAt W B p b v s) : v.ownBlock ≠ some b := fun e => by
  obtain ⟨D, ⟨es, clock, h1, _⟩, _⟩ := h.pl
  rcases h.row.2 with ⟨rfl, _⟩ | ⟨g, cap, cur, rfl, _, h3, _⟩
  · cases e
  · simp only [Value.ownBlock, Option.some.injEq] at e
    subst e
    rw [h1] at h3; cases h3
theorem HeapAt.gp (h : HeapAt W B p b v s) : v.ownBlock ≠ some p := fun e => by
  rcases h.row.2 with ⟨rfl, _⟩ | ⟨g, cap, cur, rfl, _, h3, _⟩
  · cases e
  · simp only [Value.ownBlock, Option.some.injEq] at e
    subst e
    rw [h.hp] at h3
    simp at h3
/-- The row, where there is a thing. -/
theorem HeapAt.slice (h : HeapAt W B p b v s) (h0 : 0 < s.ts.length) : ∃ g cap, v = .slice (some ⟨g, 0, none⟩) s.ts.length cap := by
  rcases h.row.2 with ⟨_, e⟩ | ⟨g, cap, cur, rfl, _⟩
  · omega
  · exact ⟨g, cap, rfl⟩
theorem HeapAt.any (h : HeapAt W B p b v s) : ∃ a cap, v = .slice a s.ts.length cap := by
  rcases h.row.2 with ⟨rfl, e⟩ | ⟨g, cap, cur, rfl, _⟩
  · rw [e]; exact ⟨none, 0, rfl⟩
  · exact ⟨_, cap, rfl⟩
theorem HeapAt.at {g cap : Nat} (h : HeapAt W B p b (.slice (some ⟨g, 0, none⟩) s.ts.length cap) s) {j : Nat} (hj : j < s.ts.length) :
    W.cell? ⟨g, j * 5, none⟩ = some (.int .i64 (atT s.ts j).id) ∧ W.cell? ⟨g, j * 5 + 1, none⟩ = some (.int .u64 (atT s.ts j).F) ∧ W.cell? ⟨g, j * 5 + 2, none⟩ = some (.int .u64 (atT s.ts j).H) ∧ W.cell? ⟨g, j * 5 + 3, none⟩ = some (.int .i64 (atT s.ts j).Y) ∧ W.cell? ⟨g, j * 5 + 4, none⟩ = some (.int .i64 (atT s.ts j).X) := by
  obtain ⟨e0, e1, e2, e3, e4⟩ := flatT_at s.ts j hj
  have a0 := h.row.cells (g := g) rfl _ _ e0
  have a1 := h.row.cells (g := g) rfl _ _ e1
  have a2 := h.row.cells (g := g) rfl _ _ e2
  have a3 := h.row.cells (g := g) rfl _ _ e3
  have a4 := h.row.cells (g := g) rfl _ _ e4
  rw [hadd] at a0 a1 a2 a3 a4
  exact ⟨a0, a1, a2, a3, a4⟩
end

/-! ### Which goes ahead -/
set_option maxHeartbeats 1600000 in
theorem less_any (a b : Th) (w : World) :
    Calls Tryd.prog 53 #[.agg #[.int .u64 a.F, .int .u64 a.H, .int .i64 a.Y, .int .i64 a.X], .agg #[.int .u64 b.F, .int .u64 b.H, .int .i64 b.Y, .int .i64 b.X]] w fun e w' => e = .returned (.bool (lessK a b)) ∧ Below w.heap.size w w' := by
  obtain ⟨r, hr⟩ : ∃ r, lessK a b = r := ⟨_, rfl⟩
  have HR := Lib.hid hr
  rw [hr]
  unfold lessK at hr
  clear HR
  by_cases h1 : a.F = b.F
  · rw [if_pos h1] at hr
    have n1 : (a.F != b.F) = false := by rw [bne_eq_false_iff_eq]; exact h1
    by_cases h2 : a.H = b.H
    · rw [if_pos h2] at hr
      have n2 : (a.H != b.H) = false := by rw [bne_eq_false_iff_eq]; exact h2
      by_cases h3 : a.Y = b.Y
      · rw [if_pos h3] at hr
        have n3 : (a.Y != b.Y) = false := by rw [bne_eq_false_iff_eq]; exact h3
        have HR := Lib.hid hr
        clear h1 h2 h3 hr
        go_enter Tryd.func53, Tryd.ntmps53
        go_wp2
        go_ret
        exact ⟨ret_bool HR.out, bl_al (bl_al (bl0 _) _) _⟩
      · rw [if_neg h3] at hr
        have n3 : (a.Y != b.Y) = true := by rw [bne_iff_ne]; exact h3
        have HR := Lib.hid hr
        clear h1 h2 h3 hr
        go_enter Tryd.func53, Tryd.ntmps53
        go_wp2
        go_ret
        exact ⟨ret_bool HR.out, bl_al (bl_al (bl0 _) _) _⟩
    · rw [if_neg h2] at hr
      have n2 : (a.H != b.H) = true := by rw [bne_iff_ne]; exact h2
      have HR := Lib.hid hr
      clear h1 h2 hr
      go_enter Tryd.func53, Tryd.ntmps53
      go_wp2
      go_ret
      exact ⟨ret_bool HR.out, bl_al (bl_al (bl0 _) _) _⟩
  · rw [if_neg h1] at hr
    have n1 : (a.F != b.F) = true := by rw [bne_iff_ne]; exact h1
    have HR := Lib.hid hr
    clear h1 hr
    go_enter Tryd.func53, Tryd.ntmps53
    go_wp2
    go_ret
    exact ⟨ret_bool HR.out, bl_al (bl_al (bl0 _) _) _⟩

end Go.Proofs.YtldpajfendkhbaaDoor

/- Heap: which thing goes ahead; a thing is put at a place. -/
namespace Go.Proofs.YtldpajfendkhbaaDoor
open Go.RowKit Go.Maps

set_option maxHeartbeats 1600000 in
theorem ahead_other (a b : Th) (w : World) (h : sameK a b = false) :
    Calls Tryd.prog 75 #[.agg #[.int .i64 a.id, .int .u64 a.F, .int .u64 a.H, .int .i64 a.Y, .int .i64 a.X], .agg #[.int .i64 b.id, .int .u64 b.F, .int .u64 b.H, .int .i64 b.Y, .int .i64 b.X]] w fun e w' => e = .returned (.bool (aheadT a b)) ∧ Below w.heap.size w w' := by
  have HC := fun w => less_any a b w
  obtain ⟨r, hr⟩ : ∃ r, aheadT a b = r := ⟨_, rfl⟩
  rw [hr]
  unfold aheadT at hr
  rw [h] at hr
  simp only [Bool.false_eq_true, if_false] at hr
  unfold sameK at h
  have h := of_decide_eq_false h
  by_cases h1 : a.F = b.F
  · have n1 : (a.F == b.F) = true := by rw [beq_iff_eq]; exact h1
    by_cases h2 : a.H = b.H
    · have n2 : (a.H == b.H) = true := by rw [beq_iff_eq]; exact h2
      by_cases h3 : a.Y = b.Y
      · have n3 : (a.Y == b.Y) = true := by rw [beq_iff_eq]; exact h3
        have n4 : (a.X == b.X) = false := by rw [beq_eq_false_iff_ne]; exact fun h4 => h ⟨h1, h2, h3, h4⟩
        clear h1 h2 h3
        have HR := Lib.hid hr
        clear hr h
        go_enter Tryd.func75, Tryd.ntmps75
        go_wp2_with fail
        refine (HC _).mono ?_
        rintro e w' ⟨rfl, hb⟩
        go_wp2
        go_ret
        exact ⟨ret_bool HR.out, bl_tr (bl_al (bl_al (bl0 _) _) _) hb⟩
      · have n3 : (a.Y == b.Y) = false := by rw [beq_eq_false_iff_ne]; exact h3
        clear h1 h2 h3
        have HR := Lib.hid hr
        clear hr h
        go_enter Tryd.func75, Tryd.ntmps75
        go_wp2_with fail
        refine (HC _).mono ?_
        rintro e w' ⟨rfl, hb⟩
        go_wp2
        go_ret
        exact ⟨ret_bool HR.out, bl_tr (bl_al (bl_al (bl0 _) _) _) hb⟩
    · have n2 : (a.H == b.H) = false := by rw [beq_eq_false_iff_ne]; exact h2
      clear h1 h2
      have HR := Lib.hid hr
      clear hr h
      go_enter Tryd.func75, Tryd.ntmps75
      go_wp2_with fail
      refine (HC _).mono ?_
      rintro e w' ⟨rfl, hb⟩
      go_wp2
      go_ret
      exact ⟨ret_bool HR.out, bl_tr (bl_al (bl_al (bl0 _) _) _) hb⟩
  · have n1 : (a.F == b.F) = false := by rw [beq_eq_false_iff_ne]; exact h1
    clear h1
    have HR := Lib.hid hr
    clear hr h
    go_enter Tryd.func75, Tryd.ntmps75
    go_wp2_with fail
    refine (HC _).mono ?_
    rintro e w' ⟨rfl, hb⟩
    go_wp2
    go_ret
    exact ⟨ret_bool HR.out, bl_tr (bl_al (bl_al (bl0 _) _) _) hb⟩

set_option maxHeartbeats 1600000 in
theorem ahead_any (a b : Th) (w : World) :
    Calls Tryd.prog 75 #[.agg #[.int .i64 a.id, .int .u64 a.F, .int .u64 a.H, .int .i64 a.Y, .int .i64 a.X], .agg #[.int .i64 b.id, .int .u64 b.F, .int .u64 b.H, .int .i64 b.Y, .int .i64 b.X]] w fun e w' => e = .returned (.bool (aheadT a b)) ∧ Below w.heap.size w w' := by
  by_cases h1 : sameK a b = true
  · obtain ⟨r, hr⟩ : ∃ r, aheadT a b = r := ⟨_, rfl⟩
    rw [hr]
    unfold aheadT at hr
    rw [if_pos h1] at hr
    unfold sameK at h1
    obtain ⟨m1, m2, m3, m4⟩ := of_decide_eq_true h1
    have n1 : (a.F == b.F) = true := by rw [beq_iff_eq]; exact m1
    have n2 : (a.H == b.H) = true := by rw [beq_iff_eq]; exact m2
    have n3 : (a.Y == b.Y) = true := by rw [beq_iff_eq]; exact m3
    have n4 : (a.X == b.X) = true := by rw [beq_iff_eq]; exact m4
    have HR := Lib.hid hr
    clear hr h1 m1 m2 m3 m4
    go_enter Tryd.func75, Tryd.ntmps75
    go_wp2
    go_ret
    exact ⟨ret_bool HR.out, bl_al (bl_al (bl0 _) _) _⟩
  · exact ahead_other a b w (by simpa using h1)

/-- A thing is put at a place of the row. -/
theorem HeapAt.setT {W : World} {B p b g cap : Nat} {s : HS} (h : HeapAt W B p b (.slice (some ⟨g, 0, none⟩) s.ts.length cap) s) {i : Nat} (hi : i < s.ts.length) (t : Th) (ht : wfT t) {W1 : World}
    (h1 : W1 = ((((W.setCell ⟨g, i * 5, none⟩ (.int .i64 t.id)).setCell ⟨g, i * 5 + 1, none⟩ (.int .u64 t.F)).setCell ⟨g, i * 5 + 2, none⟩ (.int .u64 t.H)).setCell ⟨g, i * 5 + 3, none⟩ (.int .i64 t.Y)).setCell ⟨g, i * 5 + 4, none⟩ (.int .i64 t.X)) :
    HeapAt W1 B p b (.slice (some ⟨g, 0, none⟩) s.ts.length cap) ⟨s.ts.set i t, s.f, s.n⟩ ∧ KeptS (HB p b (.slice (some ⟨g, 0, none⟩) s.ts.length cap)) W W1 := by
  have hgp : g ≠ p := fun e => h.gp (by rw [e]; rfl)
  have hgb : g ≠ b := fun e => h.gb (by rw [e]; rfl)
  have q0 := hgrown_set W g (i * 5) (.int .i64 t.id)
  have q1 := q0.trans (hgrown_set _ g (i * 5 + 1) (.int .u64 t.F))
  have q2 := q1.trans (hgrown_set _ g (i * 5 + 2) (.int .u64 t.H))
  have q3 := q2.trans (hgrown_set _ g (i * 5 + 3) (.int .i64 t.Y))
  have q4 := q3.trans (hgrown_set _ g (i * 5 + 4) (.int .i64 t.X))
  rw [← h1] at q4
  have k1 : KeptS (fun k => k = g) W W1 := .of_grown q4 (fun k e _ => by cases e; rfl)
  refine ⟨⟨(k1.2 p (h.lt p (.inl rfl)).2 (Ne.symm hgp)).trans h.hp, ?_, h.pl.keptS k1 (Ne.symm hgb), ?_, h.bp, h.bb⟩, k1.wide ?_⟩
  · refine ⟨by simp [flatT_len], ?_⟩
    rcases h.row.2 with ⟨e, _⟩ | ⟨g', cap', cur, e, hB, hg, l1, l2, l3, l4⟩
    · cases e
    · cases e
      have e0 := hset_same W g (i * 5) cur 126 (.int .i64 t.id) hg
      have e1 := hset_same _ g (i * 5 + 1) _ 126 (.int .u64 t.F) e0
      have e2 := hset_same _ g (i * 5 + 2) _ 126 (.int .u64 t.H) e1
      have e3 := hset_same _ g (i * 5 + 3) _ 126 (.int .i64 t.Y) e2
      have e4 := hset_same _ g (i * 5 + 4) _ 126 (.int .i64 t.X) e3
      rw [← h1] at e4
      refine .inr ⟨g, cap, _, by simp, hB, e4, by simpa using l1, l2, by simpa using l3, ?_⟩
      rw [flatT_set _ _ _ hi, ← l4]
      simp [List.take_set]
  · intro x hx
    rcases List.mem_or_eq_of_mem_set hx with hx | rfl
    · exact h.wf x hx
    · exact ht
  · rintro k rfl
    exact .inr (.inr rfl)
/-- Places are told anew. -/
theorem HeapAt.setF {W W' : World} {B p b : Nat} {v : Value} {s : HS} (h : HeapAt W B p b v s) {n : Nat} {f : Int → Option Nat} (h3 : PlacesAt W' b n f) (h4 : W.mapTurned W' b) :
    HeapAt W' B p b v ⟨s.ts, f, n⟩ ∧ KeptS (HB p b v) W W' := by
  have k1 : KeptS (fun k => k = b) W W' := .of_grown h4.grown (fun k e _ => by cases e; rfl)
  exact ⟨⟨(k1.2 p (h.lt p (.inl rfl)).2 h.pb).trans h.hp, k1.own h.row (fun g hg e => h.gb (by rw [hg, e])), h3, h.wf, h.bp, h.bb⟩, k1.wide (fun k e => .inr (.inl e))⟩

set_option maxHeartbeats 4000000 in
theorem put_any (B p b g cap : Nat) (s : HS) (i : Nat) (t : Th) (w : World) (h : HeapAt w B p b (.slice (some ⟨g, 0, none⟩) s.ts.length cap) s) (hi : i < s.ts.length) (hl : s.ts.length ≤ 1048576) (hn : s.n ≤ 2097152) (ht : wfT t) :
    Calls Tryd.prog 76 #[.pointer (some ⟨p, 0, none⟩), .int .i64 (i : Int), .agg #[.int .i64 t.id, .int .u64 t.F, .int .u64 t.H, .int .i64 t.Y, .int .i64 t.X]] w fun e w' =>
      e = .returned (.tuple #[]) ∧ HeapAt w' B p b (.slice (some ⟨g, 0, none⟩) s.ts.length cap) (putS s i t) ∧ KeptS (HB p b (.slice (some ⟨g, 0, none⟩) s.ts.length cap)) w w' := by
  have hi2 : (i : Int) < (s.ts.length : Int) := by omega
  have hi0 : (0 : Int) ≤ (i : Int) := by omega
  have h0 := h
  have hA := bl_al (bl0 w) (.cells #[.int .i64 t.id, .int .u64 t.F, .int .u64 t.H, .int .i64 t.Y, .int .i64 t.X] 126)
  go_enter Tryd.func76, Tryd.ntmps76
  go_upto_region 1 with fail
  obtain ⟨W, hW⟩ : ∃ W, w.alloc (.cells #[.int .i64 t.id, .int .u64 t.F, .int .u64 t.H, .int .i64 t.Y, .int .i64 t.X] 126) = W := ⟨_, rfl⟩
  rw [hW] at hA ⊢
  have t0 : W.cell? ⟨w.heap.size, 0, none⟩ = some (.int .i64 t.id) := by rw [← hW]; simp [go_sem]
  have t1 : W.cell? ⟨w.heap.size, 1, none⟩ = some (.int .u64 t.F) := by rw [← hW]; simp [go_sem]
  have t2 : W.cell? ⟨w.heap.size, 2, none⟩ = some (.int .u64 t.H) := by rw [← hW]; simp [go_sem]
  have t3 : W.cell? ⟨w.heap.size, 3, none⟩ = some (.int .i64 t.Y) := by rw [← hW]; simp [go_sem]
  have t4 : W.cell? ⟨w.heap.size, 4, none⟩ = some (.int .i64 t.X) := by rw [← hW]; simp [go_sem]
  clear hW
  replace h := h.below hA
  have c0 := h.c0
  have hD := bl_dr (bl0 W)
  refine (wpIn_wide (n := 11)).1 ?_
  refine ordZ_begin (z := 7) (S := (fun w' : World => w'.cell? ⟨p, 0, none⟩ = some (.slice (some ⟨g, 0, none⟩) s.ts.length cap) ∧ w'.cell? ⟨w.heap.size, 0, none⟩ = some (.int .i64 t.id) ∧ w'.cell? ⟨w.heap.size, 1, none⟩ = some (.int .u64 t.F) ∧ w'.cell? ⟨w.heap.size, 2, none⟩ = some (.int .u64 t.H) ∧ w'.cell? ⟨w.heap.size, 3, none⟩ = some (.int .i64 t.Y) ∧ w'.cell? ⟨w.heap.size, 4, none⟩ = some (.int .i64 t.X))) (by kernel_rfl) ⟨cell_later hD c0, cell_later hD t0, cell_later hD t1, cell_later hD t2, cell_later hD t3, cell_later hD t4⟩ (fun hH => ?_)
  first
    | (refine' ordZ_take (i := 0) (oi := { dst := some 6, op := Op.move (Operand.tmp 0), type := 76, pos := _, after := #[], guard := none }) (v := _) rfl (by kernel_rfl) (by kernel_rfl) (by kernel_rfl) (by kernel_rfl) (fun _ _ _ h => h) (by assumption) (by kernel_rfl) (by decide) (by rfl) (Or.inl ⟨by rfl, ?hy1⟩) (fun _ => rfl) ?rest1
       case hy1 => (intro w hSw; (try dsimp only at hSw); go_simp; try with_reducible rfl))
    | (refine ordZ_take (i := 0) (oi := { dst := some 6, op := Op.move (Operand.tmp 0), type := 76, pos := _, after := #[], guard := none }) (v := undef) rfl (by kernel_rfl) (by kernel_rfl) (by kernel_rfl) (by kernel_rfl) (fun _ _ _ h => h) (by assumption) (by kernel_rfl) (by decide) (by rfl) (Or.inr ⟨by rfl, rfl⟩) (fun _ => rfl) ?_)
  try simp only [Act.put, List.setIfInBounds_toArray, List.set_cons_zero, List.set_cons_succ]
  first
    | (refine' ordZ_take (i := 1) (oi := { dst := some 7, op := Op.nilCheck (Operand.tmp 6), type := 0, pos := _, after := #[{ on := 0, ground := Ground.data }], guard := none }) (v := _) rfl (by kernel_rfl) (by kernel_rfl) (by kernel_rfl) (by kernel_rfl) (fun _ _ _ h => h) (by assumption) (by kernel_rfl) (by decide) (by rfl) (Or.inl ⟨by rfl, ?hy2⟩) (fun _ => rfl) ?rest2
       case hy2 => (intro w hSw; (try dsimp only at hSw); go_simp; try with_reducible rfl))
    | (refine ordZ_take (i := 1) (oi := { dst := some 7, op := Op.nilCheck (Operand.tmp 6), type := 0, pos := _, after := #[{ on := 0, ground := Ground.data }], guard := none }) (v := undef) rfl (by kernel_rfl) (by kernel_rfl) (by kernel_rfl) (by kernel_rfl) (fun _ _ _ h => h) (by assumption) (by kernel_rfl) (by decide) (by rfl) (Or.inr ⟨by rfl, rfl⟩) (fun _ => rfl) ?_)
  try simp only [Act.put, List.setIfInBounds_toArray, List.set_cons_zero, List.set_cons_succ]
  first
    | (refine' ordZ_take (i := 2) (oi := { dst := some 8, op := Op.fieldAddr 98 (Operand.tmp 7) 0, type := 0, pos := _, after := #[{ on := 1, ground := Ground.data }], guard := none }) (v := _) rfl (by kernel_rfl) (by kernel_rfl) (by kernel_rfl) (by kernel_rfl) (fun _ _ _ h => h) (by assumption) (by kernel_rfl) (by decide) (by rfl) (Or.inl ⟨by rfl, ?hy3⟩) (fun _ => rfl) ?rest3
       case hy3 => (intro w hSw; (try dsimp only at hSw); go_simp; try with_reducible rfl))
    | (refine ordZ_take (i := 2) (oi := { dst := some 8, op := Op.fieldAddr 98 (Operand.tmp 7) 0, type := 0, pos := _, after := #[{ on := 1, ground := Ground.data }], guard := none }) (v := undef) rfl (by kernel_rfl) (by kernel_rfl) (by kernel_rfl) (by kernel_rfl) (fun _ _ _ h => h) (by assumption) (by kernel_rfl) (by decide) (by rfl) (Or.inr ⟨by rfl, rfl⟩) (fun _ => rfl) ?_)
  try simp only [Act.put, List.setIfInBounds_toArray, List.set_cons_zero, List.set_cons_succ]
  first
    | (refine' ordZ_take (i := 3) (oi := { dst := some 9, op := Op.load 96 (Operand.tmp 8), type := 96, pos := _, after := #[{ on := 2, ground := Ground.data }], guard := none }) (v := _) rfl (by kernel_rfl) (by kernel_rfl) (by kernel_rfl) (by kernel_rfl) (fun _ _ _ h => h) (by assumption) (by kernel_rfl) (by decide) (by rfl) (Or.inl ⟨by rfl, ?hy4⟩) (fun _ => rfl) ?rest4
       case hy4 => (intro w hSw; (try dsimp only at hSw); go_simp; try with_reducible rfl))
    | (refine ordZ_take (i := 3) (oi := { dst := some 9, op := Op.load 96 (Operand.tmp 8), type := 96, pos := _, after := #[{ on := 2, ground := Ground.data }], guard := none }) (v := undef) rfl (by kernel_rfl) (by kernel_rfl) (by kernel_rfl) (by kernel_rfl) (fun _ _ _ h => h) (by assumption) (by kernel_rfl) (by decide) (by rfl) (Or.inr ⟨by rfl, rfl⟩) (fun _ => rfl) ?_)
  try simp only [Act.put, List.setIfInBounds_toArray, List.set_cons_zero, List.set_cons_succ]
  first
    | (refine' ordZ_take (i := 4) (oi := { dst := some 10, op := Op.move (Operand.tmp 1), type := 3, pos := _, after := #[], guard := none }) (v := _) rfl (by kernel_rfl) (by kernel_rfl) (by kernel_rfl) (by kernel_rfl) (fun _ _ _ h => h) (by assumption) (by kernel_rfl) (by decide) (by rfl) (Or.inl ⟨by rfl, ?hy5⟩) (fun _ => rfl) ?rest5
       case hy5 => (intro w hSw; (try dsimp only at hSw); go_simp; try with_reducible rfl))
    | (refine ordZ_take (i := 4) (oi := { dst := some 10, op := Op.move (Operand.tmp 1), type := 3, pos := _, after := #[], guard := none }) (v := undef) rfl (by kernel_rfl) (by kernel_rfl) (by kernel_rfl) (by kernel_rfl) (fun _ _ _ h => h) (by assumption) (by kernel_rfl) (by decide) (by rfl) (Or.inr ⟨by rfl, rfl⟩) (fun _ => rfl) ?_)
  try simp only [Act.put, List.setIfInBounds_toArray, List.set_cons_zero, List.set_cons_succ]
  first
    | (refine' ordZ_take (i := 5) (oi := { dst := some 11, op := Op.load 126 (Operand.tmp 5), type := 126, pos := _, after := #[], guard := none }) (v := _) rfl (by kernel_rfl) (by kernel_rfl) (by kernel_rfl) (by kernel_rfl) (fun _ _ _ h => h) (by assumption) (by kernel_rfl) (by decide) (by rfl) (Or.inl ⟨by rfl, ?hy6⟩) (fun _ => rfl) ?rest6
       case hy6 => (intro w hSw; (try dsimp only at hSw); go_simp; try with_reducible rfl))
    | (refine ordZ_take (i := 5) (oi := { dst := some 11, op := Op.load 126 (Operand.tmp 5), type := 126, pos := _, after := #[], guard := none }) (v := undef) rfl (by kernel_rfl) (by kernel_rfl) (by kernel_rfl) (by kernel_rfl) (fun _ _ _ h => h) (by assumption) (by kernel_rfl) (by decide) (by rfl) (Or.inr ⟨by rfl, rfl⟩) (fun _ => rfl) ?_)
  try simp only [Act.put, List.setIfInBounds_toArray, List.set_cons_zero, List.set_cons_succ]
  first
    | (refine' ordZ_take (i := 6) (oi := { dst := some 12, op := Op.indexAddr 96 (Operand.tmp 9) (Operand.tmp 10), type := 0, pos := _, after := #[{ on := 3, ground := Ground.data }, { on := 4, ground := Ground.data }, { on := 0, ground := Ground.phase }, { on := 1, ground := Ground.phase }, { on := 2, ground := Ground.phase }, { on := 3, ground := Ground.phase }, { on := 4, ground := Ground.phase }, { on := 5, ground := Ground.phase }], guard := none }) (v := _) rfl (by kernel_rfl) (by kernel_rfl) (by kernel_rfl) (by kernel_rfl) (fun _ _ _ h => h) (by assumption) (by kernel_rfl) (by decide) (by rfl) (Or.inl ⟨by rfl, ?hy7⟩) (fun _ => rfl) ?rest7
       case hy7 => (intro w hSw; (try dsimp only at hSw); go_simp; try with_reducible rfl))
    | (refine ordZ_take (i := 6) (oi := { dst := some 12, op := Op.indexAddr 96 (Operand.tmp 9) (Operand.tmp 10), type := 0, pos := _, after := #[{ on := 3, ground := Ground.data }, { on := 4, ground := Ground.data }, { on := 0, ground := Ground.phase }, { on := 1, ground := Ground.phase }, { on := 2, ground := Ground.phase }, { on := 3, ground := Ground.phase }, { on := 4, ground := Ground.phase }, { on := 5, ground := Ground.phase }], guard := none }) (v := undef) rfl (by kernel_rfl) (by kernel_rfl) (by kernel_rfl) (by kernel_rfl) (fun _ _ _ h => h) (by assumption) (by kernel_rfl) (by decide) (by rfl) (Or.inr ⟨by rfl, rfl⟩) (fun _ => rfl) ?_)
  try simp only [Act.put, List.setIfInBounds_toArray, List.set_cons_zero, List.set_cons_succ]
  refine ordZ_one (i := 7) (o := { dst := none, op := Op.store 126 (Operand.tmp 12) (Operand.tmp 11), type := 0, pos := _, after := #[{ on := 6, ground := Ground.data }, { on := 5, ground := Ground.data }, { on := 0, ground := Ground.phase }, { on := 1, ground := Ground.phase }, { on := 2, ground := Ground.phase }, { on := 3, ground := Ground.phase }, { on := 4, ground := Ground.phase }, { on := 5, ground := Ground.phase }], guard := none }) (by kernel_rfl) rfl (by rfl) (fun K hK => ?_)
  have f0 : W.frozen? ⟨g, i * 5, none⟩ = false := h.row.frozenAt _
  have f1 : W.frozen? ⟨g, i * 5 + 1, none⟩ = false := h.row.frozenAt _
  have f2 : W.frozen? ⟨g, i * 5 + 2, none⟩ = false := h.row.frozenAt _
  have f3 : W.frozen? ⟨g, i * 5 + 3, none⟩ = false := h.row.frozenAt _
  have f4 : W.frozen? ⟨g, i * 5 + 4, none⟩ = false := h.row.frozenAt _
  obtain ⟨y0, y1, y2, y3, y4⟩ := h.at hi
  go_simp
  refine hK _ _ (fun h => by cases h) ?_
  clear hK K
  try simp only [Act.put, List.setIfInBounds_toArray, List.set_cons_zero, List.set_cons_succ]
  refine ordZ_done (by kernel_rfl) ?_
  obtain ⟨W1, hW1⟩ : ∃ W1, ((((W.setCell ⟨g, i * 5, none⟩ (.int .i64 t.id)).setCell ⟨g, i * 5 + 1, none⟩ (.int .u64 t.F)).setCell ⟨g, i * 5 + 2, none⟩ (.int .u64 t.H)).setCell ⟨g, i * 5 + 3, none⟩ (.int .i64 t.Y)).setCell ⟨g, i * 5 + 4, none⟩ (.int .i64 t.X) = W1 := ⟨_, rfl⟩
  obtain ⟨h1, k1⟩ := h.setT hi t ht hW1.symm
  have hgw : g < w.heap.size := (h0.lt g (.inr (.inr rfl))).2
  have hnb : ¬ HB p b (.slice (some ⟨g, 0, none⟩) s.ts.length cap) w.heap.size := fun e => by have := (h0.lt _ e).2; omega
  rw [hW1]
  replace t0 := k1.cell t0 hnb
  have c1 := h1.c1
  have hD1 := bl_dr (bl0 W1)
  clear hW1 hH hD y0 y1 y2 y3 y4 f0 f1 f2 f3 f4 t1 t2 t3 t4
  obtain ⟨W2, hW2⟩ : ∃ W2, W1.drew = W2 := ⟨_, rfl⟩
  rw [hW2] at hD1 ⊢
  have k2 := k1.below hD1
  replace h1 := h1.below hD1
  replace t0 := cell_later hD1 t0
  replace c1 := cell_later hD1 c1
  clear hW2 k1 hD1 c0
  have hD := bl_dr (bl0 W2)
  go_upto_region 2 with fail
  refine (wpIn_wide (n := 11)).1 ?_
  refine ordZ_begin (z := 7) (S := (fun w' : World => w'.cell? ⟨p, 1, none⟩ = some (.map (some b)) ∧ w'.cell? ⟨w.heap.size, 0, none⟩ = some (.int .i64 t.id))) (by kernel_rfl) ⟨cell_later hD c1, cell_later hD t0⟩ (fun hH => ?_)
  first
    | (refine' ordZ_take (i := 0) (oi := { dst := some 13, op := Op.move (Operand.tmp 0), type := 76, pos := _, after := #[], guard := none }) (v := _) rfl (by kernel_rfl) (by kernel_rfl) (by kernel_rfl) (by kernel_rfl) (fun _ _ _ h => h) (by assumption) (by kernel_rfl) (by decide) (by rfl) (Or.inl ⟨by rfl, ?hy8⟩) (fun _ => rfl) ?rest8
       case hy8 => (intro w hSw; (try dsimp only at hSw); go_simp; try with_reducible rfl))
    | (refine ordZ_take (i := 0) (oi := { dst := some 13, op := Op.move (Operand.tmp 0), type := 76, pos := _, after := #[], guard := none }) (v := undef) rfl (by kernel_rfl) (by kernel_rfl) (by kernel_rfl) (by kernel_rfl) (fun _ _ _ h => h) (by assumption) (by kernel_rfl) (by decide) (by rfl) (Or.inr ⟨by rfl, rfl⟩) (fun _ => rfl) ?_)
  try simp only [Act.put, List.setIfInBounds_toArray, List.set_cons_zero, List.set_cons_succ]
  first
    | (refine' ordZ_take (i := 1) (oi := { dst := some 14, op := Op.nilCheck (Operand.tmp 13), type := 0, pos := _, after := #[{ on := 0, ground := Ground.data }], guard := none }) (v := _) rfl (by kernel_rfl) (by kernel_rfl) (by kernel_rfl) (by kernel_rfl) (fun _ _ _ h => h) (by assumption) (by kernel_rfl) (by decide) (by rfl) (Or.inl ⟨by rfl, ?hy9⟩) (fun _ => rfl) ?rest9
       case hy9 => (intro w hSw; (try dsimp only at hSw); go_simp; try with_reducible rfl))
    | (refine ordZ_take (i := 1) (oi := { dst := some 14, op := Op.nilCheck (Operand.tmp 13), type := 0, pos := _, after := #[{ on := 0, ground := Ground.data }], guard := none }) (v := undef) rfl (by kernel_rfl) (by kernel_rfl) (by kernel_rfl) (by kernel_rfl) (fun _ _ _ h => h) (by assumption) (by kernel_rfl) (by decide) (by rfl) (Or.inr ⟨by rfl, rfl⟩) (fun _ => rfl) ?_)
  try simp only [Act.put, List.setIfInBounds_toArray, List.set_cons_zero, List.set_cons_succ]
  first
    | (refine' ordZ_take (i := 2) (oi := { dst := some 15, op := Op.fieldAddr 98 (Operand.tmp 14) 1, type := 0, pos := _, after := #[{ on := 1, ground := Ground.data }], guard := none }) (v := _) rfl (by kernel_rfl) (by kernel_rfl) (by kernel_rfl) (by kernel_rfl) (fun _ _ _ h => h) (by assumption) (by kernel_rfl) (by decide) (by rfl) (Or.inl ⟨by rfl, ?hy10⟩) (fun _ => rfl) ?rest10
       case hy10 => (intro w hSw; (try dsimp only at hSw); go_simp; try with_reducible rfl))
    | (refine ordZ_take (i := 2) (oi := { dst := some 15, op := Op.fieldAddr 98 (Operand.tmp 14) 1, type := 0, pos := _, after := #[{ on := 1, ground := Ground.data }], guard := none }) (v := undef) rfl (by kernel_rfl) (by kernel_rfl) (by kernel_rfl) (by kernel_rfl) (fun _ _ _ h => h) (by assumption) (by kernel_rfl) (by decide) (by rfl) (Or.inr ⟨by rfl, rfl⟩) (fun _ => rfl) ?_)
  try simp only [Act.put, List.setIfInBounds_toArray, List.set_cons_zero, List.set_cons_succ]
  first
    | (refine' ordZ_take (i := 3) (oi := { dst := some 16, op := Op.load 95 (Operand.tmp 15), type := 95, pos := _, after := #[{ on := 2, ground := Ground.data }], guard := none }) (v := _) rfl (by kernel_rfl) (by kernel_rfl) (by kernel_rfl) (by kernel_rfl) (fun _ _ _ h => h) (by assumption) (by kernel_rfl) (by decide) (by rfl) (Or.inl ⟨by rfl, ?hy11⟩) (fun _ => rfl) ?rest11
       case hy11 => (intro w hSw; (try dsimp only at hSw); go_simp; try with_reducible rfl))
    | (refine ordZ_take (i := 3) (oi := { dst := some 16, op := Op.load 95 (Operand.tmp 15), type := 95, pos := _, after := #[{ on := 2, ground := Ground.data }], guard := none }) (v := undef) rfl (by kernel_rfl) (by kernel_rfl) (by kernel_rfl) (by kernel_rfl) (fun _ _ _ h => h) (by assumption) (by kernel_rfl) (by decide) (by rfl) (Or.inr ⟨by rfl, rfl⟩) (fun _ => rfl) ?_)
  try simp only [Act.put, List.setIfInBounds_toArray, List.set_cons_zero, List.set_cons_succ]
  first
    | (refine' ordZ_take (i := 4) (oi := { dst := some 17, op := Op.fieldAddr 126 (Operand.tmp 5) 0, type := 0, pos := _, after := #[], guard := none }) (v := _) rfl (by kernel_rfl) (by kernel_rfl) (by kernel_rfl) (by kernel_rfl) (fun _ _ _ h => h) (by assumption) (by kernel_rfl) (by decide) (by rfl) (Or.inl ⟨by rfl, ?hy12⟩) (fun _ => rfl) ?rest12
       case hy12 => (intro w hSw; (try dsimp only at hSw); go_simp; try with_reducible rfl))
    | (refine ordZ_take (i := 4) (oi := { dst := some 17, op := Op.fieldAddr 126 (Operand.tmp 5) 0, type := 0, pos := _, after := #[], guard := none }) (v := undef) rfl (by kernel_rfl) (by kernel_rfl) (by kernel_rfl) (by kernel_rfl) (fun _ _ _ h => h) (by assumption) (by kernel_rfl) (by decide) (by rfl) (Or.inr ⟨by rfl, rfl⟩) (fun _ => rfl) ?_)
  try simp only [Act.put, List.setIfInBounds_toArray, List.set_cons_zero, List.set_cons_succ]
  first
    | (refine' ordZ_take (i := 5) (oi := { dst := some 18, op := Op.load 3 (Operand.tmp 17), type := 3, pos := _, after := #[{ on := 4, ground := Ground.data }], guard := none }) (v := _) rfl (by kernel_rfl) (by kernel_rfl) (by kernel_rfl) (by kernel_rfl) (fun _ _ _ h => h) (by assumption) (by kernel_rfl) (by decide) (by rfl) (Or.inl ⟨by rfl, ?hy13⟩) (fun _ => rfl) ?rest13
       case hy13 => (intro w hSw; (try dsimp only at hSw); go_simp; try with_reducible rfl))
    | (refine ordZ_take (i := 5) (oi := { dst := some 18, op := Op.load 3 (Operand.tmp 17), type := 3, pos := _, after := #[{ on := 4, ground := Ground.data }], guard := none }) (v := undef) rfl (by kernel_rfl) (by kernel_rfl) (by kernel_rfl) (by kernel_rfl) (fun _ _ _ h => h) (by assumption) (by kernel_rfl) (by decide) (by rfl) (Or.inr ⟨by rfl, rfl⟩) (fun _ => rfl) ?_)
  try simp only [Act.put, List.setIfInBounds_toArray, List.set_cons_zero, List.set_cons_succ]
  first
    | (refine' ordZ_take (i := 6) (oi := { dst := some 19, op := Op.move (Operand.tmp 1), type := 3, pos := _, after := #[], guard := none }) (v := _) rfl (by kernel_rfl) (by kernel_rfl) (by kernel_rfl) (by kernel_rfl) (fun _ _ _ h => h) (by assumption) (by kernel_rfl) (by decide) (by rfl) (Or.inl ⟨by rfl, ?hy14⟩) (fun _ => rfl) ?rest14
       case hy14 => (intro w hSw; (try dsimp only at hSw); go_simp; try with_reducible rfl))
    | (refine ordZ_take (i := 6) (oi := { dst := some 19, op := Op.move (Operand.tmp 1), type := 3, pos := _, after := #[], guard := none }) (v := undef) rfl (by kernel_rfl) (by kernel_rfl) (by kernel_rfl) (by kernel_rfl) (fun _ _ _ h => h) (by assumption) (by kernel_rfl) (by decide) (by rfl) (Or.inr ⟨by rfl, rfl⟩) (fun _ => rfl) ?_)
  try simp only [Act.put, List.setIfInBounds_toArray, List.set_cons_zero, List.set_cons_succ]
  have h2 := h1.below hD
  obtain ⟨W3, hrun, hpl, hturn⟩ := h2.pl.store ht (show s.n < maxLen by unfold maxLen; omega) (p := i) (by unfold maxLen; omega)
  obtain ⟨h3, k3⟩ := h2.setF hpl hturn
  refine ordZ_one (i := 7) (o := { dst := none, op := Op.mapUpdate 95 (Operand.tmp 16) (Operand.tmp 18) (Operand.tmp 19), type := 0, pos := _, after := #[{ on := 3, ground := Ground.data }, { on := 5, ground := Ground.data }, { on := 6, ground := Ground.data }, { on := 0, ground := Ground.phase }, { on := 1, ground := Ground.phase }, { on := 2, ground := Ground.phase }, { on := 3, ground := Ground.phase }, { on := 4, ground := Ground.phase }, { on := 5, ground := Ground.phase }, { on := 6, ground := Ground.phase }], guard := none }) (by kernel_rfl) rfl (by rfl) (fun K hK => ?_)
  go_simp
  refine hK _ _ (fun h => by cases h) ?_
  clear hK K
  try simp only [Act.put, List.setIfInBounds_toArray, List.set_cons_zero, List.set_cons_succ]
  refine ordZ_done (by kernel_rfl) ?_
  go_end0
  have k0 : KeptS (HB p b (.slice (some ⟨g, 0, none⟩) s.ts.length cap)) w W3 := (KeptS.of_below (S := HB p b (.slice (some ⟨g, 0, none⟩) s.ts.length cap)) hA).trans ((k2.below hD).trans k3 (fun _ _ h => h)) (fun _ _ h => h)
  exact ⟨rfl, h3, k0⟩
end Go.Proofs.YtldpajfendkhbaaDoor

/- Heap: what stands below; rising and sinking. -/
namespace Go.Proofs.YtldpajfendkhbaaDoor
open Go.RowKit Go.Maps

/-- What rising holds on its way. -/
structure RiseR (w wr : World) (B p b g cap : Nat) (s : HS) (i : Nat) (t : Th) (s' : HS) (i' : Nat) : Prop where
  h : HeapAt wr B p b (.slice (some ⟨g, 0, none⟩) s'.ts.length cap) s'
  e : riseS s' i' t = riseS s i t
  lt : i' < s'.ts.length
  len : s'.ts.length = s.ts.length
  n : s'.n + i' ≤ s.n + i
  k : KeptS (HB p b (.slice (some ⟨g, 0, none⟩) s.ts.length cap)) w wr
  t0 : wr.cell? ⟨w.heap.size, 0, none⟩ = some (.int .i64 t.id)
  t1 : wr.cell? ⟨w.heap.size, 1, none⟩ = some (.int .u64 t.F)
  t2 : wr.cell? ⟨w.heap.size, 2, none⟩ = some (.int .u64 t.H)
  t3 : wr.cell? ⟨w.heap.size, 3, none⟩ = some (.int .i64 t.Y)
  t4 : wr.cell? ⟨w.heap.size, 4, none⟩ = some (.int .i64 t.X)

theorem putS_len (s : HS) (i : Nat) (t : Th) : (putS s i t).ts.length = s.ts.length := by simp [putS]
theorem putS_n (s : HS) (i : Nat) (t : Th) : (putS s i t).n ≤ s.n + 1 := by simp only [putS]; split <;> omega
theorem rise_zero (s : HS) (t : Th) : riseS s 0 t = putS s 0 t := by rw [riseS, dif_pos rfl]
theorem rise_up {s : HS} {i : Nat} {t : Th} (h0 : i ≠ 0) (h : aheadT t (atT s.ts ((i - 1) / 2)) = true) : riseS s i t = riseS (putS s i (atT s.ts ((i - 1) / 2))) ((i - 1) / 2) t := by
  rw [riseS, dif_neg h0, if_pos h]
theorem rise_stay {s : HS} {i : Nat} {t : Th} (h0 : i ≠ 0) (h : aheadT t (atT s.ts ((i - 1) / 2)) = false) : riseS s i t = putS s i t := by
  rw [riseS, dif_neg h0, if_neg (by rw [h]; decide)]

set_option maxRecDepth 100000 in
set_option maxHeartbeats 4000000 in
theorem rise_any (B p b g cap : Nat) (s : HS) (i : Nat) (t : Th) (w : World) (h : HeapAt w B p b (.slice (some ⟨g, 0, none⟩) s.ts.length cap) s) (hi : i < s.ts.length) (hl : s.ts.length ≤ 1048576) (hn : s.n ≤ 1048576) (ht : wfT t) :
    Calls Tryd.prog 67 #[.pointer (some ⟨p, 0, none⟩), .int .i64 (i : Int), .agg #[.int .i64 t.id, .int .u64 t.F, .int .u64 t.H, .int .i64 t.Y, .int .i64 t.X]] w fun e w' =>
      e = .returned (.tuple #[]) ∧ HeapAt w' B p b (.slice (some ⟨g, 0, none⟩) s.ts.length cap) (riseS s i t) ∧ KeptS (HB p b (.slice (some ⟨g, 0, none⟩) s.ts.length cap)) w w' := by
  have h0 := h
  have hA := bl_al (bl0 w) (.cells #[.int .i64 t.id, .int .u64 t.F, .int .u64 t.H, .int .i64 t.Y, .int .i64 t.X] 126)
  have hR : RiseR w (w.alloc (.cells #[.int .i64 t.id, .int .u64 t.F, .int .u64 t.H, .int .i64 t.Y, .int .i64 t.X] 126)) B p b g cap s i t s i :=
    ⟨h.below hA, rfl, hi, rfl, Nat.le_refl _, .of_below hA, by simp [go_sem], by simp [go_sem], by simp [go_sem], by simp [go_sem], by simp [go_sem]⟩
  go_enter Tryd.func67, Tryd.ntmps67
  go_wp2
  go_step3
  go_wp2
  go_step3
  go_wp2
  go_loopw [1] (fun a wr => ∃ (i' : Nat) (s' : HS), a = .int .i64 i' ∧ RiseR w wr B p b g cap s i t s' i') (fun a _ => (intOf a).toNat)
  case atStart => exact ⟨i, s, rfl, hR⟩
  case round =>
    obtain ⟨i', s', rfl, R⟩ := hrel
    clear h hA hR
    have hlt := R.lt
    have hlen := R.len
    have hRn := R.n
    have hi0 : (0 : Int) ≤ (i' : Int) := by omega
    have hi1 : (i' : Int) ≤ 1048576 := by omega
    by_cases hz : i' = 0
    · subst hz
      have t0 := R.t0; have t1 := R.t1; have t2 := R.t2; have t3 := R.t3; have t4 := R.t4
      have hcall := put_any B p b g cap s' 0 t wr R.h (by omega) (by omega) (by omega) ht
      have HR := Lib.hid R
      clear R hlt hlen hRn hi0 hi1
      go_wp2_with fail
      refine hcall.mono ?_
      rintro e w2 ⟨rfl, hH, hk⟩
      rw [HR.out.len] at hH hk
      rw [← rise_zero, HR.out.e] at hH
      have HH := Lib.hid hH
      have HK := Lib.hid hk
      clear hH hk t0 t1 t2 t3 t4 hcall
      go_wp2
      rw [Exit.noGoto_normal]
      go_end0
      exact ⟨rfl, HH.out, HR.out.k.trans HK.out (fun _ _ h => h)⟩
    · have hpos : (0 : Int) < (i' : Int) := by omega
      obtain ⟨u, hu⟩ : ∃ u, (i' - 1) / 2 = u := ⟨_, rfl⟩
      have hul : u < i' := by omega
      have hus : u < s'.ts.length := by omega
      have huI : ((i' : Int) - 1) / 2 = (u : Int) := by omega
      have hu0 : (0 : Int) ≤ (u : Int) := by omega
      have hu1 : (u : Int) < (s'.ts.length : Int) := by omega
      have t0 := R.t0; have t1 := R.t1; have t2 := R.t2; have t3 := R.t3; have t4 := R.t4
      have c0 := R.h.c0
      have zt0 := blk_lt t0
      obtain ⟨y0, y1, y2, y3, y4⟩ := R.h.at hus
      have hwu := R.h.wf _ (atT_mem hus)
      have HU := Lib.hid hu
      have HR := Lib.hid R
      generalize hx : atT s'.ts u = x at *
      have HX := Lib.hid hx
      clear R hlt hRn hu hlen hx
      go_wp2_with fail
      refine (ahead_any t x _).mono ?_
      rintro e w2 ⟨rfl, hb⟩
      have hk2 := bl_tr (bl_al (bl0 wr) (.cells #[.int .i64 x.id, .int .u64 x.F, .int .u64 x.H, .int .i64 x.Y, .int .i64 x.X] 126)) hb
      have x0 := cell_later hb (v := .int .i64 x.id) (a := ⟨wr.heap.size, 0, none⟩) (by simp [go_sem])
      have x1 := cell_later hb (v := .int .u64 x.F) (a := ⟨wr.heap.size, 1, none⟩) (by simp [go_sem])
      have x2 := cell_later hb (v := .int .u64 x.H) (a := ⟨wr.heap.size, 2, none⟩) (by simp [go_sem])
      have x3 := cell_later hb (v := .int .i64 x.Y) (a := ⟨wr.heap.size, 3, none⟩) (by simp [go_sem])
      have x4 := cell_later hb (v := .int .i64 x.X) (a := ⟨wr.heap.size, 4, none⟩) (by simp [go_sem])
      replace t0 := cell_later hk2 t0
      replace t1 := cell_later hk2 t1
      replace t2 := cell_later hk2 t2
      replace t3 := cell_later hk2 t3
      replace t4 := cell_later hk2 t4
      have h2 := HR.out.h.below hk2
      have hk3 := HR.out.k.below hk2
      have hn2 : s'.n ≤ 2097152 := by have := HR.out.n; omega
      have hl2 : s'.ts.length ≤ 1048576 := by have := HR.out.len; omega
      have hls := HR.out.len
      have HK3 := Lib.hid hk3
      have HL := Lib.hid hls
      clear hb hk2 y0 y1 y2 y3 y4 c0 hk3 hls
      cases ha : aheadT t x
      · have hcall := put_any B p b g cap s' i' t w2 h2 HR.out.lt hl2 hn2 ht
        go_wp2_with fail
        refine hcall.mono ?_
        rintro e w3 ⟨rfl, hH, hk⟩
        rw [HL.out] at hH hk
        rw [← HX.out, ← HU.out] at ha
        rw [← rise_stay hz ha, HR.out.e] at hH
        have HH := Lib.hid hH
        have HK := Lib.hid hk
        clear hH hk t0 t1 t2 t3 t4 x0 x1 x2 x3 x4 h2 hcall
        go_wp2
        rw [Exit.noGoto_normal]
        go_end0
        exact ⟨rfl, HH.out, HK3.out.trans HK.out (fun _ _ h => h)⟩
      · have hcall := put_any B p b g cap s' i' x w2 h2 HR.out.lt hl2 hn2 hwu
        go_wp2_with fail
        refine hcall.mono ?_
        rintro e w3 ⟨rfl, hH, hk⟩
        have hnb : ¬ HB p b (.slice (some ⟨g, 0, none⟩) s'.ts.length cap) w.heap.size := fun e => by have := (h0.lt _ e).2; omega
        replace t0 := hk.cell t0 hnb
        replace t1 := hk.cell t1 hnb
        replace t2 := hk.cell t2 hnb
        replace t3 := hk.cell t3 hnb
        replace t4 := hk.cell t4 hnb
        have hR3 : RiseR w w3 B p b g cap s i t (putS s' i' x) u := by
          have hup : riseS s' i' t = riseS (putS s' i' x) u t := by
            have := rise_up hz (s := s') (t := t) (by rw [HU.out, HX.out]; exact ha)
            rw [HU.out, HX.out] at this
            exact this
          refine ⟨by rw [putS_len]; exact hH, hup ▸ HR.out.e, by rw [putS_len]; exact hus, by rw [putS_len]; exact HL.out, ?_, HK3.out.trans hk (fun k _ e => by rw [HL.out] at e; exact e), t0, t1, t2, t3, t4⟩
          have := putS_n s' i' x
          have := HR.out.n
          omega
        have HR3 := Lib.hid hR3
        clear hR3 hH hk t0 t1 t2 t3 t4 x0 x1 x2 x3 x4 h2 hcall HR HK3 HL hnb
        go_wp2
        go_roundw
        case rel => exact ⟨u, putS s' i' x, rfl, HR3.out⟩
        case measure => simp [intOf]; omega
end Go.Proofs.YtldpajfendkhbaaDoor

/- Heap: the place below; sinking. -/
namespace Go.Proofs.YtldpajfendkhbaaDoor
open Go.RowKit Go.Maps

/-- The place below that goes ahead of the other one. -/
def downN (l : List Th) (i : Nat) : Nat := if 2 * i + 2 < l.length ∧ aheadT (atT l (2 * i + 2)) (atT l (2 * i + 1)) = true then 2 * i + 2 else 2 * i + 1
theorem downN_bd (l : List Th) (i : Nat) (h : 2 * i + 1 < l.length) : i < downN l i ∧ downN l i < l.length := by
  unfold downN; split <;> omega

set_option maxRecDepth 100000 in
set_option maxHeartbeats 4000000 in
theorem below_no (B p b g cap : Nat) (s : HS) (i : Nat) (w : World) (h : HeapAt w B p b (.slice (some ⟨g, 0, none⟩) s.ts.length cap) s) (hl : s.ts.length ≤ 1048576) (hi : i < s.ts.length) (hA : s.ts.length ≤ 2 * i + 1) :
    Calls Tryd.prog 77 #[.pointer (some ⟨p, 0, none⟩), .int .i64 (i : Int)] w fun e w' => e = .returned (.tuple #[.int .i64 0, .bool false]) ∧ Below w.heap.size w w' := by
  have c0 := h.c0
  have i0 : (0 : Int) ≤ (i : Int) := by omega
  have i1 : (i : Int) ≤ 1048576 := by omega
  have hge : (s.ts.length : Int) ≤ 2 * (i : Int) + 1 := by omega
  clear h
  go_enter Tryd.func77, Tryd.ntmps77
  go_wp2
  go_ret2
  exact ⟨rfl, bl0 _⟩

set_option maxRecDepth 100000 in
set_option maxHeartbeats 4000000 in
theorem below_yes (B p b g cap : Nat) (s : HS) (i : Nat) (w : World) (h : HeapAt w B p b (.slice (some ⟨g, 0, none⟩) s.ts.length cap) s) (hl : s.ts.length ≤ 1048576) (hA : 2 * i + 1 < s.ts.length) :
    Calls Tryd.prog 77 #[.pointer (some ⟨p, 0, none⟩), .int .i64 (i : Int)] w fun e w' => e = .returned (.tuple #[.int .i64 (downN s.ts i : Nat), .bool true]) ∧ Below w.heap.size w w' := by
  have c0 := h.c0
  have i0 : (0 : Int) ≤ (i : Int) := by omega
  have i1 : (i : Int) ≤ 1048576 := by omega
  have hlt : 2 * (i : Int) + 1 < (s.ts.length : Int) := by omega
  obtain ⟨d, hd⟩ : ∃ d, downN s.ts i = d := ⟨_, rfl⟩
  rw [hd]
  unfold downN at hd
  obtain ⟨r, hr⟩ : ∃ r, 2 * i + 2 = r := ⟨_, rfl⟩
  obtain ⟨l, hlf⟩ : ∃ l, 2 * i + 1 = l := ⟨_, rfl⟩
  have hrI : 2 * (i : Int) + 2 = (r : Int) := by omega
  have hlI : 2 * (i : Int) + 1 = (l : Int) := by omega
  have w1 : IntKind.i64.wrap (2 * (i : Int)) = 2 * (i : Int) := IntWalk.i64_in _ (by omega)
  have w2 : IntKind.i64.wrap (2 * (i : Int) + 1) = (l : Int) := by rw [IntWalk.i64_in _ (by omega), hlI]
  have w3 : IntKind.i64.wrap (2 * (i : Int) + 2) = (r : Int) := by rw [IntWalk.i64_in _ (by omega), hrI]
  rw [hr, hlf] at hd
  have hll : l < s.ts.length := by omega
  have hll1 : (l : Int) < (s.ts.length : Int) := by omega
  have hll0 : (0 : Int) ≤ (l : Int) := by omega
  have hrr0 : (0 : Int) ≤ (r : Int) := by omega
  clear hr hlf hlt hA
  by_cases hB : r < s.ts.length
  · obtain ⟨y0, y1, y2, y3, y4⟩ := h.at hB
    obtain ⟨z0, z1, z2, z3, z4⟩ := h.at hll
    have hrr1 : (r : Int) < (s.ts.length : Int) := by omega
    generalize hx : atT s.ts r = x at *
    generalize hy : atT s.ts l = y at *
    have hBB : decide (r < s.ts.length) = true := by simpa using hB
    have HD := Lib.hid hd
    clear hd hx hy h hlI hrI
    have hA := bl_dr (bl0 w)
    go_enter Tryd.func77, Tryd.ntmps77
    go_upto_region 4 with fail
    go_region_held3 (fun w' => w'.cell? ⟨p, 0, none⟩ = some (.slice (some ⟨g, 0, none⟩) s.ts.length cap) ∧ w'.cell? ⟨g, r * 5, none⟩ = some (.int .i64 x.id) ∧ w'.cell? ⟨g, r * 5 + 1, none⟩ = some (.int .u64 x.F) ∧ w'.cell? ⟨g, r * 5 + 2, none⟩ = some (.int .u64 x.H) ∧ w'.cell? ⟨g, r * 5 + 3, none⟩ = some (.int .i64 x.Y) ∧ w'.cell? ⟨g, r * 5 + 4, none⟩ = some (.int .i64 x.X) ∧ w'.cell? ⟨g, l * 5, none⟩ = some (.int .i64 y.id) ∧ w'.cell? ⟨g, l * 5 + 1, none⟩ = some (.int .u64 y.F) ∧ w'.cell? ⟨g, l * 5 + 2, none⟩ = some (.int .u64 y.H) ∧ w'.cell? ⟨g, l * 5 + 3, none⟩ = some (.int .i64 y.Y) ∧ w'.cell? ⟨g, l * 5 + 4, none⟩ = some (.int .i64 y.X))
      (exact ⟨cell_later hA c0, cell_later hA y0, cell_later hA y1, cell_later hA y2, cell_later hA y3, cell_later hA y4, cell_later hA z0, cell_later hA z1, cell_later hA z2, cell_later hA z3, cell_later hA z4⟩)
      ((go_at_call 75; (with_reducible refine (ahead_any x y _).mono ?_); rintro e W2 ⟨rfl, hb⟩; replace hA := bl_tr hA hb; clear hb))
    all_goals
      have HA := Lib.hid hA
      clear hA
      cases ha : aheadT x y
      · have e := HD.out
        rw [if_neg (by rw [ha]; simp)] at e
        subst e
        go_wp2
        go_ret2
        exact ⟨rfl, HA.out⟩
      · have e := HD.out
        rw [if_pos ⟨hB, ha⟩] at e
        subst e
        go_wp2
        go_ret2
        exact ⟨rfl, HA.out⟩
  · have hge : (s.ts.length : Int) ≤ (r : Int) := by omega
    have hBB : decide (r < s.ts.length) = false := by simpa using hB
    rw [if_neg (by omega)] at hd
    clear h hlI hrI
    subst hd
    go_enter Tryd.func77, Tryd.ntmps77
    go_wp2
    go_quiet (fail)
    go_wp2
    go_ret2
    exact ⟨rfl, bl_drn _ _⟩
end Go.Proofs.YtldpajfendkhbaaDoor

/- Heap: sinking. -/
namespace Go.Proofs.YtldpajfendkhbaaDoor
open Go.RowKit Go.Maps

/-- What sinking holds on its way. -/
structure SinkR (w wr : World) (B p b g cap : Nat) (s : HS) (i : Nat) (t : Th) (s' : HS) (i' : Nat) : Prop where
  h : HeapAt wr B p b (.slice (some ⟨g, 0, none⟩) s'.ts.length cap) s'
  e : sinkS s' i' t = sinkS s i t
  lt : i' < s'.ts.length
  len : s'.ts.length = s.ts.length
  n : s'.n + i ≤ s.n + i'
  k : KeptS (HB p b (.slice (some ⟨g, 0, none⟩) s.ts.length cap)) w wr
  t0 : wr.cell? ⟨w.heap.size, 0, none⟩ = some (.int .i64 t.id)
  t1 : wr.cell? ⟨w.heap.size, 1, none⟩ = some (.int .u64 t.F)
  t2 : wr.cell? ⟨w.heap.size, 2, none⟩ = some (.int .u64 t.H)
  t3 : wr.cell? ⟨w.heap.size, 3, none⟩ = some (.int .i64 t.Y)
  t4 : wr.cell? ⟨w.heap.size, 4, none⟩ = some (.int .i64 t.X)

theorem sink_end {s : HS} {i : Nat} {t : Th} (h : s.ts.length ≤ 2 * i + 1) : sinkS s i t = putS s i t := by rw [sinkS, dif_pos h]
theorem sink_down {s : HS} {i : Nat} {t : Th} (h0 : 2 * i + 1 < s.ts.length) (h : aheadT (atT s.ts (downN s.ts i)) t = true) : sinkS s i t = sinkS (putS s i (atT s.ts (downN s.ts i))) (downN s.ts i) t := by
  rw [sinkS, dif_neg (by omega)]
  unfold downN at h ⊢
  rw [if_pos h]
theorem sink_stay {s : HS} {i : Nat} {t : Th} (h0 : 2 * i + 1 < s.ts.length) (h : aheadT (atT s.ts (downN s.ts i)) t = false) : sinkS s i t = putS s i t := by
  rw [sinkS, dif_neg (by omega)]
  unfold downN at h
  rw [if_neg (by rw [h]; decide)]

set_option maxRecDepth 100000 in
set_option maxHeartbeats 8000000 in
theorem sink_any (B p b g cap : Nat) (s : HS) (i : Nat) (t : Th) (w : World) (h : HeapAt w B p b (.slice (some ⟨g, 0, none⟩) s.ts.length cap) s) (hi : i < s.ts.length) (hl : s.ts.length ≤ 1048576) (hn : s.n ≤ 1048576) (ht : wfT t) :
    Calls Tryd.prog 68 #[.pointer (some ⟨p, 0, none⟩), .int .i64 (i : Int), .agg #[.int .i64 t.id, .int .u64 t.F, .int .u64 t.H, .int .i64 t.Y, .int .i64 t.X]] w fun e w' =>
      e = .returned (.tuple #[]) ∧ HeapAt w' B p b (.slice (some ⟨g, 0, none⟩) s.ts.length cap) (sinkS s i t) ∧ KeptS (HB p b (.slice (some ⟨g, 0, none⟩) s.ts.length cap)) w w' := by
  have h0 := h
  have hA := bl_al (bl0 w) (.cells #[.int .i64 t.id, .int .u64 t.F, .int .u64 t.H, .int .i64 t.Y, .int .i64 t.X] 126)
  have hR : SinkR w (w.alloc (.cells #[.int .i64 t.id, .int .u64 t.F, .int .u64 t.H, .int .i64 t.Y, .int .i64 t.X] 126)) B p b g cap s i t s i :=
    ⟨h.below hA, rfl, hi, rfl, Nat.le_refl _, .of_below hA, by simp [go_sem], by simp [go_sem], by simp [go_sem], by simp [go_sem], by simp [go_sem]⟩
  go_enter Tryd.func68, Tryd.ntmps68
  go_wp2
  go_step3
  go_wp2
  go_step3
  go_wp2
  go_loopw [1] (fun a wr => ∃ (i' : Nat) (s' : HS), a = .int .i64 i' ∧ SinkR w wr B p b g cap s i t s' i') (fun a _ => s.ts.length - (intOf a).toNat)
  case atStart => exact ⟨i, s, rfl, hR⟩
  case round =>
    obtain ⟨i', s', rfl, R⟩ := hrel
    clear h hA hR
    have hlt := R.lt
    have hlen := R.len
    have hRn := R.n
    have hl2 : s'.ts.length ≤ 1048576 := by omega
    have hn2 : s'.n ≤ 2097152 := by omega
    have t0 := R.t0; have t1 := R.t1; have t2 := R.t2; have t3 := R.t3; have t4 := R.t4
    have zt0 := blk_lt t0
    have HR := Lib.hid R
    have HL := Lib.hid hlen
    by_cases hA : s'.ts.length ≤ 2 * i' + 1
    · have hcall0 := below_no B p b g cap s' i' wr R.h hl2 hlt hA
      clear R hlen hRn
      go_wp2_with fail
      refine hcall0.mono ?_
      rintro e w2 ⟨rfl, hk2⟩
      replace t0 := cell_later hk2 t0
      replace t1 := cell_later hk2 t1
      replace t2 := cell_later hk2 t2
      replace t3 := cell_later hk2 t3
      replace t4 := cell_later hk2 t4
      have h2 := HR.out.h.below hk2
      have hk3 := HR.out.k.below hk2
      have HK3 := Lib.hid hk3
      clear hcall0 hk2 hk3
      go_wp2
      go_quiet (fail)
      generalize hw3 : World.drewN _ _ = w3
      have hk2 : Below w2.heap.size w2 w3 := by rw [← hw3]; exact bl_drn _ _
      replace t0 := cell_later hk2 t0
      replace t1 := cell_later hk2 t1
      replace t2 := cell_later hk2 t2
      replace t3 := cell_later hk2 t3
      replace t4 := cell_later hk2 t4
      replace h2 := h2.below hk2
      have hk3 := HK3.out.below hk2
      clear HK3 hw3 hk2
      have HK3 := Lib.hid hk3
      clear hk3
      have hcall := put_any B p b g cap s' i' t w3 h2 HR.out.lt hl2 hn2 ht
      have hst := sink_end (t := t) hA
      have HST := Lib.hid hst
      clear hst
      go_wp2_with fail
      refine hcall.mono ?_
      rintro e w4 ⟨rfl, hH, hk⟩
      rw [HL.out] at hH hk
      rw [← HST.out, HR.out.e] at hH
      have HH := Lib.hid hH
      have HK := Lib.hid hk
      clear hH hk t0 t1 t2 t3 t4 h2 hcall
      go_wp2
      rw [Exit.noGoto_normal]
      go_end0
      exact ⟨rfl, HH.out, HK3.out.trans HK.out (fun _ _ h => h)⟩
    · have hA' : 2 * i' + 1 < s'.ts.length := by omega
      have hcall0 := below_yes B p b g cap s' i' wr R.h hl2 hA'
      obtain ⟨hd1, hd2⟩ := downN_bd s'.ts i' hA'
      obtain ⟨d, hd⟩ : ∃ d, downN s'.ts i' = d := ⟨_, rfl⟩
      rw [hd] at hd1 hd2 hcall0
      have hd0 : (0 : Int) ≤ (d : Int) := by omega
      have hd3 : (d : Int) < (s'.ts.length : Int) := by omega
      have hdm : (d : Int) ≤ 1048576 := by omega
      obtain ⟨y0, y1, y2, y3, y4⟩ := R.h.at hd2
      have hwu := R.h.wf _ (atT_mem hd2)
      have c0 := R.h.c0
      have HD := Lib.hid hd
      generalize hx : atT s'.ts d = x at *
      have HX := Lib.hid hx
      clear R hlen hRn hd hx hA
      go_wp2_with fail
      refine hcall0.mono ?_
      rintro e w2 ⟨rfl, hk2⟩
      replace t0 := cell_later hk2 t0
      replace t1 := cell_later hk2 t1
      replace t2 := cell_later hk2 t2
      replace t3 := cell_later hk2 t3
      replace t4 := cell_later hk2 t4
      replace y0 := cell_later hk2 y0
      replace y1 := cell_later hk2 y1
      replace y2 := cell_later hk2 y2
      replace y3 := cell_later hk2 y3
      replace y4 := cell_later hk2 y4
      replace c0 := cell_later hk2 c0
      have h2 := HR.out.h.below hk2
      have hk3 := HR.out.k.below hk2
      have HK3 := Lib.hid hk3
      clear hcall0 hk2 hk3
      have hB := bl_dr (bl0 w2)
      go_upto_region 2 with fail
      go_region_held3 (fun w' => w'.cell? ⟨p, 0, none⟩ = some (.slice (some ⟨g, 0, none⟩) s'.ts.length cap) ∧ w'.cell? ⟨g, d * 5, none⟩ = some (.int .i64 x.id) ∧ w'.cell? ⟨g, d * 5 + 1, none⟩ = some (.int .u64 x.F) ∧ w'.cell? ⟨g, d * 5 + 2, none⟩ = some (.int .u64 x.H) ∧ w'.cell? ⟨g, d * 5 + 3, none⟩ = some (.int .i64 x.Y) ∧ w'.cell? ⟨g, d * 5 + 4, none⟩ = some (.int .i64 x.X) ∧ w'.cell? ⟨w.heap.size, 0, none⟩ = some (.int .i64 t.id) ∧ w'.cell? ⟨w.heap.size, 1, none⟩ = some (.int .u64 t.F) ∧ w'.cell? ⟨w.heap.size, 2, none⟩ = some (.int .u64 t.H) ∧ w'.cell? ⟨w.heap.size, 3, none⟩ = some (.int .i64 t.Y) ∧ w'.cell? ⟨w.heap.size, 4, none⟩ = some (.int .i64 t.X))
        (exact ⟨cell_later hB c0, cell_later hB y0, cell_later hB y1, cell_later hB y2, cell_later hB y3, cell_later hB y4, cell_later hB t0, cell_later hB t1, cell_later hB t2, cell_later hB t3, cell_later hB t4⟩)
        ((go_at_call 75; (with_reducible refine (ahead_any x t _).mono ?_); rintro e W2 ⟨rfl, hb⟩; replace hB := bl_tr hB hb; clear hb))
      all_goals
        replace t0 := cell_later hB t0
        replace t1 := cell_later hB t1
        replace t2 := cell_later hB t2
        replace t3 := cell_later hB t3
        replace t4 := cell_later hB t4
        replace y0 := cell_later hB y0
        replace y1 := cell_later hB y1
        replace y2 := cell_later hB y2
        replace y3 := cell_later hB y3
        replace y4 := cell_later hB y4
        replace c0 := cell_later hB c0
        replace h2 := h2.below hB
        have hk3 := HK3.out.below hB
        clear HK3 hB
        have HK3 := Lib.hid hk3
        clear hk3
        cases ha : aheadT x t
        · have hcall := put_any B p b g cap s' i' t _ h2 HR.out.lt hl2 hn2 ht
          have HST := Lib.hid (sink_stay hA' (t := t) (by rw [HD.out, HX.out]; exact ha))
          go_wp2_with fail
          refine hcall.mono ?_
          rintro e w4 ⟨rfl, hH, hk⟩
          rw [HL.out] at hH hk
          rw [← HST.out, HR.out.e] at hH
          have HH := Lib.hid hH
          have HK := Lib.hid hk
          clear hH hk t0 t1 t2 t3 t4 h2 hcall y0 y1 y2 y3 y4 c0
          go_wp2
          rw [Exit.noGoto_normal]
          go_end0
          exact ⟨rfl, HH.out, HK3.out.trans HK.out (fun _ _ h => h)⟩
        · have hcall := put_any B p b g cap s' i' x _ h2 HR.out.lt hl2 hn2 hwu
          have hdn := sink_down hA' (t := t) (by rw [HD.out, HX.out]; exact ha)
          rw [HD.out, HX.out] at hdn
          have HDN := Lib.hid hdn
          clear hdn
          go_wp2_with fail
          refine hcall.mono ?_
          rintro e w4 ⟨rfl, hH, hk⟩
          have hnb : ¬ HB p b (.slice (some ⟨g, 0, none⟩) s'.ts.length cap) w.heap.size := fun e => by have := (h0.lt _ (HL.out ▸ e)).2; omega
          replace t0 := hk.cell t0 hnb
          replace t1 := hk.cell t1 hnb
          replace t2 := hk.cell t2 hnb
          replace t3 := hk.cell t3 hnb
          replace t4 := hk.cell t4 hnb
          have hR3 : SinkR w w4 B p b g cap s i t (putS s' i' x) d := by
            refine ⟨by rw [putS_len]; exact hH, HDN.out ▸ HR.out.e, by rw [putS_len]; exact hd2, by rw [putS_len]; exact HL.out, ?_, HK3.out.trans hk (fun k _ e => by rw [HL.out] at e; exact e), t0, t1, t2, t3, t4⟩
            have := putS_n s' i' x
            have := HR.out.n
            omega
          have HR3 := Lib.hid hR3
          have hms : i' < s.ts.length ∧ d < s.ts.length := by rw [← HL.out]; exact ⟨hlt, hd2⟩
          clear hR3 hH hk t0 t1 t2 t3 t4 h2 hcall HR HK3 hnb y0 y1 y2 y3 y4 c0
          go_wp2
          go_roundw
          case rel => exact ⟨d, putS s' i' x, rfl, HR3.out⟩
          case measure => simp [intOf]; omega
end Go.Proofs.YtldpajfendkhbaaDoor

/- Things of one's own, each with its blocks, none with another one's. -/
namespace Go.Proofs.YtldpajfendkhbaaDoor
open Go.RowKit

/-- What holds of a world and of its blocks S, and hangs on these alone. -/
structure Own where
  P : World → (Nat → Prop) → Prop
  lt : ∀ {W : World} {S : Nat → Prop}, P W S → ∀ k, S k → k < W.heap.size
  keep : ∀ {W W' : World} {S : Nat → Prop}, P W S → Below 0 W W' → (∀ k, S k → W'.heap[k]? = W.heap[k]?) → P W' S

/-- All of a list hold, each of blocks of its own, from block B on. -/
def Sep (W : World) (B : Nat) (l : List Own) : Prop :=
  B ≤ W.heap.size ∧ ∃ Z : List (Own × (Nat → Prop)), Z.map Prod.fst = l ∧ (∀ z ∈ Z, z.1.P W z.2 ∧ ∀ k, z.2 k → B ≤ k) ∧ Z.Pairwise (fun x y => ∀ k, x.2 k → ¬ y.2 k)

theorem Sep.base {W : World} {B : Nat} {l : List Own} (h : Sep W B l) : B ≤ W.heap.size := h.1
theorem Sep.nil {W : World} {B : Nat} (h : B ≤ W.heap.size) : Sep W B [] := ⟨h, [], rfl, (fun _ h => by cases h), List.Pairwise.nil⟩
theorem Sep.below {W W' : World} {B : Nat} {l : List Own} (h : Sep W B l) (b : Below W.heap.size W W') : Sep W' B l := by
  obtain ⟨h0, Z, h1, h2, h3⟩ := h
  exact ⟨Nat.le_trans h0 b.size, Z, h1, fun z hz => ⟨z.1.keep (h2 z hz).1 (b.mono (Nat.zero_le _)) fun k hk => b.block k (z.1.lt (h2 z hz).1 k hk), (h2 z hz).2⟩, h3⟩
/-- One of them is turned: the others stay. -/
theorem Sep.turn {W : World} {B : Nat} {l1 l2 : List Own} {o : Own} (h : Sep W B (l1 ++ o :: l2)) :
    ∃ S, o.P W S ∧ (∀ k, S k → B ≤ k ∧ k < W.heap.size) ∧ ∀ (W' : World) (S' : Nat → Prop) (o' : Own), KeptS S W W' → o'.P W' S' → (∀ k, S' k → S k ∨ W.heap.size ≤ k) → Sep W' B (l1 ++ o' :: l2) ∧ Below B W W' := by
  obtain ⟨h0, Z, h1, h2, h3⟩ := h
  obtain ⟨Z1, Zr, rfl, e1, e2⟩ := List.map_eq_append_iff.1 h1
  obtain ⟨z, Z2, rfl, e3, e4⟩ := List.map_eq_cons_iff.1 e2
  obtain ⟨hz1, hz2⟩ := h2 z (by simp)
  rw [e3] at hz1
  refine ⟨z.2, hz1, fun k hk => ⟨hz2 k hk, o.lt hz1 k hk⟩, fun W' S' o' hk hP hS => ?_⟩
  rw [List.pairwise_append, List.pairwise_cons] at h3
  obtain ⟨p1, ⟨p2, p3⟩, p4⟩ := h3
  have hkeep : ∀ y ∈ Z1 ++ Z2, (∀ k, y.2 k → ¬ z.2 k) ∧ (∀ k, y.2 k → ¬ S' k) ∧ (∀ k, S' k → ¬ y.2 k) ∧ y.1.P W' y.2 ∧ ∀ k, y.2 k → B ≤ k := by
    intro y hy
    have hy' : y ∈ Z1 ++ z :: Z2 := by
      rcases List.mem_append.1 hy with h | h
      · exact List.mem_append_left _ h
      · exact List.mem_append_right _ (List.mem_cons_of_mem _ h)
    obtain ⟨q1, q2⟩ := h2 y hy'
    have hyz : ∀ k, y.2 k → ¬ z.2 k := by
      rcases List.mem_append.1 hy with h | h
      · exact p4 y h z (by simp)
      · exact fun k hk hz => p2 y h k hz hk
    have hys : ∀ k, y.2 k → ¬ S' k := fun k hk hs => by
      rcases hS k hs with h | h
      · exact hyz k hk h
      · have := y.1.lt q1 k hk; omega
    exact ⟨hyz, hys, fun k hs hk => hys k hk hs, y.1.keep q1 hk.1 fun k hk' => hk.2 k (y.1.lt q1 k hk') (hyz k hk'), q2⟩
  refine ⟨⟨Nat.le_trans h0 hk.1.size, Z1 ++ (o', S') :: Z2, by simp [e1, e4], ?_, ?_⟩, hk.to_below (fun k hkB hz => by have := hz2 k hz; omega) h0⟩
  · intro y hy
    rcases List.mem_append.1 hy with h | h
    · exact (hkeep y (List.mem_append_left _ h)).2.2.2
    · rcases List.mem_cons.1 h with rfl | h
      · refine ⟨hP, fun k hk' => ?_⟩
        rcases hS k hk' with h | h
        · exact hz2 k h
        · omega
      · exact (hkeep y (List.mem_append_right _ h)).2.2.2
  · rw [List.pairwise_append, List.pairwise_cons]
    refine ⟨p1, ⟨fun y hy => (hkeep y (List.mem_append_right _ hy)).2.2.1, p3⟩, fun x hx y hy => ?_⟩
    rcases List.mem_cons.1 hy with rfl | hy
    · exact (hkeep x (List.mem_append_left _ hx)).2.1
    · exact p4 x hx y (by simp [hy])
/-- A new one. -/
theorem Sep.new {W W' : World} {B : Nat} {l : List Own} (h : Sep W B l) (b : Below W.heap.size W W') {o : Own} {S : Nat → Prop} (hP : o.P W' S) (hS : ∀ k, S k → W.heap.size ≤ k) : Sep W' B (l ++ [o]) := by
  have hlt : ∀ (z : Own × (Nat → Prop)), z.1.P W z.2 → ∀ k, z.2 k → ¬ S k := fun z hz k hk hs => by
    have := z.1.lt hz k hk
    have := hS k hs
    omega
  have h' := h
  obtain ⟨h0, Z, h1, h2, h3⟩ := h
  refine ⟨Nat.le_trans h0 b.size, Z ++ [(o, S)], by simp [h1], ?_, ?_⟩
  · intro y hy
    rcases List.mem_append.1 hy with hy | hy
    · exact ⟨y.1.keep (h2 y hy).1 (b.mono (Nat.zero_le _)) fun k hk => b.block k (y.1.lt (h2 y hy).1 k hk), (h2 y hy).2⟩
    · rcases List.mem_singleton.1 hy with rfl
      exact ⟨hP, fun k hk => Nat.le_trans h0 (hS k hk)⟩
  · rw [List.pairwise_append]
    refine ⟨h3, by simp, fun x hx y hy => ?_⟩
    rcases List.mem_singleton.1 hy with rfl
    exact hlt x (h2 x hx).1
/-- One is read. -/
theorem Sep.at {W : World} {B : Nat} {l1 l2 : List Own} {o : Own} (h : Sep W B (l1 ++ o :: l2)) : ∃ S, o.P W S ∧ ∀ k, S k → B ≤ k ∧ k < W.heap.size := by
  obtain ⟨S, h1, h2, _⟩ := h.turn
  exact ⟨S, h1, h2⟩
/-- One is left out. -/
theorem Sep.drop {W : World} {B : Nat} {l1 l2 : List Own} {o : Own} (h : Sep W B (l1 ++ o :: l2)) : Sep W B (l1 ++ l2) := by
  obtain ⟨h0, Z, h1, h2, h3⟩ := h
  obtain ⟨Z1, Zr, rfl, e1, e2⟩ := List.map_eq_append_iff.1 h1
  obtain ⟨z, Z2, rfl, e3, e4⟩ := List.map_eq_cons_iff.1 e2
  refine ⟨h0, Z1 ++ Z2, by simp [e1, e4], fun y hy => h2 y ?_, h3.sublist ?_⟩
  · rcases List.mem_append.1 hy with h | h
    · exact List.mem_append_left _ h
    · exact List.mem_append_right _ (List.mem_cons_of_mem _ h)
  · exact List.Sublist.append (List.Sublist.refl _) (List.sublist_cons_self _ _)

/-- A row of one's own. -/
def RowO (e : TypeId) (size : Nat) (v : Value) (n : Nat) (xs : List Value) : Own where
  P W S := W.ownsRow 0 e size v n xs ∧ ∀ k, S k ↔ v.ownBlock = some k
  lt h k hk := (h.1.lt k ((h.2 k).1 hk)).2
  keep {W W' S} h b hk := by
    refine ⟨⟨h.1.1, ?_⟩, h.2⟩
    rcases h.1.2 with q | ⟨g, cap, cur, h1, h2, h3, h4⟩
    · exact .inl q
    · exact .inr ⟨g, cap, cur, h1, h2, (hk g ((h.2 g).2 (by rw [h1]; rfl))).trans h3, h4⟩
end Go.Proofs.YtldpajfendkhbaaDoor

/- Heap: a heap of things, New, Len, Key, Push. -/
namespace Go.Proofs.YtldpajfendkhbaaDoor
open Go.RowKit Go.Maps

/-- S's blocks, and new ones, hold another thing. -/
def Turned (S : Nat → Prop) (w w' : World) (o : Own) : Prop := KeptS S w w' ∧ ∃ S', o.P w' S' ∧ ∀ k, S' k → S k ∨ w.heap.size ≤ k
theorem Turned.below {S : Nat → Prop} {w w' w2 : World} {o : Own} (h : Turned S w w' o) (b : Below w'.heap.size w' w2) : Turned S w w2 o := by
  obtain ⟨h1, S', h2, h3⟩ := h
  exact ⟨h1.below b, S', o.keep h2 (b.mono (Nat.zero_le _)) (fun k hk => b.block k (o.lt h2 k hk)), h3⟩
/-- A call turns one of several. -/
theorem Sep.op {w : World} {B : Nat} {l1 l2 : List Own} {o : Own} (h : Sep w B (l1 ++ o :: l2)) {P : Program} {f : Nat} {args : Array Value} {Q : Ending → Prop} {o' : Own}
    (hc : ∀ S, o.P w S → Calls P f args w fun e w' => Q e ∧ Turned S w w' o') : Calls P f args w fun e w' => Q e ∧ Sep w' B (l1 ++ o' :: l2) ∧ Below B w w' := by
  obtain ⟨S, h1, _, h3⟩ := h.turn
  refine (hc S h1).mono fun e w' ⟨hq, hk, S', hp, hs⟩ => ⟨hq, h3 w' S' o' hk hp hs⟩
/-- A call makes one more. -/
theorem Sep.made {w : World} {B : Nat} {l : List Own} (h : Sep w B l) {w' : World} {o : Own} (ht : Turned (fun _ => False) w w' o) : Sep w' B (l ++ [o]) ∧ Below w.heap.size w w' := by
  obtain ⟨hk, S', hp, hs⟩ := ht
  have hb : Below w.heap.size w w' := hk.to_below (fun _ _ h => h) (Nat.le_refl _)
  exact ⟨h.new hb hp (fun k hk => (hs k hk).resolve_left (fun h => h)), hb⟩

theorem HeapAt.low {W : World} {B p b : Nat} {v : Value} {s : HS} (h : HeapAt W B p b v s) : HeapAt W 0 p b v s :=
  ⟨h.hp, hown_base h.row (Nat.zero_le _), h.pl, h.wf, Nat.zero_le _, Nat.zero_le _⟩
theorem HeapAt.keep {W W' : World} {B p b : Nat} {v : Value} {s : HS} (h : HeapAt W B p b v s) (hk : ∀ k, HB p b v k → W'.heap[k]? = W.heap[k]?) : HeapAt W' B p b v s := by
  refine ⟨(hk p (.inl rfl)).trans h.hp, ⟨h.row.1, ?_⟩, ?_, h.wf, h.bp, h.bb⟩
  · rcases h.row.2 with q | ⟨g, cap, cur, h1, h2, h3, h4⟩
    · exact .inl q
    · exact .inr ⟨g, cap, cur, h1, h2, (hk g (.inr (.inr (by rw [h1]; rfl)))).trans h3, h4⟩
  · obtain ⟨D, ⟨es, clock, h1, h2⟩, h3⟩ := h.pl
    exact ⟨D, ⟨es, clock, (hk b (.inr (.inl rfl))).trans h1, h2⟩, h3⟩
/-- A heap of things, behind a pointer p. -/
def HeapO (p : Nat) (m : List Th) : Own where
  P W S := ∃ b v s, HeapAt W 0 p b v s ∧ HI s m ∧ ∀ k, S k ↔ HB p b v k
  lt h k hk := by
    obtain ⟨b, v, s, h1, _, h2⟩ := h
    exact (h1.lt k ((h2 k).1 hk)).2
  keep h _ hk := by
    obtain ⟨b, v, s, h1, h2, h3⟩ := h
    exact ⟨b, v, s, h1.keep (fun k q => hk k ((h3 k).2 q)), h2, h3⟩

/-- All numbers of things are numbers that a machine holds. -/
theorem heap_wf {W : World} {S : Nat → Prop} {p : Nat} {m : List Th} (h : (HeapO p m).P W S) : ∀ t ∈ m, wfT t := by
  obtain ⟨b, v, s, h1, h2, _⟩ := h
  exact fun t ht => h1.wf t (h2.pm.mem_iff.2 ht)

theorem heap_new (W : World) : Turned (fun _ => False) W ((W.alloc (.map #[] 0)).alloc (.cells #[.slice none 0 0, .map (some W.heap.size)] 98)) (HeapO (W.heap.size + 1) []) := by
  have hb := bl_al (bl_al (bl0 W) (.map #[] 0)) (.cells #[.slice none 0 0, .map (some W.heap.size)] 98)
  have hb2 := bl_al (bl0 (W.alloc (.map #[] 0))) (.cells #[.slice none 0 0, .map (some W.heap.size)] 98)
  refine ⟨.of_below hb, HB (W.heap.size + 1) W.heap.size (.slice none 0 0), ⟨W.heap.size, .slice none 0 0, ⟨[], fun _ => none, 0⟩, ⟨?_, World.ownsRow_nil _ _ _ _, (places_new W).below hb2, (fun t h => by cases h), Nat.zero_le _, Nat.zero_le _⟩, HI.nil, fun _ => Iff.rfl⟩, ?_⟩
  · have h := heap_alloc_new (W.alloc (.map #[] 0)) (.cells #[.slice none 0 0, .map (some W.heap.size)] 98)
    rw [World.size_alloc] at h
    exact h
  · rintro k (rfl | rfl | e)
    · exact .inr (by omega)
    · exact .inr (Nat.le_refl _)
    · cases e

set_option maxRecDepth 100000 in
set_option maxHeartbeats 1600000 in
theorem hnew_any (w : World) :
    Calls Tryd.prog 35 #[] w fun e w' => e = .returned (.pointer (some ⟨w.heap.size + 1, 0, none⟩)) ∧ Turned (fun _ => False) w w' (HeapO (w.heap.size + 1) []) := by
  have HN := Lib.hid (heap_new w)
  have hmm := @run_makeMap Tryd.prog
  go_enter Tryd.func35, Tryd.ntmps35
  go_wp2
  go_ret
  exact ⟨rfl, HN.out⟩

set_option maxRecDepth 100000 in
set_option maxHeartbeats 1600000 in
theorem hlen_any (p : Nat) (m : List Th) (S : Nat → Prop) (w : World) (h : (HeapO p m).P w S) :
    Calls Tryd.prog 37 #[.pointer (some ⟨p, 0, none⟩)] w fun e w' => e = .returned (.int .i64 (m.length : Nat)) ∧ w' = w := by
  obtain ⟨b, v, s, h1, h2, _⟩ := h
  obtain ⟨a, cap, rfl⟩ := h1.any
  have c0 := h1.c0
  have hl := h2.len
  rw [hl] at c0
  clear h1 h2 hl
  go_enter Tryd.func37, Tryd.ntmps37
  go_wp2
  go_ret
  exact ⟨rfl, rfl⟩
set_option maxRecDepth 100000 in
set_option maxHeartbeats 1600000 in
theorem hlen_nil (w : World) :
    Calls Tryd.prog 37 #[.pointer none] w fun e w' => e = .returned (.int .i64 0) ∧ w' = w := by
  go_enter Tryd.func37, Tryd.ntmps37
  go_wp2
  go_ret
  exact ⟨rfl, rfl⟩
end Go.Proofs.YtldpajfendkhbaaDoor

/- Heap: Key. -/
namespace Go.Proofs.YtldpajfendkhbaaDoor
open Go.RowKit Go.Maps

/-- A key as a value. -/
def keyV (t : Th) : Value := .agg #[.int .u64 t.F, .int .u64 t.H, .int .i64 t.Y, .int .i64 t.X]
def keyA (m : List Th) (x : Int) : Th := (findT m x).getD default

set_option maxRecDepth 100000 in
set_option maxHeartbeats 1600000 in
theorem hkey_any (p : Nat) (m : List Th) (x : Int) (S : Nat → Prop) (w : World) (h : (HeapO p m).P w S) (hx : (Lit.int .i64 x).wf = true) :
    Calls Tryd.prog 51 #[.pointer (some ⟨p, 0, none⟩), .int .i64 x] w fun e w' => e = .returned (.tuple #[.agg #[.int .u64 (keyA m x).F, .int .u64 (keyA m x).H, .int .i64 (keyA m x).Y, .int .i64 (keyA m x).X], .bool (findT m x).isSome]) ∧ Below w.heap.size w w' := by
  obtain ⟨b, v, s, h1, h2, _⟩ := h
  have hf := h2.find x
  have hA := bl_al (bl0 w) (.cells #[.int .u64 0, .int .u64 0, .int .i64 0, .int .i64 0] 100)
  have h1' := h1.below hA
  have hlook := h1'.pl.look hx
  have c1 := h1.c1
  have zc1 := blk_lt c1
  unfold keyA
  cases e : s.f x with
  | none =>
    rw [e] at hf hlook
    rw [← hf]
    clear h1 h2 hf h1' hA
    go_enter Tryd.func51, Tryd.ntmps51
    go_wp2
    exact bodyPost_ret (v := .tuple #[.agg #[.int .u64 0, .int .u64 0, .int .i64 0, .int .i64 0], .bool false]) (by simp [results, Tryd.results51, go_sem]) rfl ⟨rfl, bl_al (bl0 _) _⟩
  | some q =>
    rw [e] at hf hlook
    rw [← hf]
    obtain ⟨hq1, hq2⟩ := h2.pf.some e
    obtain ⟨g, cap, rfl⟩ := h1.slice (by omega)
    obtain ⟨y0, y1, y2, y3, y4⟩ := h1.at hq1
    have c0 := h1.c0
    have zc0 := blk_lt c0
    have zy0 := blk_lt y0
    have hl := h2.len
    have hq0 : (0 : Int) ≤ (q : Int) := by omega
    have hqi : (q : Int) < (s.ts.length : Int) := by omega
    simp only [Option.map_some, Option.getD_some, Option.isSome_some]
    generalize atT s.ts q = t at *
    clear h1 h2 hf h1' hA hl
    go_enter Tryd.func51, Tryd.ntmps51
    go_wp2
    exact bodyPost_ret (v := .tuple #[.agg #[.int .u64 t.F, .int .u64 t.H, .int .i64 t.Y, .int .i64 t.X], .bool true]) (by simp [results, Tryd.results51, go_sem]) rfl ⟨rfl, bl_al (bl0 _) _⟩
set_option maxRecDepth 100000 in
set_option maxHeartbeats 1600000 in
theorem hkey_nil (x : Int) (w : World) :
    Calls Tryd.prog 51 #[.pointer none, .int .i64 x] w fun e w' => e = .returned (.tuple #[.agg #[.int .u64 0, .int .u64 0, .int .i64 0, .int .i64 0], .bool false]) ∧ Below w.heap.size w w' := by
  go_enter Tryd.func51, Tryd.ntmps51
  go_wp2
  exact bodyPost_ret (v := .tuple #[.agg #[.int .u64 0, .int .u64 0, .int .i64 0, .int .i64 0], .bool false]) (by simp [results, Tryd.results51, go_sem]) rfl ⟨rfl, bl_al (bl0 _) _⟩
end Go.Proofs.YtldpajfendkhbaaDoor

/- Heap: Push. -/
namespace Go.Proofs.YtldpajfendkhbaaDoor
open Go.RowKit Go.Maps

/-- As text Oz's, with where the new row lies. -/
theorem ordZ_append_at {F : Fence} {n : Nat} {P : Program} {ops : Array Oper} {Q : Exit → Act → World → Prop} {md : Region.Mode} {S : World → Prop} {z : Nat} {i : Nat} {o : Oper} {j : Nat} {l : Array Bool} {a : Act} (w : World)
    (hr : Region.ready md ops l = [i]) (ho : ops[i]? = some o) (hw : Region.wanted o (yielded ops a.tmps) = true) (s x : Operand) (t : TypeId) (hop : o.op = Op.call { callee := Callee.builtin Builtin.append, args := #[s, x], argTypes := #[t, t] })
    (base : Nat) (e : TypeId) (ti : TypeInfo) (zv : Value) (size bytes : Nat) (h1 : P.underlying t = some (.slice e)) (h2 : P.info? e = some ti) (h3 : ti.zero = some zv) (h4 : ti.size = size) (h5 : ti.bytes = bytes) (h6 : zv.cells.size = size) (h7 : 0 < size)
    (v : Value) (k : Nat) (xs : List Value) (hs : a.eval s = v) (hown : w.ownsRow base e size v k xs) (ad : Addr) (m c : Nat) (news : List Value) (hx : a.eval x = .slice (some ad) m c) (hn : news.length = m * size)
    (hc : ∀ j u, news[j]? = some u → w.cell? (ad.add j) = some u) (h1c : ∀ u ∈ news, u.oneCell' = true) (b1 : k + m ≤ maxLen) (b2 : (k + m) * bytes ≤ 140737488355328) (b3 : base ≤ w.heap.size)
    (hK : ∀ v' w', w'.ownsRow base e size v' (k + m) (xs ++ news) → w.grownBy w' v.ownBlock → (v'.ownBlock = v.ownBlock ∨ v'.ownBlock = some w.heap.size) → ((l.setIfInBounds i true).getD z true = false → S w') ∧ OrdZ F n P md ops Q S z j (l.setIfInBounds i true) (a.put o.dst v') w') :
    OrdZ F n P md ops Q S z (j + 1) l a w := by
  refine ordZ_one hr ho hw fun K hK' => ?_
  obtain ⟨v', w', hrun, r1, r2, _, r4⟩ := run_append_own_at (P := P) (w := w) base t o.type e ti zv size bytes h1 h2 h3 h4 h5 h6 h7 v k xs hown ad m c news hn hc h1c b1 b2 b3
  unfold Oper.wpIn
  refine ⟨?_, ?_⟩
  · simp [Oper.about, hop, resolve, Target.leads, Sem.run_pure]
  · rw [Oper.semAt_plain F _ _ (by rw [hop]; intro c hc'; cases hc')]
    simp [execOp, hop, resolve, invoke, builtin, hs, hx, hrun, Result.andThen]
    exact hK' _ _ (hK v' w' r1 r2 r4).1 (hK v' w' r1 r2 r4).2

theorem Tryd.infoT : (Tryd.prog.info? 126).map (fun i => (i.zero, i.size, i.bytes)) = some (some (.agg #[.int .i64 0, .int .u64 0, .int .u64 0, .int .i64 0, .int .i64 0]), 5, 40) := by kernel_rfl
/-- A row's header is stored anew. -/
theorem heap_grew {W W1 : World} {p b : Nat} {v v' : Value} {s : HS} {t : Th} (h : HeapAt W 0 p b v s) (ht : wfT t) (h1 : W1.ownsRow 0 126 5 v' (s.ts.length + 1) (flatT s.ts ++ [.int .i64 t.id, .int .u64 t.F, .int .u64 t.H, .int .i64 t.Y, .int .i64 t.X]))
    (hg : W.grownBy W1 v.ownBlock) (hl : v'.ownBlock = v.ownBlock ∨ v'.ownBlock = some W.heap.size) :
    HeapAt (W1.setCell ⟨p, 0, none⟩ v') 0 p b v' ⟨s.ts ++ [t], s.f, s.n⟩ ∧ KeptS (HB p b v) W (W1.setCell ⟨p, 0, none⟩ v') ∧ W1.frozen? ⟨p, 0, none⟩ = false ∧ W1.cell? ⟨p, 0, none⟩ = some v := by
  have hpW := (h.lt p (.inl rfl)).2
  have hpv : v.ownBlock ≠ some p := h.gp
  have hpv' : v'.ownBlock ≠ some p := by
    rcases hl with e | e
    · rw [e]; exact hpv
    · rw [e]; intro e2; cases e2; omega
  have k1 : KeptS (HB p b v) W W1 := .of_grown hg (fun k e _ => .inr (.inr e))
  have hp1 : W1.heap[p]? = some (.cells #[v, .map (some b)] 98 (0, 0)) := (hg.block p hpW (fun e => hpv e.symm)).trans h.hp
  have hsame := hset_same W1 p 0 #[v, .map (some b)] 98 v' hp1
  have q := hgrown_set W1 p 0 v'
  have k2 : KeptS (HB p b v) W1 (W1.setCell ⟨p, 0, none⟩ v') := .of_grown q (fun k e _ => by cases e; exact .inl rfl)
  have hbp : b ≠ p := h.pb.symm
  refine ⟨⟨by simpa using hsame, ?_, ?_, ?_, Nat.zero_le _, Nat.zero_le _⟩, k1.trans k2 (fun _ _ h => h), by simp [World.frozen?, hp1], by simp [World.cell?, hp1]⟩
  · rw [List.length_append, List.length_singleton, flatT_snoc]
    refine ⟨h1.1, ?_⟩
    rcases h1.2 with e | ⟨g, cap, cur, e, hB, h3, h4⟩
    · exact .inl e
    · refine .inr ⟨g, cap, cur, e, hB, ?_, h4⟩
      have hgp : g ≠ p := fun e2 => hpv' (by rw [e, ← e2]; rfl)
      exact (Below.heap_setCell _ _ _ g (show g ≠ p from hgp)).trans h3
  · obtain ⟨D, ⟨es, clock, h3, h4⟩, h5⟩ := h.pl
    refine ⟨D, ⟨es, clock, ?_, h4⟩, h5⟩
    refine (Below.heap_setCell _ _ _ b (show b ≠ p from hbp)).trans ((hg.block b h.pl.lt (fun e => h.gb e.symm)).trans h3)
  · intro x hx
    rcases List.mem_append.1 hx with hx | hx
    · exact h.wf x hx
    · rw [List.mem_singleton.1 hx]; exact ht

/-- What Push answers, and what is in then. -/
def pushE (m : List Th) (x : Int) : Int := if (findT m x).isSome then 15 else 0
def pushM (m : List Th) (t : Th) : List Th := if (findT m t.id).isSome then m else m ++ [t]

theorem heap_there {p : Nat} {m : List Th} {S : Nat → Prop} {w w' : World} (h : (HeapO p m).P w S) (hb : Below w.heap.size w w') : Turned S w w' (HeapO p m) :=
  ⟨.of_below hb, S, (HeapO p m).keep h (hb.mono (Nat.zero_le _)) (fun k hk => hb.block k ((HeapO p m).lt h k hk)), fun _ h => .inl h⟩

set_option maxRecDepth 100000 in
set_option maxHeartbeats 4000000 in
theorem hpush_any (p : Nat) (m : List Th) (t : Th) (S : Nat → Prop) (w : World) (h : (HeapO p m).P w S) (ht : wfT t) (hm : m.length ≤ 1000000) :
    Calls Tryd.prog 52 #[.pointer (some ⟨p, 0, none⟩), .int .i64 t.id, .agg #[.int .u64 t.F, .int .u64 t.H, .int .i64 t.Y, .int .i64 t.X]] w fun e w' => e = .returned (.int .i64 (pushE m t.id)) ∧ Turned S w w' (HeapO p (pushM m t)) := by
  have h' := h
  obtain ⟨b, v, s, h1, h2, h3⟩ := h
  have hids := h2.ids t.id
  have hA := bl_al (bl0 w) (.cells #[.int .u64 t.F, .int .u64 t.H, .int .i64 t.Y, .int .i64 t.X] 100)
  have h1' := h1.below hA
  have hlook := h1'.pl.look ht
  have c1 := h1.c1
  have zc1 := blk_lt c1
  unfold pushE pushM
  cases e : s.f t.id with
  | some q =>
    rw [e] at hids hlook
    rw [← hids]
    simp only [Option.isSome_some, if_true]
    have HT := Lib.hid (heap_there h' hA)
    clear h1 h2 h' h1' hids hA h3
    go_enter Tryd.func52, Tryd.ntmps52
    go_wp2
    go_ret
    exact ⟨rfl, HT.out⟩
  | none =>
    rw [e] at hids hlook
    rw [← hids]
    simp only [Option.isSome_none, Bool.false_eq_true, if_false]
    have hnone := e
    have HH2 := Lib.hid h2
    have hsl := h2.len
    have hsn := h2.pf.n
    have c0 := h1.c0
    have hsb : s.ts.length ≤ 1000000 := by omega
    have hsnb : s.n ≤ 1000000 := by omega
    clear hids h' h2 hsl hsn
    go_enter Tryd.func52, Tryd.ntmps52
    go_upto_region 7 with fail
    obtain ⟨W, hW⟩ : ∃ W, (w.alloc (.cells #[.int .u64 t.F, .int .u64 t.H, .int .i64 t.Y, .int .i64 t.X] 100)).alloc (.cells #[.int .i64 t.id, .int .u64 t.F, .int .u64 t.H, .int .i64 t.Y, .int .i64 t.X] 126) = W := ⟨_, rfl⟩
    have hAW := bl_al hA (.cells #[.int .i64 t.id, .int .u64 t.F, .int .u64 t.H, .int .i64 t.Y, .int .i64 t.X] 126)
    rw [hW] at hAW ⊢
    have x0 : W.cell? ⟨w.heap.size + 1, 0, none⟩ = some (.int .i64 t.id) := by rw [← hW]; simp [go_sem]
    have x1 : W.cell? ⟨w.heap.size + 1, 1, none⟩ = some (.int .u64 t.F) := by rw [← hW]; simp [go_sem]
    have x2 : W.cell? ⟨w.heap.size + 1, 2, none⟩ = some (.int .u64 t.H) := by rw [← hW]; simp [go_sem]
    have x3 : W.cell? ⟨w.heap.size + 1, 3, none⟩ = some (.int .i64 t.Y) := by rw [← hW]; simp [go_sem]
    have x4 : W.cell? ⟨w.heap.size + 1, 4, none⟩ = some (.int .i64 t.X) := by rw [← hW]; simp [go_sem]
    have hWz := Lib.hid (show w.heap.size + 2 = W.heap.size by rw [← hW]; simp)
    clear hlook hW h1' hA c1 zc1 e
    replace c0 := cell_later hAW c0
    have hHW := h1.below hAW
    have zc0 := blk_lt c0
    have hD := bl_dr (bl0 W)
    obtain ⟨i0, hi, hz0, hz1, hz2⟩ := info_parts Tryd.infoT
    refine (wpIn_wide (n := 11)).1 ?_
    refine ordZ_begin (z := 10) (S := (fun w' : World => w'.cell? ⟨p, 0, none⟩ = some v ∧ w'.cell? ⟨w.heap.size + 1, 0, none⟩ = some (.int .i64 t.id) ∧ w'.cell? ⟨w.heap.size + 1, 1, none⟩ = some (.int .u64 t.F) ∧ w'.cell? ⟨w.heap.size + 1, 2, none⟩ = some (.int .u64 t.H) ∧ w'.cell? ⟨w.heap.size + 1, 3, none⟩ = some (.int .i64 t.Y) ∧ w'.cell? ⟨w.heap.size + 1, 4, none⟩ = some (.int .i64 t.X))) (by kernel_rfl) ⟨cell_later hD c0, cell_later hD x0, cell_later hD x1, cell_later hD x2, cell_later hD x3, cell_later hD x4⟩ (fun hH => ?_)
    first
      | (refine' ordZ_take (i := 0) (oi := { dst := some 25, op := Op.move (Operand.tmp 0), type := 76, pos := _, after := #[], guard := none }) (v := _) rfl (by kernel_rfl) (by kernel_rfl) (by kernel_rfl) (by kernel_rfl) (fun _ _ _ h => h) (by assumption) (by kernel_rfl) (by decide) (by rfl) (Or.inl ⟨by rfl, ?hy15⟩) (fun _ => rfl) ?rest15
         case hy15 => (intro w hSw; (try dsimp only at hSw); go_simp; try with_reducible rfl))
      | (refine ordZ_take (i := 0) (oi := { dst := some 25, op := Op.move (Operand.tmp 0), type := 76, pos := _, after := #[], guard := none }) (v := undef) rfl (by kernel_rfl) (by kernel_rfl) (by kernel_rfl) (by kernel_rfl) (fun _ _ _ h => h) (by assumption) (by kernel_rfl) (by decide) (by rfl) (Or.inr ⟨by rfl, rfl⟩) (fun _ => rfl) ?_)
    try simp only [Act.put, List.setIfInBounds_toArray, List.set_cons_zero, List.set_cons_succ]
    first
      | (refine' ordZ_take (i := 1) (oi := { dst := some 26, op := Op.move (Operand.tmp 0), type := 76, pos := _, after := #[], guard := none }) (v := _) rfl (by kernel_rfl) (by kernel_rfl) (by kernel_rfl) (by kernel_rfl) (fun _ _ _ h => h) (by assumption) (by kernel_rfl) (by decide) (by rfl) (Or.inl ⟨by rfl, ?hy16⟩) (fun _ => rfl) ?rest16
         case hy16 => (intro w hSw; (try dsimp only at hSw); go_simp; try with_reducible rfl))
      | (refine ordZ_take (i := 1) (oi := { dst := some 26, op := Op.move (Operand.tmp 0), type := 76, pos := _, after := #[], guard := none }) (v := undef) rfl (by kernel_rfl) (by kernel_rfl) (by kernel_rfl) (by kernel_rfl) (fun _ _ _ h => h) (by assumption) (by kernel_rfl) (by decide) (by rfl) (Or.inr ⟨by rfl, rfl⟩) (fun _ => rfl) ?_)
    try simp only [Act.put, List.setIfInBounds_toArray, List.set_cons_zero, List.set_cons_succ]
    first
      | (refine' ordZ_take (i := 2) (oi := { dst := some 27, op := Op.nilCheck (Operand.tmp 26), type := 0, pos := _, after := #[{ on := 1, ground := Ground.data }], guard := none }) (v := _) rfl (by kernel_rfl) (by kernel_rfl) (by kernel_rfl) (by kernel_rfl) (fun _ _ _ h => h) (by assumption) (by kernel_rfl) (by decide) (by rfl) (Or.inl ⟨by rfl, ?hy17⟩) (fun _ => rfl) ?rest17
         case hy17 => (intro w hSw; (try dsimp only at hSw); go_simp; try with_reducible rfl))
      | (refine ordZ_take (i := 2) (oi := { dst := some 27, op := Op.nilCheck (Operand.tmp 26), type := 0, pos := _, after := #[{ on := 1, ground := Ground.data }], guard := none }) (v := undef) rfl (by kernel_rfl) (by kernel_rfl) (by kernel_rfl) (by kernel_rfl) (fun _ _ _ h => h) (by assumption) (by kernel_rfl) (by decide) (by rfl) (Or.inr ⟨by rfl, rfl⟩) (fun _ => rfl) ?_)
    try simp only [Act.put, List.setIfInBounds_toArray, List.set_cons_zero, List.set_cons_succ]
    first
      | (refine' ordZ_take (i := 3) (oi := { dst := some 28, op := Op.fieldAddr 98 (Operand.tmp 27) 0, type := 0, pos := _, after := #[{ on := 2, ground := Ground.data }], guard := none }) (v := _) rfl (by kernel_rfl) (by kernel_rfl) (by kernel_rfl) (by kernel_rfl) (fun _ _ _ h => h) (by assumption) (by kernel_rfl) (by decide) (by rfl) (Or.inl ⟨by rfl, ?hy18⟩) (fun _ => rfl) ?rest18
         case hy18 => (intro w hSw; (try dsimp only at hSw); go_simp; try with_reducible rfl))
      | (refine ordZ_take (i := 3) (oi := { dst := some 28, op := Op.fieldAddr 98 (Operand.tmp 27) 0, type := 0, pos := _, after := #[{ on := 2, ground := Ground.data }], guard := none }) (v := undef) rfl (by kernel_rfl) (by kernel_rfl) (by kernel_rfl) (by kernel_rfl) (fun _ _ _ h => h) (by assumption) (by kernel_rfl) (by decide) (by rfl) (Or.inr ⟨by rfl, rfl⟩) (fun _ => rfl) ?_)
    try simp only [Act.put, List.setIfInBounds_toArray, List.set_cons_zero, List.set_cons_succ]
    first
      | (refine' ordZ_take (i := 4) (oi := { dst := some 29, op := Op.load 96 (Operand.tmp 28), type := 96, pos := _, after := #[{ on := 3, ground := Ground.data }], guard := none }) (v := _) rfl (by kernel_rfl) (by kernel_rfl) (by kernel_rfl) (by kernel_rfl) (fun _ _ _ h => h) (by assumption) (by kernel_rfl) (by decide) (by rfl) (Or.inl ⟨by rfl, ?hy19⟩) (fun _ => rfl) ?rest19
         case hy19 => (intro w hSw; (try dsimp only at hSw); go_simp; try with_reducible rfl))
      | (refine ordZ_take (i := 4) (oi := { dst := some 29, op := Op.load 96 (Operand.tmp 28), type := 96, pos := _, after := #[{ on := 3, ground := Ground.data }], guard := none }) (v := undef) rfl (by kernel_rfl) (by kernel_rfl) (by kernel_rfl) (by kernel_rfl) (fun _ _ _ h => h) (by assumption) (by kernel_rfl) (by decide) (by rfl) (Or.inr ⟨by rfl, rfl⟩) (fun _ => rfl) ?_)
    try simp only [Act.put, List.setIfInBounds_toArray, List.set_cons_zero, List.set_cons_succ]
    first
      | (refine' ordZ_take (i := 5) (oi := { dst := some 30, op := Op.load 126 (Operand.tmp 9), type := 126, pos := _, after := #[], guard := none }) (v := _) rfl (by kernel_rfl) (by kernel_rfl) (by kernel_rfl) (by kernel_rfl) (fun _ _ _ h => h) (by assumption) (by kernel_rfl) (by decide) (by rfl) (Or.inl ⟨by rfl, ?hy20⟩) (fun _ => rfl) ?rest20
         case hy20 => (intro w hSw; (try dsimp only at hSw); go_simp; try with_reducible rfl))
      | (refine ordZ_take (i := 5) (oi := { dst := some 30, op := Op.load 126 (Operand.tmp 9), type := 126, pos := _, after := #[], guard := none }) (v := undef) rfl (by kernel_rfl) (by kernel_rfl) (by kernel_rfl) (by kernel_rfl) (fun _ _ _ h => h) (by assumption) (by kernel_rfl) (by decide) (by rfl) (Or.inr ⟨by rfl, rfl⟩) (fun _ => rfl) ?_)
    try simp only [Act.put, List.setIfInBounds_toArray, List.set_cons_zero, List.set_cons_succ]
    refine ordZ_one (i := 6) (o := { dst := some 31, op := Op.buildSlice 96 1 #[(0, Operand.tmp 30)], type := 96, pos := _, after := #[{ on := 5, ground := Ground.data }], guard := none }) (by kernel_rfl) rfl (by rfl) (fun K hK => ?_)
    go_simp
    refine hK _ _ (fun _ => ⟨cell_later (bl_al hD _) c0, cell_later (bl_al hD _) x0, cell_later (bl_al hD _) x1, cell_later (bl_al hD _) x2, cell_later (bl_al hD _) x3, cell_later (bl_al hD _) x4⟩) ?_
    clear hK K hH
    try simp only [Act.put, List.setIfInBounds_toArray, List.set_cons_zero, List.set_cons_succ]
    refine ordZ_append_at (i := 7) (o := { dst := some 32, op := Op.call { callee := Callee.builtin Builtin.append, args := #[Operand.tmp 29, Operand.tmp 31], argTypes := #[96, 96] }, type := 96, pos := _, after := #[{ on := 4, ground := Ground.data }, { on := 6, ground := Ground.data }], guard := none }) _ (by kernel_rfl) rfl (by rfl) _ _ 96 rfl 0 126 i0 (.agg #[.int .i64 0, .int .u64 0, .int .u64 0, .int .i64 0, .int .i64 0]) 5 40 Tryd.underlying96 hi hz0 hz1 hz2 rfl (by decide) _ _ _ rfl (hHW.below (bl_al hD _)).row ⟨W.drew.heap.size, 0, none⟩ 1 1 [.int .i64 t.id, .int .u64 t.F, .int .u64 t.H, .int .i64 t.Y, .int .i64 t.X] rfl rfl ?c1 ?c2 ?c3 ?c4 ?c5 ?_
    case c1 =>
      intro j u hj
      match j, hj with
      | 0, hj => (simp at hj; subst hj; simp [go_sem, hadd])
      | 1, hj => (simp at hj; subst hj; simp [go_sem, hadd])
      | 2, hj => (simp at hj; subst hj; simp [go_sem, hadd])
      | 3, hj => (simp at hj; subst hj; simp [go_sem, hadd])
      | 4, hj => (simp at hj; subst hj; simp [go_sem, hadd])
      | j + 5, hj => simp at hj
    case c2 =>
      intro u hu
      simp at hu
      rcases hu with rfl | rfl | rfl | rfl | rfl <;> rfl
    case c3 => unfold maxLen; omega
    case c4 => omega
    case c5 => exact Nat.zero_le _
    intro v' W9 hown hgrow hloc
    obtain ⟨g', cap', rfl⟩ : ∃ g' cap', v' = .slice (some ⟨g', 0, none⟩) (s.ts.length + 1) cap' := by
      rcases hown.2 with ⟨_, e⟩ | ⟨g', cap', cur, e, _⟩
      · omega
      · exact ⟨g', cap', e⟩
    obtain ⟨hG, hGK, hGf, hGc⟩ := heap_grew (hHW.below (bl_al hD _)) ht hown hgrow hloc
    have hnb : ¬ HB p b v (w.heap.size + 1) := fun e => by have := (h1.lt _ e).2; omega
    have k9 : KeptS (HB p b v) W W9 := (KeptS.of_below (bl_al hD _)).trans (KeptS.of_grown hgrow (fun k e _ => .inr (.inr e))) (fun _ _ h => h)
    have hS9 : (fun w' : World => w'.cell? ⟨p, 0, none⟩ = some v ∧ w'.cell? ⟨w.heap.size + 1, 0, none⟩ = some (.int .i64 t.id) ∧ w'.cell? ⟨w.heap.size + 1, 1, none⟩ = some (.int .u64 t.F) ∧ w'.cell? ⟨w.heap.size + 1, 2, none⟩ = some (.int .u64 t.H) ∧ w'.cell? ⟨w.heap.size + 1, 3, none⟩ = some (.int .i64 t.Y) ∧ w'.cell? ⟨w.heap.size + 1, 4, none⟩ = some (.int .i64 t.X)) W9 := ⟨hGc, k9.cell x0 hnb, k9.cell x1 hnb, k9.cell x2 hnb, k9.cell x3 hnb, k9.cell x4 hnb⟩
    refine ⟨fun _ => hS9, ?_⟩
    replace x0 := k9.cell x0 hnb
    replace x1 := k9.cell x1 hnb
    replace x2 := k9.cell x2 hnb
    replace x3 := k9.cell x3 hnb
    replace x4 := k9.cell x4 hnb
    have HLOC := Lib.hid hloc
    clear hown hgrow hloc k9 hD c0
    try simp only [Act.put, List.setIfInBounds_toArray, List.set_cons_zero, List.set_cons_succ]
    refine ordZ_one (i := 8) (o := { dst := some 33, op := Op.nilCheck (Operand.tmp 25), type := 0, pos := _, after := #[{ on := 0, ground := Ground.data }, { on := 0, ground := Ground.phase }, { on := 1, ground := Ground.phase }, { on := 2, ground := Ground.phase }, { on := 3, ground := Ground.phase }, { on := 4, ground := Ground.phase }, { on := 5, ground := Ground.phase }, { on := 6, ground := Ground.phase }, { on := 7, ground := Ground.phase }], guard := none }) (by kernel_rfl) rfl (by rfl) (fun K hK => ?_)
    go_simp
    refine hK _ _ (fun _ => hS9) ?_
    clear hK K
    try simp only [Act.put, List.setIfInBounds_toArray, List.set_cons_zero, List.set_cons_succ]
    first
      | (refine' ordZ_take (i := 9) (oi := { dst := some 34, op := Op.fieldAddr 98 (Operand.tmp 33) 0, type := 0, pos := _, after := #[{ on := 8, ground := Ground.data }, { on := 0, ground := Ground.phase }, { on := 1, ground := Ground.phase }, { on := 2, ground := Ground.phase }, { on := 3, ground := Ground.phase }, { on := 4, ground := Ground.phase }, { on := 5, ground := Ground.phase }, { on := 6, ground := Ground.phase }, { on := 7, ground := Ground.phase }], guard := none }) (v := _) rfl (by kernel_rfl) (by kernel_rfl) (by kernel_rfl) (by kernel_rfl) (fun _ _ _ h => h) (by assumption) (by kernel_rfl) (by decide) (by rfl) (Or.inl ⟨by rfl, ?hy21⟩) (fun _ => rfl) ?rest21
         case hy21 => (intro w hSw; (try dsimp only at hSw); go_simp; try with_reducible rfl))
      | (refine ordZ_take (i := 9) (oi := { dst := some 34, op := Op.fieldAddr 98 (Operand.tmp 33) 0, type := 0, pos := _, after := #[{ on := 8, ground := Ground.data }, { on := 0, ground := Ground.phase }, { on := 1, ground := Ground.phase }, { on := 2, ground := Ground.phase }, { on := 3, ground := Ground.phase }, { on := 4, ground := Ground.phase }, { on := 5, ground := Ground.phase }, { on := 6, ground := Ground.phase }, { on := 7, ground := Ground.phase }], guard := none }) (v := undef) rfl (by kernel_rfl) (by kernel_rfl) (by kernel_rfl) (by kernel_rfl) (fun _ _ _ h => h) (by assumption) (by kernel_rfl) (by decide) (by rfl) (Or.inr ⟨by rfl, rfl⟩) (fun _ => rfl) ?_)
    try simp only [Act.put, List.setIfInBounds_toArray, List.set_cons_zero, List.set_cons_succ]
    refine ordZ_one (i := 10) (o := { dst := none, op := Op.store 96 (Operand.tmp 34) (Operand.tmp 32), type := 0, pos := _, after := #[{ on := 9, ground := Ground.data }, { on := 7, ground := Ground.data }, { on := 7, ground := Ground.chain }, { on := 0, ground := Ground.phase }, { on := 1, ground := Ground.phase }, { on := 2, ground := Ground.phase }, { on := 3, ground := Ground.phase }, { on := 4, ground := Ground.phase }, { on := 5, ground := Ground.phase }, { on := 6, ground := Ground.phase }, { on := 7, ground := Ground.phase }], guard := none }) (by kernel_rfl) rfl (by rfl) (fun K hK => ?_)
    go_simp
    refine hK _ _ (fun h => by cases h) ?_
    clear hK K hS9
    try simp only [Act.put, List.setIfInBounds_toArray, List.set_cons_zero, List.set_cons_succ]
    refine ordZ_done (by kernel_rfl) ?_
    obtain ⟨W10, hW10⟩ : ∃ W10, W9.setCell ⟨p, 0, none⟩ (.slice (some ⟨g', 0, none⟩) (s.ts.length + 1) cap') = W10 := ⟨_, rfl⟩
    have hz : w.heap.size + 1 ≠ p := by have := (h1.lt p (.inl rfl)).2; omega
    have k10 : KeptS (fun k => k = p) W9 W10 := by rw [← hW10]; exact .of_grown (hgrown_set W9 p 0 _) (fun k e _ => by cases e; rfl)
    rw [hW10] at hG hGK ⊢
    have hlen1 : (s.ts ++ [t]).length = s.ts.length + 1 := by simp
    have hK10 : KeptS (HB p b v) w W10 := (KeptS.of_below hAW).trans ((KeptS.of_below (bl_al (bl_dr (bl0 W)) _)).trans hGK (fun _ _ h => h)) (fun _ _ h => h)
    replace x0 := k10.cell x0 hz
    replace x1 := k10.cell x1 hz
    replace x2 := k10.cell x2 hz
    replace x3 := k10.cell x3 hz
    replace x4 := k10.cell x4 hz
    have hnb' : ¬ HB p b (.slice (some ⟨g', 0, none⟩) (s.ts ++ [t]).length cap') (w.heap.size + 1) := by
      rintro (e | e | e)
      · exact hnb (.inl e)
      · exact hnb (.inr (.inl e))
      · rcases HLOC.out with q | q
        · exact hnb (.inr (.inr (q.symm.trans e)))
        · have q2 := q.symm.trans e
          simp only [Option.some.injEq] at q2
          have := hAW.size
          have h5 : w.heap.size + 1 < W.heap.size := by rw [← hWz.out]; omega
          simp at q2
          omega
    have NB := Lib.hid hnb'
    clear hnb'
    have hgo : (Value.slice (some ⟨g', 0, none⟩) (s.ts.length + 1) cap').ownBlock = v.ownBlock ∨ w.heap.size ≤ g' := by
      rcases HLOC.out with e | e
      · exact .inl e
      · right
        simp only [Value.ownBlock, Option.some.injEq] at e
        have := hAW.size
        rw [e]
        simp
        omega
    rw [← hlen1] at hG hgo
    have c0 := hG.c0
    have zx0 := blk_lt x0
    have hD := bl_dr (bl0 W10)
    have hGD := hG.below hD
    have hcall := rise_any 0 p b g' cap' ⟨s.ts ++ [t], s.f, s.n⟩ s.ts.length t W10.drew hGD (by simp) (by simp; omega) (by simp; omega) ht
    have HG := Lib.hid hG
    have HK10 := Lib.hid hK10
    have HL1 := Lib.hid hlen1
    have hw1 : IntKind.i64.wrap (s.ts.length : Int) = (s.ts.length : Int) := IntWalk.i64_in _ (by omega)
    clear hW10 hG hGK hGf hGc k10 hK10 hGD hlen1 hHW hAW hi hz0 hz1 hz2
    go_upto_region 8 with fail
    refine (wpIn_wide (n := 11)).1 ?_
    refine ordS_begin (S := (fun w' : World => w'.cell? ⟨p, 0, none⟩ = some (.slice (some ⟨g', 0, none⟩) (s.ts ++ [t]).length cap') ∧ w'.cell? ⟨w.heap.size + 1, 0, none⟩ = some (.int .i64 t.id) ∧ w'.cell? ⟨w.heap.size + 1, 1, none⟩ = some (.int .u64 t.F) ∧ w'.cell? ⟨w.heap.size + 1, 2, none⟩ = some (.int .u64 t.H) ∧ w'.cell? ⟨w.heap.size + 1, 3, none⟩ = some (.int .i64 t.Y) ∧ w'.cell? ⟨w.heap.size + 1, 4, none⟩ = some (.int .i64 t.X))) (by kernel_rfl) ⟨cell_later hD c0, cell_later hD x0, cell_later hD x1, cell_later hD x2, cell_later hD x3, cell_later hD x4⟩ (fun hH => ?_)
    first
      | (refine' ordS_take (i := 0) (oi := { dst := some 35, op := Op.move (Operand.tmp 0), type := 76, pos := _, after := #[], guard := none }) (v := _) rfl (by kernel_rfl) (by kernel_rfl) (by kernel_rfl) (by kernel_rfl) (fun _ _ _ h => h) (by assumption) (Or.inl ⟨by rfl, ?hy22⟩) (fun _ => rfl) ?rest22
         case hy22 => (intro w hSw; (try dsimp only at hSw); go_simp; try with_reducible rfl))
      | (refine ordS_take (i := 0) (oi := { dst := some 35, op := Op.move (Operand.tmp 0), type := 76, pos := _, after := #[], guard := none }) (v := undef) rfl (by kernel_rfl) (by kernel_rfl) (by kernel_rfl) (by kernel_rfl) (fun _ _ _ h => h) (by assumption) (Or.inr ⟨by rfl, rfl⟩) (fun _ => rfl) ?_)
    try simp only [Act.put, List.setIfInBounds_toArray, List.set_cons_zero, List.set_cons_succ]
    first
      | (refine' ordS_take (i := 1) (oi := { dst := some 36, op := Op.move (Operand.tmp 0), type := 76, pos := _, after := #[], guard := none }) (v := _) rfl (by kernel_rfl) (by kernel_rfl) (by kernel_rfl) (by kernel_rfl) (fun _ _ _ h => h) (by assumption) (Or.inl ⟨by rfl, ?hy23⟩) (fun _ => rfl) ?rest23
         case hy23 => (intro w hSw; (try dsimp only at hSw); go_simp; try with_reducible rfl))
      | (refine ordS_take (i := 1) (oi := { dst := some 36, op := Op.move (Operand.tmp 0), type := 76, pos := _, after := #[], guard := none }) (v := undef) rfl (by kernel_rfl) (by kernel_rfl) (by kernel_rfl) (by kernel_rfl) (fun _ _ _ h => h) (by assumption) (Or.inr ⟨by rfl, rfl⟩) (fun _ => rfl) ?_)
    try simp only [Act.put, List.setIfInBounds_toArray, List.set_cons_zero, List.set_cons_succ]
    first
      | (refine' ordS_take (i := 2) (oi := { dst := some 37, op := Op.nilCheck (Operand.tmp 36), type := 0, pos := _, after := #[{ on := 1, ground := Ground.data }], guard := none }) (v := _) rfl (by kernel_rfl) (by kernel_rfl) (by kernel_rfl) (by kernel_rfl) (fun _ _ _ h => h) (by assumption) (Or.inl ⟨by rfl, ?hy24⟩) (fun _ => rfl) ?rest24
         case hy24 => (intro w hSw; (try dsimp only at hSw); go_simp; try with_reducible rfl))
      | (refine ordS_take (i := 2) (oi := { dst := some 37, op := Op.nilCheck (Operand.tmp 36), type := 0, pos := _, after := #[{ on := 1, ground := Ground.data }], guard := none }) (v := undef) rfl (by kernel_rfl) (by kernel_rfl) (by kernel_rfl) (by kernel_rfl) (fun _ _ _ h => h) (by assumption) (Or.inr ⟨by rfl, rfl⟩) (fun _ => rfl) ?_)
    try simp only [Act.put, List.setIfInBounds_toArray, List.set_cons_zero, List.set_cons_succ]
    first
      | (refine' ordS_take (i := 3) (oi := { dst := some 38, op := Op.fieldAddr 98 (Operand.tmp 37) 0, type := 0, pos := _, after := #[{ on := 2, ground := Ground.data }], guard := none }) (v := _) rfl (by kernel_rfl) (by kernel_rfl) (by kernel_rfl) (by kernel_rfl) (fun _ _ _ h => h) (by assumption) (Or.inl ⟨by rfl, ?hy25⟩) (fun _ => rfl) ?rest25
         case hy25 => (intro w hSw; (try dsimp only at hSw); go_simp; try with_reducible rfl))
      | (refine ordS_take (i := 3) (oi := { dst := some 38, op := Op.fieldAddr 98 (Operand.tmp 37) 0, type := 0, pos := _, after := #[{ on := 2, ground := Ground.data }], guard := none }) (v := undef) rfl (by kernel_rfl) (by kernel_rfl) (by kernel_rfl) (by kernel_rfl) (fun _ _ _ h => h) (by assumption) (Or.inr ⟨by rfl, rfl⟩) (fun _ => rfl) ?_)
    try simp only [Act.put, List.setIfInBounds_toArray, List.set_cons_zero, List.set_cons_succ]
    first
      | (refine' ordS_take (i := 4) (oi := { dst := some 39, op := Op.load 96 (Operand.tmp 38), type := 96, pos := _, after := #[{ on := 3, ground := Ground.data }], guard := none }) (v := _) rfl (by kernel_rfl) (by kernel_rfl) (by kernel_rfl) (by kernel_rfl) (fun _ _ _ h => h) (by assumption) (Or.inl ⟨by rfl, ?hy26⟩) (fun _ => rfl) ?rest26
         case hy26 => (intro w hSw; (try dsimp only at hSw); go_simp; try with_reducible rfl))
      | (refine ordS_take (i := 4) (oi := { dst := some 39, op := Op.load 96 (Operand.tmp 38), type := 96, pos := _, after := #[{ on := 3, ground := Ground.data }], guard := none }) (v := undef) rfl (by kernel_rfl) (by kernel_rfl) (by kernel_rfl) (by kernel_rfl) (fun _ _ _ h => h) (by assumption) (Or.inr ⟨by rfl, rfl⟩) (fun _ => rfl) ?_)
    try simp only [Act.put, List.setIfInBounds_toArray, List.set_cons_zero, List.set_cons_succ]
    first
      | (refine' ordS_take (i := 5) (oi := { dst := some 40, op := Op.call { callee := Callee.builtin Builtin.len, args := #[Operand.tmp 39], argTypes := #[96] }, type := 3, pos := _, after := #[{ on := 4, ground := Ground.data }], guard := none }) (v := _) rfl (by kernel_rfl) (by kernel_rfl) (by kernel_rfl) (by kernel_rfl) (fun _ _ _ h => h) (by assumption) (Or.inl ⟨by rfl, ?hy27⟩) (fun _ => rfl) ?rest27
         case hy27 => (intro w hSw; (try dsimp only at hSw); go_simp; try with_reducible rfl))
      | (refine ordS_take (i := 5) (oi := { dst := some 40, op := Op.call { callee := Callee.builtin Builtin.len, args := #[Operand.tmp 39], argTypes := #[96] }, type := 3, pos := _, after := #[{ on := 4, ground := Ground.data }], guard := none }) (v := undef) rfl (by kernel_rfl) (by kernel_rfl) (by kernel_rfl) (by kernel_rfl) (fun _ _ _ h => h) (by assumption) (Or.inr ⟨by rfl, rfl⟩) (fun _ => rfl) ?_)
    try simp only [Act.put, List.setIfInBounds_toArray, List.set_cons_zero, List.set_cons_succ]
    first
      | (refine' ordS_take (i := 6) (oi := { dst := some 41, op := Op.binOp BinOp.sub 3 (Operand.tmp 40) (Operand.const (Value.int IntKind.i64 1)) 3, type := 3, pos := _, after := #[{ on := 5, ground := Ground.data }], guard := none }) (v := _) rfl (by kernel_rfl) (by kernel_rfl) (by kernel_rfl) (by kernel_rfl) (fun _ _ _ h => h) (by assumption) (Or.inl ⟨by rfl, ?hy28⟩) (fun _ => rfl) ?rest28
         case hy28 => (intro w hSw; (try dsimp only at hSw); go_simp; try with_reducible rfl))
      | (refine ordS_take (i := 6) (oi := { dst := some 41, op := Op.binOp BinOp.sub 3 (Operand.tmp 40) (Operand.const (Value.int IntKind.i64 1)) 3, type := 3, pos := _, after := #[{ on := 5, ground := Ground.data }], guard := none }) (v := undef) rfl (by kernel_rfl) (by kernel_rfl) (by kernel_rfl) (by kernel_rfl) (fun _ _ _ h => h) (by assumption) (Or.inr ⟨by rfl, rfl⟩) (fun _ => rfl) ?_)
    try simp only [Act.put, List.setIfInBounds_toArray, List.set_cons_zero, List.set_cons_succ]
    first
      | (refine' ordS_take (i := 7) (oi := { dst := some 42, op := Op.load 126 (Operand.tmp 9), type := 126, pos := _, after := #[], guard := none }) (v := _) rfl (by kernel_rfl) (by kernel_rfl) (by kernel_rfl) (by kernel_rfl) (fun _ _ _ h => h) (by assumption) (Or.inl ⟨by rfl, ?hy29⟩) (fun _ => rfl) ?rest29
         case hy29 => (intro w hSw; (try dsimp only at hSw); go_simp; try with_reducible rfl))
      | (refine ordS_take (i := 7) (oi := { dst := some 42, op := Op.load 126 (Operand.tmp 9), type := 126, pos := _, after := #[], guard := none }) (v := undef) rfl (by kernel_rfl) (by kernel_rfl) (by kernel_rfl) (by kernel_rfl) (fun _ _ _ h => h) (by assumption) (Or.inr ⟨by rfl, rfl⟩) (fun _ => rfl) ?_)
    try simp only [Act.put, List.setIfInBounds_toArray, List.set_cons_zero, List.set_cons_succ]
    refine ordS_one (i := 8) (o := { dst := some 43, op := Op.call { callee := Callee.value (Operand.func 67), args := #[Operand.tmp 35, Operand.tmp 41, Operand.tmp 42], argTypes := #[76, 3, 126] }, type := 0, pos := _, after := #[{ on := 0, ground := Ground.data }, { on := 6, ground := Ground.data }, { on := 7, ground := Ground.data }], guard := none }) (by kernel_rfl) rfl (by rfl) (fun K hK => ?_)
    go_simp
    refine ⟨trivial, (callsIn_wide.2 hcall).mono ?_⟩
    rintro e W11 ⟨rfl, hH11, hk11⟩
    have HF : HI (pushS s t) (m ++ [t]) := HH2.out.push hnone
    have hEnd : Turned S w W11 (HeapO p (m ++ [t])) := by
      have hsub : ∀ k, k < w.heap.size → HB p b (.slice (some ⟨g', 0, none⟩) (s.ts ++ [t]).length cap') k → HB p b v k := by
        rintro k hk (e | e | e)
        · exact .inl e
        · exact .inr (.inl e)
        · rcases hgo with q | q
          · rw [q] at e; exact .inr (.inr e)
          · simp only [Value.ownBlock, Option.some.injEq] at e; omega
      refine ⟨(HK10.out.trans ((KeptS.of_below hD).trans hk11 (fun _ _ h => h)) hsub).wide (fun k h => (h3 k).2 h), HB p b (.slice (some ⟨g', 0, none⟩) (s.ts ++ [t]).length cap'), ⟨b, .slice (some ⟨g', 0, none⟩) (s.ts ++ [t]).length cap', pushS s t, hH11, HF, fun _ => Iff.rfl⟩, ?_⟩
      · intro k hk
        by_cases hkw : k < w.heap.size
        · exact .inl ((h3 k).2 (hsub k hkw hk))
        · exact .inr (by omega)
    have HEnd := Lib.hid hEnd
    clear hEnd HF
    have hnb11 : ¬ HB p b (.slice (some ⟨g', 0, none⟩) (s.ts ++ [t]).length cap') (w.heap.size + 1) := NB.out
    have hSend : (fun w' : World => w'.cell? ⟨p, 0, none⟩ = some (.slice (some ⟨g', 0, none⟩) (s.ts ++ [t]).length cap') ∧ w'.cell? ⟨w.heap.size + 1, 0, none⟩ = some (.int .i64 t.id) ∧ w'.cell? ⟨w.heap.size + 1, 1, none⟩ = some (.int .u64 t.F) ∧ w'.cell? ⟨w.heap.size + 1, 2, none⟩ = some (.int .u64 t.H) ∧ w'.cell? ⟨w.heap.size + 1, 3, none⟩ = some (.int .i64 t.Y) ∧ w'.cell? ⟨w.heap.size + 1, 4, none⟩ = some (.int .i64 t.X)) W11 := ⟨hH11.c0, hk11.cell (cell_later hD x0) hnb11, hk11.cell (cell_later hD x1) hnb11, hk11.cell (cell_later hD x2) hnb11, hk11.cell (cell_later hD x3) hnb11, hk11.cell (cell_later hD x4) hnb11⟩
    clear hH11 hk11 hnb11
    refine hK _ _ hSend ?_
    clear hSend
    clear hK K hH
    try simp only [Act.put, List.setIfInBounds_toArray, List.set_cons_zero, List.set_cons_succ]
    refine ordS_done (by kernel_rfl) ?_
    go_wp2
    go_ret
    exact ⟨rfl, HEnd.out⟩
end Go.Proofs.YtldpajfendkhbaaDoor

/- Heap: Lower. -/
namespace Go.Proofs.YtldpajfendkhbaaDoor
open Go.RowKit Go.Maps

/-- What Lower answers, and what is in then. -/
def lowerE (m : List Th) (t : Th) : Int := match findT m t.id with | none => 14 | some x => if lessK t x then 0 else 1
def lowerM (m : List Th) (t : Th) : List Th := match findT m t.id with | none => m | some x => if lessK t x then m.map (fun y => if y.id = t.id then t else y) else m

set_option maxRecDepth 100000 in
set_option maxHeartbeats 4000000 in
theorem hlower_any (p : Nat) (m : List Th) (t : Th) (S : Nat → Prop) (w : World) (h : (HeapO p m).P w S) (ht : wfT t) (hm : m.length ≤ 1000000) :
    Calls Tryd.prog 54 #[.pointer (some ⟨p, 0, none⟩), .int .i64 t.id, .agg #[.int .u64 t.F, .int .u64 t.H, .int .i64 t.Y, .int .i64 t.X]] w fun e w' => e = .returned (.int .i64 (lowerE m t)) ∧ Turned S w w' (HeapO p (lowerM m t)) := by
  have h' := h
  obtain ⟨b, v, s, h1, h2, h3⟩ := h
  have hf := h2.find t.id
  have hA := bl_al (bl0 w) (.cells #[.int .u64 t.F, .int .u64 t.H, .int .i64 t.Y, .int .i64 t.X] 100)
  have h1' := h1.below hA
  have hlook := h1'.pl.look ht
  have c1 := h1.c1
  have zc1 := blk_lt c1
  unfold lowerE lowerM
  cases e : s.f t.id with
  | none =>
    rw [e] at hf hlook
    rw [← hf]
    simp only [Option.map_none]
    have HT := Lib.hid (heap_there h' hA)
    clear h1 h2 h' h1' hf hA h3
    go_enter Tryd.func54, Tryd.ntmps54
    go_wp2
    go_ret
    exact ⟨rfl, HT.out⟩
  | some q =>
    rw [e] at hf hlook
    rw [← hf]
    simp only [Option.map_some]
    obtain ⟨hq1, hq2⟩ := h2.pf.some e
    obtain ⟨g, cap, rfl⟩ := h1.slice (by omega)
    have hq0 : (0 : Int) ≤ (q : Int) := by omega
    have hqi : (q : Int) < (s.ts.length : Int) := by omega
    have c0 := h1.c0
    obtain ⟨y0, y1, y2, y3, y4⟩ := h1.at hq1
    have hsb : s.ts.length ≤ 1000000 := by rw [h2.len]; exact hm
    have hsnb : s.n ≤ 1000000 := by rw [h2.pf.n]; exact hsb
    have hE := e
    have HH2 := Lib.hid h2
    generalize hx : atT s.ts q = x at *
    have HX := Lib.hid hx
    obtain ⟨W, hW⟩ : ∃ W, w.alloc (.cells #[.int .u64 t.F, .int .u64 t.H, .int .i64 t.Y, .int .i64 t.X] 100) = W := ⟨_, rfl⟩
    rw [hW] at hA hlook h1'
    have x0 : W.cell? ⟨w.heap.size, 0, none⟩ = some (.int .u64 t.F) := by rw [← hW]; simp [go_sem]
    have x1 : W.cell? ⟨w.heap.size, 1, none⟩ = some (.int .u64 t.H) := by rw [← hW]; simp [go_sem]
    have x2 : W.cell? ⟨w.heap.size, 2, none⟩ = some (.int .i64 t.Y) := by rw [← hW]; simp [go_sem]
    have x3 : W.cell? ⟨w.heap.size, 3, none⟩ = some (.int .i64 t.X) := by rw [← hW]; simp [go_sem]
    replace c0 := cell_later hA c0
    replace y1 := cell_later hA y1
    replace y2 := cell_later hA y2
    replace y3 := cell_later hA y3
    replace y4 := cell_later hA y4
    replace c1 := cell_later hA c1
    clear h2 hf hx e y0 zc1 h1'
    cases hls : lessK t x
    · simp only [Bool.false_eq_true, if_false]
      have hB := bl_dr (bl0 W)
      go_enter Tryd.func54, Tryd.ntmps54
      go_upto_region 3 with fail
      clear hW
      go_upto_region 6 with fail
      go_region_held3 (fun w' => w'.cell? ⟨p, 0, none⟩ = some (.slice (some ⟨g, 0, none⟩) s.ts.length cap) ∧ w'.cell? ⟨g, q * 5 + 1, none⟩ = some (.int .u64 x.F) ∧ w'.cell? ⟨g, q * 5 + 2, none⟩ = some (.int .u64 x.H) ∧ w'.cell? ⟨g, q * 5 + 3, none⟩ = some (.int .i64 x.Y) ∧ w'.cell? ⟨g, q * 5 + 4, none⟩ = some (.int .i64 x.X) ∧ w'.cell? ⟨w.heap.size, 0, none⟩ = some (.int .u64 t.F) ∧ w'.cell? ⟨w.heap.size, 1, none⟩ = some (.int .u64 t.H) ∧ w'.cell? ⟨w.heap.size, 2, none⟩ = some (.int .i64 t.Y) ∧ w'.cell? ⟨w.heap.size, 3, none⟩ = some (.int .i64 t.X))
        (exact ⟨cell_later hB c0, cell_later hB y1, cell_later hB y2, cell_later hB y3, cell_later hB y4, cell_later hB x0, cell_later hB x1, cell_later hB x2, cell_later hB x3⟩)
        ((go_at_call 53; (with_reducible refine (less_any t x _).mono ?_); rintro e W2 ⟨rfl, hb⟩; replace hB := bl_tr hB hb; clear hb))
      all_goals
        have HT := Lib.hid (heap_there h' (bl_tr hA hB))
        clear hB
        go_wp2
        go_ret
        exact ⟨rfl, HT.out⟩
    · simp only [if_true]
      have hB := bl_dr (bl0 W)
      go_enter Tryd.func54, Tryd.ntmps54
      go_upto_region 3 with fail
      clear hW
      go_upto_region 6 with fail
      go_region_held3 (fun w' => w'.cell? ⟨p, 0, none⟩ = some (.slice (some ⟨g, 0, none⟩) s.ts.length cap) ∧ w'.cell? ⟨g, q * 5 + 1, none⟩ = some (.int .u64 x.F) ∧ w'.cell? ⟨g, q * 5 + 2, none⟩ = some (.int .u64 x.H) ∧ w'.cell? ⟨g, q * 5 + 3, none⟩ = some (.int .i64 x.Y) ∧ w'.cell? ⟨g, q * 5 + 4, none⟩ = some (.int .i64 x.X) ∧ w'.cell? ⟨w.heap.size, 0, none⟩ = some (.int .u64 t.F) ∧ w'.cell? ⟨w.heap.size, 1, none⟩ = some (.int .u64 t.H) ∧ w'.cell? ⟨w.heap.size, 2, none⟩ = some (.int .i64 t.Y) ∧ w'.cell? ⟨w.heap.size, 3, none⟩ = some (.int .i64 t.X))
        (exact ⟨cell_later hB c0, cell_later hB y1, cell_later hB y2, cell_later hB y3, cell_later hB y4, cell_later hB x0, cell_later hB x1, cell_later hB x2, cell_later hB x3⟩)
        ((go_at_call 53; (with_reducible refine (less_any t x _).mono ?_); rintro e W2 ⟨rfl, hb⟩; replace hB := bl_tr hB hb; clear hb))
      all_goals
        have hAB := bl_tr hA hB
        have hH2 := h1.below hAB
        have hcall := rise_any 0 p b g cap s q t _ hH2 hq1 (by omega) (by omega) ht
        replace x0 := cell_later hB x0
        replace x1 := cell_later hB x1
        replace x2 := cell_later hB x2
        replace x3 := cell_later hB x3
        have HF := Lib.hid (HH2.out.lower hE (by rw [HX.out]; exact hls))
        have HAB := Lib.hid hAB
        clear hH2 hB hA hAB c0 y1 y2 y3 y4 hlook c1 hls
        go_wp2_with fail
        refine hcall.mono ?_
        rintro e W3 ⟨rfl, hH3, hk3⟩
        have hEnd : Turned S w W3 (HeapO p (m.map (fun y => if y.id = t.id then t else y))) := by
          refine ⟨((KeptS.of_below HAB.out).trans hk3 (fun _ _ h => h)).wide (fun k h => (h3 k).2 h), S, ⟨b, _, _, hH3, HF.out, h3⟩, fun k hk => .inl hk⟩
        have HEnd := Lib.hid hEnd
        clear hEnd hH3 hk3 HF hcall x0 x1 x2 x3
        go_wp2
        go_ret
        exact ⟨rfl, HEnd.out⟩
end Go.Proofs.YtldpajfendkhbaaDoor

/- Heap: the first thing; Pop. -/
namespace Go.Proofs.YtldpajfendkhbaaDoor
open Go.RowKit Go.Maps

/-- The first thing of some. -/
def firstT : List Th → Th
  | [] => default
  | t :: l => if l.isEmpty then t else if aheadT (firstT l) t then firstT l else t
def popM (m : List Th) : List Th := m.filter (fun x => decide (x.id ≠ (firstT m).id))
theorem firstT_least : ∀ m : List Th, m ≠ [] → firstT m ∈ m ∧ ∀ x ∈ m, aheadT x (firstT m) = false
  | [], h => absurd rfl h
  | [t], _ => ⟨by simp [firstT], fun x hx => by simp [firstT] at hx ⊢; rw [hx]; exact ahead_irr _⟩
  | t :: u :: l, _ => by
    obtain ⟨h1, h2⟩ := firstT_least (u :: l) (by simp)
    rw [firstT]
    simp only [List.isEmpty_cons, Bool.false_eq_true, if_false]
    split
    · rename_i ha
      refine ⟨List.mem_cons_of_mem _ h1, fun x hx => ?_⟩
      rcases List.mem_cons.1 hx with rfl | hx
      · exact ahead_asymm ha
      · exact h2 x hx
    · rename_i ha
      refine ⟨by simp, fun x hx => ?_⟩
      rcases List.mem_cons.1 hx with rfl | hx
      · exact ahead_irr _
      · exact ahead_le (by simpa using ha) (h2 x hx)
theorem firstT_eq {m : List Th} {t : Th} (h : t ∈ m) (hl : ∀ x ∈ m, aheadT x t = false) : firstT m = t := by
  obtain ⟨h1, h2⟩ := firstT_least m (fun e => by rw [e] at h; cases h)
  exact ahead_total (hl _ h1) (h2 _ h)
theorem HI.firstT {s : HS} {m : List Th} (h : HI s m) (h0 : m ≠ []) : atT s.ts 0 = Proofs.YtldpajfendkhbaaDoor.firstT m := by
  obtain ⟨h1, h2⟩ := h.first h0
  exact (firstT_eq h1 h2).symm

theorem own_take {W : World} {e : TypeId} {size g n cap : Nat} {xs : List Value} (h : W.ownsRow 0 e size (.slice (some ⟨g, 0, none⟩) n cap) n xs) {k : Nat} (hk : k ≤ n) :
    W.ownsRow 0 e size (.slice (some ⟨g, 0, none⟩) k cap) k (xs.take (k * size)) := by
  have hl := h.1
  have hks : k * size ≤ n * size := Nat.mul_le_mul_right _ hk
  refine ⟨by rw [List.length_take]; omega, ?_⟩
  rcases h.2 with ⟨q, _⟩ | ⟨g', cap', cur, q, h2, h3, h4, h5, h6, h7⟩
  · cases q
  · cases q
    refine .inr ⟨g, cap, cur, rfl, h2, h3, by omega, h5, h6, ?_⟩
    rw [← h7, List.take_take]
    congr 1
    omega
/-- The last thing is cut off. -/
theorem heap_cut {W : World} {p b g cap : Nat} {s : HS} (h : HeapAt W 0 p b (.slice (some ⟨g, 0, none⟩) s.ts.length cap) s) (k : Nat) (hk : k ≤ s.ts.length) :
    HeapAt (W.setCell ⟨p, 0, none⟩ (.slice (some ⟨g, 0, none⟩) k cap)) 0 p b (.slice (some ⟨g, 0, none⟩) k cap) ⟨s.ts.take k, s.f, s.n⟩ ∧ KeptS (fun x => x = p) W (W.setCell ⟨p, 0, none⟩ (.slice (some ⟨g, 0, none⟩) k cap)) := by
  have hgp : g ≠ p := fun e => h.gp (by rw [e]; rfl)
  have hbp : b ≠ p := h.pb.symm
  have q := hgrown_set W p 0 (.slice (some ⟨g, 0, none⟩) k cap)
  have k1 : KeptS (fun x => x = p) W (W.setCell ⟨p, 0, none⟩ (.slice (some ⟨g, 0, none⟩) k cap)) := .of_grown q (fun x e _ => by cases e; rfl)
  have hlt : (s.ts.take k).length = k := by rw [List.length_take]; omega
  refine ⟨⟨by simpa using hset_same W p 0 _ 98 (.slice (some ⟨g, 0, none⟩) k cap) h.hp, ?_, h.pl.keptS k1 hbp, fun x hx => h.wf x (List.mem_of_mem_take hx), Nat.zero_le _, Nat.zero_le _⟩, k1⟩
  rw [hlt, flatT_take]
  exact k1.own (own_take h.row hk) (fun x e => by simp only [Value.ownBlock, Option.some.injEq] at e; subst e; exact hgp)

/-- All five numbers of a thing, in a block. -/
structure BoxT (W : World) (k : Nat) (t : Th) : Prop where
  t0 : W.cell? ⟨k, 0, none⟩ = some (.int .i64 t.id)
  t1 : W.cell? ⟨k, 1, none⟩ = some (.int .u64 t.F)
  t2 : W.cell? ⟨k, 2, none⟩ = some (.int .u64 t.H)
  t3 : W.cell? ⟨k, 3, none⟩ = some (.int .i64 t.Y)
  t4 : W.cell? ⟨k, 4, none⟩ = some (.int .i64 t.X)
theorem BoxT.below {W W' : World} {k : Nat} {t : Th} (h : BoxT W k t) (b : Below W.heap.size W W') : BoxT W' k t := ⟨cell_later b h.t0, cell_later b h.t1, cell_later b h.t2, cell_later b h.t3, cell_later b h.t4⟩
theorem BoxT.kept {W W' : World} {S : Nat → Prop} {k : Nat} {t : Th} (h : BoxT W k t) (b : KeptS S W W') (hn : ¬ S k) : BoxT W' k t := ⟨b.cell h.t0 hn, b.cell h.t1 hn, b.cell h.t2 hn, b.cell h.t3 hn, b.cell h.t4 hn⟩

set_option maxRecDepth 100000 in
set_option maxHeartbeats 1600000 in
theorem hpop_none (p : Nat) (S : Nat → Prop) (w : World) (h : (HeapO p []).P w S) :
    Calls Tryd.prog 55 #[.pointer (some ⟨p, 0, none⟩)] w fun e w' => e = .returned (.tuple #[.int .i64 0, .agg #[.int .u64 0, .int .u64 0, .int .i64 0, .int .i64 0], .bool false]) ∧ Below w.heap.size w w' := by
  have hA := bl_al (bl0 w) (.cells #[.int .u64 0, .int .u64 0, .int .i64 0, .int .i64 0] 100)
  have hcall := hlen_any p [] S _ ((HeapO p []).keep h (hA.mono (Nat.zero_le _)) (fun k hk => hA.block k ((HeapO p []).lt h k hk)))
  go_enter Tryd.func55, Tryd.ntmps55
  go_wp2_with fail
  refine hcall.mono ?_
  rintro e w' ⟨rfl, rfl⟩
  go_wp2
  exact bodyPost_ret (v := .tuple #[.int .i64 0, .agg #[.int .u64 0, .int .u64 0, .int .i64 0, .int .i64 0], .bool false]) (by simp [results, Tryd.results55, go_sem]) rfl ⟨rfl, hA⟩
set_option maxRecDepth 100000 in
set_option maxHeartbeats 1600000 in
theorem hpop_nil (w : World) :
    Calls Tryd.prog 55 #[.pointer none] w fun e w' => e = .returned (.tuple #[.int .i64 0, .agg #[.int .u64 0, .int .u64 0, .int .i64 0, .int .i64 0], .bool false]) ∧ Below w.heap.size w w' := by
  have hA := bl_al (bl0 w) (.cells #[.int .u64 0, .int .u64 0, .int .i64 0, .int .i64 0] 100)
  go_enter Tryd.func55, Tryd.ntmps55
  go_wp2_with fail
  refine (hlen_nil _).mono ?_
  rintro e w' ⟨rfl, rfl⟩
  go_wp2
  exact bodyPost_ret (v := .tuple #[.int .i64 0, .agg #[.int .u64 0, .int .u64 0, .int .i64 0, .int .i64 0], .bool false]) (by simp [results, Tryd.results55, go_sem]) rfl ⟨rfl, hA⟩
end Go.Proofs.YtldpajfendkhbaaDoor

/- Heap: Pop. -/
namespace Go.Proofs.YtldpajfendkhbaaDoor
open Go.RowKit Go.Maps

theorem heap_end {w W W' : World} {S : Nat → Prop} {p b g cap n n' : Nat} {s : HS} {m : List Th} (hi : HI s m) (h : HeapAt W 0 p b (.slice (some ⟨g, 0, none⟩) n' cap) s) (k : KeptS (HB p b (.slice (some ⟨g, 0, none⟩) n cap)) w W) (h3 : ∀ k, S k ↔ HB p b (.slice (some ⟨g, 0, none⟩) n cap) k)
    (k2 : KeptS (fun x => x = w.heap.size) W W') (hn : ¬ HB p b (.slice (some ⟨g, 0, none⟩) n cap) w.heap.size) : Turned S w W' (HeapO p m) := by
  refine ⟨(k.wide (fun x e => (h3 x).2 e)).trans k2 (fun x hx e => by omega), S, ⟨b, _, _, h.keptS k2 ?_, hi, h3⟩, fun _ h => .inl h⟩
  intro x hx e
  subst e
  exact hn hx

set_option maxRecDepth 100000 in
set_option maxHeartbeats 4000000 in
theorem hpop_yes (p : Nat) (m : List Th) (S : Nat → Prop) (w : World) (h : (HeapO p m).P w S) (h0 : m ≠ []) (hm : m.length ≤ 1000000) :
    Calls Tryd.prog 55 #[.pointer (some ⟨p, 0, none⟩)] w fun e w' => e = .returned (.tuple #[.int .i64 (firstT m).id, .agg #[.int .u64 (firstT m).F, .int .u64 (firstT m).H, .int .i64 (firstT m).Y, .int .i64 (firstT m).X], .bool true]) ∧ Turned S w w' (HeapO p (popM m)) := by
  have hA := bl_al (bl0 w) (.cells #[.int .u64 0, .int .u64 0, .int .i64 0, .int .i64 0] 100)
  have hcall := hlen_any p m S _ ((HeapO p m).keep h (hA.mono (Nat.zero_le _)) (fun k hk => hA.block k ((HeapO p m).lt h k hk)))
  obtain ⟨b, v, s, h1, h2, h3⟩ := h
  have hlm := h2.len
  have hl0 : 0 < m.length := List.length_pos_iff.2 h0
  obtain ⟨g, cap, rfl⟩ := h1.slice (by omega)
  have hl1 : 0 < s.ts.length := by omega
  have hsb : s.ts.length ≤ 1000000 := by omega
  have hsnb : s.n ≤ 1000000 := by rw [h2.pf.n]; omega
  have hfirst := h2.firstT h0
  have hpop := h2.pop h0
  rw [hfirst] at hpop
  have HPOP : Hid (HI (popS s) (popM m)) := Lib.hid (show HI (popS s) (popM m) from hpop)
  clear hpop
  generalize firstT m = t at *
  have hwt : wfT t := by rw [← hfirst]; exact h1.wf _ (atT_mem hl1)
  obtain ⟨y0, y1, y2, y3, y4⟩ := h1.at hl1
  rw [hfirst] at y0 y1 y2 y3 y4
  simp only [Nat.zero_mul, Nat.zero_add] at y0 y1 y2 y3 y4
  have hE0 : decide ((m.length : Int) = 0) = false := by simp; omega
  have hE1 : ((m.length : Int) == 0) = false := by rw [beq_eq_false_iff_ne]; omega
  obtain ⟨W0, hW0⟩ : ∃ W0, w.alloc (.cells #[.int .u64 0, .int .u64 0, .int .i64 0, .int .i64 0] 100) = W0 := ⟨_, rfl⟩
  have r0 : W0.heap[w.heap.size]? = some (.cells #[.int .u64 0, .int .u64 0, .int .i64 0, .int .i64 0] 100 (0, 0)) := by rw [← hW0]; exact heap_alloc_new _ _
  have zr0 : w.heap.size < W0.heap.size := by rw [← hW0]; simp
  rw [hW0] at hA hcall
  have HF := Lib.hid hfirst
  have HLM := Lib.hid hlm
  clear hfirst hlm
  go_enter Tryd.func55, Tryd.ntmps55
  go_wp2_with fail
  clear hW0
  refine hcall.mono ?_
  rintro e w' ⟨rfl, rfl⟩
  clear hcall
  have hH0 := h1.below hA
  have c0 := hH0.c0
  replace y0 := cell_later hA y0
  replace y1 := cell_later hA y1
  replace y2 := cell_later hA y2
  replace y3 := cell_later hA y3
  replace y4 := cell_later hA y4
  have hl1I : (0 : Int) < (s.ts.length : Int) := by omega
  obtain ⟨k, hk⟩ : ∃ k, s.ts.length - 1 = k := ⟨_, rfl⟩
  have hkI : (s.ts.length : Int) - 1 = (k : Int) := by omega
  have hw1 : IntKind.i64.wrap (k : Int) = (k : Int) := IntWalk.i64_in _ (by omega)
  have hk0 : (0 : Int) ≤ (k : Int) := by omega
  have hk1 : (k : Int) < (s.ts.length : Int) := by omega
  have hkl : k < s.ts.length := by omega
  have hkc : (k : Int) ≤ (cap : Int) := by
    rcases hH0.row.2 with ⟨q, _⟩ | ⟨g', cap', cur, q, _, _, q2, _⟩
    · cases q
    · cases q; omega
  obtain ⟨z0, z1, z2, z3, z4⟩ := hH0.at hkl
  have hwl : wfT (atT s.ts k) := h1.wf _ (atT_mem hkl)
  generalize hlx : atT s.ts k = l at *
  have HLX := Lib.hid hlx
  have HKK := Lib.hid hk
  clear hk hlx
  go_upto_region 3 with fail
  have hD := bl_dr (bl0 w')
  refine (wpIn_wide (n := 11)).1 ?_
  refine ordS_begin (S := (fun w'' : World => w''.cell? ⟨p, 0, none⟩ = some (.slice (some ⟨g, 0, none⟩) s.ts.length cap) ∧ w''.cell? ⟨g, 0, none⟩ = some (.int .i64 t.id) ∧ w''.cell? ⟨g, 1, none⟩ = some (.int .u64 t.F) ∧ w''.cell? ⟨g, 2, none⟩ = some (.int .u64 t.H) ∧ w''.cell? ⟨g, 3, none⟩ = some (.int .i64 t.Y) ∧ w''.cell? ⟨g, 4, none⟩ = some (.int .i64 t.X))) (by kernel_rfl) ⟨cell_later hD c0, cell_later hD y0, cell_later hD y1, cell_later hD y2, cell_later hD y3, cell_later hD y4⟩ (fun hH => ?_)
  first
    | (refine' ordS_take (i := 0) (oi := { dst := some 12, op := Op.move (Operand.tmp 0), type := 76, pos := _, after := #[], guard := none }) (v := _) rfl (by kernel_rfl) (by kernel_rfl) (by kernel_rfl) (by kernel_rfl) (fun _ _ _ h => h) (by assumption) (Or.inl ⟨by rfl, ?hy30⟩) (fun _ => rfl) ?rest30
       case hy30 => (intro w hSw; (try dsimp only at hSw); go_simp; try with_reducible rfl))
    | (refine ordS_take (i := 0) (oi := { dst := some 12, op := Op.move (Operand.tmp 0), type := 76, pos := _, after := #[], guard := none }) (v := undef) rfl (by kernel_rfl) (by kernel_rfl) (by kernel_rfl) (by kernel_rfl) (fun _ _ _ h => h) (by assumption) (Or.inr ⟨by rfl, rfl⟩) (fun _ => rfl) ?_)
  try simp only [Act.put, List.setIfInBounds_toArray, List.set_cons_zero, List.set_cons_succ]
  first
    | (refine' ordS_take (i := 1) (oi := { dst := some 13, op := Op.nilCheck (Operand.tmp 12), type := 0, pos := _, after := #[{ on := 0, ground := Ground.data }], guard := none }) (v := _) rfl (by kernel_rfl) (by kernel_rfl) (by kernel_rfl) (by kernel_rfl) (fun _ _ _ h => h) (by assumption) (Or.inl ⟨by rfl, ?hy31⟩) (fun _ => rfl) ?rest31
       case hy31 => (intro w hSw; (try dsimp only at hSw); go_simp; try with_reducible rfl))
    | (refine ordS_take (i := 1) (oi := { dst := some 13, op := Op.nilCheck (Operand.tmp 12), type := 0, pos := _, after := #[{ on := 0, ground := Ground.data }], guard := none }) (v := undef) rfl (by kernel_rfl) (by kernel_rfl) (by kernel_rfl) (by kernel_rfl) (fun _ _ _ h => h) (by assumption) (Or.inr ⟨by rfl, rfl⟩) (fun _ => rfl) ?_)
  try simp only [Act.put, List.setIfInBounds_toArray, List.set_cons_zero, List.set_cons_succ]
  first
    | (refine' ordS_take (i := 2) (oi := { dst := some 14, op := Op.fieldAddr 98 (Operand.tmp 13) 0, type := 0, pos := _, after := #[{ on := 1, ground := Ground.data }], guard := none }) (v := _) rfl (by kernel_rfl) (by kernel_rfl) (by kernel_rfl) (by kernel_rfl) (fun _ _ _ h => h) (by assumption) (Or.inl ⟨by rfl, ?hy32⟩) (fun _ => rfl) ?rest32
       case hy32 => (intro w hSw; (try dsimp only at hSw); go_simp; try with_reducible rfl))
    | (refine ordS_take (i := 2) (oi := { dst := some 14, op := Op.fieldAddr 98 (Operand.tmp 13) 0, type := 0, pos := _, after := #[{ on := 1, ground := Ground.data }], guard := none }) (v := undef) rfl (by kernel_rfl) (by kernel_rfl) (by kernel_rfl) (by kernel_rfl) (fun _ _ _ h => h) (by assumption) (Or.inr ⟨by rfl, rfl⟩) (fun _ => rfl) ?_)
  try simp only [Act.put, List.setIfInBounds_toArray, List.set_cons_zero, List.set_cons_succ]
  first
    | (refine' ordS_take (i := 3) (oi := { dst := some 15, op := Op.load 96 (Operand.tmp 14), type := 96, pos := _, after := #[{ on := 2, ground := Ground.data }], guard := none }) (v := _) rfl (by kernel_rfl) (by kernel_rfl) (by kernel_rfl) (by kernel_rfl) (fun _ _ _ h => h) (by assumption) (Or.inl ⟨by rfl, ?hy33⟩) (fun _ => rfl) ?rest33
       case hy33 => (intro w hSw; (try dsimp only at hSw); go_simp; try with_reducible rfl))
    | (refine ordS_take (i := 3) (oi := { dst := some 15, op := Op.load 96 (Operand.tmp 14), type := 96, pos := _, after := #[{ on := 2, ground := Ground.data }], guard := none }) (v := undef) rfl (by kernel_rfl) (by kernel_rfl) (by kernel_rfl) (by kernel_rfl) (fun _ _ _ h => h) (by assumption) (Or.inr ⟨by rfl, rfl⟩) (fun _ => rfl) ?_)
  try simp only [Act.put, List.setIfInBounds_toArray, List.set_cons_zero, List.set_cons_succ]
  first
    | (refine' ordS_take (i := 4) (oi := { dst := some 16, op := Op.indexAddr 96 (Operand.tmp 15) (Operand.const (Value.int IntKind.i64 0)), type := 0, pos := _, after := #[{ on := 3, ground := Ground.data }], guard := none }) (v := _) rfl (by kernel_rfl) (by kernel_rfl) (by kernel_rfl) (by kernel_rfl) (fun _ _ _ h => h) (by assumption) (Or.inl ⟨by rfl, ?hy34⟩) (fun _ => rfl) ?rest34
       case hy34 => (intro w hSw; (try dsimp only at hSw); go_simp; try with_reducible rfl))
    | (refine ordS_take (i := 4) (oi := { dst := some 16, op := Op.indexAddr 96 (Operand.tmp 15) (Operand.const (Value.int IntKind.i64 0)), type := 0, pos := _, after := #[{ on := 3, ground := Ground.data }], guard := none }) (v := undef) rfl (by kernel_rfl) (by kernel_rfl) (by kernel_rfl) (by kernel_rfl) (fun _ _ _ h => h) (by assumption) (Or.inr ⟨by rfl, rfl⟩) (fun _ => rfl) ?_)
  try simp only [Act.put, List.setIfInBounds_toArray, List.set_cons_zero, List.set_cons_succ]
  first
    | (refine' ordS_take (i := 5) (oi := { dst := some 17, op := Op.load 126 (Operand.tmp 16), type := 126, pos := _, after := #[{ on := 4, ground := Ground.data }], guard := none }) (v := _) rfl (by kernel_rfl) (by kernel_rfl) (by kernel_rfl) (by kernel_rfl) (fun _ _ _ h => h) (by assumption) (Or.inl ⟨by rfl, ?hy35⟩) (fun _ => rfl) ?rest35
       case hy35 => (intro w hSw; (try dsimp only at hSw); go_simp; try with_reducible rfl))
    | (refine ordS_take (i := 5) (oi := { dst := some 17, op := Op.load 126 (Operand.tmp 16), type := 126, pos := _, after := #[{ on := 4, ground := Ground.data }], guard := none }) (v := undef) rfl (by kernel_rfl) (by kernel_rfl) (by kernel_rfl) (by kernel_rfl) (fun _ _ _ h => h) (by assumption) (Or.inr ⟨by rfl, rfl⟩) (fun _ => rfl) ?_)
  try simp only [Act.put, List.setIfInBounds_toArray, List.set_cons_zero, List.set_cons_succ]
  first
    | (refine' ordS_take (i := 6) (oi := { dst := some 18, op := Op.move (Operand.tmp 0), type := 76, pos := _, after := #[], guard := none }) (v := _) rfl (by kernel_rfl) (by kernel_rfl) (by kernel_rfl) (by kernel_rfl) (fun _ _ _ h => h) (by assumption) (Or.inl ⟨by rfl, ?hy36⟩) (fun _ => rfl) ?rest36
       case hy36 => (intro w hSw; (try dsimp only at hSw); go_simp; try with_reducible rfl))
    | (refine ordS_take (i := 6) (oi := { dst := some 18, op := Op.move (Operand.tmp 0), type := 76, pos := _, after := #[], guard := none }) (v := undef) rfl (by kernel_rfl) (by kernel_rfl) (by kernel_rfl) (by kernel_rfl) (fun _ _ _ h => h) (by assumption) (Or.inr ⟨by rfl, rfl⟩) (fun _ => rfl) ?_)
  try simp only [Act.put, List.setIfInBounds_toArray, List.set_cons_zero, List.set_cons_succ]
  first
    | (refine' ordS_take (i := 7) (oi := { dst := some 19, op := Op.nilCheck (Operand.tmp 18), type := 0, pos := _, after := #[{ on := 6, ground := Ground.data }], guard := none }) (v := _) rfl (by kernel_rfl) (by kernel_rfl) (by kernel_rfl) (by kernel_rfl) (fun _ _ _ h => h) (by assumption) (Or.inl ⟨by rfl, ?hy37⟩) (fun _ => rfl) ?rest37
       case hy37 => (intro w hSw; (try dsimp only at hSw); go_simp; try with_reducible rfl))
    | (refine ordS_take (i := 7) (oi := { dst := some 19, op := Op.nilCheck (Operand.tmp 18), type := 0, pos := _, after := #[{ on := 6, ground := Ground.data }], guard := none }) (v := undef) rfl (by kernel_rfl) (by kernel_rfl) (by kernel_rfl) (by kernel_rfl) (fun _ _ _ h => h) (by assumption) (Or.inr ⟨by rfl, rfl⟩) (fun _ => rfl) ?_)
  try simp only [Act.put, List.setIfInBounds_toArray, List.set_cons_zero, List.set_cons_succ]
  first
    | (refine' ordS_take (i := 8) (oi := { dst := some 20, op := Op.fieldAddr 98 (Operand.tmp 19) 0, type := 0, pos := _, after := #[{ on := 7, ground := Ground.data }], guard := none }) (v := _) rfl (by kernel_rfl) (by kernel_rfl) (by kernel_rfl) (by kernel_rfl) (fun _ _ _ h => h) (by assumption) (Or.inl ⟨by rfl, ?hy38⟩) (fun _ => rfl) ?rest38
       case hy38 => (intro w hSw; (try dsimp only at hSw); go_simp; try with_reducible rfl))
    | (refine ordS_take (i := 8) (oi := { dst := some 20, op := Op.fieldAddr 98 (Operand.tmp 19) 0, type := 0, pos := _, after := #[{ on := 7, ground := Ground.data }], guard := none }) (v := undef) rfl (by kernel_rfl) (by kernel_rfl) (by kernel_rfl) (by kernel_rfl) (fun _ _ _ h => h) (by assumption) (Or.inr ⟨by rfl, rfl⟩) (fun _ => rfl) ?_)
  try simp only [Act.put, List.setIfInBounds_toArray, List.set_cons_zero, List.set_cons_succ]
  first
    | (refine' ordS_take (i := 9) (oi := { dst := some 21, op := Op.load 96 (Operand.tmp 20), type := 96, pos := _, after := #[{ on := 8, ground := Ground.data }], guard := none }) (v := _) rfl (by kernel_rfl) (by kernel_rfl) (by kernel_rfl) (by kernel_rfl) (fun _ _ _ h => h) (by assumption) (Or.inl ⟨by rfl, ?hy39⟩) (fun _ => rfl) ?rest39
       case hy39 => (intro w hSw; (try dsimp only at hSw); go_simp; try with_reducible rfl))
    | (refine ordS_take (i := 9) (oi := { dst := some 21, op := Op.load 96 (Operand.tmp 20), type := 96, pos := _, after := #[{ on := 8, ground := Ground.data }], guard := none }) (v := undef) rfl (by kernel_rfl) (by kernel_rfl) (by kernel_rfl) (by kernel_rfl) (fun _ _ _ h => h) (by assumption) (Or.inr ⟨by rfl, rfl⟩) (fun _ => rfl) ?_)
  try simp only [Act.put, List.setIfInBounds_toArray, List.set_cons_zero, List.set_cons_succ]
  first
    | (refine' ordS_take (i := 10) (oi := { dst := some 22, op := Op.call { callee := Callee.builtin Builtin.len, args := #[Operand.tmp 21], argTypes := #[96] }, type := 3, pos := _, after := #[{ on := 9, ground := Ground.data }], guard := none }) (v := _) rfl (by kernel_rfl) (by kernel_rfl) (by kernel_rfl) (by kernel_rfl) (fun _ _ _ h => h) (by assumption) (Or.inl ⟨by rfl, ?hy40⟩) (fun _ => rfl) ?rest40
       case hy40 => (intro w hSw; (try dsimp only at hSw); go_simp; try with_reducible rfl))
    | (refine ordS_take (i := 10) (oi := { dst := some 22, op := Op.call { callee := Callee.builtin Builtin.len, args := #[Operand.tmp 21], argTypes := #[96] }, type := 3, pos := _, after := #[{ on := 9, ground := Ground.data }], guard := none }) (v := undef) rfl (by kernel_rfl) (by kernel_rfl) (by kernel_rfl) (by kernel_rfl) (fun _ _ _ h => h) (by assumption) (Or.inr ⟨by rfl, rfl⟩) (fun _ => rfl) ?_)
  try simp only [Act.put, List.setIfInBounds_toArray, List.set_cons_zero, List.set_cons_succ]
  first
    | (refine' ordS_take (i := 11) (oi := { dst := some 23, op := Op.binOp BinOp.sub 3 (Operand.tmp 22) (Operand.const (Value.int IntKind.i64 1)) 3, type := 3, pos := _, after := #[{ on := 10, ground := Ground.data }, { on := 13, ground := Ground.gcOnly Departure.lateStores }], guard := none }) (v := _) rfl (by kernel_rfl) (by kernel_rfl) (by kernel_rfl) (by kernel_rfl) (fun _ _ _ h => h) (by assumption) (Or.inl ⟨by rfl, ?hy41⟩) (fun _ => rfl) ?rest41
       case hy41 => (intro w hSw; (try dsimp only at hSw); go_simp; try with_reducible rfl))
    | (refine ordS_take (i := 11) (oi := { dst := some 23, op := Op.binOp BinOp.sub 3 (Operand.tmp 22) (Operand.const (Value.int IntKind.i64 1)) 3, type := 3, pos := _, after := #[{ on := 10, ground := Ground.data }, { on := 13, ground := Ground.gcOnly Departure.lateStores }], guard := none }) (v := undef) rfl (by kernel_rfl) (by kernel_rfl) (by kernel_rfl) (by kernel_rfl) (fun _ _ _ h => h) (by assumption) (Or.inr ⟨by rfl, rfl⟩) (fun _ => rfl) ?_)
  try simp only [Act.put, List.setIfInBounds_toArray, List.set_cons_zero, List.set_cons_succ]
  refine ordS_one (i := 12) (o := { dst := some 5, op := Op.alloc 126, type := 0, pos := _, after := #[], guard := none }) (by kernel_rfl) rfl (by rfl) (fun K hK => ?_)
  go_simp
  refine hK _ _ ⟨cell_later (bl_al hD _) c0, cell_later (bl_al hD _) y0, cell_later (bl_al hD _) y1, cell_later (bl_al hD _) y2, cell_later (bl_al hD _) y3, cell_later (bl_al hD _) y4⟩ ?_
  clear hK K hH
  try simp only [Act.put, List.setIfInBounds_toArray, List.set_cons_zero, List.set_cons_succ]
  refine ordS_one (i := 13) (o := { dst := none, op := Op.store 126 (Operand.tmp 5) (Operand.tmp 17), type := 0, pos := _, after := #[{ on := 12, ground := Ground.data }, { on := 5, ground := Ground.data }, { on := 0, ground := Ground.phase }, { on := 1, ground := Ground.phase }, { on := 2, ground := Ground.phase }, { on := 3, ground := Ground.phase }, { on := 4, ground := Ground.phase }, { on := 5, ground := Ground.phase }, { on := 6, ground := Ground.textOnly Departure.lateStores }, { on := 7, ground := Ground.textOnly Departure.lateStores }, { on := 8, ground := Ground.textOnly Departure.lateStores }, { on := 9, ground := Ground.textOnly Departure.lateStores }, { on := 10, ground := Ground.textOnly Departure.lateStoresUnsure }, { on := 11, ground := Ground.textOnly Departure.lateStores }, { on := 12, ground := Ground.phase }], guard := none }) (by kernel_rfl) rfl (by rfl) (fun K hK => ?_)
  go_simp
  have hB : Below w'.heap.size w' (w'.alloc (.cells #[.int .i64 t.id, .int .u64 t.F, .int .u64 t.H, .int .i64 t.Y, .int .i64 t.X] 126)).drew := bl_dr (bl_al (bl0 _) _)
  have b1 : BoxT (w'.alloc (.cells #[.int .i64 t.id, .int .u64 t.F, .int .u64 t.H, .int .i64 t.Y, .int .i64 t.X] 126)).drew w'.heap.size t := ⟨by simp [go_sem], by simp [go_sem], by simp [go_sem], by simp [go_sem], by simp [go_sem]⟩
  obtain ⟨W2, hW2⟩ : ∃ W2, (w'.alloc (.cells #[.int .i64 t.id, .int .u64 t.F, .int .u64 t.H, .int .i64 t.Y, .int .i64 t.X] 126)).drew = W2 := ⟨_, rfl⟩
  rw [hW2] at hB b1 ⊢
  refine hK _ _ ⟨cell_later hB c0, cell_later hB y0, cell_later hB y1, cell_later hB y2, cell_later hB y3, cell_later hB y4⟩ ?_
  clear hK K hW2
  try simp only [Act.put, List.setIfInBounds_toArray, List.set_cons_zero, List.set_cons_succ]
  refine ordS_one (i := 14) (o := { dst := some 6, op := Op.assign (Operand.tmp 23), type := 3, pos := _, after := #[{ on := 11, ground := Ground.data }, { on := 13, ground := Ground.chain }, { on := 0, ground := Ground.phase }, { on := 1, ground := Ground.phase }, { on := 2, ground := Ground.phase }, { on := 3, ground := Ground.phase }, { on := 4, ground := Ground.phase }, { on := 5, ground := Ground.phase }, { on := 6, ground := Ground.phase }, { on := 7, ground := Ground.phase }, { on := 8, ground := Ground.phase }, { on := 9, ground := Ground.phase }, { on := 10, ground := Ground.phase }, { on := 11, ground := Ground.phase }, { on := 12, ground := Ground.phase }, { on := 13, ground := Ground.phase }], guard := none }) (by kernel_rfl) rfl (by rfl) (fun K hK => ?_)
  go_simp
  refine hK _ _ ⟨cell_later hB c0, cell_later hB y0, cell_later hB y1, cell_later hB y2, cell_later hB y3, cell_later hB y4⟩ ?_
  clear hK K
  try simp only [Act.put, List.setIfInBounds_toArray, List.set_cons_zero, List.set_cons_succ]
  refine ordS_done (by kernel_rfl) ?_
  replace c0 := cell_later hB c0
  replace z0 := cell_later hB z0
  replace z1 := cell_later hB z1
  replace z2 := cell_later hB z2
  replace z3 := cell_later hB z3
  replace z4 := cell_later hB z4
  have hH2 := hH0.below hB
  have f0 := hH2.fz 0
  have zc0 := blk_lt c0
  have r2 := (hB.block _ (by omega)).trans r0
  have hA2 := bl_tr hA hB
  have zw := hA2.size
  have zw1 := hA.size
  have zb1 := blk_lt b1.t0
  clear hB hD y0 y1 y2 y3 y4 hA r0
  go_upto_region 6 with fail
  obtain ⟨hH3, k3⟩ := heap_cut hH2 k (by omega)
  obtain ⟨W3, hW3⟩ : ∃ W3, W2.setCell ⟨p, 0, none⟩ (.slice (some ⟨g, 0, none⟩) k cap) = W3 := ⟨_, rfl⟩
  have zW3 : W2.heap.size = W3.heap.size := by rw [← hW3]; simp
  rw [hW3] at hH3 k3 ⊢
  have hpw := (h1.lt p (.inl rfl)).2
  have b13 := b1.kept k3 (show w'.heap.size ≠ p by omega)
  have r3 := (k3.2 _ (by omega) (show w.heap.size ≠ p by omega)).trans r2
  have hB4 := bl_al (bl0 W3) (.cells #[.int .i64 l.id, .int .u64 l.F, .int .u64 l.H, .int .i64 l.Y, .int .i64 l.X] 126)
  have b2 : BoxT (W3.alloc (.cells #[.int .i64 l.id, .int .u64 l.F, .int .u64 l.H, .int .i64 l.Y, .int .i64 l.X] 126)) W3.heap.size l := ⟨by simp [go_sem], by simp [go_sem], by simp [go_sem], by simp [go_sem], by simp [go_sem]⟩
  obtain ⟨W4, hW4⟩ : ∃ W4, W3.alloc (.cells #[.int .i64 l.id, .int .u64 l.F, .int .u64 l.H, .int .i64 l.Y, .int .i64 l.X] 126) = W4 := ⟨_, rfl⟩
  rw [hW4] at hB4 b2 ⊢
  have k4 : KeptS (HB p b (.slice (some ⟨g, 0, none⟩) s.ts.length cap)) w W4 := (KeptS.of_below hA2).trans ((k3.below hB4).wide (fun x e => .inl e)) (fun _ _ h => h)
  have hH4 := hH3.below hB4
  have b14 := b13.below hB4
  have r4 := (hB4.block _ (by omega)).trans r3
  have hz4 := hB4.size
  clear hW3 hW4 k3 b1 b13 r2 r3 hB4 hH3 hH2 c0 f0 z0 z1 z2 z3 z4
  have c1 := hH4.c1
  have t0 := b14.t0
  have hD := bl_dr (bl0 W4)
  have hH4D := hH4.below hD
  have hsn : s.f t.id = some 0 := by rw [← HF.out]; exact h2.pf.pl 0 hl1
  obtain ⟨W5, hrun, hpl, hturn⟩ := hH4D.pl.drop hwt 0
  rw [hsn] at hpl
  simp only [Option.isSome_some, if_true] at hpl
  obtain ⟨hH5, k5⟩ := hH4D.setF hpl hturn
  have k5' : KeptS (HB p b (.slice (some ⟨g, 0, none⟩) s.ts.length cap)) W4 W5 := (KeptS.of_below hD).trans k5 (fun x _ e => e)
  have hnb : ∀ x, w.heap.size ≤ x → ¬ HB p b (.slice (some ⟨g, 0, none⟩) s.ts.length cap) x := fun x hx e => by have := (h1.lt x e).2; omega
  have b25 := b2.kept k5' (hnb _ (by omega))
  have b15 := b14.kept k5' (hnb _ (by omega))
  have r5 := (k5'.2 _ (by omega) (hnb _ (Nat.le_refl _))).trans r4
  have k5a := k4.trans k5' (fun _ _ h => h)
  have hz5 := k5'.1.size
  have hS5 : (fun w'' : World => w''.cell? ⟨p, 1, none⟩ = some (.map (some b)) ∧ w''.cell? ⟨w'.heap.size, 0, none⟩ = some (.int .i64 t.id)) W5 := ⟨hH5.c1, b15.t0⟩
  clear b2 b14 r4 k4 k5 k5' hH4 hH4D hpl hturn hsn
  refine (wpIn_wide (n := 11)).1 ?_
  refine ordS_begin (S := (fun w'' : World => w''.cell? ⟨p, 1, none⟩ = some (.map (some b)) ∧ w''.cell? ⟨w'.heap.size, 0, none⟩ = some (.int .i64 t.id))) (by kernel_rfl) ⟨cell_later hD c1, cell_later hD t0⟩ (fun hH => ?_)
  first
    | (refine' ordS_take (i := 0) (oi := { dst := some 40, op := Op.move (Operand.tmp 0), type := 76, pos := _, after := #[], guard := none }) (v := _) rfl (by kernel_rfl) (by kernel_rfl) (by kernel_rfl) (by kernel_rfl) (fun _ _ _ h => h) (by assumption) (Or.inl ⟨by rfl, ?hy42⟩) (fun _ => rfl) ?rest42
       case hy42 => (intro w hSw; (try dsimp only at hSw); go_simp; try with_reducible rfl))
    | (refine ordS_take (i := 0) (oi := { dst := some 40, op := Op.move (Operand.tmp 0), type := 76, pos := _, after := #[], guard := none }) (v := undef) rfl (by kernel_rfl) (by kernel_rfl) (by kernel_rfl) (by kernel_rfl) (fun _ _ _ h => h) (by assumption) (Or.inr ⟨by rfl, rfl⟩) (fun _ => rfl) ?_)
  try simp only [Act.put, List.setIfInBounds_toArray, List.set_cons_zero, List.set_cons_succ]
  first
    | (refine' ordS_take (i := 1) (oi := { dst := some 41, op := Op.nilCheck (Operand.tmp 40), type := 0, pos := _, after := #[{ on := 0, ground := Ground.data }], guard := none }) (v := _) rfl (by kernel_rfl) (by kernel_rfl) (by kernel_rfl) (by kernel_rfl) (fun _ _ _ h => h) (by assumption) (Or.inl ⟨by rfl, ?hy43⟩) (fun _ => rfl) ?rest43
       case hy43 => (intro w hSw; (try dsimp only at hSw); go_simp; try with_reducible rfl))
    | (refine ordS_take (i := 1) (oi := { dst := some 41, op := Op.nilCheck (Operand.tmp 40), type := 0, pos := _, after := #[{ on := 0, ground := Ground.data }], guard := none }) (v := undef) rfl (by kernel_rfl) (by kernel_rfl) (by kernel_rfl) (by kernel_rfl) (fun _ _ _ h => h) (by assumption) (Or.inr ⟨by rfl, rfl⟩) (fun _ => rfl) ?_)
  try simp only [Act.put, List.setIfInBounds_toArray, List.set_cons_zero, List.set_cons_succ]
  first
    | (refine' ordS_take (i := 2) (oi := { dst := some 42, op := Op.fieldAddr 98 (Operand.tmp 41) 1, type := 0, pos := _, after := #[{ on := 1, ground := Ground.data }], guard := none }) (v := _) rfl (by kernel_rfl) (by kernel_rfl) (by kernel_rfl) (by kernel_rfl) (fun _ _ _ h => h) (by assumption) (Or.inl ⟨by rfl, ?hy44⟩) (fun _ => rfl) ?rest44
       case hy44 => (intro w hSw; (try dsimp only at hSw); go_simp; try with_reducible rfl))
    | (refine ordS_take (i := 2) (oi := { dst := some 42, op := Op.fieldAddr 98 (Operand.tmp 41) 1, type := 0, pos := _, after := #[{ on := 1, ground := Ground.data }], guard := none }) (v := undef) rfl (by kernel_rfl) (by kernel_rfl) (by kernel_rfl) (by kernel_rfl) (fun _ _ _ h => h) (by assumption) (Or.inr ⟨by rfl, rfl⟩) (fun _ => rfl) ?_)
  try simp only [Act.put, List.setIfInBounds_toArray, List.set_cons_zero, List.set_cons_succ]
  first
    | (refine' ordS_take (i := 3) (oi := { dst := some 43, op := Op.load 95 (Operand.tmp 42), type := 95, pos := _, after := #[{ on := 2, ground := Ground.data }], guard := none }) (v := _) rfl (by kernel_rfl) (by kernel_rfl) (by kernel_rfl) (by kernel_rfl) (fun _ _ _ h => h) (by assumption) (Or.inl ⟨by rfl, ?hy45⟩) (fun _ => rfl) ?rest45
       case hy45 => (intro w hSw; (try dsimp only at hSw); go_simp; try with_reducible rfl))
    | (refine ordS_take (i := 3) (oi := { dst := some 43, op := Op.load 95 (Operand.tmp 42), type := 95, pos := _, after := #[{ on := 2, ground := Ground.data }], guard := none }) (v := undef) rfl (by kernel_rfl) (by kernel_rfl) (by kernel_rfl) (by kernel_rfl) (fun _ _ _ h => h) (by assumption) (Or.inr ⟨by rfl, rfl⟩) (fun _ => rfl) ?_)
  try simp only [Act.put, List.setIfInBounds_toArray, List.set_cons_zero, List.set_cons_succ]
  first
    | (refine' ordS_take (i := 4) (oi := { dst := some 44, op := Op.fieldAddr 126 (Operand.tmp 5) 0, type := 0, pos := _, after := #[], guard := none }) (v := _) rfl (by kernel_rfl) (by kernel_rfl) (by kernel_rfl) (by kernel_rfl) (fun _ _ _ h => h) (by assumption) (Or.inl ⟨by rfl, ?hy46⟩) (fun _ => rfl) ?rest46
       case hy46 => (intro w hSw; (try dsimp only at hSw); go_simp; try with_reducible rfl))
    | (refine ordS_take (i := 4) (oi := { dst := some 44, op := Op.fieldAddr 126 (Operand.tmp 5) 0, type := 0, pos := _, after := #[], guard := none }) (v := undef) rfl (by kernel_rfl) (by kernel_rfl) (by kernel_rfl) (by kernel_rfl) (fun _ _ _ h => h) (by assumption) (Or.inr ⟨by rfl, rfl⟩) (fun _ => rfl) ?_)
  try simp only [Act.put, List.setIfInBounds_toArray, List.set_cons_zero, List.set_cons_succ]
  first
    | (refine' ordS_take (i := 5) (oi := { dst := some 45, op := Op.load 3 (Operand.tmp 44), type := 3, pos := _, after := #[{ on := 4, ground := Ground.data }], guard := none }) (v := _) rfl (by kernel_rfl) (by kernel_rfl) (by kernel_rfl) (by kernel_rfl) (fun _ _ _ h => h) (by assumption) (Or.inl ⟨by rfl, ?hy47⟩) (fun _ => rfl) ?rest47
       case hy47 => (intro w hSw; (try dsimp only at hSw); go_simp; try with_reducible rfl))
    | (refine ordS_take (i := 5) (oi := { dst := some 45, op := Op.load 3 (Operand.tmp 44), type := 3, pos := _, after := #[{ on := 4, ground := Ground.data }], guard := none }) (v := undef) rfl (by kernel_rfl) (by kernel_rfl) (by kernel_rfl) (by kernel_rfl) (fun _ _ _ h => h) (by assumption) (Or.inr ⟨by rfl, rfl⟩) (fun _ => rfl) ?_)
  try simp only [Act.put, List.setIfInBounds_toArray, List.set_cons_zero, List.set_cons_succ]
  refine ordS_one (i := 6) (o := { dst := none, op := Op.call { callee := Callee.builtin Builtin.delete, args := #[Operand.tmp 43, Operand.tmp 45], argTypes := #[95, 3] }, type := 0, pos := _, after := #[{ on := 3, ground := Ground.data }, { on := 5, ground := Ground.data }], guard := none }) (by kernel_rfl) rfl (by rfl) (fun K hK => ?_)
  go_simp
  refine hK _ _ hS5 ?_
  clear hK K hS5 hrun hH hD
  try simp only [Act.put, List.setIfInBounds_toArray, List.set_cons_zero, List.set_cons_succ]
  refine ordS_done (by kernel_rfl) ?_
  have hlt : (s.ts.take k).length = k := by rw [List.length_take]; omega
  have hnk : w'.heap.size ≠ w.heap.size := by omega
  have HB0 := Lib.hid (show HB p b (.slice (some ⟨g, 0, none⟩) k cap) = HB p b (.slice (some ⟨g, 0, none⟩) s.ts.length cap) from rfl)
  have hw5 : w'.heap.size < W5.heap.size := by omega
  clear zW3 c1 t0
  by_cases hkz : k = 0
  · subst hkz
    have hps : popS s = ⟨s.ts.take 0, upd s.f t.id none, s.n - 1⟩ := by unfold popS; rw [if_pos HKK.out, HKK.out, HF.out]
    have HPS := Lib.hid hps
    have HH5 := Lib.hid hH5
    have K5 := Lib.hid k5a
    clear hps hH5 k5a hlt b25
    generalize W5 = W7 at *
    go_upto_region 9 with fail
    have hnb7 : ¬ HB p b (.slice (some ⟨g, 0, none⟩) s.ts.length cap) w.heap.size := hnb _ (Nat.le_refl _)
    have hD := bl_dr (bl0 W7)
    have b7 := b15
    have r7 := r5
    clear b15 r5
    have rd := (hD.block _ (Array.getElem?_eq_some_iff.1 r7).1).trans r7
    obtain ⟨W8, hW8⟩ : ∃ W8, W7.drew = W8 := ⟨_, rfl⟩
    have b8 := b7.below hD
    rw [hW8] at rd b8
    have q0 : W8.cell? ⟨w.heap.size, 0, none⟩ = some (.int .u64 0) := by simp [World.cell?, rd]
    have q1 : W8.cell? ⟨w.heap.size, 1, none⟩ = some (.int .u64 0) := by simp [World.cell?, rd]
    have q2 : W8.cell? ⟨w.heap.size, 2, none⟩ = some (.int .i64 0) := by simp [World.cell?, rd]
    have q3 : W8.cell? ⟨w.heap.size, 3, none⟩ = some (.int .i64 0) := by simp [World.cell?, rd]
    have f0 : W8.frozen? ⟨w.heap.size, 0, none⟩ = false := by simp [World.frozen?, rd]
    have f1 : W8.frozen? ⟨w.heap.size, 1, none⟩ = false := by simp [World.frozen?, rd]
    have f2 : W8.frozen? ⟨w.heap.size, 2, none⟩ = false := by simp [World.frozen?, rd]
    have f3 : W8.frozen? ⟨w.heap.size, 3, none⟩ = false := by simp [World.frozen?, rd]
    have k8 : KeptS (fun x => x = w.heap.size) W7 W8 := by rw [← hW8]; exact .of_below hD
    obtain ⟨t0, t1, t2, t3, t4⟩ := b8
    refine (wpIn_wide (n := 11)).1 ?_
    refine ordS_begin (S := (fun w'' : World => w''.cell? ⟨w'.heap.size, 0, none⟩ = some (.int .i64 t.id) ∧ w''.cell? ⟨w'.heap.size, 1, none⟩ = some (.int .u64 t.F) ∧ w''.cell? ⟨w'.heap.size, 2, none⟩ = some (.int .u64 t.H) ∧ w''.cell? ⟨w'.heap.size, 3, none⟩ = some (.int .i64 t.Y) ∧ w''.cell? ⟨w'.heap.size, 4, none⟩ = some (.int .i64 t.X))) (by kernel_rfl) (by rw [hW8]; exact ⟨t0, t1, t2, t3, t4⟩) (fun hH => ?_)
    first
      | (refine' ordS_take (i := 0) (oi := { dst := some 51, op := Op.fieldAddr 126 (Operand.tmp 5) 0, type := 0, pos := _, after := #[], guard := none }) (v := _) rfl (by kernel_rfl) (by kernel_rfl) (by kernel_rfl) (by kernel_rfl) (fun _ _ _ h => h) (by assumption) (Or.inl ⟨by rfl, ?hy48⟩) (fun _ => rfl) ?rest48
         case hy48 => (intro w hSw; (try dsimp only at hSw); go_simp; try with_reducible rfl))
      | (refine ordS_take (i := 0) (oi := { dst := some 51, op := Op.fieldAddr 126 (Operand.tmp 5) 0, type := 0, pos := _, after := #[], guard := none }) (v := undef) rfl (by kernel_rfl) (by kernel_rfl) (by kernel_rfl) (by kernel_rfl) (fun _ _ _ h => h) (by assumption) (Or.inr ⟨by rfl, rfl⟩) (fun _ => rfl) ?_)
    try simp only [Act.put, List.setIfInBounds_toArray, List.set_cons_zero, List.set_cons_succ]
    first
      | (refine' ordS_take (i := 1) (oi := { dst := some 52, op := Op.load 3 (Operand.tmp 51), type := 3, pos := _, after := #[{ on := 0, ground := Ground.data }], guard := none }) (v := _) rfl (by kernel_rfl) (by kernel_rfl) (by kernel_rfl) (by kernel_rfl) (fun _ _ _ h => h) (by assumption) (Or.inl ⟨by rfl, ?hy49⟩) (fun _ => rfl) ?rest49
         case hy49 => (intro w hSw; (try dsimp only at hSw); go_simp; try with_reducible rfl))
      | (refine ordS_take (i := 1) (oi := { dst := some 52, op := Op.load 3 (Operand.tmp 51), type := 3, pos := _, after := #[{ on := 0, ground := Ground.data }], guard := none }) (v := undef) rfl (by kernel_rfl) (by kernel_rfl) (by kernel_rfl) (by kernel_rfl) (fun _ _ _ h => h) (by assumption) (Or.inr ⟨by rfl, rfl⟩) (fun _ => rfl) ?_)
    try simp only [Act.put, List.setIfInBounds_toArray, List.set_cons_zero, List.set_cons_succ]
    first
      | (refine' ordS_take (i := 2) (oi := { dst := some 53, op := Op.fieldAddr 126 (Operand.tmp 5) 1, type := 0, pos := _, after := #[{ on := 4, ground := Ground.gcOnly Departure.lateStores }], guard := none }) (v := _) rfl (by kernel_rfl) (by kernel_rfl) (by kernel_rfl) (by kernel_rfl) (fun _ _ _ h => h) (by assumption) (Or.inl ⟨by rfl, ?hy50⟩) (fun _ => rfl) ?rest50
         case hy50 => (intro w hSw; (try dsimp only at hSw); go_simp; try with_reducible rfl))
      | (refine ordS_take (i := 2) (oi := { dst := some 53, op := Op.fieldAddr 126 (Operand.tmp 5) 1, type := 0, pos := _, after := #[{ on := 4, ground := Ground.gcOnly Departure.lateStores }], guard := none }) (v := undef) rfl (by kernel_rfl) (by kernel_rfl) (by kernel_rfl) (by kernel_rfl) (fun _ _ _ h => h) (by assumption) (Or.inr ⟨by rfl, rfl⟩) (fun _ => rfl) ?_)
    try simp only [Act.put, List.setIfInBounds_toArray, List.set_cons_zero, List.set_cons_succ]
    first
      | (refine' ordS_take (i := 3) (oi := { dst := some 54, op := Op.load 100 (Operand.tmp 53), type := 100, pos := _, after := #[{ on := 2, ground := Ground.data }, { on := 4, ground := Ground.gcOnly Departure.lateStores }], guard := none }) (v := _) rfl (by kernel_rfl) (by kernel_rfl) (by kernel_rfl) (by kernel_rfl) (fun _ _ _ h => h) (by assumption) (Or.inl ⟨by rfl, ?hy51⟩) (fun _ => rfl) ?rest51
         case hy51 => (intro w hSw; (try dsimp only at hSw); go_simp; try with_reducible rfl))
      | (refine ordS_take (i := 3) (oi := { dst := some 54, op := Op.load 100 (Operand.tmp 53), type := 100, pos := _, after := #[{ on := 2, ground := Ground.data }, { on := 4, ground := Ground.gcOnly Departure.lateStores }], guard := none }) (v := undef) rfl (by kernel_rfl) (by kernel_rfl) (by kernel_rfl) (by kernel_rfl) (fun _ _ _ h => h) (by assumption) (Or.inr ⟨by rfl, rfl⟩) (fun _ => rfl) ?_)
    try simp only [Act.put, List.setIfInBounds_toArray, List.set_cons_zero, List.set_cons_succ]
    first
      | (refine' ordS_take (i := 4) (oi := { dst := some 2, op := Op.assign (Operand.tmp 52), type := 3, pos := _, after := #[{ on := 1, ground := Ground.data }, { on := 0, ground := Ground.phase }, { on := 1, ground := Ground.phase }, { on := 2, ground := Ground.textOnly Departure.lateStores }, { on := 3, ground := Ground.textOnly Departure.lateStores }], guard := none }) (v := _) rfl (by kernel_rfl) (by kernel_rfl) (by kernel_rfl) (by kernel_rfl) (fun _ _ _ h => h) (by assumption) (Or.inl ⟨by rfl, ?hy52⟩) (fun _ => rfl) ?rest52
         case hy52 => (intro w hSw; (try dsimp only at hSw); go_simp; try with_reducible rfl))
      | (refine ordS_take (i := 4) (oi := { dst := some 2, op := Op.assign (Operand.tmp 52), type := 3, pos := _, after := #[{ on := 1, ground := Ground.data }, { on := 0, ground := Ground.phase }, { on := 1, ground := Ground.phase }, { on := 2, ground := Ground.textOnly Departure.lateStores }, { on := 3, ground := Ground.textOnly Departure.lateStores }], guard := none }) (v := undef) rfl (by kernel_rfl) (by kernel_rfl) (by kernel_rfl) (by kernel_rfl) (fun _ _ _ h => h) (by assumption) (Or.inr ⟨by rfl, rfl⟩) (fun _ => rfl) ?_)
    try simp only [Act.put, List.setIfInBounds_toArray, List.set_cons_zero, List.set_cons_succ]
    rw [hW8] at hH ⊢
    clear hW8
    refine ordS_one (i := 5) (o := { dst := none, op := Op.store 100 (Operand.tmp 3) (Operand.tmp 54), type := 0, pos := _, after := #[{ on := 3, ground := Ground.data }, { on := 4, ground := Ground.chain }, { on := 0, ground := Ground.phase }, { on := 1, ground := Ground.phase }, { on := 2, ground := Ground.phase }, { on := 3, ground := Ground.phase }, { on := 4, ground := Ground.phase }], guard := none }) (by kernel_rfl) rfl (by rfl) (fun K hK => ?_)
    go_simp
    have e0 : ((((W8.setCell ⟨w.heap.size, 0, none⟩ (.int .u64 t.F)).setCell ⟨w.heap.size, 1, none⟩ (.int .u64 t.H)).setCell ⟨w.heap.size, 2, none⟩ (.int .i64 t.Y)).setCell ⟨w.heap.size, 3, none⟩ (.int .i64 t.X)).heap[w.heap.size]? = some (.cells #[.int .u64 t.F, .int .u64 t.H, .int .i64 t.Y, .int .i64 t.X] 100 (0, 0)) := by
      have a0 := hset_same W8 w.heap.size 0 _ 100 (.int .u64 t.F) rd
      have a1 := hset_same _ w.heap.size 1 _ 100 (.int .u64 t.H) a0
      have a2 := hset_same _ w.heap.size 2 _ 100 (.int .i64 t.Y) a1
      have a3 := hset_same _ w.heap.size 3 _ 100 (.int .i64 t.X) a2
      simpa using a3
    have k9 : KeptS (fun x => x = w.heap.size) W8 ((((W8.setCell ⟨w.heap.size, 0, none⟩ (.int .u64 t.F)).setCell ⟨w.heap.size, 1, none⟩ (.int .u64 t.H)).setCell ⟨w.heap.size, 2, none⟩ (.int .i64 t.Y)).setCell ⟨w.heap.size, 3, none⟩ (.int .i64 t.X)) := by
      have a0 := hgrown_set W8 w.heap.size 0 (.int .u64 t.F)
      have a1 := a0.trans (hgrown_set _ w.heap.size 1 (.int .u64 t.H))
      have a2 := a1.trans (hgrown_set _ w.heap.size 2 (.int .i64 t.Y))
      have a3 := a2.trans (hgrown_set _ w.heap.size 3 (.int .i64 t.X))
      exact .of_grown a3 (fun x e _ => by cases e; rfl)
    obtain ⟨W9, hW9⟩ : ∃ W9, ((((W8.setCell ⟨w.heap.size, 0, none⟩ (.int .u64 t.F)).setCell ⟨w.heap.size, 1, none⟩ (.int .u64 t.H)).setCell ⟨w.heap.size, 2, none⟩ (.int .i64 t.Y)).setCell ⟨w.heap.size, 3, none⟩ (.int .i64 t.X)) = W9 := ⟨_, rfl⟩
    rw [hW9] at e0 k9 ⊢
    have k79 := k8.trans k9 (fun _ _ h => h)
    have hS9 : (fun w'' : World => w''.cell? ⟨w'.heap.size, 0, none⟩ = some (.int .i64 t.id) ∧ w''.cell? ⟨w'.heap.size, 1, none⟩ = some (.int .u64 t.F) ∧ w''.cell? ⟨w'.heap.size, 2, none⟩ = some (.int .u64 t.H) ∧ w''.cell? ⟨w'.heap.size, 3, none⟩ = some (.int .i64 t.Y) ∧ w''.cell? ⟨w'.heap.size, 4, none⟩ = some (.int .i64 t.X)) W9 := ⟨k9.cell t0 hnk, k9.cell t1 hnk, k9.cell t2 hnk, k9.cell t3 hnk, k9.cell t4 hnk⟩
    have hEnd := heap_end (HPS.out ▸ HPOP.out) HH5.out K5.out h3 k79 hnb7
    have HEnd := Lib.hid hEnd
    have y0 : W9.cell? ⟨w.heap.size, 0, none⟩ = some (.int .u64 t.F) := by simp [World.cell?, e0]
    have y1 : W9.cell? ⟨w.heap.size, 1, none⟩ = some (.int .u64 t.H) := by simp [World.cell?, e0]
    have y2 : W9.cell? ⟨w.heap.size, 2, none⟩ = some (.int .i64 t.Y) := by simp [World.cell?, e0]
    have y3 : W9.cell? ⟨w.heap.size, 3, none⟩ = some (.int .i64 t.X) := by simp [World.cell?, e0]
    clear hW9 k8 k9 k79 hEnd q0 q1 q2 q3 f0 f1 f2 f3 t0 t1 t2 t3 t4 rd e0
    refine hK _ _ hS9 ?_
    clear hK K hH
    try simp only [Act.put, List.setIfInBounds_toArray, List.set_cons_zero, List.set_cons_succ]
    refine ordS_one (i := 6) (o := { dst := some 4, op := Op.assign (Operand.const (Value.bool true)), type := 4, pos := _, after := #[{ on := 5, ground := Ground.chain }, { on := 0, ground := Ground.phase }, { on := 1, ground := Ground.phase }, { on := 2, ground := Ground.phase }, { on := 3, ground := Ground.phase }, { on := 4, ground := Ground.phase }, { on := 5, ground := Ground.phase }], guard := none }) (by kernel_rfl) rfl (by rfl) (fun K hK => ?_)
    go_simp
    refine hK _ _ hS9 ?_
    clear hK K hS9
    try simp only [Act.put, List.setIfInBounds_toArray, List.set_cons_zero, List.set_cons_succ]
    refine ordS_done (by kernel_rfl) ?_
    go_wp2
    exact bodyPost_ret (v := .tuple #[.int .i64 t.id, .agg #[.int .u64 t.F, .int .u64 t.H, .int .i64 t.Y, .int .i64 t.X], .bool true]) (by simp [results, Tryd.results55, go_sem, y0, y1, y2, y3]) rfl ⟨rfl, HEnd.out⟩
  · have hkp : (0 : Int) < (k : Int) := by omega
    have hps : popS s = sinkS ⟨s.ts.take k, upd s.f t.id none, s.n - 1⟩ 0 l := by unfold popS; rw [if_neg (by rw [HKK.out]; exact hkz), HKK.out, HF.out, HLX.out]
    have HPS := Lib.hid hps
    have hH5' : HeapAt W5 0 p b (.slice (some ⟨g, 0, none⟩) (s.ts.take k).length cap) ⟨s.ts.take k, upd s.f t.id none, s.n - 1⟩ := by rw [hlt]; exact hH5
    have hcall := sink_any 0 p b g cap ⟨s.ts.take k, upd s.f t.id none, s.n - 1⟩ 0 l W5 hH5' (by simp only [hlt]; omega) (by simp only [hlt]; omega) (by simp only; omega) hwl
    rw [show ((0 : Nat) : Int) = 0 from rfl] at hcall
    simp only [hlt] at hcall
    have u0 := b25.t0
    have u1 := b25.t1
    have u2 := b25.t2
    have u3 := b25.t3
    have u4 := b25.t4
    clear hps hH5 hH5' hlt b25
    go_wp2_with fail
    refine hcall.mono ?_
    rintro e W6 ⟨rfl, hH6, k6⟩
    have hnb2 : ∀ x, w.heap.size ≤ x → ¬ HB p b (.slice (some ⟨g, 0, none⟩) k cap) x := fun x hx => by rw [HB0.out]; exact hnb x hx
    have b16 := b15.kept k6 (hnb2 _ (by omega))
    have r6 := (k6.2 _ (by omega) (hnb2 _ (Nat.le_refl _))).trans r5
    have hz6 := k6.1.size
    have k6a := k5a.trans k6 (fun x _ h => by rw [HB0.out] at h; exact h)
    have HH5 := Lib.hid hH6
    have K5 := Lib.hid k6a
    clear b15 r5 k6 k6a hH6 k5a hcall u0 u1 u2 u3 u4
    obtain ⟨b15, r5⟩ : BoxT W6 w'.heap.size t ∧ W6.heap[w.heap.size]? = some (.cells #[.int .u64 0, .int .u64 0, .int .i64 0, .int .i64 0] 100 (0, 0)) := ⟨b16, r6⟩
    clear b16 r6
    generalize W6 = W7 at *
    go_upto_region 9 with fail
    have hnb7 : ¬ HB p b (.slice (some ⟨g, 0, none⟩) s.ts.length cap) w.heap.size := hnb _ (Nat.le_refl _)
    have hD := bl_dr (bl0 W7)
    have b7 := b15
    have r7 := r5
    clear b15 r5
    have rd := (hD.block _ (Array.getElem?_eq_some_iff.1 r7).1).trans r7
    obtain ⟨W8, hW8⟩ : ∃ W8, W7.drew = W8 := ⟨_, rfl⟩
    have b8 := b7.below hD
    rw [hW8] at rd b8
    have q0 : W8.cell? ⟨w.heap.size, 0, none⟩ = some (.int .u64 0) := by simp [World.cell?, rd]
    have q1 : W8.cell? ⟨w.heap.size, 1, none⟩ = some (.int .u64 0) := by simp [World.cell?, rd]
    have q2 : W8.cell? ⟨w.heap.size, 2, none⟩ = some (.int .i64 0) := by simp [World.cell?, rd]
    have q3 : W8.cell? ⟨w.heap.size, 3, none⟩ = some (.int .i64 0) := by simp [World.cell?, rd]
    have f0 : W8.frozen? ⟨w.heap.size, 0, none⟩ = false := by simp [World.frozen?, rd]
    have f1 : W8.frozen? ⟨w.heap.size, 1, none⟩ = false := by simp [World.frozen?, rd]
    have f2 : W8.frozen? ⟨w.heap.size, 2, none⟩ = false := by simp [World.frozen?, rd]
    have f3 : W8.frozen? ⟨w.heap.size, 3, none⟩ = false := by simp [World.frozen?, rd]
    have k8 : KeptS (fun x => x = w.heap.size) W7 W8 := by rw [← hW8]; exact .of_below hD
    obtain ⟨t0, t1, t2, t3, t4⟩ := b8
    refine (wpIn_wide (n := 11)).1 ?_
    refine ordS_begin (S := (fun w'' : World => w''.cell? ⟨w'.heap.size, 0, none⟩ = some (.int .i64 t.id) ∧ w''.cell? ⟨w'.heap.size, 1, none⟩ = some (.int .u64 t.F) ∧ w''.cell? ⟨w'.heap.size, 2, none⟩ = some (.int .u64 t.H) ∧ w''.cell? ⟨w'.heap.size, 3, none⟩ = some (.int .i64 t.Y) ∧ w''.cell? ⟨w'.heap.size, 4, none⟩ = some (.int .i64 t.X))) (by kernel_rfl) (by rw [hW8]; exact ⟨t0, t1, t2, t3, t4⟩) (fun hH => ?_)
    first
      | (refine' ordS_take (i := 0) (oi := { dst := some 51, op := Op.fieldAddr 126 (Operand.tmp 5) 0, type := 0, pos := _, after := #[], guard := none }) (v := _) rfl (by kernel_rfl) (by kernel_rfl) (by kernel_rfl) (by kernel_rfl) (fun _ _ _ h => h) (by assumption) (Or.inl ⟨by rfl, ?hy53⟩) (fun _ => rfl) ?rest53
         case hy53 => (intro w hSw; (try dsimp only at hSw); go_simp; try with_reducible rfl))
      | (refine ordS_take (i := 0) (oi := { dst := some 51, op := Op.fieldAddr 126 (Operand.tmp 5) 0, type := 0, pos := _, after := #[], guard := none }) (v := undef) rfl (by kernel_rfl) (by kernel_rfl) (by kernel_rfl) (by kernel_rfl) (fun _ _ _ h => h) (by assumption) (Or.inr ⟨by rfl, rfl⟩) (fun _ => rfl) ?_)
    try simp only [Act.put, List.setIfInBounds_toArray, List.set_cons_zero, List.set_cons_succ]
    first
      | (refine' ordS_take (i := 1) (oi := { dst := some 52, op := Op.load 3 (Operand.tmp 51), type := 3, pos := _, after := #[{ on := 0, ground := Ground.data }], guard := none }) (v := _) rfl (by kernel_rfl) (by kernel_rfl) (by kernel_rfl) (by kernel_rfl) (fun _ _ _ h => h) (by assumption) (Or.inl ⟨by rfl, ?hy54⟩) (fun _ => rfl) ?rest54
         case hy54 => (intro w hSw; (try dsimp only at hSw); go_simp; try with_reducible rfl))
      | (refine ordS_take (i := 1) (oi := { dst := some 52, op := Op.load 3 (Operand.tmp 51), type := 3, pos := _, after := #[{ on := 0, ground := Ground.data }], guard := none }) (v := undef) rfl (by kernel_rfl) (by kernel_rfl) (by kernel_rfl) (by kernel_rfl) (fun _ _ _ h => h) (by assumption) (Or.inr ⟨by rfl, rfl⟩) (fun _ => rfl) ?_)
    try simp only [Act.put, List.setIfInBounds_toArray, List.set_cons_zero, List.set_cons_succ]
    first
      | (refine' ordS_take (i := 2) (oi := { dst := some 53, op := Op.fieldAddr 126 (Operand.tmp 5) 1, type := 0, pos := _, after := #[{ on := 4, ground := Ground.gcOnly Departure.lateStores }], guard := none }) (v := _) rfl (by kernel_rfl) (by kernel_rfl) (by kernel_rfl) (by kernel_rfl) (fun _ _ _ h => h) (by assumption) (Or.inl ⟨by rfl, ?hy55⟩) (fun _ => rfl) ?rest55
         case hy55 => (intro w hSw; (try dsimp only at hSw); go_simp; try with_reducible rfl))
      | (refine ordS_take (i := 2) (oi := { dst := some 53, op := Op.fieldAddr 126 (Operand.tmp 5) 1, type := 0, pos := _, after := #[{ on := 4, ground := Ground.gcOnly Departure.lateStores }], guard := none }) (v := undef) rfl (by kernel_rfl) (by kernel_rfl) (by kernel_rfl) (by kernel_rfl) (fun _ _ _ h => h) (by assumption) (Or.inr ⟨by rfl, rfl⟩) (fun _ => rfl) ?_)
    try simp only [Act.put, List.setIfInBounds_toArray, List.set_cons_zero, List.set_cons_succ]
    first
      | (refine' ordS_take (i := 3) (oi := { dst := some 54, op := Op.load 100 (Operand.tmp 53), type := 100, pos := _, after := #[{ on := 2, ground := Ground.data }, { on := 4, ground := Ground.gcOnly Departure.lateStores }], guard := none }) (v := _) rfl (by kernel_rfl) (by kernel_rfl) (by kernel_rfl) (by kernel_rfl) (fun _ _ _ h => h) (by assumption) (Or.inl ⟨by rfl, ?hy56⟩) (fun _ => rfl) ?rest56
         case hy56 => (intro w hSw; (try dsimp only at hSw); go_simp; try with_reducible rfl))
      | (refine ordS_take (i := 3) (oi := { dst := some 54, op := Op.load 100 (Operand.tmp 53), type := 100, pos := _, after := #[{ on := 2, ground := Ground.data }, { on := 4, ground := Ground.gcOnly Departure.lateStores }], guard := none }) (v := undef) rfl (by kernel_rfl) (by kernel_rfl) (by kernel_rfl) (by kernel_rfl) (fun _ _ _ h => h) (by assumption) (Or.inr ⟨by rfl, rfl⟩) (fun _ => rfl) ?_)
    try simp only [Act.put, List.setIfInBounds_toArray, List.set_cons_zero, List.set_cons_succ]
    first
      | (refine' ordS_take (i := 4) (oi := { dst := some 2, op := Op.assign (Operand.tmp 52), type := 3, pos := _, after := #[{ on := 1, ground := Ground.data }, { on := 0, ground := Ground.phase }, { on := 1, ground := Ground.phase }, { on := 2, ground := Ground.textOnly Departure.lateStores }, { on := 3, ground := Ground.textOnly Departure.lateStores }], guard := none }) (v := _) rfl (by kernel_rfl) (by kernel_rfl) (by kernel_rfl) (by kernel_rfl) (fun _ _ _ h => h) (by assumption) (Or.inl ⟨by rfl, ?hy57⟩) (fun _ => rfl) ?rest57
         case hy57 => (intro w hSw; (try dsimp only at hSw); go_simp; try with_reducible rfl))
      | (refine ordS_take (i := 4) (oi := { dst := some 2, op := Op.assign (Operand.tmp 52), type := 3, pos := _, after := #[{ on := 1, ground := Ground.data }, { on := 0, ground := Ground.phase }, { on := 1, ground := Ground.phase }, { on := 2, ground := Ground.textOnly Departure.lateStores }, { on := 3, ground := Ground.textOnly Departure.lateStores }], guard := none }) (v := undef) rfl (by kernel_rfl) (by kernel_rfl) (by kernel_rfl) (by kernel_rfl) (fun _ _ _ h => h) (by assumption) (Or.inr ⟨by rfl, rfl⟩) (fun _ => rfl) ?_)
    try simp only [Act.put, List.setIfInBounds_toArray, List.set_cons_zero, List.set_cons_succ]
    rw [hW8] at hH ⊢
    clear hW8
    refine ordS_one (i := 5) (o := { dst := none, op := Op.store 100 (Operand.tmp 3) (Operand.tmp 54), type := 0, pos := _, after := #[{ on := 3, ground := Ground.data }, { on := 4, ground := Ground.chain }, { on := 0, ground := Ground.phase }, { on := 1, ground := Ground.phase }, { on := 2, ground := Ground.phase }, { on := 3, ground := Ground.phase }, { on := 4, ground := Ground.phase }], guard := none }) (by kernel_rfl) rfl (by rfl) (fun K hK => ?_)
    go_simp
    have e0 : ((((W8.setCell ⟨w.heap.size, 0, none⟩ (.int .u64 t.F)).setCell ⟨w.heap.size, 1, none⟩ (.int .u64 t.H)).setCell ⟨w.heap.size, 2, none⟩ (.int .i64 t.Y)).setCell ⟨w.heap.size, 3, none⟩ (.int .i64 t.X)).heap[w.heap.size]? = some (.cells #[.int .u64 t.F, .int .u64 t.H, .int .i64 t.Y, .int .i64 t.X] 100 (0, 0)) := by
      have a0 := hset_same W8 w.heap.size 0 _ 100 (.int .u64 t.F) rd
      have a1 := hset_same _ w.heap.size 1 _ 100 (.int .u64 t.H) a0
      have a2 := hset_same _ w.heap.size 2 _ 100 (.int .i64 t.Y) a1
      have a3 := hset_same _ w.heap.size 3 _ 100 (.int .i64 t.X) a2
      simpa using a3
    have k9 : KeptS (fun x => x = w.heap.size) W8 ((((W8.setCell ⟨w.heap.size, 0, none⟩ (.int .u64 t.F)).setCell ⟨w.heap.size, 1, none⟩ (.int .u64 t.H)).setCell ⟨w.heap.size, 2, none⟩ (.int .i64 t.Y)).setCell ⟨w.heap.size, 3, none⟩ (.int .i64 t.X)) := by
      have a0 := hgrown_set W8 w.heap.size 0 (.int .u64 t.F)
      have a1 := a0.trans (hgrown_set _ w.heap.size 1 (.int .u64 t.H))
      have a2 := a1.trans (hgrown_set _ w.heap.size 2 (.int .i64 t.Y))
      have a3 := a2.trans (hgrown_set _ w.heap.size 3 (.int .i64 t.X))
      exact .of_grown a3 (fun x e _ => by cases e; rfl)
    obtain ⟨W9, hW9⟩ : ∃ W9, ((((W8.setCell ⟨w.heap.size, 0, none⟩ (.int .u64 t.F)).setCell ⟨w.heap.size, 1, none⟩ (.int .u64 t.H)).setCell ⟨w.heap.size, 2, none⟩ (.int .i64 t.Y)).setCell ⟨w.heap.size, 3, none⟩ (.int .i64 t.X)) = W9 := ⟨_, rfl⟩
    rw [hW9] at e0 k9 ⊢
    have k79 := k8.trans k9 (fun _ _ h => h)
    have hS9 : (fun w'' : World => w''.cell? ⟨w'.heap.size, 0, none⟩ = some (.int .i64 t.id) ∧ w''.cell? ⟨w'.heap.size, 1, none⟩ = some (.int .u64 t.F) ∧ w''.cell? ⟨w'.heap.size, 2, none⟩ = some (.int .u64 t.H) ∧ w''.cell? ⟨w'.heap.size, 3, none⟩ = some (.int .i64 t.Y) ∧ w''.cell? ⟨w'.heap.size, 4, none⟩ = some (.int .i64 t.X)) W9 := ⟨k9.cell t0 hnk, k9.cell t1 hnk, k9.cell t2 hnk, k9.cell t3 hnk, k9.cell t4 hnk⟩
    have hEnd := heap_end (HPS.out ▸ HPOP.out) HH5.out K5.out h3 k79 hnb7
    have HEnd := Lib.hid hEnd
    have y0 : W9.cell? ⟨w.heap.size, 0, none⟩ = some (.int .u64 t.F) := by simp [World.cell?, e0]
    have y1 : W9.cell? ⟨w.heap.size, 1, none⟩ = some (.int .u64 t.H) := by simp [World.cell?, e0]
    have y2 : W9.cell? ⟨w.heap.size, 2, none⟩ = some (.int .i64 t.Y) := by simp [World.cell?, e0]
    have y3 : W9.cell? ⟨w.heap.size, 3, none⟩ = some (.int .i64 t.X) := by simp [World.cell?, e0]
    clear hW9 k8 k9 k79 hEnd q0 q1 q2 q3 f0 f1 f2 f3 t0 t1 t2 t3 t4 rd e0
    refine hK _ _ hS9 ?_
    clear hK K hH
    try simp only [Act.put, List.setIfInBounds_toArray, List.set_cons_zero, List.set_cons_succ]
    refine ordS_one (i := 6) (o := { dst := some 4, op := Op.assign (Operand.const (Value.bool true)), type := 4, pos := _, after := #[{ on := 5, ground := Ground.chain }, { on := 0, ground := Ground.phase }, { on := 1, ground := Ground.phase }, { on := 2, ground := Ground.phase }, { on := 3, ground := Ground.phase }, { on := 4, ground := Ground.phase }, { on := 5, ground := Ground.phase }], guard := none }) (by kernel_rfl) rfl (by rfl) (fun K hK => ?_)
    go_simp
    refine hK _ _ hS9 ?_
    clear hK K hS9
    try simp only [Act.put, List.setIfInBounds_toArray, List.set_cons_zero, List.set_cons_succ]
    refine ordS_done (by kernel_rfl) ?_
    go_wp2
    exact bodyPost_ret (v := .tuple #[.int .i64 t.id, .agg #[.int .u64 t.F, .int .u64 t.H, .int .i64 t.Y, .int .i64 t.X], .bool true]) (by simp [results, Tryd.results55, go_sem, y0, y1, y2, y3]) rfl ⟨rfl, HEnd.out⟩

/-- The value that Pop hands back. -/
def popV (m : List Th) : Value := .tuple #[.int .i64 (firstT m).id, .agg #[.int .u64 (firstT m).F, .int .u64 (firstT m).H, .int .i64 (firstT m).Y, .int .i64 (firstT m).X], .bool (!m.isEmpty)]
theorem hpop_any (p : Nat) (m : List Th) (S : Nat → Prop) (w : World) (h : (HeapO p m).P w S) (hm : m.length ≤ 1000000) :
    Calls Tryd.prog 55 #[.pointer (some ⟨p, 0, none⟩)] w fun e w' => e = .returned (.tuple #[.int .i64 (firstT m).id, .agg #[.int .u64 (firstT m).F, .int .u64 (firstT m).H, .int .i64 (firstT m).Y, .int .i64 (firstT m).X], .bool (!m.isEmpty)]) ∧ Turned S w w' (HeapO p (popM m)) := by
  cases m with
  | nil => exact (hpop_none p S w h).mono fun e w' ⟨he, hb⟩ => ⟨he, heap_there h hb⟩
  | cons t l => exact hpop_yes p (t :: l) S w h (by simp) hm
end Go.Proofs.YtldpajfendkhbaaDoor
