/- Cache: the mathematics of what was used last. -/
import Derived.Test.YtbmpgafndpdnbaaEh
namespace Go.Proofs.Ytbmpgafndpdnbaa

/-- All but one key. -/
def butK (k : Int) (m : List IT) : List IT := m.filter (fun x => decide (x.1 ≠ k))
def butI (k : Int) (l : List Int) : List Int := l.filter (fun x => decide (x ≠ k))
theorem butK_keys (k : Int) (m : List IT) : (butK k m).map Prod.fst = butI k (m.map Prod.fst) := by
  unfold butK butI
  rw [List.filter_map]
  rfl
theorem butI_none {k : Int} {l : List Int} (h : k ∉ l) : butI k l = l := by
  unfold butI
  rw [List.filter_eq_self]
  intro x hx
  exact decide_eq_true (fun e => h (e ▸ hx))
theorem butK_none {k : Int} {m : List IT} (h : k ∉ m.map Prod.fst) : butK k m = m := by
  unfold butK
  rw [List.filter_eq_self]
  intro x hx
  exact decide_eq_true (fun e => h (List.mem_map.2 ⟨x, hx, e⟩))
theorem butI_take (k : Int) : ∀ (l : List Int) (n : Nat), l.Nodup → (butI k (l.take (n + 1))).take n = (butI k l).take n
  | [], n, _ => by simp [butI]
  | x :: l, n, h => by
    rw [List.nodup_cons] at h
    rw [List.take_succ_cons]
    by_cases e : x = k
    · subst e
      have h1 : ∀ t : List Int, butI x (x :: t) = butI x t := fun t => by simp [butI]
      rw [h1, h1, butI_none h.1, butI_none (fun hm => h.1 (List.mem_of_mem_take hm)), List.take_take, Nat.min_self]
    · have h1 : ∀ t : List Int, butI k (x :: t) = x :: butI k t := fun t => by simp [butI, e]
      rw [h1, h1]
      cases n with
      | zero => simp
      | succ n => rw [List.take_succ_cons, List.take_succ_cons, butI_take k l n h.2]
theorem butK_take (k : Int) : ∀ (m : List IT) (n : Nat), (m.map Prod.fst).Nodup → (butK k (m.take (n + 1))).take n = (butK k m).take n
  | [], n, _ => by simp [butK]
  | x :: l, n, h => by
    rw [List.map_cons, List.nodup_cons] at h
    rw [List.take_succ_cons]
    by_cases e : x.1 = k
    · subst e
      have h1 : ∀ t : List IT, butK x.1 (x :: t) = butK x.1 t := fun t => by simp [butK]
      rw [h1, h1, butK_none h.1, butK_none (fun hm => h.1 (by rw [List.map_take] at hm; exact List.mem_of_mem_take hm)), List.take_take, Nat.min_self]
    · have h1 : ∀ t : List IT, butK k (x :: t) = x :: butK k t := fun t => by simp [butK, e]
      rw [h1, h1]
      cases n with
      | zero => simp
      | succ n => rw [List.take_succ_cons, List.take_succ_cons, butK_take k l n h.2]
theorem findI_cons (k : Int) (x : IT) (m : List IT) : findI k (x :: m) = if x.1 = k then some 0 else (findI k m).map (· + 1) := by
  unfold findI
  rw [List.findIdx?_cons]
  by_cases e : x.1 = k <;> simp [e]
theorem findI_mem {k : Int} {m : List IT} : (findI k m).isSome = decide (k ∈ m.map Prod.fst) := by
  induction m with
  | nil => rfl
  | cons x m ih =>
    rw [findI_cons]
    by_cases e : x.1 = k
    · simp [e]
    · rw [if_neg e, Option.isSome_map, ih]
      simp [List.mem_cons, show ¬ k = x.1 from fun h => e h.symm]
theorem erase_but : ∀ {m : List IT} {k : Int} {i : Nat}, (m.map Prod.fst).Nodup → findI k m = some i → m.eraseIdx i = butK k m
  | [], k, i, _, h => by cases h
  | x :: m, k, i, hn, h => by
    rw [List.map_cons, List.nodup_cons] at hn
    rw [findI_cons] at h
    by_cases e : x.1 = k
    · rw [if_pos e] at h
      cases h
      subst e
      rw [List.eraseIdx_cons_zero]
      have h1 : butK x.1 (x :: m) = butK x.1 m := by simp [butK]
      rw [h1, butK_none hn.1]
    · rw [if_neg e] at h
      cases hf : findI k m with
      | none => rw [hf] at h; cases h
      | some j =>
        rw [hf] at h
        cases h
        have h1 : butK k (x :: m) = x :: butK k m := by simp [butK, e]
        rw [h1, List.eraseIdx_cons_succ, erase_but hn.2 hf]
/-- What is right of a cache. -/
structure Fit (r : Int) (m : List IT) : Prop where
  nd : (m.map Prod.fst).Nodup
  le : (m.length : Int) ≤ r
theorem Fit.nil {r : Int} (h : 1 ≤ r) : Fit r [] := ⟨List.nodup_nil, by simp; omega⟩
theorem but_len {k : Int} {m : List IT} {i : Nat} (hn : (m.map Prod.fst).Nodup) (h : findI k m = some i) : (butK k m).length + 1 = m.length := by
  rw [← erase_but hn h, List.length_eraseIdx_of_lt (findI_some h).1]
  have := (findI_some h).1
  omega
theorem put_but {r k x : Int} {m : List IT} (h : Fit r m) (hr : 1 ≤ r) : putM r k x m = (k, x) :: (butK k m).take (r.toNat - 1) := by
  unfold putM leadL placeI
  have hle := h.le
  cases e : findI k m with
  | some i =>
    have hl := but_len h.nd e
    dsimp only
    rw [erase_but h.nd e, List.take_of_length_le (by omega)]
  | none =>
    have hk : k ∉ m.map Prod.fst := fun hm => by
      obtain ⟨y, hy, ey⟩ := List.mem_map.1 hm
      exact findI_none e y hy ey
    rw [butK_none hk]
    dsimp only
    by_cases hf : (m.length : Int) = r
    · rw [if_pos hf, List.eraseIdx_eq_take_drop_succ, show r.toNat - 1 = m.length - 1 by omega, List.drop_eq_nil_of_le (by omega), List.append_nil]
    · rw [if_neg hf, List.eraseIdx_of_length_le (Nat.le_refl _), List.take_of_length_le (by omega)]
theorem but_nodup {k : Int} {m : List IT} (h : (m.map Prod.fst).Nodup) : ((butK k m).map Prod.fst).Nodup := h.sublist (List.Sublist.map _ List.filter_sublist)
theorem but_not {k : Int} {m : List IT} : k ∉ (butK k m).map Prod.fst := by
  intro h
  obtain ⟨y, hy, e⟩ := List.mem_map.1 h
  have := (List.mem_filter.1 hy).2
  simp at this
  exact this e
theorem Fit.put {r k x : Int} {m : List IT} (h : Fit r m) (hr : 1 ≤ r) : Fit r (putM r k x m) := by
  rw [put_but h hr]
  refine ⟨?_, ?_⟩
  · rw [List.map_cons, List.nodup_cons, List.map_take]
    exact ⟨fun hm => but_not (List.mem_of_mem_take hm), (but_nodup h.nd).sublist (List.take_sublist _ _)⟩
  · simp only [List.length_cons, List.length_take]; omega
/-- A thing that is used, and found, is put anew. -/
theorem get_put {r k : Int} {m : List IT} {i : Nat} (e : findI k m = some i) : getM k m = putM r k (peekV k m) m := by
  have hk := (findI_some e).2.1
  have ht : (k, peekV k m) = atI m i := by
    unfold peekV
    rw [e]
    dsimp only
    rw [← hk]
  unfold getM putM placeI
  rw [ht, e]
theorem get_none {k : Int} {m : List IT} (e : findI k m = none) : getM k m = m := by unfold getM; rw [e]
theorem Fit.get {r k : Int} {m : List IT} (h : Fit r m) (hr : 1 ≤ r) : Fit r (getM k m) := by
  cases e : findI k m with
  | none => rw [get_none e]; exact h
  | some i => rw [get_put (r := r) e]; exact h.put hr
theorem Fit.small {r : Int} {m : List IT} (h : Fit r m) (hr : r ≤ 16) : m.length ≤ 16 := by have := h.le; omega
theorem peek_mem {m : List IT} {x : IT} (hn : (m.map Prod.fst).Nodup) (hx : x ∈ m) : (findI x.1 m).isSome = true ∧ peekV x.1 m = x.2 := by
  have h1 : (findI x.1 m).isSome = true := by rw [findI_mem]; exact decide_eq_true (List.mem_map.2 ⟨x, hx, rfl⟩)
  refine ⟨h1, ?_⟩
  obtain ⟨i, e⟩ := Option.isSome_iff_exists.1 h1
  unfold peekV
  rw [e]
  dsimp only
  obtain ⟨hi, hk, _⟩ := findI_some e
  obtain ⟨j, hj, hjx⟩ := List.mem_iff_getElem.1 hx
  have hii : m[i]? = some (atI m i) := atI_get hi
  have hij : i = j := by
    have a1 : (m.map Prod.fst)[i]'(by simpa using hi) = x.1 := by
      rw [List.getElem_map]
      have := (List.getElem?_eq_some_iff.1 hii).2
      rw [this]; exact hk
    have a2 : (m.map Prod.fst)[j]'(by simpa using hj) = x.1 := by rw [List.getElem_map, hjx]
    have hp := List.pairwise_iff_getElem.1 hn
    rcases Nat.lt_trichotomy i j with q | q | q
    · exact absurd (a1.trans a2.symm) (hp i j _ _ q)
    · exact q
    · exact absurd (a2.trans a1.symm) (hp j i _ _ q)
  subst hij
  have := (List.getElem?_eq_some_iff.1 hii).2
  rw [← this, hjx]
/-- With more room: the same ones, ahead of others. -/
theorem more_put {a b k x : Int} {m n : List IT} (ha : 1 ≤ a) (hab : a ≤ b) (hm : Fit a m) (hn : Fit b n) (h : m = n.take a.toNat) : putM a k x m = (putM b k x n).take a.toNat := by
  rw [put_but hm ha, put_but hn (by omega), h]
  obtain ⟨c, hc⟩ : ∃ c, a.toNat = c + 1 := ⟨a.toNat - 1, by omega⟩
  rw [hc, List.take_succ_cons, Nat.add_sub_cancel, butK_take k n c hn.nd, List.take_take, Nat.min_eq_left (by omega)]
end Go.Proofs.Ytbmpgafndpdnbaa
