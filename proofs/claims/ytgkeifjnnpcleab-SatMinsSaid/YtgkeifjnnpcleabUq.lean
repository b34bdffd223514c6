/- Rows joined: the mathematics of SatMins. -/
import Derived.Test.YtgkeifjnnpcleabUp
namespace Go.Proofs.Ytgkeifjnnpcleab

theorem joinC_comm (xs ys : List Int) : joinC xs ys = joinC ys xs := by
  unfold joinC
  rw [List.zipWith_comm]
  congr 1
  funext a b
  exact minC_comm b a
theorem joinC_self (xs : List Int) : joinC xs xs = xs := by
  unfold joinC
  rw [List.zipWith_self]
  simp [minC_self]
theorem joinC_inf {xs : List Int} (h : AllU xs) : joinC (List.replicate xs.length 18446744073709551615) xs = xs := by
  refine List.ext_getElem (by simp [joinC]) fun i h1 h2 => ?_
  simp [joinC, minC_inf (h.at h2)]
theorem joinC_assoc (xs ys zs : List Int) : joinC (joinC xs ys) zs = joinC xs (joinC ys zs) := by
  refine List.ext_getElem (by simp [joinC, Nat.min_assoc]) fun i h1 h2 => ?_
  simp [joinC, minC_assoc]
theorem joinC_all {xs ys : List Int} (h : AllU xs) (k : AllU ys) : AllU (joinC xs ys) := by
  intro z hz
  obtain ⟨i, hi⟩ := List.getElem?_of_mem hz
  simp only [joinC, List.getElem?_zipWith] at hi
  split at hi
  · cases hi
    exact minC_in (h _ (List.mem_of_getElem? (by assumption))) (k _ (List.mem_of_getElem? (by assumption)))
  · cases hi
theorem joinC_at {xs ys : List Int} {i : Nat} {x y : Int} (hx : xs[i]? = some x) (hy : ys[i]? = some y) : (joinC xs ys)[i]? = some (minC x y) := by simp [joinC, List.getElem?_zipWith, hx, hy]
theorem inf_all (n : Nat) : AllU (List.replicate n 18446744073709551615) := fun z hz => by rw [(List.mem_replicate.1 hz).2]; exact inU_inf

/-- What leastC tells: its place, and that no cost is less. -/
theorem leastC_spec (l : List Int) : ((leastC l).2 = true ∧ ∃ v, l[(leastC l).1]? = some v ∧ v < 18446744073709551615 ∧ ∀ (k : Nat) (z : Int), l[k]? = some z → v ≤ z) ∨ ((leastC l).2 = false ∧ ∀ (k : Nat) (z : Int), AllU l → l[k]? = some z → z = 18446744073709551615) := by
  unfold leastC
  cases e : (List.range l.length).find? (isLeast l) with
  | some i =>
    obtain ⟨v, hv, h1, h2⟩ := (isLeast_iff l i).1 (List.find?_some e)
    exact .inl ⟨rfl, v, hv, h1, fun k z hz => by have := h2 k z hz; omega⟩
  | none =>
    refine .inr ⟨rfl, fun k z hu hz => ?_⟩
    -- if some cost were below Inf, the first of the least ones would be found
    have hfin : ∀ n, ∃ p v, LeastTo l n p v := by
      intro n
      induction n with
      | zero => exact ⟨0, _, LeastTo.zero l⟩
      | succ n ih =>
        obtain ⟨p, v, h⟩ := ih
        cases hn : l[n]? with
        | none =>
          rcases h with ⟨h1, h2, h3⟩ | ⟨h1, h2, h3, h4, h5⟩
          · exact ⟨p, v, .inl ⟨h1, h2, fun i y hi hy => by
              by_cases e : i = n
              · subst e; rw [hn] at hy; cases hy
              · exact h3 i y (by omega) hy⟩⟩
          · exact ⟨p, v, .inr ⟨by omega, h2, h3, h4, fun i y hi hy => by
              by_cases e : i = n
              · subst e; rw [hn] at hy; cases hy
              · exact h5 i y (by omega) hy⟩⟩
        | some y =>
          by_cases hl : y < v
          · exact ⟨n, y, h.less hn hl h.at⟩
          · exact ⟨p, v, h.more hn hl (hu y (List.mem_of_getElem? hn)).2⟩
    obtain ⟨p, v, h⟩ := hfin l.length
    rcases h with ⟨h1, h2, h3⟩ | ⟨h1, h2, h3, h4, h5⟩
    · exact h3 k z (List.getElem?_eq_some_iff.1 hz).1 hz
    · have hp : isLeast l p = true := (isLeast_iff l p).2 ⟨v, h2, h3, fun j y hy => by
        by_cases e : j < p
        · exact .inl (h4 j y e hy)
        · have := h5 j y (List.getElem?_eq_some_iff.1 hy).1 hy
          omega⟩
      have := List.find?_eq_none.1 e p (by simpa using h1)
      simp [hp] at this
/-- The least cost of two rows joined. -/
theorem mins_facts {xs ys : List Int} (hl : xs.length = ys.length) (hx : AllU xs) (hy : AllU ys) : (leastC (joinC xs ys)).2 = ((leastC xs).2 || (leastC ys).2) ∧
    ((leastC (joinC xs ys)).2 = true → ∃ x y, (leastC (joinC xs ys)).1 < xs.length ∧ xs[(leastC (joinC xs ys)).1]? = some x ∧ ys[(leastC (joinC xs ys)).1]? = some y ∧
      ((leastC xs).2 = true → ∃ v, xs[(leastC xs).1]? = some v ∧ minC x y ≤ v) ∧ ((leastC ys).2 = true → ∃ u, ys[(leastC ys).1]? = some u ∧ minC x y ≤ u)) := by
  have both : ∀ k : Nat, k < xs.length → ∃ x y, xs[k]? = some x ∧ ys[k]? = some y ∧ (joinC xs ys)[k]? = some (minC x y) := fun k hk =>
    ⟨_, _, List.getElem?_eq_getElem hk, List.getElem?_eq_getElem (by omega), joinC_at (List.getElem?_eq_getElem hk) (List.getElem?_eq_getElem (by omega))⟩
  have hjl : (joinC xs ys).length = xs.length := by rw [joinC_len]; omega
  have hmin : ∀ a b : Int, minC a b ≤ a ∧ minC a b ≤ b ∧ (minC a b = a ∨ minC a b = b) := fun a b => by unfold minC; split <;> omega
  rcases leastC_spec (joinC xs ys) with ⟨h1, v, hv, hlt, hle⟩ | ⟨h1, hall⟩
  · have hp : (leastC (joinC xs ys)).1 < xs.length := by have := (List.getElem?_eq_some_iff.1 hv).1; omega
    obtain ⟨x, y, ex, ey, ej⟩ := both _ hp
    rw [hv] at ej
    obtain rfl : v = minC x y := by simpa using ej
    refine ⟨?_, fun _ => ⟨x, y, hp, ex, ey, fun h => ?_, fun h => ?_⟩⟩
    · rw [h1]
      rcases leastC_spec xs with ⟨g1, _⟩ | ⟨g1, ga⟩
      · rw [g1]; rfl
      · rcases leastC_spec ys with ⟨k1, _⟩ | ⟨k1, ka⟩
        · rw [g1, k1]; rfl
        · have a := ga _ _ hx ex
          have b := ka _ _ hy ey
          have := hmin x y
          omega
    · rcases leastC_spec xs with ⟨g1, u, gu, _⟩ | ⟨g1, _⟩
      · refine ⟨u, gu, ?_⟩
        have hk := (List.getElem?_eq_some_iff.1 gu).1
        obtain ⟨x', y', ex', ey', ej'⟩ := both _ hk
        rw [gu] at ex'
        obtain rfl : u = x' := by simpa using ex'
        have := hle _ _ ej'
        have := hmin u y'
        omega
      · rw [g1] at h; cases h
    · rcases leastC_spec ys with ⟨g1, u, gu, _⟩ | ⟨g1, _⟩
      · refine ⟨u, gu, ?_⟩
        have hk := (List.getElem?_eq_some_iff.1 gu).1
        obtain ⟨x', y', ex', ey', ej'⟩ := both (leastC ys).1 (by omega)
        rw [gu] at ey'
        obtain rfl : u = y' := by simpa using ey'
        have := hle _ _ ej'
        have := hmin x' u
        omega
      · rw [g1] at h; cases h
  · refine ⟨?_, fun h => by rw [h1] at h; cases h⟩
    rw [h1]
    have no : ∀ (k : Nat) (x y : Int), xs[k]? = some x → ys[k]? = some y → minC x y = 18446744073709551615 := fun k x y ex ey => hall k _ (joinC_all hx hy) (joinC_at ex ey)
    rcases leastC_spec xs with ⟨g1, u, gu, gl, _⟩ | ⟨g1, _⟩
    · have hk := (List.getElem?_eq_some_iff.1 gu).1
      obtain ⟨x', y', ex', ey', _⟩ := both _ hk
      rw [gu] at ex'
      obtain rfl : u = x' := by simpa using ex'
      have := no _ _ _ gu ey'
      have := hmin u y'
      omega
    · rcases leastC_spec ys with ⟨k1, u, gu, gl, _⟩ | ⟨k1, _⟩
      · have hk := (List.getElem?_eq_some_iff.1 gu).1
        obtain ⟨x', y', ex', ey', _⟩ := both (leastC ys).1 (by omega)
        rw [gu] at ey'
        obtain rfl : u = y' := by simpa using ey'
        have := no _ _ _ ex' gu
        have := hmin x' u
        omega
      · rw [g1, k1]; rfl
end Go.Proofs.Ytgkeifjnnpcleab
