/- The edits of the turned cells bring one row of costs to another. -/
import Derived.Test.YthnpoeobieninaaDoorVk
namespace Go.Proofs.YthnpoeobieninaaDoor
open Go.RowKit

/-- The numbers, up to k, whose costs are not the same. -/
def ixTo (xs ys : List Int) : Nat → List Nat
  | 0 => []
  | k + 1 => ixTo xs ys k ++ (if xs[k]? = ys[k]? then [] else [k])
theorem turnTo_ix (X : Int) (xs ys : List Int) : ∀ k, turnTo X xs ys k = (ixTo xs ys k).map (fun j : Nat => ((j : Int) % X, (j : Int) / X))
  | 0 => rfl
  | k + 1 => by
    rw [turnTo, ixTo, turnTo_ix X xs ys k, List.map_append]
    split <;> rfl
theorem ixTo_mem (xs ys : List Int) : ∀ k j, j ∈ ixTo xs ys k ↔ j < k ∧ xs[j]? ≠ ys[j]?
  | 0, j => by simp [ixTo]
  | k + 1, j => by
    rw [ixTo, List.mem_append, ixTo_mem xs ys k j]
    by_cases h : xs[k]? = ys[k]?
    · rw [if_pos h]
      simp only [List.not_mem_nil, or_false]
      constructor
      · rintro ⟨a, b⟩; exact ⟨by omega, b⟩
      · rintro ⟨a, b⟩
        refine ⟨?_, b⟩
        rcases Nat.lt_or_ge j k with h1 | h1
        · exact h1
        · obtain rfl : j = k := by omega
          exact absurd h b
    · rw [if_neg h]
      simp only [List.mem_singleton]
      constructor
      · rintro (⟨a, b⟩ | rfl)
        · exact ⟨by omega, b⟩
        · exact ⟨by omega, h⟩
      · rintro ⟨a, b⟩
        by_cases h1 : j = k
        · exact .inr h1
        · exact .inl ⟨by omega, b⟩
theorem ixTo_nodup (xs ys : List Int) : ∀ k, (ixTo xs ys k).Nodup
  | 0 => List.nodup_nil
  | k + 1 => by
    rw [ixTo]
    split
    · rw [List.append_nil]; exact ixTo_nodup xs ys k
    · refine List.nodup_append.2 ⟨ixTo_nodup xs ys k, by simp, ?_⟩
      intro a ha b hb
      have := (ixTo_mem xs ys k a).1 ha
      simp at hb
      omega

/-- The costs of the numbers in T are those of ys. -/
def mixT (ys : List Int) (xs : List Int) (T : List Nat) : List Int := T.foldl (fun zs j => zs.set j (ys.getD j 0)) xs
theorem mixT_len (ys : List Int) : ∀ (T : List Nat) (xs : List Int), (mixT ys xs T).length = xs.length
  | [], _ => rfl
  | t :: T, xs => by
    have := mixT_len ys T (xs.set t (ys.getD t 0))
    rw [List.length_set] at this
    exact this
theorem mixT_get (ys : List Int) : ∀ (T : List Nat) (xs : List Int) (j : Nat), (mixT ys xs T)[j]? = if j ∈ T ∧ j < xs.length then some (ys.getD j 0) else xs[j]?
  | [], xs, j => by simp [mixT]
  | t :: T, xs, j => by
    have h := mixT_get ys T (xs.set t (ys.getD t 0)) j
    have e : mixT ys xs (t :: T) = mixT ys (xs.set t (ys.getD t 0)) T := rfl
    rw [e, h, List.length_set]
    by_cases h1 : j ∈ T ∧ j < xs.length
    · rw [if_pos h1, if_pos ⟨List.mem_cons_of_mem _ h1.1, h1.2⟩]
    · rw [if_neg h1]
      by_cases h2 : j = t
      · subst h2
        by_cases h3 : j < xs.length
        · rw [if_pos ⟨List.mem_cons_self, h3⟩]
          simp [h3]
        · rw [if_neg (fun h => h3 h.2)]
          have h4 : xs.length ≤ j := Nat.not_lt.1 h3
          rw [List.getElem?_eq_none (by rw [List.length_set]; exact h4), List.getElem?_eq_none h4]
      · rw [if_neg (fun h => h1 ⟨(List.mem_cons.1 h.1).resolve_left h2, h.2⟩), List.getElem?_set_ne (Ne.symm h2)]
theorem mixT_snoc (ys xs : List Int) (T : List Nat) (j : Nat) : mixT ys xs (T ++ [j]) = (mixT ys xs T).set j (ys.getD j 0) := by simp [mixT, List.foldl_append]
theorem mixT_all {xs ys : List Int} (hl : xs.length = ys.length) : mixT ys xs (ixTo xs ys xs.length) = ys := by
  apply List.ext_getElem?
  intro j
  rw [mixT_get]
  by_cases h : j ∈ ixTo xs ys xs.length ∧ j < xs.length
  · rw [if_pos h, List.getD_eq_getElem?_getD, List.getElem?_eq_getElem (by omega)]
    rfl
  · rw [if_neg h]
    by_cases hj : j < xs.length
    · have hn : ¬ (j < xs.length ∧ xs[j]? ≠ ys[j]?) := fun e => h ⟨(ixTo_mem xs ys xs.length j).2 e, hj⟩
      by_cases he : xs[j]? = ys[j]?
      · exact he
      · exact absurd ⟨hj, he⟩ hn
    · rw [List.getElem?_eq_none (by omega), List.getElem?_eq_none (by omega)]
theorem mixT_in {ys : List Int} (hy : AllH ys) : ∀ (T : List Nat) (xs : List Int), AllH xs → AllH (mixT ys xs T)
  | [], _, h => h
  | t :: T, xs, h => by
    refine mixT_in hy T _ ?_
    intro z hz
    rcases List.mem_or_eq_of_mem_set hz with h1 | rfl
    · exact h z h1
    · rw [List.getD_eq_getElem?_getD]
      cases hq : ys[t]? with
      | none => exact ⟨by decide, by decide⟩
      | some y => exact hy y (List.mem_of_getElem? hq)
/-- The number that comes next. -/
theorem next_ix {X : Int} {xs ys : List Int} {i : Nat} (hl : xs.length = ys.length) (hi : i < (turnF X xs ys).length) :
    ∃ (j : Nat) (h1 : j < (mixT ys xs ((ixTo xs ys xs.length).take i)).length) (h2 : j < ys.length), j < xs.length ∧ (turnF X xs ys)[i] = ((j : Int) % X, (j : Int) / X) ∧
      (mixT ys xs ((ixTo xs ys xs.length).take i))[j] ≠ ys[j] ∧ mixT ys xs ((ixTo xs ys xs.length).take (i + 1)) = (mixT ys xs ((ixTo xs ys xs.length).take i)).set j ys[j] := by
  have hm : turnF X xs ys = (ixTo xs ys xs.length).map (fun j : Nat => ((j : Int) % X, (j : Int) / X)) := turnTo_ix X xs ys xs.length
  have hi2 : i < (ixTo xs ys xs.length).length := by rw [hm, List.length_map] at hi; exact hi
  have hmem := (ixTo_mem xs ys xs.length _).1 (List.getElem_mem hi2)
  obtain ⟨hj, hne⟩ := hmem
  have hj2 : (ixTo xs ys xs.length)[i] < ys.length := by omega
  refine ⟨(ixTo xs ys xs.length)[i], by rw [mixT_len]; exact hj, hj2, hj, ?_, ?_, ?_⟩
  · simp only [hm, List.getElem_map]
  · intro e
    have h1 : (mixT ys xs ((ixTo xs ys xs.length).take i))[(ixTo xs ys xs.length)[i]]? = xs[(ixTo xs ys xs.length)[i]]? := by
      rw [mixT_get, if_neg]
      rintro ⟨hin, _⟩
      have hnd := ixTo_nodup xs ys xs.length
      obtain ⟨k, hk, hk2⟩ := List.mem_iff_getElem.1 hin
      rw [List.length_take] at hk
      rw [List.getElem_take] at hk2
      have := (List.getElem_inj hnd).1 hk2
      omega
    rw [List.getElem?_eq_getElem (by rw [mixT_len]; exact hj), e, ← List.getElem?_eq_getElem hj2] at h1
    exact hne h1.symm
  · rw [List.take_succ_eq_append_getElem hi2, mixT_snoc, List.getD_eq_getElem?_getD, List.getElem?_eq_getElem hj2]
    rfl
theorem turnF_nil {X : Int} {xs ys : List Int} (hl : xs.length = ys.length) : (turnF X xs ys).length = 0 ↔ xs = ys := by
  have hm : turnF X xs ys = (ixTo xs ys xs.length).map (fun j : Nat => ((j : Int) % X, (j : Int) / X)) := turnTo_ix X xs ys xs.length
  rw [hm, List.length_map]
  constructor
  · intro h
    have h0 := List.eq_nil_of_length_eq_zero h
    have := mixT_all hl
    rw [h0] at this
    exact this
  · rintro rfl
    apply Nat.eq_zero_of_not_pos
    intro h
    have := (ixTo_mem xs xs xs.length _).1 (List.getElem_mem h)
    exact this.2 rfl
/-- What is turned by one edit: nothing, or that cell. -/
theorem turnF_set {X x y : Int} {ys : List Int} {j : Nat} {c : Int} (hj : j < ys.length) (hx : (j : Int) % X = x) (hy : (j : Int) / X = y) :
    turnF X ys (ys.set j c) = [] ∨ turnF X ys (ys.set j c) = [(x, y)] := by
  have hm : turnF X ys (ys.set j c) = (ixTo ys (ys.set j c) ys.length).map (fun j : Nat => ((j : Int) % X, (j : Int) / X)) := turnTo_ix X ys (ys.set j c) ys.length
  have only : ∀ t ∈ ixTo ys (ys.set j c) ys.length, t = j := by
    intro t ht
    have h := (ixTo_mem ys (ys.set j c) ys.length t).1 ht
    by_cases e : t = j
    · exact e
    · exact absurd (List.getElem?_set_ne (Ne.symm e)).symm h.2
  have hnd := ixTo_nodup ys (ys.set j c) ys.length
  rw [hm]
  generalize ixTo ys (ys.set j c) ys.length = L at only hnd
  match L, hnd, only with
  | [], _, _ => exact .inl rfl
  | [t], _, ho =>
    obtain rfl := ho t (by simp)
    right
    simp [hx, hy]
  | t :: u :: T, hnd, ho =>
    have h1 := ho t (by simp)
    have h2 := ho u (by simp)
    rw [h1, h2] at hnd
    simp at hnd
end Go.Proofs.YthnpoeobieninaaDoor
