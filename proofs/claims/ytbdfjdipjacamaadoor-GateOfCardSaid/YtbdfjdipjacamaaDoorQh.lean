/- Gates: which clusters the cells of a border are in; that its pairs stand there once; the gate that comes next. -/
import Derived.Test.YtbdfjdipjacamaaDoorQg
import Derived.Test.YtbdfjdipjacamaaDoorDw
namespace Go.Proofs.YtbdfjdipjacamaaDoor
open Go.RowKit

theorem brd_facts {W H S a b : Int} (hx : brdX W H S a b = 0) : rightP W H S = true ∧ (0 ≤ min a b ∧ min a b < lieN W S * lieN H S) ∧ (0 ≤ max a b ∧ max a b < lieN W S * lieN H S) ∧ min a b < max a b ∧ (∃ d, (d = 1 ∨ d = 2) ∧ brdP W H S a b = prsP W H S (plcP W S (min a b)) d ∧ toP W H S (plcP W S (min a b)) d = true ∧ numP W S (stepI (plcP W S (min a b)) d) = max a b) ∧ ∀ p ∈ brdP W H S a b, ofP W S p.1 = min a b ∧ ofP W S p.2 = max a b := by
  have hx2 := hx
  unfold brdX at hx2
  by_cases h1 : plcX W H S (min a b) = 0
  case neg => rw [if_pos h1] at hx2; exact absurd hx2 h1
  rw [if_neg (fun h => h h1)] at hx2
  by_cases h2 : plcX W H S (max a b) = 0
  case neg => rw [if_pos h2] at hx2; exact absurd hx2 h2
  rw [if_neg (fun h => h h2)] at hx2
  have hs : sideP W H S (min a b) (max a b) ≠ 0 := fun h => by rw [if_pos h] at hx2; cases hx2
  clear hx2
  obtain ⟨hr, d0, d1⟩ := plcX_yes.1 h1
  obtain ⟨_, e0, e1⟩ := plcX_yes.1 h2
  obtain ⟨p1, p2, p3, p4, p5⟩ := plc_in hr d0 d1
  have hne : min a b ≠ max a b := fun h => by
    rw [← h] at hs
    exact hs (side_same hr d0 d1)
  have hs2 := hs
  unfold sideP at hs2
  have key : ∀ d, (d = 1 ∨ d = 2) → toP W H S (plcP W S (min a b)) d = true → numP W S (stepI (plcP W S (min a b)) d) = max a b → ∀ p ∈ prsP W H S (plcP W S (min a b)) d, ofP W S p.1 = min a b ∧ ofP W S p.2 = max a b := by
    intro d hd ht hnu p hp
    unfold prsP at hp
    rw [List.mem_map] at hp
    obtain ⟨k, hk, rfl⟩ := hp
    rw [List.mem_range] at hk
    obtain ⟨o1, o2⟩ := prs_of hr p1 p2 p3 p4 hd ht hk
    exact ⟨by rw [o1]; exact p5, by rw [o2]; exact hnu⟩
  have hl : brdP W H S a b = prsP W H S (plcP W S (min a b)) (sideP W H S (min a b) (max a b)) := by unfold brdP; rw [if_pos hx]
  refine ⟨hr, ⟨d0, d1⟩, ⟨e0, e1⟩, by omega, ?_⟩
  rw [hl]
  by_cases c1 : toP W H S (plcP W S (min a b)) 1 = true ∧ numP W S (stepI (plcP W S (min a b)) 1) = max a b
  · have hsd : sideP W H S (min a b) (max a b) = 1 := by unfold sideP; rw [if_pos c1]
    rw [hsd]
    exact ⟨⟨1, .inl rfl, rfl, c1.1, c1.2⟩, key 1 (.inl rfl) c1.1 c1.2⟩
  · rw [if_neg c1] at hs2
    by_cases c2 : toP W H S (plcP W S (min a b)) 2 = true ∧ numP W S (stepI (plcP W S (min a b)) 2) = max a b
    · have hsd : sideP W H S (min a b) (max a b) = 2 := by unfold sideP; rw [if_neg c1, if_pos c2]
      rw [hsd]
      exact ⟨⟨2, .inr rfl, rfl, c2.1, c2.2⟩, key 2 (.inr rfl) c2.1 c2.2⟩
    · rw [if_neg c2] at hs2
      exact absurd rfl hs2
/-- A border's pairs are pairwise distinct. -/
theorem prsF_inj {W H S : Int} {p : IC} {d : Int} {i j : Nat} (h : (prsF W H S p d i).1 = (prsF W H S p d j).1) : i = j := by
  unfold prsF at h
  by_cases hd : d = 1
  · simp only [hd, if_true] at h
    have := (Prod.ext_iff.1 h).2
    simp only at this
    omega
  · simp only [hd, if_false] at h
    have := (Prod.ext_iff.1 h).1
    simp only at this
    omega
def OnceP (l : List (IC × IC)) : Prop := ∀ (i j : Nat) (hi : i < l.length) (hj : j < l.length), l[i] = l[j] → i = j
theorem brd_once {W H S a b : Int} (hx : brdX W H S a b = 0) : OnceP (brdP W H S a b) := by
  obtain ⟨_, _, _, _, ⟨d, _, hl, _, _⟩, _⟩ := brd_facts hx
  rw [hl]
  intro i j hi hj h
  rw [prsP_at, prsP_at] at h
  exact prsF_inj (by rw [h])

/-- The gates from i on. -/
def restG (op : IC × IC → Bool) (l : List (IC × IC)) (i : Nat) : Nat → List (IC × IC)
  | 0 => []
  | m + 1 => (if isG (opnAt op l) l.length i = true then pickL l [i] else []) ++ restG op l (i + 1) m
theorem rest_all (op : IC × IC → Bool) (l : List (IC × IC)) : ∀ (m i : Nat), i + m = l.length → gatesL op l = gatesTo op l i ++ restG op l i m
  | 0, i, h => by
    have : i = l.length := by omega
    rw [this, restG, List.append_nil]; rfl
  | m + 1, i, h => by
    rw [rest_all op l m (i + 1) (by omega), restG, gatesTo_succ (by omega), List.append_assoc]
    congr 2
    split
    · rw [pickL_one (by omega)]
    · rfl
theorem rest_mem {op : IC × IC → Bool} {l : List (IC × IC)} {x : IC × IC} : ∀ (m i : Nat), x ∈ restG op l i m → ∃ j, i ≤ j ∧ ∃ h : j < l.length, l[j] = x
  | 0, i, h => by simp [restG] at h
  | m + 1, i, h => by
    rw [restG, List.mem_append] at h
    rcases h with h | h
    · split at h
      · unfold pickL at h
        simp at h
        obtain ⟨h1, h2⟩ := List.getElem?_eq_some_iff.1 h
        exact ⟨i, Nat.le_refl _, h1, h2⟩
      · simp at h
    · obtain ⟨j, h1, h2⟩ := rest_mem m (i + 1) h
      exact ⟨j, by omega, h2⟩
/-- The next gate is this pair just if this pair is a gate. -/
theorem next_gate {op : IC × IC → Bool} {l : List (IC × IC)} {i : Nat} (ho : OnceP l) (hi : i < l.length) :
    (isG (opnAt op l) l.length i = true → ∃ h : (gatesTo op l i).length < (gatesL op l).length, (gatesL op l)[(gatesTo op l i).length] = l[i]) ∧
    (isG (opnAt op l) l.length i = false → ∀ h : (gatesTo op l i).length < (gatesL op l).length, (gatesL op l)[(gatesTo op l i).length] ≠ l[i]) := by
  obtain ⟨m, hm⟩ : ∃ m, i + (m + 1) = l.length := ⟨l.length - i - 1, by omega⟩
  have he := rest_all op l (m + 1) i hm
  rw [restG] at he
  constructor
  · intro hg
    rw [if_pos hg, pickL_one hi] at he
    rw [he]
    exact ⟨by simp, by simp⟩
  · intro hg h hc
    rw [if_neg (by rw [hg]; decide), List.nil_append] at he
    have hmem : l[i] ∈ restG op l (i + 1) m := by
      rw [← hc]
      have : (gatesL op l)[(gatesTo op l i).length]? = (restG op l (i + 1) m)[0]? := by
        rw [he, List.getElem?_append_right (Nat.le_refl _), Nat.sub_self]
      rw [List.getElem?_eq_getElem h] at this
      exact List.mem_of_getElem? this.symm
    obtain ⟨j, h1, h2, h3⟩ := rest_mem m (i + 1) hmem
    have := ho j i h2 hi h3
    omega
end Go.Proofs.YtbdfjdipjacamaaDoor
