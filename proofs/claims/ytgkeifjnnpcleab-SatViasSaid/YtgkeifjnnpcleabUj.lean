/- The reference's Via. -/
import Derived.Test.YtgkeifjnnpcleabUi
namespace Go.Proofs.Ytgkeifjnnpcleab
open Go.RowKit

/-- The row behind the first i rows of the table, and the first k places of row i. -/
def viaPart (xs : List Int) (rs : List (List Int)) (i k : Nat) : List Int := (List.range (wideT rs)).map (fun p => viaTo xs rs p (if p < k then i + 1 else i))
theorem viaPart_len (xs : List Int) (rs : List (List Int)) (i k : Nat) : (viaPart xs rs i k).length = wideT rs := by simp [viaPart]
theorem viaPart_at {xs : List Int} {rs : List (List Int)} {i k : Nat} (hk : k < wideT rs) : (viaPart xs rs i k)[k]? = some (viaTo xs rs k i) := by
  simp [viaPart, hk]
theorem viaPart_set {xs : List Int} {rs : List (List Int)} {i k : Nat} : (viaPart xs rs i k).set k (viaTo xs rs k (i + 1)) = viaPart xs rs i (k + 1) := by
  refine List.ext_getElem (by simp [viaPart]) fun j h1 h2 => ?_
  simp only [viaPart, List.getElem_set, List.getElem_map, List.getElem_range]
  by_cases e : k = j
  · subst e; simp
  · rw [if_neg e]
    by_cases h : j < k
    · rw [if_pos h, if_pos (by omega)]
    · rw [if_neg h, if_neg (by omega)]
theorem viaPart_same {xs : List Int} {rs : List (List Int)} {i k : Nat} (hk : k < wideT rs) (h : viaTo xs rs k (i + 1) = viaTo xs rs k i) : viaPart xs rs i k = viaPart xs rs i (k + 1) := by
  rw [← viaPart_set, h]
  have := viaPart_at (xs := xs) (rs := rs) (i := i) hk
  obtain ⟨h1, h2⟩ := List.getElem?_eq_some_iff.1 this
  conv => rhs; rw [← h2]
  exact (List.set_getElem_self h1).symm
theorem viaPart_next (xs : List Int) (rs : List (List Int)) (i : Nat) : viaPart xs rs i (wideT rs) = viaPart xs rs (i + 1) 0 := by
  unfold viaPart
  refine List.map_congr_left fun p hp => ?_
  rw [if_pos (List.mem_range.1 hp), if_neg (by omega)]
theorem viaPart_end (xs : List Int) (rs : List (List Int)) : viaPart xs rs xs.length 0 = viaC xs rs := by
  unfold viaPart viaC viaAt
  refine List.map_congr_left fun p _ => ?_
  rw [if_neg (by omega)]
/-- The first places of the first row. -/
def viaHead (xs : List Int) (rs : List (List Int)) (k : Nat) : List Int := (List.range k).map (fun p => viaTo xs rs p 1)
theorem viaHead_succ (xs : List Int) (rs : List (List Int)) (k : Nat) : viaHead xs rs (k + 1) = viaHead xs rs k ++ [viaTo xs rs k 1] := by simp [viaHead, List.range_succ]
theorem viaHead_end (xs : List Int) (rs : List (List Int)) : viaHead xs rs (wideT rs) = viaPart xs rs 1 0 := by
  unfold viaHead viaPart
  refine List.map_congr_left fun p _ => ?_
  rw [if_neg (by omega)]

/-- A grown row of costs: where it lies, and what it holds; a store into it. -/
def OwnU (W : World) (B : Nat) (v : Value) (zs : List Int) : Prop := W.ownsRow B 23 1 v zs.length (cellsU zs)
theorem OwnU.at {W : World} {B : Nat} {v : Value} {zs : List Int} (h : OwnU W B v zs) {k : Nat} {z : Int} (hz : zs[k]? = some z) :
    ∃ g cap, v = .slice (some ⟨g, 0, none⟩) zs.length cap ∧ B ≤ g ∧ W.cell? ⟨g, k, none⟩ = some (.int .u64 z) ∧ W.frozen? ⟨g, k, none⟩ = false ∧
      ∀ u, OwnU (W.setCell ⟨g, k, none⟩ (.int .u64 u)) B v (zs.set k u) := by
  have hk := (List.getElem?_eq_some_iff.1 hz).1
  have hown := h
  rcases h.2 with ⟨rfl, h0⟩ | ⟨g, cap, cur, rfl, hb, hg, hl, hm, hs, ht⟩
  · omega
  · refine ⟨g, cap, rfl, hb, ?_, by simp [World.frozen?, hg], fun u => ⟨by simp [cellsU], .inr ⟨g, cap, cur.setIfInBounds k (.int .u64 u), by simp, hb, ?_, by simpa using hl, hm, by simpa using hs, ?_⟩⟩⟩
    · have hadd : ∀ j, (⟨g, 0, none⟩ : Addr).add j = ⟨g, j, none⟩ := fun j => by unfold Addr.add; split <;> simp_all
      have a0 := World.ownsRow.cells (g := g) hown rfl k (.int .u64 z) (by simp [cellsU, hz])
      rw [hadd] at a0
      exact a0
    · exact heap_setCell_same _ _ _ _ _ _ hg
    · rw [Nat.mul_one] at ht ⊢
      rw [List.length_set, Array.toList_setIfInBounds, List.take_set, ht]
      simp [cellsU]
end Go.Proofs.Ytgkeifjnnpcleab
