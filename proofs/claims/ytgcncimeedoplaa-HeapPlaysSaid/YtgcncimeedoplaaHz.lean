/- Heap's laws: things put in by a row of numbers, in whatever order. -/
import Derived.Test.YtgcncimeedoplaaHx
import Derived.Test.YtgcncimeedoplaaOp
namespace Go.Proofs.Ytgcncimeedoplaa
open Go.RowKit Go.Maps

def idsR (n : Nat) : List Int := (List.range n).map (fun i : Nat => (i : Int))
def byM (f : Int → Th) (l : List Int) : List Th := l.map (fun x => withId x (f x))
theorem byM_ids (f : Int → Th) (l : List Int) : (byM f l).map Th.id = l := by
  unfold byM
  rw [List.map_map]
  exact List.map_id l
theorem byM_len (f : Int → Th) (l : List Int) : (byM f l).length = l.length := by simp [byM]
theorem idxM_by (ks : List Th) : idxM ks = byM (fun x => atT ks x.toNat) (idsR ks.length) := by
  unfold idxM byM idsR
  rw [List.map_map]
  rfl
theorem byM_none {f : Int → Th} {l : List Int} {x : Int} (h : x ∉ l) : findT (byM f l) x = none := by
  refine findT_none fun t ht e => h ?_
  obtain ⟨y, hy, rfl⟩ := List.mem_map.1 ht
  simp only [withId] at e
  rw [← e]; exact hy
theorem byM_some {f : Int → Th} {l : List Int} {x : Int} (hn : l.Nodup) (h : x ∈ l) : findT (byM f l) x = some (withId x (f x)) :=
  findT_some (by rw [byM_ids]; exact hn) (List.mem_map.2 ⟨x, h, rfl⟩) rfl
theorem byM_push {f : Int → Th} {l : List Int} {k : Nat} (hn : l.Nodup) (h : k < l.length) (t : Th) (ht : t = withId (l.getD k 0) (f (l.getD k 0))) : pushE (byM f (l.take k)) t.id = 0 ∧ pushM (byM f (l.take k)) t = byM f (l.take (k + 1)) := by
  have e : l.getD k 0 = l[k] := by simp [List.getD_eq_getElem?_getD, h]
  rw [e] at ht
  subst ht
  have hni : l[k] ∉ l.take k := fun hm => by
    have h2 : l = l.take k ++ l[k] :: l.drop (k + 1) := by rw [← List.drop_eq_getElem_cons h, List.take_append_drop]
    rw [h2, List.nodup_append] at hn
    exact hn.2.2 _ hm l[k] List.mem_cons_self rfl
  have hf : findT (byM f (l.take k)) (withId l[k] (f l[k])).id = none := byM_none hni
  refine ⟨by unfold pushE; rw [hf]; rfl, ?_⟩
  unfold pushM
  rw [hf]
  simp only [Option.isSome_none, Bool.false_eq_true, if_false]
  unfold byM
  rw [List.take_succ_eq_append_getElem h, List.map_append]
  rfl
/-- The greatest key. -/
def mostT : Th := ⟨0, 18446744073709551615, 18446744073709551615, 9223372036854775807, 9223372036854775807⟩
theorem most_less {t : Th} (h : WfT t) : lessK t mostT = !sameK t mostT := by
  obtain ⟨h1, h2, h3, h4, h5, h6, h7, h8⟩ := h.u
  cases hs : sameK t mostT
  · rw [Bool.not_false, less_iff]
    unfold sameK at hs
    have := of_decide_eq_false hs
    simp only [mostT] at this ⊢
    omega
  · rw [Bool.not_true, ← Bool.not_eq_true, less_iff]
    unfold sameK at hs
    have := of_decide_eq_true hs
    simp only [mostT] at this ⊢
    omega
/-- Some have their own keys, the others still the greatest one. -/
def halfF (ks : List Th) (k : Nat) : Int → Th := fun x => if x < k then atT ks x.toNat else mostT
theorem half_start (ks : List Th) (l : List Int) (h : ∀ x ∈ l, 0 ≤ x) : byM (fun _ => mostT) l = byM (halfF ks 0) l := by
  unfold byM
  apply List.map_congr_left
  intro x hx
  have := h x hx
  unfold halfF
  rw [if_neg (by omega)]
theorem half_end (ks : List Th) (l : List Int) (n : Nat) (h : ∀ x ∈ l, x < n) : byM (halfF ks n) l = byM (fun x => atT ks x.toNat) l := by
  unfold byM
  apply List.map_congr_left
  intro x hx
  unfold halfF
  rw [if_pos (h x hx)]
theorem half_next {ks : List Th} {k : Nat} {l : List Int} (hn : l.Nodup) (h : (k : Int) ∈ l) (hw : WfT (atT ks k)) :
    lowerE (byM (halfF ks k) l) (withId (k : Int) (atT ks k)) = (if sameK (atT ks k) mostT = true then 1 else 0) ∧ lowerM (byM (halfF ks k) l) (withId (k : Int) (atT ks k)) = byM (halfF ks (k + 1)) l := by
  have hf : findT (byM (halfF ks k) l) (withId (k : Int) (atT ks k)).id = some (withId (k : Int) mostT) := by
    rw [show (withId (k : Int) (atT ks k)).id = (k : Int) from rfl, byM_some hn h]
    unfold halfF
    rw [if_neg (by omega)]
  have hl : lessK (withId (k : Int) (atT ks k)) (withId (k : Int) mostT) = !sameK (atT ks k) mostT := show lessK (atT ks k) mostT = _ from most_less hw
  have hstep : ∀ x ∈ l, (x ≠ (k : Int) → halfF ks (k + 1) x = halfF ks k x) := fun x _ hx => by
    unfold halfF
    by_cases h1 : x < k
    · rw [if_pos h1, if_pos (by omega)]
    · rw [if_neg h1, if_neg (by omega)]
  have hk : halfF ks (k + 1) (k : Int) = atT ks k := by
    unfold halfF
    rw [if_pos (by omega), Int.toNat_natCast]
  refine ⟨?_, ?_⟩
  · unfold lowerE
    rw [hf]
    simp only [hl]
    cases sameK (atT ks k) mostT <;> rfl
  · unfold lowerM
    rw [hf]
    simp only [hl]
    cases hs : sameK (atT ks k) mostT
    · simp only [Bool.not_false, if_true]
      unfold byM
      rw [List.map_map]
      apply List.map_congr_left
      intro x hx
      show (if (withId x (halfF ks k x)).id = (withId (k : Int) (atT ks k)).id then withId (k : Int) (atT ks k) else withId x (halfF ks k x)) = withId x (halfF ks (k + 1) x)
      by_cases hxk : x = (k : Int)
      · subst hxk
        rw [if_pos (show (withId (k : Int) (halfF ks k k)).id = (withId (k : Int) (atT ks k)).id from rfl), hk]
      · rw [if_neg (show ¬(withId x (halfF ks k x)).id = (withId (k : Int) (atT ks k)).id from hxk), hstep x hx hxk]
    · simp only [Bool.not_true, Bool.false_eq_true, if_false]
      unfold byM
      apply List.map_congr_left
      intro x hx
      by_cases hxk : x = (k : Int)
      · subst hxk
        rw [hk]
        have e : halfF ks k (k : Int) = mostT := by unfold halfF; rw [if_neg (by omega)]
        rw [e]
        unfold sameK at hs
        obtain ⟨s1, s2, s3, s4⟩ := of_decide_eq_true hs
        simp only [withId, s1, s2, s3, s4]
      · rw [hstep x hx hxk]
/-- Two lists of the same things. -/
theorem first_perm {m m' : List Th} (hp : m.Perm m') : firstT m = firstT m' := by
  by_cases h0 : m = []
  · subst h0
    rw [List.nil_perm.1 hp]
  · obtain ⟨h1, h2⟩ := firstT_least m h0
    exact (firstT_eq (hp.mem_iff.1 h1) (fun x hx => h2 x (hp.mem_iff.2 hx))).symm
theorem popM_perm {m m' : List Th} (hp : m.Perm m') : (popM m).Perm (popM m') := by
  unfold popM
  rw [first_perm hp]
  exact hp.filter _
theorem empty_perm {m m' : List Th} (hp : m.Perm m') : m.isEmpty = m'.isEmpty := by
  have := hp.length_eq
  cases m <;> cases m' <;> simp_all
theorem swapI {l : List Int} {a b : Nat} (ha : a < l.length) (hb : b < l.length) : ((l.set a (l.getD b 0)).set b (l.getD a 0)).Perm l := by
  have h := @List.set_set_perm Int l a b ha hb
  have ea : l.getD a 0 = l[a] := by simp [List.getD_eq_getElem?_getD, ha]
  have eb : l.getD b 0 = l[b] := by simp [List.getD_eq_getElem?_getD, hb]
  rw [ea, eb]
  exact h
theorem cellsI_set (l : List Int) (i : Nat) (x : Int) : (cellsI l).set i (.int .i64 x) = cellsI (l.set i x) := by simp [cellsI, List.map_set]
end Go.Proofs.Ytgcncimeedoplaa
