/- Heap's laws: a key made less, among things 0, 1, 2, and so on; rows but for one number. -/
import Derived.Test.YtgcncimeedoplaaHx
namespace Go.Proofs.Ytgcncimeedoplaa
open Go.RowKit Go.Maps

def butN (d : Int) (l : List Int) : List Int := l.filter (fun z => decide (z ≠ d))
theorem butN_snoc (d : Int) {l : List Int} {k : Nat} (h : k < l.length) : butN d (l.take (k + 1)) = if l.getD k 0 = d then butN d (l.take k) else butN d (l.take k) ++ [l.getD k 0] := by
  have e : l.getD k 0 = l[k] := by simp [List.getD_eq_getElem?_getD, h]
  rw [e]
  unfold butN
  rw [List.take_succ_eq_append_getElem h, List.filter_append]
  by_cases hd : l[k] = d
  · rw [if_pos hd]
    simp [hd]
  · rw [if_neg hd]
    simp [hd]
theorem butN_map (d : Int) (m : List Th) : butN d (m.map Th.id) = (m.filter (fun z => decide (z.id ≠ d))).map Th.id := by
  unfold butN
  rw [List.filter_map]
  rfl
theorem butN_len (d : Int) (l : List Int) : (butN d l).length ≤ l.length := List.length_filter_le _ _
theorem but_map {m : List Th} {t : Th} : (m.map (fun y => if y.id = t.id then t else y)).filter (fun z => decide (z.id ≠ t.id)) = m.filter (fun z => decide (z.id ≠ t.id)) := by
  induction m with
  | nil => rfl
  | cons a m ih =>
    rw [List.map_cons, List.filter_cons, List.filter_cons, ih]
    by_cases h : a.id = t.id
    · rw [if_pos h]
      simp [h]
    · rw [if_neg h]
/-- All that HeapSooner asks. -/
theorem sooner_idx {ks : List Th} {t : Th} {n : Nat} (hn : ks.length = n) (he : lowerE (idxM ks) t = 0) :
    ((outN n (idxM ks)).map Th.id).length = n ∧ ((outN n (lowerM (idxM ks) t)).map Th.id).length = n ∧ butN t.id ((outN n (idxM ks)).map Th.id) = butN t.id ((outN n (lowerM (idxM ks) t)).map Th.id) ∧
      ∃ at_ to_ : Nat, posN t.id ((outN n (idxM ks)).map Th.id) n = at_ ∧ posN t.id ((outN n (lowerM (idxM ks) t)).map Th.id) n = to_ ∧ to_ ≤ at_ := by
  have hfi := find_idx ks t.id
  unfold lowerE at he
  by_cases hin : 0 ≤ t.id ∧ t.id < (ks.length : Int)
  · rw [if_pos hin] at hfi
    rw [hfi] at he
    have hls0 : lessK t (withId t.id (atT ks t.id.toNat)) = true := by
      by_cases h : lessK t (withId t.id (atT ks t.id.toNat)) = true
      · exact h
      · simp only [if_neg h] at he
        cases he
    obtain ⟨i, hi⟩ : ∃ i : Nat, t.id = i := ⟨t.id.toNat, by omega⟩
    have hil : i < ks.length := by omega
    have hls : lessK t (atT ks i) = true := by
      have h := hls0
      rw [hi, Int.toNat_natCast] at h
      exact h
    have elm : lowerM (idxM ks) t = (idxM ks).map (fun y => if y.id = t.id then t else y) := by
      unfold lowerM
      rw [hfi]
      exact if_pos hls0
    have elm2 : lowerM (idxM ks) t = idxM (ks.set i t) := elm.trans (idx_set hil hi)
    have hl1 : (idxM ks).length ≤ n := by rw [idxM_len]; omega
    have hl2 : (lowerM (idxM ks) t).length ≤ n := by rw [elm2, idxM_len, List.length_set]; omega
    obtain ⟨a1, a2⟩ := out_all n (idxM ks) hl1 (idxM_nodup ks)
    have nd2 : ((lowerM (idxM ks) t).map Th.id).Nodup := by rw [elm2]; exact idxM_nodup _
    obtain ⟨b1, b2⟩ := out_all n _ hl2 nd2
    have la : (outN n (idxM ks)).length = n := by rw [a1.length_eq, idxM_len, hn]
    have lb : (outN n (lowerM (idxM ks) t)).length = n := by rw [b1.length_eq, elm2, idxM_len, List.length_set, hn]
    have hp : ((outN n (idxM ks)).filter (fun z => decide (z.id ≠ t.id))).Perm ((outN n (lowerM (idxM ks) t)).filter (fun z => decide (z.id ≠ t.id))) := by
      refine (a1.filter _).trans (List.Perm.trans ?_ (b1.filter _).symm)
      rw [elm, but_map]
    have ha : aheadT t (withId (i : Int) (atT ks i)) = true := less_ahead hls
    obtain ⟨c1, at_, to_, c2, c3, c4⟩ := sooner a2 b2 ((a1.map Th.id).nodup_iff.2 (idxM_nodup ks)) ((b1.map Th.id).nodup_iff.2 nd2) (t := withId (i : Int) (atT ks i)) (t' := t) (d := t.id)
      (a1.mem_iff.2 (mem_idx.2 ⟨i, hil, rfl⟩)) (b1.mem_iff.2 (by rw [elm2]; exact mem_idx.2 ⟨i, by simpa using hil, by rw [atT_of_set hil, if_pos rfl, ← hi]; rfl⟩)) (by rw [hi]; rfl) rfl ha hp
    rw [la] at c2
    rw [lb] at c3
    refine ⟨by rw [List.length_map, la], by rw [List.length_map, lb], by rw [butN_map, butN_map, c1], at_, to_, c2, c3, c4⟩
  · rw [if_neg hin] at hfi
    rw [hfi] at he
    cases he

/-- A row read up to a place: where d stands, and what else. -/
structure HalfR (d : Int) (xs : List Int) (k : Nat) (px : Int) (L : Nat) (A : List Int) : Prop where
  p : px = posN d xs k
  l : L = A.length
  a : A = butN d (xs.take k)
theorem HalfR.start (d : Int) (xs : List Int) : HalfR d xs 0 (-1) 0 [] := ⟨rfl, rfl, rfl⟩
theorem HalfR.eq {d : Int} {xs : List Int} {k : Nat} {px : Int} {L : Nat} {A : List Int} (h : HalfR d xs k px L A) (hk : k < xs.length) (e : xs.getD k 0 = d) : HalfR d xs (k + 1) k L A :=
  ⟨by rw [posN, if_pos e], h.l, by rw [butN_snoc d hk, if_pos e]; exact h.a⟩
theorem HalfR.ne {d : Int} {xs : List Int} {k : Nat} {px : Int} {L : Nat} {A : List Int} (h : HalfR d xs k px L A) (hk : k < xs.length) (e : ¬xs.getD k 0 = d) : HalfR d xs (k + 1) px (L + 1) (A ++ [xs.getD k 0]) :=
  ⟨by rw [posN, if_neg e]; exact h.p, by rw [List.length_append, h.l]; rfl, by rw [butN_snoc d hk, if_neg e, ← h.a]⟩
theorem HalfR.le {d : Int} {xs : List Int} {k : Nat} {px : Int} {L : Nat} {A : List Int} (h : HalfR d xs k px L A) : L ≤ k := by
  rw [h.l, h.a]
  have := butN_len d (xs.take k)
  rw [List.length_take] at this
  omega
end Go.Proofs.Ytgcncimeedoplaa
