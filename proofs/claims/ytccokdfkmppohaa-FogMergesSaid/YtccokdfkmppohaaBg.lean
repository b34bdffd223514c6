/- FogMerges: by numbers and by cells comes to the same. -/
import Derived.Test.YtccokdfkmppohaaBf
namespace Go.Proofs.Ytccokdfkmppohaa
open Go.RowKit Go.Shelf

/-- What the reference holds of what is known. -/
def costR (ms : List (Option Int)) : List Int := ms.map (fun o => o.getD (-1))
theorem costR_len (ms : List (Option Int)) : (costR ms).length = ms.length := by simp [costR]
theorem costR_set (ms : List (Option Int)) (i : Nat) (z : Int) : costR (ms.set i (some z)) = (costR ms).set i z := by simp [costR, List.map_set]
theorem costR_at {ms : List (Option Int)} {i : Nat} (hi : i < ms.length) : (costR ms).getD i 0 = ms[i].getD (-1) := by simp [costR, List.getD_eq_getElem?_getD, hi]
/-- The cell of a number. -/
def cellN (X : Int) (i : Nat) : Int × Int := ((i : Int) % X, (i : Int) / X)
theorem numC_cellN (X : Int) (i : Nat) : numC X (cellN X i) = i := by
  unfold numC cellN
  have e := Int.emod_add_mul_ediv (i : Int) X
  have e2 : (i : Int) / X * X = X * ((i : Int) / X) := Int.mul_comm _ _
  dsimp only
  rw [e2, Int.add_comm, e]
  simp
theorem step_same {X : Int} {fs : List Int} {qs : List Bool} {ms : List (Option Int)} {out : List (Int × Int)} {i : Nat} (hu : AllH fs) (hi : i < fs.length) (hm : i < ms.length) (hq : qs.getD i false = true) :
    stepN X fs qs (costR ms, out) i = (costR (stepS X fs (ms, out) (cellN X i)).1, (stepS X fs (ms, out) (cellN X i)).2) := by
  unfold stepN stepS
  rw [numC_cellN, hq]
  dsimp only
  rw [costR_at hm]
  have hf : fs.getD i 0 = fs[i] := by simp [List.getD_eq_getElem?_getD, hi]
  have h0 : 0 ≤ fs.getD i 0 := by rw [hf]; exact (hu.at hi).1
  have he : ms[i]? = some ms[i] := List.getElem?_eq_getElem hm
  rw [he]
  by_cases h : ms[i] = some (fs.getD i 0)
  · have e1 : (true && ms[i].getD (-1) != fs.getD i 0) = false := by rw [h, Option.getD_some]; simp
    rw [if_neg (by rw [e1]; decide), if_pos (by rw [h])]
  · have e1 : (true && ms[i].getD (-1) != fs.getD i 0) = true := by
      rw [Bool.true_and, bne_iff_ne]
      intro e
      cases ho : ms[i] with
      | none => rw [ho, Option.getD_none] at e; omega
      | some v => rw [ho, Option.getD_some] at e; exact h (by rw [ho, e])
    rw [if_pos e1, if_neg (fun e => h (Option.some.inj e)), costR_set]
    rfl
theorem merge_same {X : Int} {fs : List Int} {qs : List Bool} {ms : List (Option Int)} (hu : AllH fs) (hl : ms.length = fs.length) : ∀ k : Nat, k ≤ fs.length →
    mergeN X fs qs (costR ms) k = (costR (mergeS X fs ms (((List.range k).filter (fun i => qs.getD i false)).map (cellN X))).1, (mergeS X fs ms (((List.range k).filter (fun i => qs.getD i false)).map (cellN X))).2)
  | 0, _ => rfl
  | k + 1, hk => by
    have ih := merge_same (X := X) hu hl (qs := qs) k (by omega)
    rw [mergeN_next, ih, List.range_succ, List.filter_append, List.map_append]
    cases hq : qs.getD k false with
    | false =>
      have e : [k].filter (fun i => qs.getD i false) = [] := by rw [List.filter_cons_of_neg (by rw [hq]; decide), List.filter_nil]
      rw [e, List.map_nil, List.append_nil]
      unfold stepN
      rw [hq, if_neg (by simp)]
    | true =>
      have e : [k].filter (fun i => qs.getD i false) = [k] := by rw [List.filter_cons_of_pos (by rw [hq]), List.filter_nil]
      rw [e, List.map_cons, List.map_nil, mergeS_snoc]
      exact step_same hu (by omega) (by rw [(mergeS_len X fs ms _).1, hl]; omega) hq
theorem filter_cut (p : Nat → Bool) (n : Nat) : ∀ d : Nat, (∀ i, n ≤ i → p i = false) → (List.range (n + d)).filter p = (List.range n).filter p
  | 0, _ => rfl
  | d + 1, h => by
    rw [← Nat.add_assoc, List.range_succ, List.filter_append, filter_cut p n d h]
    simp [h (n + d) (by omega)]
theorem cells_range {X Y : Int} {bs : List Nat} {n : Nat} (hg : Good X Y bs) (hn : (n : Int) = X * Y) : cellsM X Y bs = ((List.range n).filter (fun i => bitAt bs i)).map (cellN X) := by
  have hout : ∀ i : Nat, n ≤ i → bitAt bs i = false := fun i hi => by
    cases hb : bitAt bs i with
    | false => rfl
    | true =>
      have hmem : (i : Int) ∈ numsOf bs := (mem_nums bs i).2 ⟨Int.natCast_nonneg _, by rwa [Int.toNat_natCast]⟩
      obtain ⟨h1, h2, h3, h4, h5, h6⟩ := atB_iff.1 (nums_at hg hmem)
      omega
  have hr : (List.range (bs.length * 8)).filter (fun i => bitAt bs i) = (List.range n).filter (fun i => bitAt bs i) := by
    rcases Nat.le_total n (bs.length * 8) with h | h
    · obtain ⟨d, hd⟩ := Nat.exists_eq_add_of_le h
      rw [hd]
      exact filter_cut _ n d hout
    · obtain ⟨d, hd⟩ := Nat.exists_eq_add_of_le h
      rw [hd]
      exact (filter_cut _ (bs.length * 8) d (fun i hi => bit_out bs i hi)).symm
  unfold cellsM
  rw [numsOf_range, hr, List.map_map]
  refine List.map_congr_left (fun i hi => ?_)
  have hb := (List.mem_filter.1 hi).2
  have hmem : (i : Int) ∈ numsOf bs := (mem_nums bs i).2 ⟨Int.natCast_nonneg _, by rwa [Int.toNat_natCast]⟩
  exact cell_of_num hg hmem
theorem merge_is {X Y : Int} {bs : List Nat} {fs : List Int} {qs : List Bool} {ms : List (Option Int)} {n : Nat} (hg : Good X Y bs) (hn : (n : Int) = X * Y) (hu : AllH fs) (hfl : fs.length = n) (hml : ms.length = n) (hq : ∀ i, i < n → qs.getD i false = bitAt bs i) :
    mergeN X fs qs (costR ms) n = (costR (mergeS X fs ms (cellsM X Y bs)).1, (mergeS X fs ms (cellsM X Y bs)).2) := by
  have h := merge_same (qs := qs) (X := X) hu (hml.trans hfl.symm) n (by omega)
  rw [h, cells_range hg hn]
  have e : (List.range n).filter (fun i => qs.getD i false) = (List.range n).filter (fun i => bitAt bs i) := List.filter_congr (fun i hi => hq i (List.mem_range.1 hi))
  rw [e]
/-- The list's cells: as bits, and as a row of truths. -/
theorem inQ_bit {X Y : Int} {n : Nat} (hn : (n : Int) = X * Y) : ∀ (cs : List (Int × Int)) (bs : List Nat) (ls : List Bool), Good X Y bs → ls.length = n → (∀ i, i < n → ls.getD i false = bitAt bs i) → ∀ i, i < n → (cs.foldl (stepQ X Y) ls).getD i false = bitAt (putIn X Y bs cs) i
  | [], bs, ls, _, _, h, i, hi => h i hi
  | c :: cs, bs, ls, g, hl, h, i, hi => by
    have e : putIn X Y bs (c :: cs) = putIn X Y (if inB X Y c.1 c.2 = true then setB bs (c.2 * X + c.1).toNat true else bs) cs := rfl
    rw [e, List.foldl_cons]
    cases hb : inB X Y c.1 c.2 with
    | false =>
      have e1 : stepQ X Y ls c = ls := by unfold stepQ; rw [if_neg (by rw [hb]; decide)]
      rw [e1, if_neg (by decide)]
      exact inQ_bit hn cs bs ls g hl h i hi
    | true =>
      have e1 : stepQ X Y ls c = ls.set (numC X c) true := by unfold stepQ; rw [if_pos hb]
      rw [e1, if_pos rfl]
      refine inQ_bit hn cs _ _ (g.set hb true) (by simpa using hl) (fun j hj => ?_) i hi
      have hk := (num_bd hb hn).1
      rw [bitAt_setB _ _ _ (g.idx hb), show (c.2 * X + c.1).toNat = numC X c from rfl]
      by_cases hjk : j = numC X c
      · subst hjk
        rw [if_pos rfl]
        simp [List.getD_eq_getElem?_getD, hl, hk]
      · rw [if_neg hjk, ← h j hj]
        simp [List.getD_eq_getElem?_getD, Ne.symm hjk]
end Go.Proofs.Ytccokdfkmppohaa
