/- Lines and pieces: two ways to cut a text. -/
import Derived.Test.YthnpoeobieninaaDoorYi
import Derived.Test.YthnpoeobieninaaDoorYg
namespace Go.Proofs.YthnpoeobieninaaDoor
open Go.RowKit

theorem lines_cut : ∀ (l : List UInt8) (ps : List (List UInt8)) (p : List UInt8), cutB 10 l = ps ++ [p] → linesF l = ps.map (· ++ [10]) ++ (if p = [] then [] else [p])
  | [], ps, p, h => by
    cases ps with
    | nil =>
      simp [cutB] at h
      subst h
      rfl
    | cons x xs =>
      have := congrArg List.length h
      simp [cutB] at this
  | a :: r, ps, p, h => by
    have hne := cutB_ne 10 r
    rw [cutB] at h
    rw [linesF]
    by_cases ha : a = 10
    · subst ha
      rw [if_pos rfl] at h
      cases ps with
      | nil => simp at h; exact absurd h.2 hne
      | cons x xs =>
        simp at h
        obtain ⟨rfl, h⟩ := h
        have ih := lines_cut r xs p h
        simp [ih]
    · rw [if_neg ha] at h
      cases hr : cutB 10 r with
      | nil => exact absurd hr hne
      | cons y ys =>
        rw [hr] at h
        simp only at h
        cases ps with
        | nil =>
          simp at h
          obtain ⟨rfl, rfl⟩ := h
          have ih := lines_cut r [] y (by rw [hr]; rfl)
          by_cases hy : y = []
          · subst hy; simp at ih; simp [ha, ih]
          · simp [hy] at ih; simp [ha, ih]
        | cons x xs =>
          simp at h
          obtain ⟨rfl, rfl⟩ := h
          have ih := lines_cut r (y :: xs) p (by rw [hr]; rfl)
          simp at ih
          simp [ha, ih]
theorem stepP_acc (cs us : List Int) (e : Int) (l : List UInt8) : stepP (cs ++ us, e) l = (cs ++ (stepP (us, e) l).1, (stepP (us, e) l).2) := by
  unfold stepP
  split
  · rfl
  · split <;> simp
theorem runP_acc (cs : List Int) (ps : List (List UInt8)) : runP cs ps = (cs ++ (runP [] ps).1, (runP [] ps).2) := by
  induction ps using snoc_ind with
  | h0 => simp [runP]
  | h1 ps l ih =>
    rw [runP_snoc, runP_snoc, ih, stepP_acc]
/-- What the first rows of a text come to. -/
def upTo (ps : List (List UInt8)) (y : Nat) : PS := runL ((ps.take y).map (· ++ [10]))
theorem upTo_step {ps : List (List UInt8)} {y : Nat} (h : y < ps.length) : upTo ps (y + 1) = stepL (upTo ps y) (ps[y] ++ [10]) := by
  unfold upTo
  rw [List.take_succ_eq_append_getElem h, List.map_append, List.map_cons, List.map_nil, runL_snoc]
theorem upTo_all {ps : List (List UInt8)} (q : List (List UInt8)) {y : Nat} (he : (upTo ps y).e ≠ 0) : runL (ps.map (· ++ [10]) ++ q) = upTo ps y := by
  unfold upTo
  have e : ps.map (· ++ [10]) = (ps.take y).map (· ++ [10]) ++ (ps.drop y).map (· ++ [10]) := by rw [← List.map_append, List.take_append_drop]
  rw [e, List.append_assoc]
  exact runL_stop _ _ he
section
variable {l : List UInt8} {ps : List (List UInt8)} {p : List UInt8} {y : Nat} {W : Int} {cs : List Int}
theorem par_stop (hl : l.length ≤ 131072) (h0 : l ≠ []) (hc : cutB 10 l = ps ++ [p]) (he : (upTo ps y).e ≠ 0) :
    parF l = (⟨0, 0, [], (upTo ps y).e⟩, (upTo ps y).H) := by
  unfold parF
  rw [if_neg (by omega), if_neg h0, lines_cut l ps p hc, upTo_all _ he, if_pos he]
theorem par_bad (hl : l.length ≤ 131072) (h0 : l ≠ []) (hc : cutB 10 l = ps ++ [p]) (hy : y < ps.length) (hs : upTo ps y = ⟨W, y, cs, 0⟩) {e : Int} (he : (runP [] (piecesF ps[y])).2 = e) (he0 : e ≠ 0) :
    parF l = (⟨0, 0, [], e⟩, (y : Int) + 1) := by
  have h1 : upTo ps (y + 1) = ⟨W, (y : Int) + 1, cs ++ (runP [] (piecesF ps[y])).1, e⟩ := by
    rw [upTo_step hy, hs]
    unfold stepL
    rw [if_neg (by simp), if_neg (by rw [suffix_row]; simp), trim_row, runP_acc, he, if_pos he0]
  rw [par_stop (y := y + 1) hl h0 hc (by rw [h1]; exact he0), h1]
theorem par_good (hy : y < ps.length) (hs : upTo ps y = ⟨W, y, cs, 0⟩) {us : List Int} (he : runP [] (piecesF ps[y]) = (us, 0)) :
    upTo ps (y + 1) = ⟨if y = 0 then ((piecesF ps[y]).length : Int) else W, (y : Int) + 1, cs ++ us, fitsF (if y = 0 then ((piecesF ps[y]).length : Int) else W) ((y : Int) + 1) ((piecesF ps[y]).length : Int)⟩ := by
  rw [upTo_step hy, hs]
  unfold stepL
  have hy1 : ((y : Int) + 1 = 1) = (y = 0) := by apply propext; omega
  rw [if_neg (by simp), if_neg (by rw [suffix_row]; simp), trim_row, runP_acc, he, if_neg (by simp)]
  simp only [hy1]
theorem par_fits (hl : l.length ≤ 131072) (h0 : l ≠ []) (hc : cutB 10 l = ps ++ [p]) (hy : y < ps.length) (hs : upTo ps y = ⟨W, y, cs, 0⟩) {us : List Int} (hu : runP [] (piecesF ps[y]) = (us, 0)) {e : Int}
    (he : fitsF (if y = 0 then ((piecesF ps[y]).length : Int) else W) ((y : Int) + 1) ((piecesF ps[y]).length : Int) = e) (he0 : e ≠ 0) :
    parF l = (⟨0, 0, [], e⟩, (y : Int) + 1) := by
  have h1 := par_good hy hs hu
  rw [he] at h1
  rw [par_stop (y := y + 1) hl h0 hc (by rw [h1]; exact he0), h1]
theorem par_last (hl : l.length ≤ 131072) (h0 : l ≠ []) (hc : cutB 10 l = ps ++ [p]) (hs : upTo ps ps.length = ⟨W, ps.length, cs, 0⟩) (hp : p ≠ []) (hp10 : Lib.hasSuffix p [10] = false) :
    parF l = (⟨0, 0, [], 11⟩, (ps.length : Int) + 1) := by
  have hu : upTo ps ps.length = runL (ps.map (· ++ [10])) := by unfold upTo; rw [List.take_length]
  have h1 : runL (linesF l) = ⟨W, (ps.length : Int) + 1, cs, 11⟩ := by
    rw [lines_cut l ps p hc, if_neg hp, runL_snoc, ← hu, hs]
    unfold stepL
    rw [if_neg (by simp), if_pos hp10]
  unfold parF
  rw [if_neg (by omega), if_neg h0, h1, if_pos (by simp)]
theorem par_done (hl : l.length ≤ 131072) (h0 : l ≠ []) (hc : cutB 10 l = ps ++ [[]]) (hs : upTo ps ps.length = ⟨W, ps.length, cs, 0⟩) :
    parF l = (⟨W, ps.length, cs, 0⟩, 0) := by
  have hu : upTo ps ps.length = runL (ps.map (· ++ [10])) := by unfold upTo; rw [List.take_length]
  have h1 : runL (linesF l) = ⟨W, (ps.length : Int), cs, 0⟩ := by
    rw [lines_cut l ps [] hc, if_pos rfl, List.append_nil, ← hu, hs]
  unfold parF
  rw [if_neg (by omega), if_neg h0, h1, if_neg (by simp)]
end
theorem cutB_no (c : UInt8) : ∀ (l : List UInt8), ∀ x ∈ cutB c l, c ∉ x
  | [], x, h => by simp [cutB] at h; subst h; simp
  | b :: r, x, h => by
    rw [cutB] at h
    by_cases hb : b = c
    · rw [if_pos hb] at h
      rcases List.mem_cons.1 h with rfl | h
      · simp
      · exact cutB_no c r x h
    · rw [if_neg hb] at h
      cases hr : cutB c r with
      | nil => rw [hr] at h; simp at h; subst h; simp; exact fun e => hb e.symm
      | cons y ys =>
        rw [hr] at h
        rcases List.mem_cons.1 h with rfl | h
        · have := cutB_no c r y (by rw [hr]; simp)
          simp only [List.mem_cons, not_or]
          exact ⟨fun e => hb e.symm, this⟩
        · exact cutB_no c r x (by rw [hr]; simp [h])
theorem suffix_no {p : List UInt8} (h : (10 : UInt8) ∉ p) : Lib.hasSuffix p [10] = false := by
  cases he : Lib.hasSuffix p [10] with
  | false => rfl
  | true =>
    have := suffix_inv he
    exact absurd (by rw [this]; simp) h
theorem cutB_mem (c : UInt8) : ∀ (l : List UInt8), ∀ x ∈ cutB c l, x.length ≤ l.length
  | [], x, h => by simp [cutB] at h; subst h; simp
  | b :: r, x, h => by
    rw [cutB] at h
    split at h
    · rcases List.mem_cons.1 h with rfl | h
      · simp
      · have := cutB_mem c r x h
        simp; omega
    · cases hr : cutB c r with
      | nil => rw [hr] at h; simp at h; subst h; simp
      | cons y ys =>
        rw [hr] at h
        rcases List.mem_cons.1 h with rfl | h
        · have := cutB_mem c r y (by rw [hr]; simp)
          simp; omega
        · have := cutB_mem c r x (by rw [hr]; simp [h])
          simp; omega
theorem cutB_len (c : UInt8) : ∀ (l : List UInt8), (cutB c l).length ≤ l.length + 1
  | [] => by simp [cutB]
  | b :: r => by
    have ih := cutB_len c r
    rw [cutB]
    split
    · simp; omega
    · split
      · simp
      · rename_i y ys hr
        rw [hr] at ih
        simp at ih ⊢; omega
theorem runP_take {ws : List (List UInt8)} {x : Nat} {us : List Int} (h : x < ws.length) (hu : runP [] (ws.take x) = (us, 0)) {n : Int} (hr : readF ws[x] = (n, 0)) : runP [] (ws.take (x + 1)) = (us ++ [n], 0) := by
  rw [List.take_succ_eq_append_getElem h, runP_snoc, hu]
  unfold stepP
  rw [hr]
  rfl
theorem runP_bad {ws : List (List UInt8)} {x : Nat} {us : List Int} (h : x < ws.length) (hu : runP [] (ws.take x) = (us, 0)) {n e : Int} (hr : readF ws[x] = (n, e)) (he : e ≠ 0) : (runP [] ws).2 = e := by
  have h1 : (runP [] (ws.take (x + 1))).2 = e := by
    rw [List.take_succ_eq_append_getElem h, runP_snoc, hu]
    unfold stepP
    rw [hr]
    simp [he]
  rw [runP_prefix (List.take_prefix (x + 1) ws) (by rw [h1]; exact he), h1]
end Go.Proofs.YthnpoeobieninaaDoor
