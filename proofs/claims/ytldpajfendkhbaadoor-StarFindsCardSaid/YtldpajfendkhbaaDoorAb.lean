/- Paths: their mathematics. -/
import Derived.Test.YtldpajfendkhbaaDoorGg
namespace Go.Proofs.YtldpajfendkhbaaDoor
open Go.RowKit

abbrev IC := Int × Int
/-- A cell on a map. -/
def onB (A B : Int) (c : IC) : Bool := inB A B c.1 c.2
def plB (c : IC) : Bool := plainB c.1 c.2
/-- The direction from a cell to one beside it; -1: none. -/
def besI (p q : IC) : Int := dirI (q.1 - p.1) (q.2 - p.2)
def costAt (A : Int) (zs : List Int) (c : IC) : Int := zs.getD (c.2 * A + c.1).toNat 0
/-- What a cell alone is. -/
def errC (A B : Int) (zs : List Int) (c : IC) : Int := if onB A B c = true then (if costAt A zs c = 0 then 21 else 0) else 10
def valC (A B : Int) (zs : List Int) (c : IC) : Int := if errC A B zs c = 0 then costAt A zs c else 0
/-- What a cell behind another one is. -/
def errP (A B : Int) (zs : List Int) (p c : IC) : Int := if onB A B c = true then (if besI p c = -1 then 11 else if costAt A zs c = 0 then 21 else 0) else 10
/-- The first that is not 0 of the first n. -/
def firstE (f : Nat → Int) : Nat → Int
  | 0 => 0
  | n + 1 => if firstE f n = 0 then f n else firstE f n
theorem firstE_next {f : Nat → Int} {k : Nat} (h : firstE f k = 0) : firstE f (k + 1) = f k := by simp [firstE, h]
theorem firstE_stop {f : Nat → Int} {k : Nat} (h : firstE f k ≠ 0) : ∀ {n : Nat}, k ≤ n → firstE f n = firstE f k := by
  intro n hn
  induction n with
  | zero => obtain rfl : k = 0 := by omega
            rfl
  | succ n ih =>
    by_cases e : k = n + 1
    · rw [e]
    · have h2 := ih (by omega)
      rw [firstE, h2, if_neg h]
theorem firstE_at {f : Nat → Int} {k n : Nat} (h : firstE f k = 0) (hk : k < n) (he : f k ≠ 0) : firstE f n = f k := by
  have h1 := firstE_next h
  rw [firstE_stop (k := k + 1) (by rw [h1]; exact he) hk, h1]
theorem firstE_zero {f : Nat → Int} {n : Nat} : firstE f n = 0 ↔ ∀ k, k < n → f k = 0 := by
  induction n with
  | zero => simp [firstE]
  | succ n ih =>
    constructor
    · intro h k hk
      by_cases e : firstE f n = 0
      · rw [firstE, if_pos e] at h
        by_cases ek : k = n
        · rw [ek]; exact h
        · exact ih.1 e k (by omega)
      · rw [firstE, if_neg e] at h; exact absurd h e
    · intro h
      have h1 := ih.2 (fun k hk => h k (by omega))
      rw [firstE_next h1]
      exact h n (by omega)
theorem firstE_congr {f g : Nat → Int} {n : Nat} (h : ∀ k, k < n → f k = g k) : firstE f n = firstE g n := by
  induction n with
  | zero => rfl
  | succ n ih => rw [firstE, firstE, ih (fun k hk => h k (by omega)), h n (by omega)]
/-- A cell of a row, by its number. -/
def cK (l : List IC) (k : Nat) : IC := l.getD k (0, 0)
theorem cK_at {l : List IC} {k : Nat} (h : k < l.length) : l[k]? = some (cK l k) := by
  unfold cK
  rw [List.getD_eq_getElem?_getD, List.getElem?_eq_getElem h]
  rfl
theorem cK_get {l : List IC} {k : Nat} (h : k < l.length) : l[k] = cK l k := by
  have := cK_at h
  rw [List.getElem?_eq_getElem h] at this
  exact Option.some.inj this
/-- What stands at a place of a path. -/
def pathAt (A B : Int) (zs : List Int) (l : List IC) : Nat → Int
  | 0 => errC A B zs (cK l 0)
  | k + 1 => errP A B zs (cK l k) (cK l (k + 1))
/-- Whether cells are a path. -/
def pathE (A B : Int) (zs : List Int) (l : List IC) (chk : Int) : Int := if chk ≠ 0 then chk else if l = [] then 11 else firstE (pathAt A B zs l) l.length
/-- What a path costs. -/
def costS (A : Int) (zs : List Int) (l : List IC) : Int := (l.map (costAt A zs)).sum
/-- Directions. -/
def movAt (l : List IC) : Nat → Int
  | 0 => if plB (cK l 0) = true then 0 else 10
  | k + 1 => if plB (cK l (k + 1)) = true then (if besI (cK l k) (cK l (k + 1)) = -1 then 11 else 0) else 10
def movE (l : List IC) : Int := if l = [] then 11 else firstE (movAt l) l.length
def pairsF (l : List IC) : List (IC × IC) := l.zip l.tail
def movL (l : List IC) : List Int := (pairsF l).map fun x => besI x.1 x.2
theorem pairsF_len {l : List IC} : (pairsF l).length = l.length - 1 := by simp [pairsF]
theorem pairsF_at {l : List IC} {k : Nat} (h : k + 1 < l.length) : (pairsF l)[k]? = some (cK l k, cK l (k + 1)) := by
  have h1 := cK_at (l := l) (k := k) (by omega)
  have h2 := cK_at h
  simp [pairsF, List.getElem?_zip_eq_some, h1, h2]
theorem pairsF_snoc {l : List IC} {k : Nat} (h : k + 1 < l.length) : (pairsF l).take (k + 1) = (pairsF l).take k ++ [(cK l k, cK l (k + 1))] := by
  have hl : k < (pairsF l).length := by rw [pairsF_len]; omega
  rw [List.take_succ_eq_append_getElem hl]
  have := pairsF_at h
  rw [List.getElem?_eq_getElem hl] at this
  rw [Option.some.inj this]
theorem pairsF_all {l : List IC} {k : Nat} (h : l.length ≤ k + 1) : (pairsF l).take k = pairsF l := List.take_of_length_le (by rw [pairsF_len]; omega)
/-- What an iterator hands in next. -/
theorem pairsF_next {l : List IC} {pre : List (IC × IC)} {x : IC × IC} (h : pre ++ [x] <+: pairsF l) : pre.length + 1 < l.length ∧ x = (cK l pre.length, cK l (pre.length + 1)) ∧ pre = (pairsF l).take pre.length := by
  have h1 := h.length_le
  rw [pairsF_len, List.length_append] at h1
  simp at h1
  have hk : pre.length + 1 < l.length := by omega
  refine ⟨hk, ?_, ?_⟩
  · have h2 := List.prefix_iff_getElem?.1 h pre.length (by simp)
    rw [pairsF_at hk] at h2
    simp at h2
    exact h2.symm
  · have h3 := List.prefix_iff_eq_take.1 ((List.prefix_append pre [x]).trans h)
    exact h3
theorem movL_len {l : List IC} : (movL l).length = l.length - 1 := by rw [movL, List.length_map, pairsF_len]
/-- Where moves lead. -/
def stepI (c : IC) (d : Int) : IC := (c.1 + dxI d, c.2 + dyI d)
def cellsF (c : IC) : List Int → List IC
  | [] => [c]
  | m :: ms => c :: cellsF (stepI c m) ms
def celAt (A B : Int) (c : IC) (ms : List Int) (k : Nat) : Int := if 3 < ms.getD k 0 then 1 else if onB A B (cK (cellsF c ms) (k + 1)) = true then 0 else 10
def celE (A B : Int) (c : IC) (ms : List Int) : Int := if onB A B c = true then firstE (celAt A B c ms) ms.length else 10
theorem cellsF_len (c : IC) (ms : List Int) : (cellsF c ms).length = ms.length + 1 := by
  induction ms generalizing c with
  | nil => rfl
  | cons m ms ih => simp [cellsF, ih]
theorem cellsF_fst (c : IC) (ms : List Int) : cK (cellsF c ms) 0 = c := by cases ms <;> rfl
theorem cellsF_next (c : IC) (ms : List Int) {k : Nat} (h : k < ms.length) : cK (cellsF c ms) (k + 1) = stepI (cK (cellsF c ms) k) (ms.getD k 0) := by
  induction ms generalizing c k with
  | nil => simp at h
  | cons m ms ih =>
    cases k with
    | zero => show cK (cellsF (stepI c m) ms) 0 = _; rw [cellsF_fst]; rfl
    | succ k =>
      have := ih (stepI c m) (k := k) (by simpa using h)
      exact this
theorem cK_snoc {l : List IC} {k : Nat} (h : k < l.length) : l.take (k + 1) = l.take k ++ [cK l k] := by
  rw [List.take_succ_eq_append_getElem h, cK_get h]
end Go.Proofs.YtldpajfendkhbaaDoor
