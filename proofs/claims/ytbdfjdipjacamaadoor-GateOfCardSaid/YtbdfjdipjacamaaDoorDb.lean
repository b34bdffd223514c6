/- Parts: clusters beside one another, and borders: their mathematics. -/
import Derived.Test.YtbdfjdipjacamaaDoorDa
namespace Go.Proofs.YtbdfjdipjacamaaDoor
open Go.RowKit

/-- The place beside one. -/
def toP (W H S : Int) (p : IC) (d : Int) : Bool := onB (lieN W S) (lieN H S) (stepI p d)
def numP (W S : Int) (p : IC) : Int := p.2 * lieN W S + p.1
/-- The clusters beside one, in the first n directions. -/
def besP (W H S id : Int) : Nat → List Int
  | 0 => []
  | n + 1 => besP W H S id n ++ (if toP W H S (plcP W S id) n = true then [numP W S (stepI (plcP W S id) n)] else [])
/-- The pairs along a border, to the East or to the South. -/
def prsN (W H S : Int) (p : IC) (d : Int) : Nat := (if d = 1 then bxH H S p else bxW W S p).toNat
def prsF (W H S : Int) (p : IC) (d : Int) (i : Nat) : IC × IC :=
  let c : IC := if d = 1 then (bxX S p + bxW W S p - 1, bxY S p + i) else (bxX S p + i, bxY S p + bxH H S p - 1)
  (c, stepI c d)
def prsP (W H S : Int) (p : IC) (d : Int) : List (IC × IC) := (List.range (prsN W H S p d)).map (prsF W H S p d)
/-- In which direction the border of two lies: 0: in none. -/
def sideP (W H S a b : Int) : Int :=
  if toP W H S (plcP W S a) 1 = true ∧ numP W S (stepI (plcP W S a) 1) = b then 1
  else if toP W H S (plcP W S a) 2 = true ∧ numP W S (stepI (plcP W S a) 2) = b then 2 else 0
theorem stepI_0 (p : IC) : stepI p 0 = (p.1, p.2 - 1) := by simp [stepI, dxI, dyI]; omega
theorem stepI_1 (p : IC) : stepI p 1 = (p.1 + 1, p.2) := by simp [stepI, dxI, dyI]
theorem stepI_2 (p : IC) : stepI p 2 = (p.1, p.2 + 1) := by simp [stepI, dxI, dyI]
theorem stepI_3 (p : IC) : stepI p 3 = (p.1 - 1, p.2) := by simp [stepI, dxI, dyI]; omega
theorem toP_iff {W H S : Int} {p : IC} {d : Int} (hr : rightP W H S = true) : toP W H S p d = true ↔ 0 ≤ (stepI p d).1 ∧ (stepI p d).1 < lieN W S ∧ 0 ≤ (stepI p d).2 ∧ (stepI p d).2 < lieN H S := by
  obtain ⟨⟨a1, a2, a3, a4⟩, a5, a6⟩ := rightP_iff.1 hr
  obtain ⟨b1, b2, b3, b4⟩ := lie_bd a1 a2 a5 a6
  obtain ⟨c1, c2, c3, c4⟩ := lie_bd a3 a4 a5 a6
  unfold toP onB
  rw [inB_iff]
  omega
/-- Two places with one number are one. -/
theorem numP_inj {W S : Int} {p q : IC} (h1 : 0 ≤ p.1) (h2 : p.1 < lieN W S) (h3 : 0 ≤ q.1) (h4 : q.1 < lieN W S) (h : numP W S p = numP W S q) : p = q := by
  rw [← plc_of (p := p) h1 h2, ← plc_of (p := q) h3 h4]
  exact congrArg _ h
/-- The cell to the right of one of a cluster: of which cluster it is. -/
theorem east_of {W H S : Int} {p q : IC} {x y : Int} (hr : rightP W H S = true) (h1 : 0 ≤ p.1) (h2 : p.1 < lieN W S) (h3 : 0 ≤ p.2) (h4 : p.2 < lieN H S) (hc : onB W H (x, y) = true) (hp : (x / S, y / S) = p) (hne : q ≠ p) :
    (onB W H (x + 1, y) = true ∧ ((x + 1) / S, y / S) = q) ↔ x + 1 = bxX S p + bxW W S p ∧ (p.1 + 1 < lieN W S ∧ q = (p.1 + 1, p.2)) := by
  obtain ⟨⟨a1, a2, a3, a4⟩, a5, a6⟩ := rightP_iff.1 hr
  have g1 := lie_ge a1 a2 a5 a6 h1 h2
  obtain ⟨b1, b2, b3, b4, b5, b6, b7, b8⟩ := inB_iff.1 hc
  obtain ⟨k1, k2⟩ := Prod.ext_iff.1 hp
  simp only at k1 k2
  have e1 := (div_iff (x := x) (i := p.1) (S := S) (by omega)).1 k1
  rw [Int.add_mul, Int.one_mul] at e1
  have l1 := lie_at (i := p.1 + 1) a1 a2 a5 a6 (by omega)
  rw [Int.add_mul, Int.one_mul] at l1
  have i1 := div_iff (x := x + 1) (i := p.1) (S := S) (by omega)
  have i2 := div_iff (x := x + 1) (i := p.1 + 1) (S := S) (by omega)
  rw [Int.add_mul, Int.one_mul] at i1
  rw [Int.add_mul (p.1 + 1), Int.add_mul, Int.one_mul] at i2
  obtain ⟨q1, q2⟩ := q
  obtain ⟨p1, p2⟩ := p
  unfold onB bxX bxW
  rw [inB_iff]
  simp only [Prod.mk.injEq, ne_eq, not_and] at *
  generalize p1 * S = u at *
  constructor
  · rintro ⟨m, n1, n2⟩
    by_cases hx : x + 1 < u + S
    · have := i1.2 ⟨by omega, hx⟩
      exact absurd (show q2 = p2 by omega) (hne (by omega))
    · have := i2.2 ⟨by omega, by omega⟩
      omega
  · rintro ⟨m, n1, n2, n3⟩
    have := l1.1 n1
    have := i2.2 ⟨by omega, by omega⟩
    omega
/-- The same of the cell below. -/
theorem south_of {W H S : Int} {p q : IC} {x y : Int} (hr : rightP W H S = true) (h3 : 0 ≤ p.2) (h4 : p.2 < lieN H S) (hc : onB W H (x, y) = true) (hp : (x / S, y / S) = p) (hne : q ≠ p) :
    (onB W H (x, y + 1) = true ∧ (x / S, (y + 1) / S) = q) ↔ y + 1 = bxY S p + bxH H S p ∧ (p.2 + 1 < lieN H S ∧ q = (p.1, p.2 + 1)) := by
  obtain ⟨⟨a1, a2, a3, a4⟩, a5, a6⟩ := rightP_iff.1 hr
  have g1 := lie_ge a3 a4 a5 a6 h3 h4
  obtain ⟨b1, b2, b3, b4, b5, b6, b7, b8⟩ := inB_iff.1 hc
  obtain ⟨k1, k2⟩ := Prod.ext_iff.1 hp
  simp only at k1 k2
  have e1 := (div_iff (x := y) (i := p.2) (S := S) (by omega)).1 k2
  rw [Int.add_mul, Int.one_mul] at e1
  have l1 := lie_at (i := p.2 + 1) a3 a4 a5 a6 (by omega)
  rw [Int.add_mul, Int.one_mul] at l1
  have i1 := div_iff (x := y + 1) (i := p.2) (S := S) (by omega)
  have i2 := div_iff (x := y + 1) (i := p.2 + 1) (S := S) (by omega)
  rw [Int.add_mul, Int.one_mul] at i1
  rw [Int.add_mul (p.2 + 1), Int.add_mul, Int.one_mul] at i2
  obtain ⟨q1, q2⟩ := q
  obtain ⟨p1, p2⟩ := p
  unfold onB bxY bxH
  rw [inB_iff]
  simp only [Prod.mk.injEq, ne_eq, not_and] at *
  generalize p2 * S = u at *
  constructor
  · rintro ⟨m, n1, n2⟩
    by_cases hx : y + 1 < u + S
    · have := i1.2 ⟨by omega, hx⟩
      exact absurd (show q2 = p2 by omega) (hne (by omega))
    · have := i2.2 ⟨by omega, by omega⟩
      omega
  · rintro ⟨m, n1, n2, n3⟩
    have := l1.1 n1
    have := i2.2 ⟨by omega, by omega⟩
    omega
theorem flat_last {α : Type} (n : Nat) (g : Nat → List α) (hn : 0 < n) : ((List.range n).flatMap fun j => if j + 1 = n then g j else []) = g (n - 1) := by
  obtain ⟨m, rfl⟩ : ∃ m, n = m + 1 := ⟨n - 1, by omega⟩
  rw [List.range_succ, List.flatMap_append]
  have e : ((List.range m).flatMap fun j => if j + 1 = m + 1 then g j else []) = [] := by
    rw [List.flatMap_eq_nil_iff]
    intro j hj
    rw [List.mem_range] at hj
    rw [if_neg (by omega)]
  rw [e]
  simp
theorem flat_one {α β : Type} (l : List α) (f : α → β) : (l.flatMap fun j => [f j]) = l.map f := by induction l <;> simp_all
theorem flat_none {α β : Type} (l : List α) : (l.flatMap fun _ => ([] : List β)) = [] := by induction l <;> simp_all
theorem flat_congr {α β : Type} {l : List α} {f g : α → List β} (h : ∀ a, a ∈ l → f a = g a) : l.flatMap f = l.flatMap g := by
  induction l with
  | nil => rfl
  | cons a l ih => rw [List.flatMap_cons, List.flatMap_cons, h a (by simp), ih (fun b hb => h b (by simp [hb]))]
/-- What the reference tells of a cell, of a row, of a cluster. -/
def stpL (has : IC → Bool) (c : IC) (d : Nat) : List (IC × IC) := if has (stepI c d) = true then [(c, stepI c d)] else []
def celL (has : IC → Bool) (c : IC) : List (IC × IC) := stpL has c 1 ++ stpL has c 2
def rowL (has : IC → Bool) (X y : Int) (n : Nat) : List (IC × IC) := (List.range n).flatMap fun (i : Nat) => celL has (X + i, y)
def brdL (has : IC → Bool) (X Y : Int) (n m : Nat) : List (IC × IC) := (List.range m).flatMap fun (j : Nat) => rowL has X (Y + j) n
theorem rowL_succ (has : IC → Bool) (X y : Int) (n : Nat) : rowL has X y (n + 1) = rowL has X y n ++ celL has (X + n, y) := by
  unfold rowL; rw [List.range_succ, List.flatMap_append]; simp
theorem brdL_succ (has : IC → Bool) (X Y : Int) (n m : Nat) : brdL has X Y n (m + 1) = brdL has X Y n m ++ rowL has X (Y + m) n := by
  unfold brdL; rw [List.range_succ, List.flatMap_append]; simp
/-- Whether the box of the cluster at a place has a cell. -/
def hasP (W H S : Int) (q : IC) (c : IC) : Bool := decide (bxX S q ≤ c.1 ∧ c.1 < bxX S q + bxW W S q ∧ bxY S q ≤ c.2 ∧ c.2 < bxY S q + bxH H S q)
theorem hasP_iff {W H S : Int} {q c : IC} (hr : rightP W H S = true) (h1 : 0 ≤ q.1) (h2 : q.1 < lieN W S) (h3 : 0 ≤ q.2) (h4 : q.2 < lieN H S) : hasP W H S q c = true ↔ onB W H c = true ∧ (c.1 / S, c.2 / S) = q := by
  unfold hasP; rw [decide_eq_true_eq]; exact box_has hr h1 h2 h3 h4
/-- The reference's border is the program's. -/
theorem brd_eq {W H S : Int} {p q : IC} (hr : rightP W H S = true) (h1 : 0 ≤ p.1) (h2 : p.1 < lieN W S) (h3 : 0 ≤ p.2) (h4 : p.2 < lieN H S)
    (g1 : 0 ≤ q.1) (g2 : q.1 < lieN W S) (g3 : 0 ≤ q.2) (g4 : q.2 < lieN H S) (hne : q ≠ p) :
    brdL (hasP W H S q) (bxX S p) (bxY S p) (bxW W S p).toNat (bxH H S p).toNat =
      if q = (p.1 + 1, p.2) then prsP W H S p 1 else if q = (p.1, p.2 + 1) then prsP W H S p 2 else [] := by
  obtain ⟨⟨t1, t2, t3, t4⟩, ⟨t5, t6, t7, t8⟩, t9, t10⟩ := bx_bd hr h1 h2 h3 h4
  have hin : ∀ i j : Nat, i < (bxW W S p).toNat → j < (bxH H S p).toNat → onB W H (bxX S p + i, bxY S p + j) = true ∧ ((bxX S p + i) / S, (bxY S p + j) / S) = p := fun i j hi hj =>
    (box_has (c := (bxX S p + i, bxY S p + j)) hr h1 h2 h3 h4).1 ⟨by show _ ≤ _ + _; omega, by show _ + _ < _; omega, by show _ ≤ _ + _; omega, by show _ + _ < _; omega⟩
  have he : ∀ i j : Nat, i < (bxW W S p).toNat → j < (bxH H S p).toNat → stpL (hasP W H S q) (bxX S p + i, bxY S p + j) 1 = if i + 1 = (bxW W S p).toNat ∧ q = (p.1 + 1, p.2) then [prsF W H S p 1 j] else [] := by
    intro i j hi hj
    obtain ⟨m1, m2⟩ := hin i j hi hj
    have k := (hasP_iff (c := (bxX S p + i + 1, bxY S p + j)) hr g1 g2 g3 g4).trans (east_of hr h1 h2 h3 h4 m1 m2 hne)
    unfold stpL
    rw [show stepI (bxX S p + (i : Int), bxY S p + (j : Int)) ((1 : Nat) : Int) = (bxX S p + i + 1, bxY S p + j) from stepI_1 _]
    by_cases hq : i + 1 = (bxW W S p).toNat ∧ q = (p.1 + 1, p.2)
    · rw [if_pos hq, if_pos (k.2 ⟨by omega, by obtain ⟨_, e⟩ := hq; rw [e] at g2; exact g2, hq.2⟩)]
      have e : bxX S p + (i : Int) = bxX S p + bxW W S p - 1 := by omega
      have f : prsF W H S p 1 j = ((bxX S p + bxW W S p - 1, bxY S p + (j : Int)), stepI (bxX S p + bxW W S p - 1, bxY S p + (j : Int)) 1) := rfl
      rw [f, stepI_1, ← e]
    · rw [if_neg hq, if_neg (fun h => hq (by have := k.1 h; exact ⟨by omega, this.2.2⟩))]
  have hs : ∀ i j : Nat, i < (bxW W S p).toNat → j < (bxH H S p).toNat → stpL (hasP W H S q) (bxX S p + i, bxY S p + j) 2 = if j + 1 = (bxH H S p).toNat ∧ q = (p.1, p.2 + 1) then [prsF W H S p 2 i] else [] := by
    intro i j hi hj
    obtain ⟨m1, m2⟩ := hin i j hi hj
    have k := (hasP_iff (c := (bxX S p + i, bxY S p + j + 1)) hr g1 g2 g3 g4).trans (south_of hr h3 h4 m1 m2 hne)
    unfold stpL
    rw [show stepI (bxX S p + (i : Int), bxY S p + (j : Int)) ((2 : Nat) : Int) = (bxX S p + i, bxY S p + j + 1) from stepI_2 _]
    by_cases hq : j + 1 = (bxH H S p).toNat ∧ q = (p.1, p.2 + 1)
    · rw [if_pos hq, if_pos (k.2 ⟨by omega, by obtain ⟨_, e⟩ := hq; rw [e] at g4; exact g4, hq.2⟩)]
      have e : bxY S p + (j : Int) = bxY S p + bxH H S p - 1 := by omega
      have f : prsF W H S p 2 i = ((bxX S p + (i : Int), bxY S p + bxH H S p - 1), stepI (bxX S p + (i : Int), bxY S p + bxH H S p - 1) 2) := rfl
      rw [f, stepI_2, ← e]
    · rw [if_neg hq, if_neg (fun h => hq (by have := k.1 h; exact ⟨by omega, this.2.2⟩))]
  unfold brdL
  by_cases hE : q = (p.1 + 1, p.2)
  · have hS : ¬ q = (p.1, p.2 + 1) := fun h => by have := (Prod.ext_iff.1 (hE.symm.trans h)).1; simp only at this; omega
    rw [if_pos hE]
    have hrow : ∀ j, j ∈ List.range (bxH H S p).toNat → rowL (hasP W H S q) (bxX S p) (bxY S p + j) (bxW W S p).toNat = [prsF W H S p 1 j] := by
      intro j hj
      rw [List.mem_range] at hj
      unfold rowL
      have := flat_last (bxW W S p).toNat (fun _ => [prsF W H S p 1 j]) (by omega)
      rw [← this]
      refine flat_congr fun i hi => ?_
      rw [List.mem_range] at hi
      unfold celL
      rw [he i j hi hj, hs i j hi hj]
      by_cases hl : i + 1 = (bxW W S p).toNat
      · rw [if_pos ⟨hl, hE⟩, if_neg (fun h => hS h.2), if_pos hl]; rfl
      · rw [if_neg (fun h => hl h.1), if_neg (fun h => hS h.2), if_neg hl]; rfl
    rw [flat_congr hrow, flat_one]
    unfold prsP prsN
    rw [if_pos rfl]
  · rw [if_neg hE]
    by_cases hS : q = (p.1, p.2 + 1)
    · rw [if_pos hS]
      have hrow : ∀ j, j ∈ List.range (bxH H S p).toNat → rowL (hasP W H S q) (bxX S p) (bxY S p + j) (bxW W S p).toNat = if j + 1 = (bxH H S p).toNat then (List.range (bxW W S p).toNat).map (prsF W H S p 2) else [] := by
        intro j hj
        rw [List.mem_range] at hj
        unfold rowL
        by_cases hl : j + 1 = (bxH H S p).toNat
        · rw [if_pos hl, ← flat_one]
          refine flat_congr fun i hi => ?_
          rw [List.mem_range] at hi
          unfold celL
          rw [he i j hi hj, hs i j hi hj, if_neg (fun h => hE h.2), if_pos ⟨hl, hS⟩]
          rfl
        · rw [if_neg hl]
          rw [← flat_none (β := IC × IC) (List.range (bxW W S p).toNat)]
          refine flat_congr fun i hi => ?_
          rw [List.mem_range] at hi
          unfold celL
          rw [he i j hi hj, hs i j hi hj, if_neg (fun h => hE h.2), if_neg (fun h => hl h.1)]
          rfl
      rw [flat_congr hrow, flat_last _ (fun _ => (List.range (bxW W S p).toNat).map (prsF W H S p 2)) (by omega)]
      unfold prsP prsN
      rw [if_neg (by decide)]
    · rw [if_neg hS]
      rw [← flat_none (β := IC × IC) (List.range (bxH H S p).toNat)]
      refine flat_congr fun j hj => ?_
      rw [List.mem_range] at hj
      unfold rowL
      rw [← flat_none (β := IC × IC) (List.range (bxW W S p).toNat)]
      refine flat_congr fun i hi => ?_
      rw [List.mem_range] at hi
      unfold celL
      rw [he i j hi hj, hs i j hi hj, if_neg (fun h => hE h.2), if_neg (fun h => hS h.2)]
      rfl
end Go.Proofs.YtbdfjdipjacamaaDoor
