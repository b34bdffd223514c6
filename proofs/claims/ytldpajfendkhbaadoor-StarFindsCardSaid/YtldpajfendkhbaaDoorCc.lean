/- Least costs: cells and their numbers, those beside one; a field as a graph, and within a box. -/
import Derived.Test.YtldpajfendkhbaaDoorCb
import Derived.Test.YtldpajfendkhbaaDoorIm
import Derived.Test.YtldpajfendkhbaaDoorVf
namespace Go.Proofs.YtldpajfendkhbaaDoor

/-- A number's cell; a cell's number. -/
def cellN (A : Int) (i : Nat) : IC := ((i : Int) % A, (i : Int) / A)
def numN (A : Int) (c : IC) : Nat := (c.2 * A + c.1).toNat
theorem cellN_on {A B : Int} {i : Nat} (hm : mayB A B = true) (hi : (i : Int) < A * B) : onB A B (cellN A i) = true := by
  obtain ⟨h1, h2, h3, h4⟩ := mayB_iff.1 hm
  have q0 := Int.emod_nonneg (i : Int) (show A ≠ 0 by omega)
  have q1 := Int.emod_lt_of_pos (i : Int) (show 0 < A by omega)
  have q2 : 0 ≤ (i : Int) / A := Int.ediv_nonneg (by omega) (by omega)
  have q3 : (i : Int) / A < B := Int.ediv_lt_of_lt_mul (by omega) (by rw [Int.mul_comm]; exact hi)
  exact inB_iff.2 ⟨h1, h2, h3, h4, q0, q1, q2, q3⟩
theorem numN_int {A B : Int} {c : IC} (h : onB A B c = true) : ((numN A c : Nat) : Int) = c.2 * A + c.1 ∧ c.2 * A + c.1 < A * B := by
  obtain ⟨h1, h2, h3, h4, h5, h6, h7, h8⟩ := inB_iff.1 h
  obtain ⟨m1, m2⟩ := mul_bd h7 (by omega) h1 h2
  have e : (c.2 + 1) * A ≤ B * A := Int.mul_le_mul_of_nonneg_right (by omega) (by omega)
  rw [Int.add_mul, Int.one_mul, Int.mul_comm B A] at e
  unfold numN
  exact ⟨by omega, by omega⟩
theorem numN_cell {A B : Int} {i : Nat} (hm : mayB A B = true) (hi : (i : Int) < A * B) : numN A (cellN A i) = i := by
  have h := (numN_int (cellN_on hm hi)).1
  have e := Int.emod_add_mul_ediv (i : Int) A
  unfold cellN at h
  simp only at h
  rw [Int.mul_comm A] at e
  unfold cellN
  omega
theorem cellN_num {A B : Int} {c : IC} (h : onB A B c = true) : cellN A (numN A c) = c := by
  have e := (numN_int h).1
  obtain ⟨h1, h2, h3, h4, h5, h6, h7, h8⟩ := inB_iff.1 h
  unfold cellN
  rw [e]
  have a1 : (c.2 * A + c.1) % A = c.1 := by rw [Int.add_comm, Int.add_mul_emod_self_right]; exact Int.emod_eq_of_lt h5 h6
  have a2 : (c.2 * A + c.1) / A = c.2 := by rw [Int.add_comm, Int.add_mul_ediv_right _ _ (by omega), Int.ediv_eq_zero_of_lt h5 h6]; omega
  rw [a1, a2]
/-- Those beside one, by directions. -/
def nbD (A B : Int) (i : Nat) (d : Int) : Option Nat := if onB A B (stepI (cellN A i) d) = true then some (numN A (stepI (cellN A i) d)) else none
def nbL (A B : Int) (i : Nat) : List Nat := [(0 : Int), 1, 2, 3].filterMap (nbD A B i)
theorem mem_nbL {A B : Int} {i j : Nat} : j ∈ nbL A B i ↔ ∃ d : Int, 0 ≤ d ∧ d ≤ 3 ∧ onB A B (stepI (cellN A i) d) = true ∧ numN A (stepI (cellN A i) d) = j := by
  unfold nbL
  rw [List.mem_filterMap]
  constructor
  · rintro ⟨d, hd, h⟩
    unfold nbD at h
    split at h
    · rename_i ho
      refine ⟨d, ?_, ?_, ho, Option.some.inj h⟩ <;> (simp at hd; omega)
    · cases h
  · rintro ⟨d, h0, h3, ho, hj⟩
    refine ⟨d, ?_, ?_⟩
    · have : d = 0 ∨ d = 1 ∨ d = 2 ∨ d = 3 := by omega
      simpa using this
    · unfold nbD; rw [if_pos ho, hj]
theorem step_back (c : IC) {d : Int} (h0 : 0 ≤ d) (h3 : d ≤ 3) : ∃ e : Int, 0 ≤ e ∧ e ≤ 3 ∧ stepI (stepI c d) e = c := by
  have : d = 0 ∨ d = 1 ∨ d = 2 ∨ d = 3 := by omega
  obtain ⟨x, y⟩ := c
  rcases this with rfl | rfl | rfl | rfl
  · exact ⟨2, by omega, by omega, by simp [stepI, dxI, dyI]; omega⟩
  · exact ⟨3, by omega, by omega, by simp [stepI, dxI, dyI]; omega⟩
  · exact ⟨0, by omega, by omega, by simp [stepI, dxI, dyI]; omega⟩
  · exact ⟨1, by omega, by omega, by simp [stepI, dxI, dyI]; omega⟩
theorem nbL_lt {A B : Int} {i j : Nat} (h : j ∈ nbL A B i) : (j : Int) < A * B := by
  obtain ⟨d, _, _, ho, rfl⟩ := mem_nbL.1 h
  obtain ⟨h1, h2⟩ := numN_int ho
  rw [h1]; exact h2
theorem nbL_sym {A B : Int} {i j : Nat} (hm : mayB A B = true) (hi : (i : Int) < A * B) (h : j ∈ nbL A B i) : i ∈ nbL A B j := by
  obtain ⟨d, h0, h3, ho, rfl⟩ := mem_nbL.1 h
  obtain ⟨e, e0, e3, he⟩ := step_back (cellN A i) h0 h3
  refine mem_nbL.2 ⟨e, e0, e3, ?_, ?_⟩
  · rw [cellN_num ho, he]; exact cellN_on hm hi
  · rw [cellN_num ho, he]; exact numN_cell hm hi
/-- A field as a graph. -/
def gph (A B : Int) (zs : List Int) : Gph := ⟨zs.length, fun i => zs.getD i 0, nbL A B⟩
theorem getD_in {zs : List Int} (h : AllH zs) (i : Nat) : 0 ≤ zs.getD i 0 ∧ zs.getD i 0 ≤ 65535 := by
  rw [List.getD_eq_getElem?_getD]
  cases e : zs[i]? with
  | none => exact ⟨by decide, by decide⟩
  | some z =>
    have := h z (List.mem_of_getElem? e)
    exact this
theorem gph_ok {A B : Int} {zs : List Int} (hm : mayB A B = true) (hn : (zs.length : Int) = A * B) (hz : AllH zs) : (gph A B zs).Ok where
  lt i hi j hj := by
    have := nbL_lt hj
    show j < zs.length
    omega
  sym i j hi hj := nbL_sym hm (by have : i < zs.length := hi; omega) hj
  pos i := getD_in hz i
  big := by
    have := area_bd hm
    show zs.length ≤ 65536
    omega
/-- Those beside one that are no walls. -/
def nbO (A B : Int) (zs : List Int) (i : Nat) : List Nat := (nbL A B i).filter (fun j => decide (zs.getD j 0 ≠ 0))
theorem mem_nbO {A B : Int} {zs : List Int} {i j : Nat} (hn : (zs.length : Int) = A * B) : j ∈ nbO A B zs i ↔ j ∈ nbL A B i ∧ (gph A B zs).opn j := by
  unfold nbO Gph.opn
  rw [List.mem_filter]
  constructor
  · rintro ⟨h1, h2⟩
    have := nbL_lt h1
    exact ⟨h1, by show j < zs.length; omega, of_decide_eq_true h2⟩
  · rintro ⟨h1, h2, h3⟩
    exact ⟨h1, decide_eq_true h3⟩

/-- A box, and whether a cell lies in it. -/
abbrev BX := Int × Int × Int × Int
def inBx (b : BX) (c : IC) : Bool := hasB b.1 b.2.1 b.2.2.1 b.2.2.2 c.1 c.2
/-- The costs of a field in which all that is not in a box is a wall. -/
def cutL (A : Int) (b : BX) (zs : List Int) : List Int := (List.range zs.length).map fun i => if inBx b (cellN A i) = true then zs.getD i 0 else 0
theorem cutL_len (A : Int) (b : BX) (zs : List Int) : (cutL A b zs).length = zs.length := by simp [cutL]
theorem cutL_at (A : Int) (b : BX) (zs : List Int) (i : Nat) : (cutL A b zs).getD i 0 = if inBx b (cellN A i) = true then zs.getD i 0 else 0 := by
  unfold cutL
  rw [List.getD_eq_getElem?_getD, List.getElem?_map]
  by_cases h : i < zs.length
  · rw [List.getElem?_range h]; rfl
  · rw [List.getElem?_eq_none (by simpa using h), List.getD_eq_getElem?_getD, List.getElem?_eq_none (by omega)]
    simp
theorem cutL_in {A : Int} {b : BX} {zs : List Int} (h : AllH zs) : AllH (cutL A b zs) := by
  intro z hz
  unfold cutL at hz
  obtain ⟨i, _, rfl⟩ := List.mem_map.1 hz
  split
  · exact getD_in h i
  · exact ⟨by decide, by decide⟩
def gphB (A B : Int) (b : BX) (zs : List Int) : Gph := gph A B (cutL A b zs)
theorem gphB_ok {A B : Int} {b : BX} {zs : List Int} (hm : mayB A B = true) (hn : (zs.length : Int) = A * B) (hz : AllH zs) : (gphB A B b zs).Ok :=
  gph_ok hm (by rw [cutL_len]; exact hn) (cutL_in hz)
theorem gphB_opn {A B : Int} {b : BX} {zs : List Int} {i : Nat} : (gphB A B b zs).opn i ↔ i < zs.length ∧ inBx b (cellN A i) = true ∧ zs.getD i 0 ≠ 0 := by
  show i < (cutL A b zs).length ∧ (cutL A b zs).getD i 0 ≠ 0 ↔ _
  rw [cutL_len, cutL_at]
  by_cases h : inBx b (cellN A i) = true
  · rw [if_pos h]; simp [h]
  · rw [if_neg h]; simp [h]
theorem gphB_k {A B : Int} {b : BX} {zs : List Int} {i : Nat} (h : inBx b (cellN A i) = true) : (gphB A B b zs).k i = zs.getD i 0 := by
  show (cutL A b zs).getD i 0 = _
  rw [cutL_at, if_pos h]
end Go.Proofs.YtldpajfendkhbaaDoor
