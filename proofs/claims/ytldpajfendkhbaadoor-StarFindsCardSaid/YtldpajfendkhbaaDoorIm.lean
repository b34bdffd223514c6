/- The cells of a box, as a list: what lies in it, and when all of it lies on a map. -/
import Derived.Test.YtldpajfendkhbaaDoorIb
namespace Go.Proofs.YtldpajfendkhbaaDoor
open Go.RowKit Go.Shelf

/-- All cells of a box, in the order of the rows. -/
def boxCells (X Y U V : Int) : List (Int × Int) := cellsOf X U.toNat (upto (fun j => Y + (j : Int)) (rowsOf X Y U V))
theorem boxCells_len (X Y U V : Int) : (boxCells X Y U V).length = rowsOf X Y U V * U.toNat := by simp [boxCells, cellsOf_len, upto_length]
theorem mem_upto {α : Type} {f : Nat → α} {k : Nat} {a : α} : a ∈ upto f k ↔ ∃ i, i < k ∧ f i = a := by simp [upto]
theorem mem_boxCells {X Y U V : Int} {p : Int × Int} : p ∈ boxCells X Y U V ↔ hasB X Y U V p.1 p.2 = true := by
  rw [hasB_iff]
  unfold boxCells cellsOf
  simp only [List.mem_flatMap, mem_upto]
  unfold rowsOf
  constructor
  · rintro ⟨y, ⟨i, hi, rfl⟩, ⟨c, hc, rfl⟩⟩
    by_cases hr : rightB X Y U V = true
    · rw [if_pos hr] at hi
      refine ⟨hr, ?_, ?_, ?_, ?_⟩ <;> dsimp only <;> omega
    · rw [if_neg hr] at hi; omega
  · rintro ⟨hr, h1, h2, h3, h4⟩
    rw [if_pos hr]
    refine ⟨p.2, ⟨(p.2 - Y).toNat, by omega, by omega⟩, ⟨(p.1 - X).toNat, by omega, ?_⟩⟩
    apply Prod.ext
    · dsimp only; omega
    · rfl
theorem boxCells_not {X Y U V : Int} (h : rightB X Y U V = false) : boxCells X Y U V = [] := by simp [boxCells, rowsOf, h, upto, cellsOf]

/-- A box's cells are all on the map, and there is one: the box fits. -/
theorem boxCells_fits (A B X Y U V : Int) : (decide (0 < ((boxCells X Y U V).length : Int)) && (boxCells X Y U V).all (fun p => inB A B p.1 p.2)) = fitsB A B X Y U V := by
  rw [Bool.eq_iff_iff, fitsB_iff]
  simp only [Bool.and_eq_true, decide_eq_true_eq, List.all_eq_true]
  constructor
  · rintro ⟨h0, ha⟩
    by_cases hr : rightB X Y U V = true
    · obtain ⟨r1, r2, r3, r4, r5, r6, r7, r8⟩ := rightB_iff.1 hr
      have hpos : 0 < U ∧ 0 < V := by
        rw [boxCells_len, rowsOf, if_pos hr] at h0
        constructor
        · by_cases hu : 0 < U
          · exact hu
          · have : U.toNat = 0 := by omega
            rw [this] at h0; simp at h0
        · by_cases hv : 0 < V
          · exact hv
          · have : V.toNat = 0 := by omega
            rw [this] at h0; simp at h0
      have a := inB_iff.1 (ha (X, Y) (mem_boxCells.2 (hasB_iff.2 ⟨hr, by dsimp only; omega, by dsimp only; omega, by dsimp only; omega, by dsimp only; omega⟩)))
      have b := inB_iff.1 (ha (X + U - 1, Y + V - 1) (mem_boxCells.2 (hasB_iff.2 ⟨hr, by dsimp only; omega, by dsimp only; omega, by dsimp only; omega, by dsimp only; omega⟩)))
      dsimp only at a b
      exact ⟨hr, mayB_iff.2 ⟨by omega, by omega, by omega, by omega⟩, by omega, by omega, by omega, by omega, by omega, by omega⟩
    · rw [boxCells_not (by simpa using hr)] at h0; simp at h0
  · rintro ⟨hr, hm, h1, h2, h3, h4, h5, h6⟩
    obtain ⟨m1, m2, m3, m4⟩ := mayB_iff.1 hm
    refine ⟨?_, fun p hp => ?_⟩
    · have : (X, Y) ∈ boxCells X Y U V := mem_boxCells.2 (hasB_iff.2 ⟨hr, by dsimp only; omega, by dsimp only; omega, by dsimp only; omega, by dsimp only; omega⟩)
      have := List.length_pos_of_mem this
      omega
    · obtain ⟨_, q1, q2, q3, q4⟩ := hasB_iff.1 (mem_boxCells.1 hp)
      exact inB_iff.2 ⟨m1, m2, m3, m4, by omega, by omega, by omega, by omega⟩
end Go.Proofs.YtldpajfendkhbaaDoor
