/- Rows of one's own of two types lie apart. -/
import Derived.Test.YtldpajfendkhbaaDoorRo
import Derived.Laws.AppendOwnNone
namespace Go.Proofs.YtldpajfendkhbaaDoor
open Go.RowKit

/-- Nothing is appended, whatever its room. -/
theorem run_append_none_c {P : Program} {w : World} (base : Nat) (t ty e : TypeId) (i : TypeInfo) (size c : Nat) (ht : P.underlying t = some (.slice e)) (hi : P.info? e = some i)
    (v : Value) (n : Nat) (xs : List Value) (hown : w.ownsRow base e size v n xs) :
    (Builtin.append_ #[t, t] ty #[v, .slice none 0 c]).run P w = .ok v w := by
  rcases hown.2 with ⟨rfl, rfl⟩ | ⟨g, cap, cur, rfl, _, _, hnc, _⟩
  · simp [Builtin.append_, run_underlying ht, sizeOf, typeInfo, hi, Builtin.lenOf, Builtin.firstCells]
  · simp [Builtin.append_, run_underlying ht, sizeOf, typeInfo, hi, Builtin.lenOf, Builtin.firstCells, hnc, storeCells]
theorem own_base {w : World} {base base2 : Nat} {e : TypeId} {size n : Nat} {v : Value} {xs : List Value} (h : w.ownsRow base e size v n xs) (hb : base2 ≤ base) : w.ownsRow base2 e size v n xs := by
  obtain ⟨h1, h2⟩ := h
  refine ⟨h1, ?_⟩
  rcases h2 with h2 | ⟨g, cap, cur, e1, e2, e3, e4, e5, e6, e7⟩
  · exact .inl h2
  · exact .inr ⟨g, cap, cur, e1, Nat.le_trans hb e2, e3, e4, e5, e6, e7⟩
/-- A row of one's own of another type lies where a row grows. -/
theorem own_beside {w w' : World} {base base2 : Nat} {e e2 : TypeId} {size size2 n n2 : Nat} {v v2 : Value} {xs xs2 : List Value} (h : w.ownsRow base e size v n xs) (h2 : w.ownsRow base2 e2 size2 v2 n2 xs2) (hne : e ≠ e2) (hg : w.grownBy w' v.ownBlock) : w'.ownsRow base2 e2 size2 v2 n2 xs2 := by
  obtain ⟨k1, k2⟩ := h2
  refine ⟨k1, ?_⟩
  rcases k2 with k2 | ⟨g2, cap2, cur2, e1, f2, f3, f4, f5, f6, f7⟩
  · exact .inl k2
  · refine .inr ⟨g2, cap2, cur2, e1, f2, ?_, f4, f5, f6, f7⟩
    have hlt : g2 < w.heap.size := (Array.getElem?_eq_some_iff.1 f3).1
    rw [hg.block g2 hlt (fun hh => ?_)]
    · exact f3
    · rcases h.2 with ⟨hv, _⟩ | ⟨g, cap, cur, hv, _, h3, _⟩
      · rw [hv] at hh; cases hh
      · rw [hv] at hh
        simp only [Value.ownBlock, Option.some.injEq] at hh
        rw [← hh, f3] at h3
        simp only [Option.some.injEq, Obj.cells.injEq] at h3
        exact hne h3.2.1.symm
/-- All but the block q lies as it lay. -/
def Gr (q : Nat) (A B : World) : Prop := A.grownBy B (some q)
section
variable {q n p c : Nat} {A B C w : World}
theorem Gr.refl (q : Nat) (A : World) : Gr q A A := ⟨rfl, rfl, rfl, Nat.le_refl _, fun _ _ _ => rfl⟩
theorem Gr.trans (x : Gr q A B) (y : Gr q B C) : Gr q A C := ⟨y.os.trans x.os, y.tape.trans x.tape, y.output.trans x.output, Nat.le_trans x.size y.size, fun k hk hne => (y.block k (Nat.lt_of_lt_of_le hk x.size) hne).trans (x.block k hk hne)⟩
theorem Gr.below (h : Below A.heap.size A B) : Gr q A B := ⟨h.os, h.tape, h.output, h.size, fun k hk _ => h.block k hk⟩
theorem Gr.set (A : World) (q o : Nat) (u : Value) : Gr q A (A.setCell ⟨q, o, none⟩ u) := ⟨rfl, rfl, rfl, by simp, fun k _ hne => Below.heap_setCell _ _ _ k (show k ≠ q from fun e => hne (by rw [e]))⟩
theorem Gr.base (h : Below n w A) (x : Gr q A B) (h1 : n ≤ q) (h2 : n ≤ A.heap.size) : Below n w B := h.grown x h2 (fun r e => by cases e; exact h1)
theorem Gr.cell {k o : Nat} {v : Value} (x : Gr q A B) (h : A.cell? ⟨k, o, none⟩ = some v) (hk : k ≠ q) : B.cell? ⟨k, o, none⟩ = some v :=
  (World.cell?_of_block (a := ⟨k, o, none⟩) (x.block k (blk_lt h) (fun e => by cases e; exact hk rfl))).trans h
end
end Go.Proofs.YtldpajfendkhbaaDoor
