/- The frame's parts for the laws of a search: two ends and a budget, a cell and by how much more it costs, as arguments. -/
import Derived.Test.YtldpajfendkhbaaDoorAf
import Derived.Test.YtldpajfendkhbaaDoorCq
import Derived.Deep.Strs
namespace Go.Proofs.YtldpajfendkhbaaDoor
open Go.ChangeShapes Go.WideShapes Go.ChangeAt Go.RowKit Go.Joins

theorem array5 {cs : Array Value} (h : cs.size = 5) : ∃ c0 c1 c2 c3 c4, cs = #[c0, c1, c2, c3, c4] := by
  obtain ⟨l⟩ := cs
  match l, h with
  | [c0, c1, c2, c3, c4], _ => exact ⟨c0, c1, c2, c3, c4, rfl⟩
theorem Tryd.cEnds10 : Tryd.prog.cellsOf 30 = 5 := by kernel_rfl
set_option maxRecDepth 100000 in
theorem open_ends10 {H : Type} {enc : TypeId × Value → H} {W : World} {r : Reach} {b0 base : Nat} {held : Bool} {v : Value} {d : DataW H} {p : List MemPlace}
    (hv : Value.okWide Tryd.prog W r b0 30 v) (h : DataW.Trod enc Tryd.prog W base (fun _ => true) held 30 v d p) : ∃ (F T : Int × Int) (n : Int),
      v = .agg #[.int .i64 F.1, .int .i64 F.2, .int .i64 T.1, .int .i64 T.2, .int .i64 n] ∧ (((Lit.int .i64 F.1).wf = true ∧ (Lit.int .i64 F.2).wf = true) ∧ (Lit.int .i64 T.1).wf = true ∧ (Lit.int .i64 T.2).wf = true) ∧ (Lit.int .i64 n).wf = true := by
  simp only [Value.okWide, Tryd.underlying30] at hv
  obtain ⟨cs, rfl, hsz, _⟩ := hv
  rw [Tryd.cEnds10] at hsz
  obtain ⟨c0, c1, c2, c3, c4, rfl⟩ := array5 hsz
  obtain ⟨fuel, hf⟩ := h
  obtain ⟨y0, y1, y2, n, _, _, hy0, hy1, hy2⟩ := Go.Deep.trod_struct3 Tryd.underlying30 hf
  simp only [Value.cells] at hy0 hy1 hy2
  have h0 : DataW.trod enc Tryd.prog W base (fun _ => true) held n 28 [c0, c1] = some y0 := by
    have e : (([c0, c1, c2, c3, c4].drop 0).take (Tryd.prog.cellsOf 28)) = [c0, c1] := by rw [Tryd.cCell]; rfl
    rw [← e]; exact hy0
  have h1 : DataW.trod enc Tryd.prog W base (fun _ => true) held n 28 [c2, c3] = some y1 := by
    have e : (([c0, c1, c2, c3, c4].drop 2).take (Tryd.prog.cellsOf 28)) = [c2, c3] := by rw [Tryd.cCell]; rfl
    rw [← e]; exact hy1
  have h2 : DataW.trod enc Tryd.prog W base (fun _ => true) held n 3 [c4] = some y2 := by
    have e : (([c0, c1, c2, c3, c4].drop 4).take (Tryd.prog.cellsOf 3)) = [c4] := by rw [Tryd.cInt]; rfl
    rw [← e]; exact hy2
  obtain ⟨a, b, e0, w0, w1⟩ := cell_two h0
  obtain ⟨c, e, e1, w2, w3⟩ := cell_two h1
  obtain ⟨q, e2, _, w4⟩ := DataW.trod_int Tryd.underlying3 h2
  simp at e0 e1 e2
  obtain ⟨rfl, rfl⟩ := e0
  obtain ⟨rfl, rfl⟩ := e1
  subst e2
  exact ⟨(a, b), (c, e), q, rfl, ⟨⟨w0, w1⟩, w2, w3⟩, w4⟩
theorem Tryd.cMore10 : Tryd.prog.cellsOf 56 = 2 := by kernel_rfl
set_option maxRecDepth 100000 in
theorem open_more10 {H : Type} {enc : TypeId × Value → H} {W : World} {r : Reach} {b0 base : Nat} {held : Bool} {v : Value} {d : DataW H} {p : List MemPlace}
    (hv : Value.okWide Tryd.prog W r b0 56 v) (h : DataW.Trod enc Tryd.prog W base (fun _ => true) held 56 v d p) : ∃ (n m : Int),
      v = .agg #[.int .i64 n, .int .i64 m] ∧ (Lit.int .i64 n).wf = true ∧ (Lit.int .i64 m).wf = true := by
  simp only [Value.okWide, Tryd.underlying56] at hv
  obtain ⟨cs, rfl, hsz, _⟩ := hv
  rw [Tryd.cMore10] at hsz
  obtain ⟨c0, c1, rfl⟩ : ∃ c0 c1, cs = #[c0, c1] := by
    obtain ⟨l⟩ := cs
    match l, hsz with
    | [c0, c1], _ => exact ⟨c0, c1, rfl⟩
  obtain ⟨fuel, hf⟩ := h
  obtain ⟨y0, y1, n, _, _, hy0, hy1⟩ := trod_struct2 Tryd.underlying56 hf
  simp only [Value.cells] at hy0 hy1
  have h0 : DataW.trod enc Tryd.prog W base (fun _ => true) held n 3 [c0] = some y0 := by
    have e : (([c0, c1].drop 0).take (Tryd.prog.cellsOf 3)) = [c0] := by rw [Tryd.cInt]; rfl
    rw [← e]; exact hy0
  have h1 : DataW.trod enc Tryd.prog W base (fun _ => true) held n 3 [c1] = some y1 := by
    have e : (([c0, c1].drop 1).take (Tryd.prog.cellsOf 3)) = [c1] := by rw [Tryd.cInt]; rfl
    rw [← e]; exact hy1
  obtain ⟨a, e0, _, w0⟩ := DataW.trod_int Tryd.underlying3 h0
  obtain ⟨b, e1, _, w1⟩ := DataW.trod_int Tryd.underlying3 h1
  simp at e0 e1
  subst e0 e1
  exact ⟨a, b, rfl, w0, w1⟩
end Go.Proofs.YtldpajfendkhbaaDoor
