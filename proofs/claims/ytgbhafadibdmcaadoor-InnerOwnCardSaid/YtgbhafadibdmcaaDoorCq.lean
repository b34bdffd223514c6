/- The frame's parts for the laws of least costs: two ends as an argument. -/
import Derived.Test.YtgbhafadibdmcaaDoorAf
namespace Go.Proofs.YtgbhafadibdmcaaDoor
open Go.ChangeShapes Go.WideShapes Go.ChangeAt Go.RowKit Go.Joins

theorem array4 {cs : Array Value} (h : cs.size = 4) : ∃ c0 c1 c2 c3, cs = #[c0, c1, c2, c3] := by
  obtain ⟨l⟩ := cs
  match l, h with
  | [c0, c1, c2, c3], _ => exact ⟨c0, c1, c2, c3, rfl⟩
theorem Tryd.cEnds8 : Tryd.prog.cellsOf 32 = 4 := by kernel_rfl
set_option maxRecDepth 100000 in
theorem open_ends8 {H : Type} {enc : TypeId × Value → H} {W : World} {r : Reach} {b0 base : Nat} {held : Bool} {v : Value} {d : DataW H} {p : List MemPlace}
    (hv : Value.okWide Tryd.prog W r b0 32 v) (h : DataW.Trod enc Tryd.prog W base (fun _ => true) held 32 v d p) : ∃ (F T : Int × Int),
      v = .agg #[.int .i64 F.1, .int .i64 F.2, .int .i64 T.1, .int .i64 T.2] ∧ ((Lit.int .i64 F.1).wf = true ∧ (Lit.int .i64 F.2).wf = true) ∧ (Lit.int .i64 T.1).wf = true ∧ (Lit.int .i64 T.2).wf = true := by
  simp only [Value.okWide, Tryd.underlying32] at hv
  obtain ⟨cs, rfl, hsz, _⟩ := hv
  rw [Tryd.cEnds8] at hsz
  obtain ⟨c0, c1, c2, c3, rfl⟩ := array4 hsz
  obtain ⟨fuel, hf⟩ := h
  obtain ⟨y0, y1, n, _, _, hy0, hy1⟩ := trod_struct2 Tryd.underlying32 hf
  simp only [Value.cells] at hy0 hy1
  have h0 : DataW.trod enc Tryd.prog W base (fun _ => true) held n 30 [c0, c1] = some y0 := by
    have e : (([c0, c1, c2, c3].drop 0).take (Tryd.prog.cellsOf 30)) = [c0, c1] := by rw [Tryd.cCell]; rfl
    rw [← e]; exact hy0
  have h1 : DataW.trod enc Tryd.prog W base (fun _ => true) held n 30 [c2, c3] = some y1 := by
    have e : (([c0, c1, c2, c3].drop 2).take (Tryd.prog.cellsOf 30)) = [c2, c3] := by rw [Tryd.cCell]; rfl
    rw [← e]; exact hy1
  obtain ⟨a, b, e0, w0, w1⟩ := cell_two h0
  obtain ⟨c, e, e1, w2, w3⟩ := cell_two h1
  simp at e0 e1
  obtain ⟨rfl, rfl⟩ := e0
  obtain ⟨rfl, rfl⟩ := e1
  exact ⟨(a, b), (c, e), rfl, ⟨w0, w1⟩, w2, w3⟩
end Go.Proofs.YtgbhafadibdmcaaDoor
