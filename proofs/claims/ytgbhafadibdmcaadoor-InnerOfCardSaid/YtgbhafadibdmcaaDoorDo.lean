/- The frame's parts for the laws of parts: parts as an argument. -/
import Derived.Test.YtgbhafadibdmcaaDoorFa
namespace Go.Proofs.YtgbhafadibdmcaaDoor
open Go.ChangeShapes Go.WideShapes Go.ChangeAt Go.RowKit Go.Joins

theorem array3 {cs : Array Value} (h : cs.size = 3) : ∃ c0 c1 c2, cs = #[c0, c1, c2] := by
  obtain ⟨l⟩ := cs
  match l, h with
  | [c0, c1, c2], _ => exact ⟨c0, c1, c2, rfl⟩
theorem Tryd.cParts : Tryd.prog.cellsOf 48 = 3 := by kernel_rfl
set_option maxRecDepth 100000 in
theorem size_two {H : Type} {enc : TypeId × Value → H} {w : World} {base : Nat} {sp : Nat → Bool} {held : Bool} {m : Nat} {l : List Value} {x : DataW H × List MemPlace}
    (h : DataW.trod enc Tryd.prog w base sp held m 23 l = some x) : ∃ a b : Int, l = [.int .i64 a, .int .i64 b] := by
  obtain ⟨y0, y1, n, rfl, hl, t0, t1⟩ := trod_struct2 Tryd.underlying23 h
  rw [Tryd.cSize] at hl
  obtain ⟨c0, c1, rfl⟩ := two_of_len hl
  simp only [Tryd.cInt] at t0 t1
  obtain ⟨p, e0, rfl, w0⟩ := DataW.trod_int Tryd.underlying3 t0
  obtain ⟨q, e1, rfl, w1⟩ := DataW.trod_int Tryd.underlying3 t1
  simp at e0 e1
  exact ⟨p, q, by rw [e0, e1]⟩
set_option maxRecDepth 100000 in
theorem open_parts {H : Type} {enc : TypeId × Value → H} {W : World} {r : Reach} {b0 base : Nat} {held : Bool} {v : Value} {d : DataW H} {p : List MemPlace}
    (hv : Value.okWide Tryd.prog W r b0 48 v) (h : DataW.Trod enc Tryd.prog W base (fun _ => true) held 48 v d p) : ∃ (x y n : Int), v = .agg #[.int .i64 x, .int .i64 y, .int .i64 n] := by
  simp only [Value.okWide, Tryd.underlying48] at hv
  obtain ⟨cs, rfl, hsz, _⟩ := hv
  rw [Tryd.cParts] at hsz
  obtain ⟨c0, c1, c2, rfl⟩ := array3 hsz
  obtain ⟨fuel, hf⟩ := h
  obtain ⟨y0, y1, n, _, _, hy0, hy1⟩ := trod_struct2 Tryd.underlying48 hf
  simp only [Value.cells] at hy0 hy1
  have h0 : DataW.trod enc Tryd.prog W base (fun _ => true) held n 23 [c0, c1] = some y0 := by
    have e : (([c0, c1, c2].drop 0).take (Tryd.prog.cellsOf 23)) = [c0, c1] := by rw [Tryd.cSize]; rfl
    rw [← e]; exact hy0
  have h1 : DataW.trod enc Tryd.prog W base (fun _ => true) held n 3 [c2] = some y1 := by
    have e : (([c0, c1, c2].drop 2).take (Tryd.prog.cellsOf 3)) = [c2] := by rw [Tryd.cInt]; rfl
    rw [← e]; exact hy1
  obtain ⟨a, b, e0⟩ := size_two h0
  obtain ⟨q, e1, rfl, w1⟩ := DataW.trod_int Tryd.underlying3 h1
  simp at e0 e1
  obtain ⟨rfl, rfl⟩ := e0
  subst e1
  exact ⟨a, b, q, rfl⟩
end Go.Proofs.YtgbhafadibdmcaaDoor
