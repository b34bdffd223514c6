/- The frame's parts for the laws of gates: two numbers as an argument. -/
import Derived.Test.YtbdfjdipjacamaaDoorDo
import Derived.Test.YtbdfjdipjacamaaDoorAf
namespace Go.Proofs.YtbdfjdipjacamaaDoor
open Go.ChangeShapes Go.WideShapes Go.ChangeAt Go.RowKit Go.Joins

theorem array2g {cs : Array Value} (h : cs.size = 2) : ∃ c0 c1, cs = #[c0, c1] := by
  obtain ⟨l⟩ := cs
  match l, h with
  | [c0, c1], _ => exact ⟨c0, c1, rfl⟩
theorem Tryd.cTwoN : Tryd.prog.cellsOf 159 = 2 := by kernel_rfl
set_option maxRecDepth 100000 in
theorem open_twoN {H : Type} {enc : TypeId × Value → H} {W : World} {r : Reach} {b0 base : Nat} {sp : Nat → Bool} {held : Bool} {v : Value} {d : DataW H} {p : List MemPlace}
    (hv : Value.okWide Tryd.prog W r b0 159 v) (h : DataW.Trod enc Tryd.prog W base sp held 159 v d p) : ∃ a b : Int, v = .agg #[.int .i64 a, .int .i64 b] := by
  simp only [Value.okWide, Tryd.underlying159] at hv
  obtain ⟨cs, rfl, hsz, _⟩ := hv
  rw [Tryd.cTwoN] at hsz
  obtain ⟨c0, c1, rfl⟩ := array2g hsz
  obtain ⟨fuel, hf⟩ := h
  obtain ⟨xs, m1, rfl, hx1, hlen, hn2, hel⟩ := DataW.trod_array Tryd.underlying159 hf
  obtain ⟨x0, x1, rfl⟩ : ∃ x0 x1, xs = [x0, x1] := by
    match xs, hn2 with
    | [x0, x1], _ => exact ⟨x0, x1, rfl⟩
  obtain ⟨a, r0, _, _⟩ := DataW.trod_int Tryd.underlying3 (hel 0 (by decide))
  obtain ⟨b, r1, _, _⟩ := DataW.trod_int Tryd.underlying3 (hel 1 (by decide))
  rw [Tryd.cInt] at r0 r1
  simp [Value.cells] at r0 r1
  subst r0 r1
  exact ⟨a, b, rfl⟩
end Go.Proofs.YtbdfjdipjacamaaDoor
