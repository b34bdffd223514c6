/- Arguments of MaskNil: two sizes, a row of cells. -/
import Derived.Test.YtgkeifjnnpcleaaFb
namespace Go.Proofs.Ytgkeifjnnpcleaa
open Go.ChangeShapes Go.WideShapes Go.ChangeAt Go.RowKit Go.Joins

theorem two_ofL {α : Type} {l : List α} (h : l.length = 2) : ∃ a b, l = [a, b] := by
  match l, h with
  | [a, b], _ => exact ⟨a, b, rfl⟩
theorem fourA {α : Type} {a : Array α} (h : a.size = 4) : ∃ x y z u, a = #[x, y, z, u] := by
  obtain ⟨l⟩ := a
  match l, h with
  | [x, y, z, u], _ => exact ⟨x, y, z, u, rfl⟩
/-- A size, read off its two cells. -/
theorem size_two {H : Type} {enc : TypeId × Value → H} {W : World} {base : Nat} {sp : Nat → Bool} {held : Bool} {fuel : Nat} {cs : List Value} {x : DataW H × List MemPlace}
    (h : DataW.trod enc Try.prog W base sp held fuel 23 cs = some x) : ∃ a b : Int, cs = [.int .i64 a, .int .i64 b] ∧ (Lit.int .i64 a).wf = true ∧ (Lit.int .i64 b).wf = true := by
  obtain ⟨y0, y1, n, rfl, hl, t0, t1⟩ := trod_struct2 Try.underlying23 h
  rw [Try.cSize] at hl
  obtain ⟨c0, c1, rfl⟩ := two_ofL hl
  simp only [Try.cInt] at t0 t1
  obtain ⟨p, e0, rfl, w0⟩ := DataW.trod_int Try.underlying3 t0
  obtain ⟨q, e1, rfl, w1⟩ := DataW.trod_int Try.underlying3 t1
  simp at e0 e1
  exact ⟨p, q, by rw [e0, e1], w0, w1⟩
theorem Try.cTwoSizes : Try.prog.cellsOf 65 = 4 := by kernel_rfl
theorem open_twosizes {H : Type} {enc : TypeId × Value → H} {W : World} {r : Reach} {b0 base : Nat} {sp : Nat → Bool} {held : Bool} {v : Value} {d : DataW H} {p : List MemPlace}
    (hv : Value.okWide Try.prog W r b0 65 v) (h : DataW.Trod enc Try.prog W base sp held 65 v d p) : ∃ a b c e : Int, v = .agg #[.int .i64 a, .int .i64 b, .int .i64 c, .int .i64 e] := by
  simp only [Value.okWide, Try.underlying65] at hv
  obtain ⟨cs, rfl, hsz, _⟩ := hv
  rw [Try.cTwoSizes] at hsz
  obtain ⟨c0, c1, c2, c3, rfl⟩ := fourA hsz
  obtain ⟨fuel, hf⟩ := h
  obtain ⟨xs, m1, rfl, hx1, hlen, hn2, hel⟩ := DataW.trod_array Try.underlying65 hf
  obtain ⟨x0, x1, rfl⟩ := two_ofL hn2
  obtain ⟨a, b, r0, _, _⟩ := size_two (hel 0 (by decide))
  obtain ⟨c, e, r1, _, _⟩ := size_two (hel 1 (by decide))
  rw [Try.cSize] at r0 r1
  simp [Value.cells] at r0 r1
  obtain ⟨rfl, rfl⟩ := r0
  obtain ⟨rfl, rfl⟩ := r1
  exact ⟨a, b, c, e, rfl⟩
theorem open_cells {H : Type} {enc : TypeId × Value → H} {W : World} {r : Reach} {b0 : Nat} {held : Bool} {v : Value} {d : DataW H} {p : List MemPlace}
    (hv : Value.okWide Try.prog W r b0 40 v) (h : DataW.Trod enc Try.prog W 0 (fun _ => true) held 40 v d p) : ∃ (a : Option Addr) (cap : Nat) (zs : List (Int × Int)), v = .slice a zs.length cap ∧ zs.length ≤ maxLen ∧ RowC W a zs := by
  obtain ⟨a, len, cap, rfl⟩ := okWide_slice Try.underlying40 hv
  obtain ⟨fuel, hf⟩ := h
  obtain ⟨a', cap', zs, e, r⟩ := read_row hf
  simp [Value.cells] at e
  obtain ⟨rfl, rfl, rfl⟩ := e
  exact ⟨_, _, _, rfl, r⟩
end Go.Proofs.Ytgkeifjnnpcleaa
