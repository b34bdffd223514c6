/- The frame's parts: fields whose rows' capacities are told, as arguments. -/
import Derived.Test.YthnpoeobieninaaDoorVo
namespace Go.Proofs.YthnpoeobieninaaDoor
open Go.ChangeShapes Go.WideShapes Go.ChangeAt Go.RowKit Go.Joins

theorem read_u16c {H : Type} {enc : TypeId × Value → H} {W : World} {base : Nat} {held : Bool} {m : Nat} {cs : List Value} {x : DataW H × List MemPlace}
    (h : DataW.trod enc Tryd.prog W base (fun _ => true) held m 24 cs = some x) : ∃ (a : Option Addr) (cap : Nat) (zs : List Int), cs = [.slice a zs.length cap] ∧ zs.length ≤ maxLen ∧ RowH W a zs ∧ AllH zs ∧ zs.length ≤ cap := by
  rcases open_ints Tryd.underlying24 Tryd.underlying38 Tryd.cU16 h with ⟨rfl, _⟩ | ⟨a, l, c, zs, rfl, _, hl, hm, hz, _, hcell, hwf⟩
  · exact ⟨none, 0, [], rfl, Nat.zero_le _, .inl rfl, (fun z hz => by simp at hz), Nat.le_refl _⟩
  · have hz' : zs.length = c := by simpa using hz
    refine ⟨some a, c, zs.take l, by simp; omega, by simp; omega, rowH_cells (C := c) (by omega) (fun e => by cases e) hz' (fun a' e => by cases e; exact hcell), (fun z hz => inH_of (hwf z (List.mem_of_mem_take hz))), by simp; omega⟩
set_option maxRecDepth 100000 in
theorem open_fieldc {H : Type} {enc : TypeId × Value → H} {W : World} {r : Reach} {b0 base : Nat} {held : Bool} {v : Value} {d : DataW H} {p : List MemPlace}
    (hv : Value.okWide Tryd.prog W r b0 26 v) (h : DataW.Trod enc Tryd.prog W base (fun _ => true) held 26 v d p) : ∃ (X Y : Int) (a : Option Addr) (cap : Nat) (zs : List Int),
      v = .agg #[.int .i64 X, .int .i64 Y, .slice a zs.length cap] ∧ zs.length ≤ maxLen ∧ RowH W a zs ∧ AllH zs ∧ zs.length ≤ cap := by
  simp only [Value.okWide, Tryd.underlying26] at hv
  obtain ⟨cs, rfl, hsz, _⟩ := hv
  rw [Tryd.cField] at hsz
  obtain ⟨c0, c1, c2, rfl⟩ := array3 hsz
  obtain ⟨fuel, hf⟩ := h
  obtain ⟨y0, y1, n, _, _, hy0, hy1⟩ := trod_struct2 Tryd.underlying26 hf
  simp only [Value.cells] at hy0 hy1
  have h0 : DataW.trod enc Tryd.prog W base (fun _ => true) held n 23 [c0, c1] = some y0 := by
    have e : (([c0, c1, c2].drop 0).take (Tryd.prog.cellsOf 23)) = [c0, c1] := by rw [Tryd.cSize]; rfl
    rw [← e]; exact hy0
  have h1 : DataW.trod enc Tryd.prog W base (fun _ => true) held n 24 [c2] = some y1 := by
    have e : (([c0, c1, c2].drop 2).take (Tryd.prog.cellsOf 24)) = [c2] := by rw [Tryd.cRow]; rfl
    rw [← e]; exact hy1
  obtain ⟨z0, z1, m, _, _, hz0, hz1⟩ := trod_struct2 Tryd.underlying23 h0
  have g0 : DataW.trod enc Tryd.prog W base (fun _ => true) held m 3 [c0] = some z0 := by
    have e : (([c0, c1].drop 0).take (Tryd.prog.cellsOf 3)) = [c0] := by rw [Tryd.cInt]; rfl
    rw [← e]; exact hz0
  have g1 : DataW.trod enc Tryd.prog W base (fun _ => true) held m 3 [c1] = some z1 := by
    have e : (([c0, c1].drop 1).take (Tryd.prog.cellsOf 3)) = [c1] := by rw [Tryd.cInt]; rfl
    rw [← e]; exact hz1
  obtain ⟨X, e0, _, _⟩ := DataW.trod_int Tryd.underlying3 g0
  obtain ⟨Y, e1, _, _⟩ := DataW.trod_int Tryd.underlying3 g1
  obtain ⟨a, cap, zs, e2, hl, hr, hu⟩ := read_u16c h1
  simp at e0 e1 e2
  subst e0 e1 e2
  exact ⟨X, Y, a, cap, zs, rfl, hl, hr, hu⟩

end Go.Proofs.YthnpoeobieninaaDoor
