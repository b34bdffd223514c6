/- The frame's parts for the laws of tables: a cluster, cells of it and one cell as an argument. -/
import Derived.Test.YtgbhafadibdmcaaDoorL1
import Derived.Test.YtgbhafadibdmcaaDoorCq
import Derived.Test.YtgbhafadibdmcaaDoorDo
namespace Go.Proofs.YtgbhafadibdmcaaDoor
open Go.ChangeShapes Go.WideShapes Go.ChangeAt Go.RowKit Go.Joins

theorem wf64_of {z : Int} (h : (Lit.int .i64 z).wf = true) : wf64 z := bounds_i64 h
theorem read_u16c {H : Type} {enc : TypeId × Value → H} {W : World} {base : Nat} {held : Bool} {m : Nat} {cs : List Value} {x : DataW H × List MemPlace}
    (h : DataW.trod enc Tryd.prog W base (fun _ => true) held m 24 cs = some x) : ∃ (a : Option Addr) (cap : Nat) (zs : List Int), cs = [.slice a zs.length cap] ∧ zs.length ≤ maxLen ∧ RowH W a zs ∧ AllH zs ∧ zs.length ≤ cap := by
  rcases open_ints Tryd.underlying24 Tryd.underlying64 Tryd.cU16 h with ⟨rfl, _⟩ | ⟨a, l, c, zs, rfl, _, hl, hm, hz, _, hcell, hwf⟩
  · exact ⟨none, 0, [], rfl, Nat.zero_le _, .inl rfl, (fun z hz => by simp at hz), Nat.le_refl _⟩
  · have hz' : zs.length = c := by simpa using hz
    refine ⟨some a, c, zs.take l, by simp; omega, by simp; omega, rowH_cells (C := c) (by omega) (fun e => by cases e) hz' (fun a' e => by cases e; exact hcell), (fun z hz => inH_of (hwf z (List.mem_of_mem_take hz))), by simp; omega⟩
set_option maxRecDepth 100000 in
theorem open_fieldc {H : Type} {enc : TypeId × Value → H} {W : World} {r : Reach} {b0 base : Nat} {held : Bool} {v : Value} {d : DataW H} {p : List MemPlace}
    (hv : Value.okWide Tryd.prog W r b0 26 v) (h : DataW.Trod enc Tryd.prog W base (fun _ => true) held 26 v d p) : ∃ (X Y : Int) (a : Option Addr) (cap : Nat) (zs : List Int),
      v = .agg #[.int .i64 X, .int .i64 Y, .slice a zs.length cap] ∧ zs.length ≤ maxLen ∧ RowH W a zs ∧ AllH zs ∧ zs.length ≤ cap := by
  simp only [Value.okWide, Tryd.underlying26] at hv
  obtain ⟨cs, rfl, hsz, _⟩ := hv
  rw [Tryd.cField] at hsz
  obtain ⟨c0, c1, c2, rfl⟩ := array3 hsz
  obtain ⟨fuel, hf⟩ := h
  obtain ⟨y0, y1, n, _, _, hy0, hy1⟩ := trod_struct2 Tryd.underlying26 hf
  simp only [Value.cells] at hy0 hy1
  have h0 : DataW.trod enc Tryd.prog W base (fun _ => true) held n 23 [c0, c1] = some y0 := by
    have e : (([c0, c1, c2].drop 0).take (Tryd.prog.cellsOf 23)) = [c0, c1] := by rw [Tryd.cSize]; rfl
    rw [← e]; exact hy0
  have h1 : DataW.trod enc Tryd.prog W base (fun _ => true) held n 24 [c2] = some y1 := by
    have e : (([c0, c1, c2].drop 2).take (Tryd.prog.cellsOf 24)) = [c2] := by rw [Tryd.cRow]; rfl
    rw [← e]; exact hy1
  obtain ⟨z0, z1, m, _, _, hz0, hz1⟩ := trod_struct2 Tryd.underlying23 h0
  have g0 : DataW.trod enc Tryd.prog W base (fun _ => true) held m 3 [c0] = some z0 := by
    have e : (([c0, c1].drop 0).take (Tryd.prog.cellsOf 3)) = [c0] := by rw [Tryd.cInt]; rfl
    rw [← e]; exact hz0
  have g1 : DataW.trod enc Tryd.prog W base (fun _ => true) held m 3 [c1] = some z1 := by
    have e : (([c0, c1].drop 1).take (Tryd.prog.cellsOf 3)) = [c1] := by rw [Tryd.cInt]; rfl
    rw [← e]; exact hz1
  obtain ⟨X, e0, _, _⟩ := DataW.trod_int Tryd.underlying3 g0
  obtain ⟨Y, e1, _, _⟩ := DataW.trod_int Tryd.underlying3 g1
  obtain ⟨a, cap, zs, e2, hl, hr, hu⟩ := read_u16c h1
  simp at e0 e1 e2
  subst e0 e1 e2
  exact ⟨X, Y, a, cap, zs, rfl, hl, hr, hu⟩
set_option maxRecDepth 100000 in
/-- A row of cells, read off its cells: every number is one of 64 bits. -/
theorem read_roww {H : Type} {enc : TypeId × Value → H} {W : World} {held : Bool} {m : Nat} {cs : List Value} {x : DataW H × List MemPlace}
    (h : DataW.trod enc Tryd.prog W 0 (fun _ => true) held m 35 cs = some x) : ∃ (a : Option Addr) (cap : Nat) (zs : List (Int × Int)), cs = [.slice a zs.length cap] ∧ zs.length ≤ maxLen ∧ RowC W a zs ∧ zs.length ≤ cap ∧ AllW zs := by
  rcases Go.Deep.open_slice_pairs Tryd.underlying35 Tryd.underlying30 Tryd.cCell rfl rfl Tryd.cInt Tryd.cInt h with ⟨rfl, _⟩ | ⟨a, len, cap, m', n, V0, V1, D0, D1, P0, P1, rfl, _, hl, hm, hmm, _, hc⟩
  · exact ⟨none, 0, [], rfl, Nat.zero_le _, .inl rfl, Nat.le_refl _, fun c hc => by cases hc⟩
  · have hmm' : m' = cap := by simpa using hmm
    subst hmm'
    refine ⟨some a, m', (List.range len).map (fun i => (intOf (V0 i), intOf (V1 i))), by simp, by rw [List.length_map, List.length_range]; exact Nat.le_trans hl hm, ?_, by rw [List.length_map, List.length_range]; exact hl, ?_⟩
    · by_cases h0 : len = 0
      · exact .inl (by simp [h0])
      · obtain ⟨b, off, spot⟩ := a
        have hspot : spot = none := by simpa [Addr.add] using World.cell?_spot (hc 0 (by omega)).1
        subst hspot
        have hadd := add_none b off
        refine .inr ⟨b, off, rfl, fun i z hz => ?_⟩
        have hi : i < len := by
          have := (List.getElem?_eq_some_iff.1 hz).1
          simpa using this
        simp [hi] at hz
        subst hz
        obtain ⟨q0, q1, t0, t1⟩ := hc i (by omega)
        obtain ⟨p, e0, _, _⟩ := DataW.trod_int Tryd.underlying3 t0
        obtain ⟨q, e1, _, _⟩ := DataW.trod_int Tryd.underlying3 t1
        simp at e0 e1
        rw [hadd, e0] at q0
        rw [hadd, e1] at q1
        rw [e0, e1]
        exact ⟨q0, q1⟩
    · intro c hcm
      obtain ⟨i, hi, rfl⟩ := List.mem_map.1 hcm
      have hi' : i < len := List.mem_range.1 hi
      obtain ⟨q0, q1, t0, t1⟩ := hc i (by omega)
      obtain ⟨p, e0, _, w0⟩ := DataW.trod_int Tryd.underlying3 t0
      obtain ⟨q, e1, _, w1⟩ := DataW.trod_int Tryd.underlying3 t1
      simp at e0 e1
      show wf64 (intOf (V0 i)) ∧ wf64 (intOf (V1 i))
      rw [e0, e1]
      exact ⟨wf64_of w0, wf64_of w1⟩
theorem Tryd.cCase13 : Tryd.prog.cellsOf 50 = 4 := by kernel_rfl
set_option maxRecDepth 100000 in
theorem read_case13 {H : Type} {enc : TypeId × Value → H} {W : World} {held : Bool} {m : Nat} {cs : List Value} {x : DataW H × List MemPlace}
    (h : DataW.trod enc Tryd.prog W 0 (fun _ => true) held m 50 cs = some x) : ∃ (n : Int) (a : Option Addr) (cap : Nat) (zs : List (Int × Int)) (p : Int × Int),
      cs = [.int .i64 n, .slice a zs.length cap, .int .i64 p.1, .int .i64 p.2] ∧ zs.length ≤ maxLen ∧ RowC W a zs ∧ zs.length ≤ cap ∧ AllW zs ∧ wf64 p.1 ∧ wf64 p.2 := by
  obtain ⟨y0, y1, y2, n, _, hl, hy0, hy1, hy2⟩ := Go.Deep.trod_struct3 Tryd.underlying50 h
  rw [Tryd.cCase13] at hl
  match cs, hl with
  | [c0, c1, c2, c3], _ =>
    have h0 : DataW.trod enc Tryd.prog W 0 (fun _ => true) held n 3 [c0] = some y0 := by
      have e : (([c0, c1, c2, c3].drop 0).take (Tryd.prog.cellsOf 3)) = [c0] := by rw [Tryd.cInt]; rfl
      rw [← e]; exact hy0
    have h1 : DataW.trod enc Tryd.prog W 0 (fun _ => true) held n 35 [c1] = some y1 := by
      have e : (([c0, c1, c2, c3].drop 1).take (Tryd.prog.cellsOf 35)) = [c1] := by rw [Tryd.cCells]; rfl
      rw [← e]; exact hy1
    have h2 : DataW.trod enc Tryd.prog W 0 (fun _ => true) held n 30 [c2, c3] = some y2 := by
      have e : (([c0, c1, c2, c3].drop 2).take (Tryd.prog.cellsOf 30)) = [c2, c3] := by rw [Tryd.cCell]; rfl
      rw [← e]; exact hy2
    obtain ⟨q, e0, _, _⟩ := DataW.trod_int Tryd.underlying3 h0
    obtain ⟨a, cap, zs, e1, r⟩ := read_roww h1
    obtain ⟨s, t, e2, w0, w1⟩ := cell_two h2
    simp at e0 e1 e2
    obtain ⟨rfl, rfl⟩ := e2
    subst e0 e1
    exact ⟨q, a, cap, zs, (s, t), rfl, r.1, r.2.1, r.2.2.1, r.2.2.2, wf64_of w0, wf64_of w1⟩
set_option maxRecDepth 100000 in
theorem open_case13 {H : Type} {enc : TypeId × Value → H} {W : World} {r : Reach} {b0 : Nat} {held : Bool} {v : Value} {d : DataW H} {p : List MemPlace}
    (hv : Value.okWide Tryd.prog W r b0 50 v) (h : DataW.Trod enc Tryd.prog W 0 (fun _ => true) held 50 v d p) : ∃ (n : Int) (a : Option Addr) (cap : Nat) (zs : List (Int × Int)) (p : Int × Int),
      v = .agg #[.int .i64 n, .slice a zs.length cap, .int .i64 p.1, .int .i64 p.2] ∧ zs.length ≤ maxLen ∧ RowC W a zs ∧ zs.length ≤ cap ∧ AllW zs ∧ wf64 p.1 ∧ wf64 p.2 := by
  simp only [Value.okWide, Tryd.underlying50] at hv
  obtain ⟨cs, rfl, hsz, _⟩ := hv
  obtain ⟨fuel, hf⟩ := h
  simp only [Value.cells] at hf
  obtain ⟨n, a, cap, zs, p, e, r⟩ := read_case13 hf
  obtain ⟨l⟩ := cs
  simp only at e
  subst e
  exact ⟨n, a, cap, zs, p, rfl, r⟩
end Go.Proofs.YtgbhafadibdmcaaDoor
