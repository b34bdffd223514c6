/- The frame's parts: sizes, cells, rows of cells and fields as arguments, where no variable is listed. -/
import Derived.Test.YtchlbdikpclmlaaWr
import Derived.Test.YtchlbdikpclmlaaVf
import Derived.Test.YtchlbdikpclmlaaRows
import Derived.ProofKit
import Derived.OpenShut
import Derived.Stop.Joined
import Derived.Lib.SmallJoins
import Derived.Deep.SlicePairs
import Derived.Deep.Matrix
namespace Go.Proofs.Ytchlbdikpclmlaa
open Go.ChangeShapes Go.WideShapes Go.ChangeAt Go.RowKit Go.Joins

theorem Try.own : ownKnob Try.prog.godebug = none := by kernel_rfl
theorem Try.cInt : Try.prog.cellsOf 3 = 1 := by kernel_rfl
theorem Try.cCell : Try.prog.cellsOf 23 = 2 := by kernel_rfl
theorem Try.cSize : Try.prog.cellsOf 35 = 2 := by kernel_rfl
theorem Try.cCells : Try.prog.cellsOf 24 = 1 := by kernel_rfl
theorem Try.laidOut : laidOutB Try.prog = true := by kernel_rfl

set_option maxRecDepth 100000 in
theorem open_size {H : Type} {enc : TypeId × Value → H} {W : World} {r : Reach} {b0 base : Nat} {sp : Nat → Bool} {held : Bool} {v : Value} {d : DataW H} {p : List MemPlace}
    (hv : Value.okWide Try.prog W r b0 35 v) (h : DataW.Trod enc Try.prog W base sp held 35 v d p) : ∃ a b : Int, v = .agg #[.int .i64 a, .int .i64 b] ∧ (Lit.int .i64 a).wf = true ∧ (Lit.int .i64 b).wf = true := by
  obtain ⟨c0, c1, y0, y1, m, rfl, rfl, rfl, hy0, hy1⟩ := open_agg2 Try.underlying35 (by kernel_rfl) Try.cSize hv h
  obtain ⟨a, e0, rfl, wa⟩ := DataW.trod_int Try.underlying3 hy0
  obtain ⟨b, e1, rfl, wb⟩ := DataW.trod_int Try.underlying3 hy1
  simp at e0 e1
  subst e0 e1
  exact ⟨a, b, rfl, wa, wb⟩
set_option maxRecDepth 100000 in
theorem open_cell {H : Type} {enc : TypeId × Value → H} {W : World} {r : Reach} {b0 base : Nat} {sp : Nat → Bool} {held : Bool} {v : Value} {d : DataW H} {p : List MemPlace}
    (hv : Value.okWide Try.prog W r b0 23 v) (h : DataW.Trod enc Try.prog W base sp held 23 v d p) : ∃ a b : Int, v = .agg #[.int .i64 a, .int .i64 b] ∧ (Lit.int .i64 a).wf = true ∧ (Lit.int .i64 b).wf = true := by
  obtain ⟨c0, c1, y0, y1, m, rfl, rfl, rfl, hy0, hy1⟩ := open_agg2 Try.underlying23 (by kernel_rfl) Try.cCell hv h
  obtain ⟨a, e0, rfl, wa⟩ := DataW.trod_int Try.underlying3 hy0
  obtain ⟨b, e1, rfl, wb⟩ := DataW.trod_int Try.underlying3 hy1
  simp at e0 e1
  subst e0 e1
  exact ⟨a, b, rfl, wa, wb⟩

theorem add_none (b off i : Nat) : (⟨b, off, none⟩ : Addr).add i = ⟨b, off + i, none⟩ := by unfold Addr.add; split <;> simp_all
/-- A row of cells, read off its cells. -/
theorem read_row {H : Type} {enc : TypeId × Value → H} {W : World} {held : Bool} {m : Nat} {cs : List Value} {x : DataW H × List MemPlace}
    (h : DataW.trod enc Try.prog W 0 (fun _ => true) held m 24 cs = some x) : ∃ (a : Option Addr) (cap : Nat) (zs : List (Int × Int)), cs = [.slice a zs.length cap] ∧ zs.length ≤ maxLen ∧ RowC W a zs := by
  rcases Go.Deep.open_slice_pairs Try.underlying24 Try.underlying23 Try.cCell rfl rfl Try.cInt Try.cInt h with ⟨rfl, _⟩ | ⟨a, len, cap, m', n, V0, V1, D0, D1, P0, P1, rfl, _, hl, hm, hmm, _, hc⟩
  · exact ⟨none, 0, [], rfl, Nat.zero_le _, .inl rfl⟩
  · have hmm' : m' = cap := by simpa using hmm
    subst hmm'
    refine ⟨some a, m', (List.range len).map (fun i => (intOf (V0 i), intOf (V1 i))), by simp, by rw [List.length_map, List.length_range]; exact Nat.le_trans hl hm, ?_⟩
    by_cases h0 : len = 0
    · exact .inl (by simp [h0])
    · obtain ⟨b, off, spot⟩ := a
      have hspot : spot = none := by simpa [Addr.add] using World.cell?_spot (hc 0 (by omega)).1
      subst hspot
      have hadd := add_none b off
      refine .inr ⟨b, off, rfl, fun i z hz => ?_⟩
      have hi : i < len := by
        have := (List.getElem?_eq_some_iff.1 hz).1
        simpa using this
      simp [hi] at hz
      subst hz
      obtain ⟨q0, q1, t0, t1⟩ := hc i (by omega)
      obtain ⟨p, e0, _, _⟩ := DataW.trod_int Try.underlying3 t0
      obtain ⟨q, e1, _, _⟩ := DataW.trod_int Try.underlying3 t1
      simp at e0 e1
      rw [hadd, e0] at q0
      rw [hadd, e1] at q1
      rw [e0, e1]
      exact ⟨q0, q1⟩
theorem row_small {n : Nat} (h : n ≤ maxLen) : n ≤ 9223372036854775807 := by unfold maxLen at h; omega


theorem Try.cRow : Try.prog.cellsOf 36 = 1 := by kernel_rfl
theorem Try.cField : Try.prog.cellsOf 38 = 3 := by kernel_rfl
theorem Try.cU16 : Try.prog.cellsOf 60 = 1 := by kernel_rfl
theorem spot_none {W : World} {a : Addr} {v : Value} (h : W.cell? (a.add 0) = some v) : ∃ b o, a = ⟨b, o, none⟩ := by
  obtain ⟨b, off, spot⟩ := a
  have : spot = none := by simpa [Addr.add] using World.cell?_spot h
  exact ⟨b, off, by rw [this]⟩
/-- A row of costs, by its cells. -/
theorem rowH_cells {W : World} {A : Option Addr} {L C : Nat} {zs : List Int} (hl : L ≤ zs.length) (hA : A = none → C = 0) (hz : zs.length = C)
    (h : ∀ a', A = some a' → ∀ i, i < zs.length → W.cell? (a'.add i) = some (.int .u16 (zs.getD i 0))) : RowH W A (zs.take L) := by
  by_cases h0 : L = 0
  · exact .inl (by rw [h0]; rfl)
  · cases hA' : A with
    | none => have := hA hA'; omega
    | some a' =>
      obtain ⟨b, o, rfl⟩ := spot_none (h a' hA' 0 (by omega))
      refine .inr ⟨b, o, rfl, fun i z hz => ?_⟩
      rw [List.getElem?_take] at hz
      split at hz
      · have hi := (List.getElem?_eq_some_iff.1 hz).1
        have := h _ hA' i hi
        rw [add_none] at this
        rw [this, List.getD_eq_getElem?_getD, hz]
        rfl
      · cases hz
theorem inH_of {z : Int} (h : (Lit.int .u16 z).wf = true) : inH z := by
  unfold inH
  simp only [Lit.wf, Bool.and_eq_true, decide_eq_true_eq] at h
  exact h
theorem read_u16s {H : Type} {enc : TypeId × Value → H} {W : World} {base : Nat} {held : Bool} {m : Nat} {cs : List Value} {x : DataW H × List MemPlace}
    (h : DataW.trod enc Try.prog W base (fun _ => true) held m 36 cs = some x) : ∃ (a : Option Addr) (cap : Nat) (zs : List Int), cs = [.slice a zs.length cap] ∧ zs.length ≤ maxLen ∧ RowH W a zs ∧ AllH zs := by
  rcases open_ints Try.underlying36 Try.underlying60 Try.cU16 h with ⟨rfl, _⟩ | ⟨a, l, c, zs, rfl, _, hl, hm, hz, _, hcell, hwf⟩
  · exact ⟨none, 0, [], rfl, Nat.zero_le _, .inl rfl, fun z hz => by simp at hz⟩
  · have hz' : zs.length = c := by simpa using hz
    refine ⟨some a, c, zs.take l, by simp; omega, by simp; omega, rowH_cells (C := c) (by omega) (fun e => by cases e) hz' (fun a' e => by cases e; exact hcell), fun z hz => inH_of (hwf z (List.mem_of_mem_take hz))⟩
set_option maxRecDepth 100000 in
theorem open_field {H : Type} {enc : TypeId × Value → H} {W : World} {r : Reach} {b0 base : Nat} {held : Bool} {v : Value} {d : DataW H} {p : List MemPlace}
    (hv : Value.okWide Try.prog W r b0 38 v) (h : DataW.Trod enc Try.prog W base (fun _ => true) held 38 v d p) : ∃ (X Y : Int) (a : Option Addr) (cap : Nat) (zs : List Int),
      v = .agg #[.int .i64 X, .int .i64 Y, .slice a zs.length cap] ∧ zs.length ≤ maxLen ∧ RowH W a zs ∧ AllH zs := by
  simp only [Value.okWide, Try.underlying38] at hv
  obtain ⟨cs, rfl, hsz, _⟩ := hv
  rw [Try.cField] at hsz
  obtain ⟨c0, c1, c2, rfl⟩ := array3 hsz
  obtain ⟨fuel, hf⟩ := h
  obtain ⟨y0, y1, n, _, _, hy0, hy1⟩ := trod_struct2 Try.underlying38 hf
  simp only [Value.cells] at hy0 hy1
  have h0 : DataW.trod enc Try.prog W base (fun _ => true) held n 35 [c0, c1] = some y0 := by
    have e : (([c0, c1, c2].drop 0).take (Try.prog.cellsOf 35)) = [c0, c1] := by rw [Try.cSize]; rfl
    rw [← e]; exact hy0
  have h1 : DataW.trod enc Try.prog W base (fun _ => true) held n 36 [c2] = some y1 := by
    have e : (([c0, c1, c2].drop 2).take (Try.prog.cellsOf 36)) = [c2] := by rw [Try.cRow]; rfl
    rw [← e]; exact hy1
  obtain ⟨z0, z1, m, _, _, hz0, hz1⟩ := trod_struct2 Try.underlying35 h0
  have g0 : DataW.trod enc Try.prog W base (fun _ => true) held m 3 [c0] = some z0 := by
    have e : (([c0, c1].drop 0).take (Try.prog.cellsOf 3)) = [c0] := by rw [Try.cInt]; rfl
    rw [← e]; exact hz0
  have g1 : DataW.trod enc Try.prog W base (fun _ => true) held m 3 [c1] = some z1 := by
    have e : (([c0, c1].drop 1).take (Try.prog.cellsOf 3)) = [c1] := by rw [Try.cInt]; rfl
    rw [← e]; exact hz1
  obtain ⟨X, e0, _, _⟩ := DataW.trod_int Try.underlying3 g0
  obtain ⟨Y, e1, _, _⟩ := DataW.trod_int Try.underlying3 g1
  obtain ⟨a, cap, zs, e2, hl, hr, hu⟩ := read_u16s h1
  simp at e0 e1 e2
  subst e0 e1 e2
  exact ⟨X, Y, a, cap, zs, rfl, hl, hr, hu⟩
end Go.Proofs.Ytchlbdikpclmlaa
