/- The frame's parts where no variable is listed: sizes, cells, rows of cells, arrays of such, as arguments. -/
import Derived.Test.YtgkeifjnnpcleaaRows
import Derived.Test.YtgkeifjnnpcleaaKh
import Derived.ProofKit
import Derived.OpenShut
import Derived.Stop.Joined
import Derived.Lib.SmallJoins
import Derived.Deep.SlicePairs
namespace Go.Proofs.Ytgkeifjnnpcleaa
open Go.ChangeShapes Go.WideShapes Go.ChangeAt Go.RowKit Go.Joins

theorem Try.own : ownKnob Try.prog.godebug = none := by kernel_rfl
theorem Try.cInt : Try.prog.cellsOf 3 = 1 := by kernel_rfl
theorem Try.cCell : Try.prog.cellsOf 36 = 2 := by kernel_rfl
theorem Try.cSize : Try.prog.cellsOf 23 = 2 := by kernel_rfl
theorem Try.cRow : Try.prog.cellsOf 40 = 1 := by kernel_rfl
theorem Try.laidOut : laidOutB Try.prog = true := by kernel_rfl

theorem open_size {H : Type} {enc : TypeId × Value → H} {W : World} {r : Reach} {b0 base : Nat} {sp : Nat → Bool} {held : Bool} {v : Value} {d : DataW H} {p : List MemPlace}
    (hv : Value.okWide Try.prog W r b0 23 v) (h : DataW.Trod enc Try.prog W base sp held 23 v d p) : ∃ a b : Int, v = .agg #[.int .i64 a, .int .i64 b] ∧ (Lit.int .i64 a).wf = true ∧ (Lit.int .i64 b).wf = true := by
  obtain ⟨c0, c1, y0, y1, m, rfl, rfl, rfl, hy0, hy1⟩ := open_agg2 Try.underlying23 (by kernel_rfl) Try.cSize hv h
  obtain ⟨a, e0, rfl, wa⟩ := DataW.trod_int Try.underlying3 hy0
  obtain ⟨b, e1, rfl, wb⟩ := DataW.trod_int Try.underlying3 hy1
  simp at e0 e1
  subst e0 e1
  exact ⟨a, b, rfl, wa, wb⟩
theorem open_cell {H : Type} {enc : TypeId × Value → H} {W : World} {r : Reach} {b0 base : Nat} {sp : Nat → Bool} {held : Bool} {v : Value} {d : DataW H} {p : List MemPlace}
    (hv : Value.okWide Try.prog W r b0 36 v) (h : DataW.Trod enc Try.prog W base sp held 36 v d p) : ∃ a b : Int, v = .agg #[.int .i64 a, .int .i64 b] ∧ (Lit.int .i64 a).wf = true ∧ (Lit.int .i64 b).wf = true := by
  obtain ⟨c0, c1, y0, y1, m, rfl, rfl, rfl, hy0, hy1⟩ := open_agg2 Try.underlying36 (by kernel_rfl) Try.cCell hv h
  obtain ⟨a, e0, rfl, wa⟩ := DataW.trod_int Try.underlying3 hy0
  obtain ⟨b, e1, rfl, wb⟩ := DataW.trod_int Try.underlying3 hy1
  simp at e0 e1
  subst e0 e1
  exact ⟨a, b, rfl, wa, wb⟩

theorem add_none (b off i : Nat) : (⟨b, off, none⟩ : Addr).add i = ⟨b, off + i, none⟩ := by unfold Addr.add; split <;> simp_all
/-- A row of cells, read off its cells. -/
theorem read_row {H : Type} {enc : TypeId × Value → H} {W : World} {held : Bool} {m : Nat} {cs : List Value} {x : DataW H × List MemPlace}
    (h : DataW.trod enc Try.prog W 0 (fun _ => true) held m 40 cs = some x) : ∃ (a : Option Addr) (cap : Nat) (zs : List (Int × Int)), cs = [.slice a zs.length cap] ∧ zs.length ≤ maxLen ∧ RowC W a zs := by
  rcases Go.Deep.open_slice_pairs Try.underlying40 Try.underlying36 Try.cCell rfl rfl Try.cInt Try.cInt h with ⟨rfl, _⟩ | ⟨a, len, cap, m', n, V0, V1, D0, D1, P0, P1, rfl, _, hl, hm, hmm, _, hc⟩
  · exact ⟨none, 0, [], rfl, Nat.zero_le _, .inl rfl⟩
  · have hmm' : m' = cap := by simpa using hmm
    subst hmm'
    refine ⟨some a, m', (List.range len).map (fun i => (intOf (V0 i), intOf (V1 i))), by simp, by rw [List.length_map, List.length_range]; exact Nat.le_trans hl hm, ?_⟩
    by_cases h0 : len = 0
    · exact .inl (by simp [h0])
    · obtain ⟨b, off, spot⟩ := a
      have hspot : spot = none := by simpa [Addr.add] using World.cell?_spot (hc 0 (by omega)).1
      subst hspot
      have hadd := add_none b off
      refine .inr ⟨b, off, rfl, fun i z hz => ?_⟩
      have hi : i < len := by
        have := (List.getElem?_eq_some_iff.1 hz).1
        simpa using this
      simp [hi] at hz
      subst hz
      obtain ⟨q0, q1, t0, t1⟩ := hc i (by omega)
      obtain ⟨p, e0, _, _⟩ := DataW.trod_int Try.underlying3 t0
      obtain ⟨q, e1, _, _⟩ := DataW.trod_int Try.underlying3 t1
      simp at e0 e1
      rw [hadd, e0] at q0
      rw [hadd, e1] at q1
      rw [e0, e1]
      exact ⟨q0, q1⟩
theorem row_small {n : Nat} (h : n ≤ maxLen) : n ≤ 9223372036854775807 := by unfold maxLen at h; omega

theorem Try.cThree : Try.prog.cellsOf 70 = 3 := by kernel_rfl
theorem open_three {H : Type} {enc : TypeId × Value → H} {W : World} {r : Reach} {b0 : Nat} {held : Bool} {v : Value} {d : DataW H} {p : List MemPlace}
    (hv : Value.okWide Try.prog W r b0 70 v) (h : DataW.Trod enc Try.prog W 0 (fun _ => true) held 70 v d p) : ∃ (a0 a1 a2 : Option Addr) (c0 c1 c2 : Nat) (z0 z1 z2 : List (Int × Int)),
      v = .agg #[.slice a0 z0.length c0, .slice a1 z1.length c1, .slice a2 z2.length c2] ∧ (z0.length ≤ maxLen ∧ z1.length ≤ maxLen ∧ z2.length ≤ maxLen) ∧ RowC W a0 z0 ∧ RowC W a1 z1 ∧ RowC W a2 z2 := by
  simp only [Value.okWide, Try.underlying70] at hv
  obtain ⟨cs, rfl, hsz, _⟩ := hv
  rw [Try.cThree] at hsz
  obtain ⟨v0, v1, v2, rfl⟩ := array3 hsz
  obtain ⟨fuel, hf⟩ := h
  obtain ⟨xs, m1, rfl, hx1, hlen, hn, hel⟩ := DataW.trod_array Try.underlying70 hf
  obtain ⟨x0, x1, x2, rfl⟩ : ∃ x0 x1 x2, xs = [x0, x1, x2] := by
    match xs, hn with
    | [x0, x1, x2], _ => exact ⟨x0, x1, x2, rfl⟩
  obtain ⟨a0, c0, z0, e0, l0, r0⟩ := read_row (hel 0 (by decide))
  obtain ⟨a1, c1, z1, e1, l1, r1⟩ := read_row (hel 1 (by decide))
  obtain ⟨a2, c2, z2, e2, l2, r2⟩ := read_row (hel 2 (by decide))
  rw [Try.cRow] at e0 e1 e2
  simp [Value.cells] at e0 e1 e2
  subst e0 e1 e2
  exact ⟨a0, a1, a2, c0, c1, c2, z0, z1, z2, rfl, ⟨l0, l1, l2⟩, r0, r1, r2⟩
theorem Try.cTwoRows : Try.prog.cellsOf 53 = 2 := by kernel_rfl
theorem open_tworows {H : Type} {enc : TypeId × Value → H} {W : World} {r : Reach} {b0 : Nat} {held : Bool} {v : Value} {d : DataW H} {p : List MemPlace}
    (hv : Value.okWide Try.prog W r b0 53 v) (h : DataW.Trod enc Try.prog W 0 (fun _ => true) held 53 v d p) : ∃ (a0 a1 : Option Addr) (c0 c1 : Nat) (z0 z1 : List (Int × Int)),
      v = .agg #[.slice a0 z0.length c0, .slice a1 z1.length c1] ∧ (z0.length ≤ maxLen ∧ z1.length ≤ maxLen) ∧ RowC W a0 z0 ∧ RowC W a1 z1 := by
  simp only [Value.okWide, Try.underlying53] at hv
  obtain ⟨cs, rfl, hsz, _⟩ := hv
  rw [Try.cTwoRows] at hsz
  obtain ⟨v0, v1, rfl⟩ := array2 hsz
  obtain ⟨fuel, hf⟩ := h
  obtain ⟨xs, m1, rfl, hx1, hlen, hn, hel⟩ := DataW.trod_array Try.underlying53 hf
  obtain ⟨x0, x1, rfl⟩ : ∃ x0 x1, xs = [x0, x1] := by
    match xs, hn with
    | [x0, x1], _ => exact ⟨x0, x1, rfl⟩
  obtain ⟨a0, c0, z0, e0, l0, r0⟩ := read_row (hel 0 (by decide))
  obtain ⟨a1, c1, z1, e1, l1, r1⟩ := read_row (hel 1 (by decide))
  rw [Try.cRow] at e0 e1
  simp [Value.cells] at e0 e1
  subst e0 e1
  exact ⟨a0, a1, c0, c1, z0, z1, rfl, ⟨l0, l1⟩, r0, r1⟩
end Go.Proofs.Ytgkeifjnnpcleaa
