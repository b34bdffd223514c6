/- Cache's laws: acts, and rows of acts, as arguments. -/
import Derived.Test.YtbmpgafndpdnbaaRows
import Derived.Test.YtbmpgafndpdnbaaEn
import Derived.ProofKit
import Derived.OpenShut
import Derived.Stop.Joined
import Derived.Lib.SmallJoins
import Derived.Deep.SlicePairs
import Derived.Deep.Slices
namespace Go.Proofs.Ytbmpgafndpdnbaa
open Go.ChangeShapes Go.WideShapes Go.ChangeAt Go.RowKit Go.Joins

theorem Try.own : ownKnob Try.prog.godebug = none := by kernel_rfl
theorem Try.cInt : Try.prog.cellsOf 3 = 1 := by kernel_rfl
theorem Try.cAct : Try.prog.cellsOf 34 = 3 := by kernel_rfl
theorem Try.laidOut : laidOutB Try.prog = true := by kernel_rfl
theorem add_none (b off i : Nat) : (⟨b, off, none⟩ : Addr).add i = ⟨b, off + i, none⟩ := by unfold Addr.add; split <;> simp_all
theorem read_act {H : Type} {enc : TypeId × Value → H} {W : World} {base : Nat} {held : Bool} {n : Nat} {cs : List Value} {x : DataW H × List MemPlace}
    (hf : DataW.trod enc Try.prog W base (fun _ => true) held n 34 cs = some x) : ∃ k : AT, cs = [.int .i64 k.d, .int .i64 k.k, .int .i64 k.v] := by
  obtain ⟨y0, y1, y2, k, rfl, hl, h0, h1, h2⟩ := Go.Deep.trod_struct3 Try.underlying34 hf
  rw [Try.cAct] at hl
  obtain ⟨c0, c1, c2, rfl⟩ : ∃ c0 c1 c2, cs = [c0, c1, c2] := by
    match cs, hl with
    | [c0, c1, c2], _ => exact ⟨c0, c1, c2, rfl⟩
  simp only [Try.cInt] at h0 h1 h2
  obtain ⟨a, e0, _, _⟩ := DataW.trod_int Try.underlying3 h0
  obtain ⟨b, e1, _, _⟩ := DataW.trod_int Try.underlying3 h1
  obtain ⟨c, e2, _, _⟩ := DataW.trod_int Try.underlying3 h2
  simp at e0 e1 e2
  exact ⟨⟨a, b, c⟩, by rw [e0, e1, e2]⟩
theorem open_act16 {H : Type} {enc : TypeId × Value → H} {W : World} {r : Reach} {b0 : Nat} {held : Bool} {v : Value} {d : DataW H} {p : List MemPlace}
    (hv : Value.okWide Try.prog W r b0 34 v) (h : DataW.Trod enc Try.prog W 0 (fun _ => true) held 34 v d p) : ∃ t : AT, v = .agg #[.int .i64 t.d, .int .i64 t.k, .int .i64 t.v] := by
  simp only [Value.okWide, Try.underlying34] at hv
  obtain ⟨cs, rfl, hsz, _⟩ := hv
  obtain ⟨fuel, hf⟩ := h
  obtain ⟨t, e⟩ := read_act hf
  refine ⟨t, ?_⟩
  simp only [Value.cells] at e
  obtain ⟨l⟩ := cs
  simp only at e
  rw [e]
theorem open_acts16 {H : Type} {enc : TypeId × Value → H} {W : World} {r : Reach} {b0 : Nat} {held : Bool} {v : Value} {d : DataW H} {p : List MemPlace}
    (hv : Value.okWide Try.prog W r b0 22 v) (h : DataW.Trod enc Try.prog W 0 (fun _ => true) held 22 v d p) : ∃ (a : Option Addr) (cap : Nat) (ks : List AT),
      v = .slice a ks.length cap ∧ ks.length ≤ cap ∧ RowA W a ks := by
  obtain ⟨a, len, cap, rfl⟩ := okWide_slice Try.underlying22 hv
  obtain ⟨fuel, hf⟩ := h
  rcases Go.Deep.open_slice Try.underlying22 hf with ⟨e, _⟩ | ⟨a', len', cap', m, n, D, Pl, e, _, hl, hm, hmm, _, hx⟩
  · simp [Value.cells] at e
    obtain ⟨rfl, rfl, rfl⟩ := e
    exact ⟨none, 0, [], rfl, Nat.zero_le _, .inl rfl⟩
  · simp [Value.cells] at e
    obtain ⟨rfl, rfl, rfl⟩ := e
    have hmm' : m = cap := by simpa using hmm
    subst hmm'
    have each : ∀ i, i < m → ∃ t : AT, (W.cell? (a'.add (i * 3)) = some (.int .i64 t.d) ∧ W.cell? ((a'.add (i * 3)).add 1) = some (.int .i64 t.k) ∧ W.cell? ((a'.add (i * 3)).add 2) = some (.int .i64 t.v)) := fun i hi => by
      obtain ⟨cs', h1, h2⟩ := hx i hi
      rw [Try.cAct] at h1
      obtain ⟨_, hlen, hcell⟩ := World.cells?_some h1
      obtain ⟨t, e⟩ := read_act h2
      subst e
      have k0 := hcell 0 (by decide)
      have k1 := hcell 1 (by decide)
      have k2 := hcell 2 (by decide)
      simp at k0 k1 k2
      exact ⟨t, k0, k1, k2⟩
    obtain ⟨f, hf'⟩ := Go.Deep.choose_lt each
    refine ⟨some a', m, (List.range len).map f, by simp, by simp; omega, ?_⟩
    by_cases h0 : len = 0
    · exact .inl (by simp [h0])
    · obtain ⟨b, off, spot⟩ := a'
      have hspot : spot = none := by simpa [Addr.add] using World.cell?_spot (hf' 0 (by omega)).1
      subst hspot
      refine .inr ⟨b, off, rfl, fun i t ht => ?_⟩
      have hi : i < len := by
        have := (List.getElem?_eq_some_iff.1 ht).1
        simpa using this
      simp [hi] at ht
      subst ht
      obtain ⟨k0, k1, k2⟩ := hf' i (by omega)
      rw [add_none] at k0
      rw [add_none, add_none] at k1 k2
      exact ⟨k0, k1, k2⟩
end Go.Proofs.Ytbmpgafndpdnbaa
