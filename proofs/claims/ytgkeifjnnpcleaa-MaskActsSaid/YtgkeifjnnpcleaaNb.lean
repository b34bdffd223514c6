/- The frame's part for rows of acts, as arguments. -/
import Derived.Test.YtgkeifjnnpcleaaFb
import Derived.Test.YtgkeifjnnpcleaaNa
namespace Go.Proofs.Ytgkeifjnnpcleaa
open Go.ChangeShapes Go.WideShapes Go.ChangeAt Go.RowKit Go.Joins

theorem Try.cAct : Try.prog.cellsOf 38 = 3 := by kernel_rfl
theorem Try.cBool : Try.prog.cellsOf 4 = 1 := by kernel_rfl
theorem act_three {H : Type} {enc : TypeId × Value → H} {W : World} {base : Nat} {sp : Nat → Bool} {held : Bool} {m : Nat} {c0 c1 c2 : Value} {x : DataW H × List MemPlace}
    (h : DataW.trod enc Try.prog W base sp held m 38 [c0, c1, c2] = some x) : ∃ a b : Int, ∃ v : Bool, c0 = .int .i64 a ∧ c1 = .int .i64 b ∧ c2 = .bool v := by
  obtain ⟨xs, n, _, _, _, hlen, hf⟩ := DataW.trod_struct Try.underlying38 h
  have hf0 : DataW.trod enc Try.prog W base sp held n 36 (([c0, c1, c2].drop 0).take (Try.prog.cellsOf 36)) = xs[0]? := hf 0 _ rfl
  have hf1 : DataW.trod enc Try.prog W base sp held n 4 (([c0, c1, c2].drop 2).take (Try.prog.cellsOf 4)) = xs[1]? := hf 1 _ rfl
  obtain ⟨y0, y1, rfl⟩ : ∃ y0 y1, xs = [y0, y1] := by
    match xs, hlen with
    | [y0, y1], _ => exact ⟨y0, y1, rfl⟩
  rw [Try.cCell] at hf0
  rw [Try.cBool] at hf1
  simp at hf0 hf1
  obtain ⟨v, e2, _⟩ := DataW.trod_bool Try.underlying4 hf1
  obtain ⟨ys, n', _, _, _, hlen', hg⟩ := DataW.trod_struct Try.underlying36 hf0
  have hg0 : DataW.trod enc Try.prog W base sp held n' 3 (([c0, c1].drop 0).take (Try.prog.cellsOf 3)) = ys[0]? := hg 0 _ rfl
  have hg1 : DataW.trod enc Try.prog W base sp held n' 3 (([c0, c1].drop 1).take (Try.prog.cellsOf 3)) = ys[1]? := hg 1 _ rfl
  obtain ⟨z0, z1, rfl⟩ : ∃ z0 z1, ys = [z0, z1] := by
    match ys, hlen' with
    | [z0, z1], _ => exact ⟨z0, z1, rfl⟩
  rw [Try.cInt] at hg0 hg1
  simp at hg0 hg1
  obtain ⟨a, e0, _, _⟩ := DataW.trod_int Try.underlying3 hg0
  obtain ⟨b, e1, _, _⟩ := DataW.trod_int Try.underlying3 hg1
  simp at e0 e1 e2
  exact ⟨a, b, v, e0, e1, e2⟩
theorem open_acts {H : Type} {enc : TypeId × Value → H} {W : World} {r : Reach} {b0 : Nat} {held : Bool} {v : Value} {d : DataW H} {p : List MemPlace}
    (hv : Value.okWide Try.prog W r b0 24 v) (h : DataW.Trod enc Try.prog W 0 (fun _ => true) held 24 v d p) : ∃ (a : Option Addr) (cap : Nat) (ls : List ((Int × Int) × Bool)),
      v = .slice a ls.length cap ∧ ls.length ≤ maxLen ∧ ActsC W a ls := by
  obtain ⟨a, len, cap, rfl⟩ := okWide_slice Try.underlying24 hv
  obtain ⟨fuel, hf⟩ := h
  rcases Go.Deep.open_slice Try.underlying24 hf with ⟨e, _⟩ | ⟨a', len', cap', m, n, D, Pl, e, _, hl, hm, hmm, _, hx⟩
  · simp [Value.cells] at e
    obtain ⟨rfl, rfl, rfl⟩ := e
    exact ⟨none, 0, [], rfl, Nat.zero_le _, .inl rfl⟩
  · simp [Value.cells] at e
    obtain ⟨rfl, rfl, rfl⟩ := e
    have hmm' : m = cap := by simpa using hmm
    subst hmm'
    have each : ∀ i, i < m → ∃ t : (Int × Int) × Bool, W.cell? (a'.add (i * 3)) = some (.int .i64 t.1.1) ∧ W.cell? ((a'.add (i * 3)).add 1) = some (.int .i64 t.1.2) ∧ W.cell? ((a'.add (i * 3)).add 2) = some (.bool t.2) := fun i hi => by
      obtain ⟨cs', h1, h2⟩ := hx i hi
      rw [Try.cAct] at h1
      obtain ⟨_, hlen, hcell⟩ := World.cells?_some h1
      match cs', hlen with
      | [c0, c1, c2], _ =>
        obtain ⟨x, y, z, rfl, rfl, rfl⟩ := act_three h2
        have k0 := hcell 0 (by decide)
        have k1 := hcell 1 (by decide)
        have k2 := hcell 2 (by decide)
        simp at k0 k1 k2
        exact ⟨((x, y), z), k0, k1, k2⟩
    obtain ⟨f, hf'⟩ := Go.Deep.choose_lt each
    refine ⟨some a', m, (List.range len).map f, by simp, by simp; omega, ?_⟩
    by_cases h0 : len = 0
    · exact .inl (by simp [h0])
    · obtain ⟨b, off, spot⟩ := a'
      have hspot : spot = none := by simpa [Addr.add] using World.cell?_spot (hf' 0 (by omega)).1
      subst hspot
      refine .inr ⟨b, off, rfl, fun i t ht => ?_⟩
      have hi : i < len := by
        have := (List.getElem?_eq_some_iff.1 ht).1
        simpa using this
      simp [hi] at ht
      subst ht
      obtain ⟨k0, k1, k2⟩ := hf' i (by omega)
      rw [add_none] at k0
      rw [add_none, add_none] at k1 k2
      exact ⟨k0, k1, k2⟩
end Go.Proofs.Ytgkeifjnnpcleaa
