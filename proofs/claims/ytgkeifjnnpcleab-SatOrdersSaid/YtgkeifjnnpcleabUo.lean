/- The frame's parts for costs: rows of costs, tables, arrays of such, as arguments. -/
import Derived.Test.YtgkeifjnnpcleabRows
import Derived.Test.YtgkeifjnnpcleabUl
import Derived.ProofKit
import Derived.OpenShut
import Derived.Stop.Joined
import Derived.Lib.SmallJoins
import Derived.Deep.Matrix
namespace Go.Proofs.Ytgkeifjnnpcleab
open Go.ChangeShapes Go.WideShapes Go.ChangeAt Go.RowKit Go.Joins

theorem Try.own : ownKnob Try.prog.godebug = none := by kernel_rfl
theorem Try.cU64 : Try.prog.cellsOf 23 = 1 := by kernel_rfl
theorem Try.cRow : Try.prog.cellsOf 22 = 1 := by kernel_rfl
theorem Try.laidOut : laidOutB Try.prog = true := by kernel_rfl
theorem add_none (b off i : Nat) : (⟨b, off, none⟩ : Addr).add i = ⟨b, off + i, none⟩ := by unfold Addr.add; split <;> simp_all
theorem spot_none {W : World} {a : Addr} {v : Value} (h : W.cell? (a.add 0) = some v) : ∃ b o, a = ⟨b, o, none⟩ := by
  obtain ⟨b, off, spot⟩ := a
  have : spot = none := by simpa [Addr.add] using World.cell?_spot h
  exact ⟨b, off, by rw [this]⟩
theorem maxLen_small {n : Nat} (h : n ≤ maxLen) : (n : Int) ≤ 9223372036854775807 := by unfold maxLen at h; omega

/-- A row of costs, by its cells. -/
theorem rowU_cells {W : World} {A : Option Addr} {L C : Nat} {zs : List Int} (hl : L ≤ zs.length) (hA : A = none → C = 0) (hz : zs.length = C)
    (h : ∀ a', A = some a' → ∀ i, i < zs.length → W.cell? (a'.add i) = some (.int .u64 (zs.getD i 0))) : RowU W A (zs.take L) := by
  by_cases h0 : L = 0
  · exact .inl (by rw [h0]; rfl)
  · cases hA' : A with
    | none => have := hA hA'; omega
    | some a' =>
      obtain ⟨b, o, rfl⟩ := spot_none (h a' hA' 0 (by omega))
      refine .inr ⟨b, o, rfl, fun i z hz => ?_⟩
      rw [List.getElem?_take] at hz
      split at hz
      · have hi := (List.getElem?_eq_some_iff.1 hz).1
        have := h _ hA' i hi
        rw [add_none] at this
        rw [this, List.getD_eq_getElem?_getD, hz]
        rfl
      · cases hz
theorem read_u64s {H : Type} {enc : TypeId × Value → H} {W : World} {base : Nat} {held : Bool} {m : Nat} {cs : List Value} {x : DataW H × List MemPlace}
    (h : DataW.trod enc Try.prog W base (fun _ => true) held m 22 cs = some x) : ∃ (a : Option Addr) (cap : Nat) (zs : List Int), cs = [.slice a zs.length cap] ∧ zs.length ≤ maxLen ∧ RowU W a zs ∧ AllU zs := by
  rcases open_ints Try.underlying22 Try.underlying23 Try.cU64 h with ⟨rfl, _⟩ | ⟨a, l, c, zs, rfl, _, hl, hm, hz, _, hcell, hwf⟩
  · exact ⟨none, 0, [], rfl, Nat.zero_le _, .inl rfl, fun z hz => by simp at hz⟩
  · have hz' : zs.length = c := by simpa using hz
    refine ⟨some a, c, zs.take l, by simp; omega, by simp; omega, rowU_cells (C := c) (by omega) (fun e => by cases e) hz' (fun a' e => by cases e; exact hcell), fun z hz => inU_of (hwf z (List.mem_of_mem_take hz))⟩
theorem open_u64s {H : Type} {enc : TypeId × Value → H} {W : World} {r : Reach} {b0 base : Nat} {held : Bool} {v : Value} {d : DataW H} {p : List MemPlace}
    (hv : Value.okWide Try.prog W r b0 22 v) (h : DataW.Trod enc Try.prog W base (fun _ => true) held 22 v d p) : ∃ (a : Option Addr) (cap : Nat) (zs : List Int), v = .slice a zs.length cap ∧ zs.length ≤ maxLen ∧ RowU W a zs ∧ AllU zs := by
  obtain ⟨a, len, cap, rfl⟩ := okWide_slice Try.underlying22 hv
  obtain ⟨fuel, hf⟩ := h
  obtain ⟨a', cap', zs, e, r⟩ := read_u64s hf
  simp [Value.cells] at e
  obtain ⟨rfl, rfl, rfl⟩ := e
  exact ⟨_, _, _, rfl, r⟩

theorem open_tab {H : Type} {enc : TypeId × Value → H} {W : World} {r : Reach} {b0 base : Nat} {held : Bool} {v : Value} {d : DataW H} {p : List MemPlace}
    (hv : Value.okWide Try.prog W r b0 35 v) (h : DataW.Trod enc Try.prog W base (fun _ => true) held 35 v d p) :
    ∃ (a : Option Addr) (cap : Nat) (ts : List (Option Addr × Nat × List Int)), v = .slice a ts.length cap ∧ ts.length ≤ maxLen ∧ TabU W a ts ∧ AllT (rowsT ts) ∧ ∀ t ∈ ts, t.2.2.length ≤ maxLen := by
  obtain ⟨a, len, cap, rfl⟩ := okWide_slice Try.underlying35 hv
  obtain ⟨fuel, hf⟩ := h
  rcases Go.Deep.open_int_rows Try.underlying35 Try.underlying22 Try.underlying23 Try.cRow Try.cU64 hf with ⟨e, _⟩ | ⟨a', len', cap', A, L, C, Z, e, _, hl, hm, _, hr⟩
  · simp [Value.cells] at e
    obtain ⟨rfl, rfl, rfl⟩ := e
    exact ⟨none, 0, [], rfl, Nat.zero_le _, .inl rfl, (fun z hz => by simp [rowsT] at hz), fun t ht => by simp at ht⟩
  · simp [Value.cells] at e
    obtain ⟨rfl, rfl, rfl⟩ := e
    have hlen : ∀ r, r < len → ((Z r).take (L r)).length = L r := fun r hr' => by
      obtain ⟨_, h1, _, h3, _⟩ := hr r (by omega)
      simp; omega
    refine ⟨some a', cap, (List.range len).map (fun r => (A r, C r, (Z r).take (L r))), by simp, by simp; omega, ?_, ?_, ?_⟩
    · by_cases h0 : len = 0
      · exact .inl (by simp [h0])
      · obtain ⟨b, o, rfl⟩ := spot_none (hr 0 (by omega)).1
        refine .inr ⟨b, o, rfl, fun i t ht => ?_⟩
        have hi : i < len := by
          have := (List.getElem?_eq_some_iff.1 ht).1
          simpa using this
        simp [hi] at ht
        subst ht
        obtain ⟨h0, h1, h2, h3, h4, h5, h6⟩ := hr i (by omega)
        rw [add_none] at h0
        refine ⟨by rw [h0]; show _ = some (Value.slice _ ((Z i).take (L i)).length _); rw [hlen i hi], rowU_cells (C := C i) (by omega) h5 h3 (fun a' e c hc => (h6 a' e).2 c (by omega))⟩
    · intro z hz y hy
      simp only [rowsT, List.map_map, List.mem_map, List.mem_range] at hz
      obtain ⟨r, hr', rfl⟩ := hz
      exact inU_of ((hr r (by omega)).2.2.2.2.1 y (List.mem_of_mem_take hy))
    · intro t ht
      simp only [List.mem_map, List.mem_range] at ht
      obtain ⟨r, hr', rfl⟩ := ht
      obtain ⟨_, h1, h2, h3, _⟩ := hr r (by omega)
      show ((Z r).take (L r)).length ≤ maxLen
      rw [hlen r hr']
      omega

theorem read_u64 {H : Type} {enc : TypeId × Value → H} {W : World} {base : Nat} {sp : Nat → Bool} {held : Bool} {m : Nat} {cs : List Value} {x : DataW H × List MemPlace}
    (h : DataW.trod enc Try.prog W base sp held m 23 cs = some x) : ∃ a : Int, cs = [.int .u64 a] ∧ inU a := by
  obtain ⟨a, e0, _, wa⟩ := DataW.trod_int Try.underlying23 h
  exact ⟨a, e0, inU_of wa⟩
theorem Try.cTwoU : Try.prog.cellsOf 24 = 2 := by kernel_rfl
theorem open_twoU {H : Type} {enc : TypeId × Value → H} {W : World} {r : Reach} {b0 base : Nat} {sp : Nat → Bool} {held : Bool} {v : Value} {d : DataW H} {p : List MemPlace}
    (hv : Value.okWide Try.prog W r b0 24 v) (h : DataW.Trod enc Try.prog W base sp held 24 v d p) : ∃ a b : Int, v = .agg #[.int .u64 a, .int .u64 b] ∧ inU a ∧ inU b := by
  simp only [Value.okWide, Try.underlying24] at hv
  obtain ⟨cs, rfl, hsz, _⟩ := hv
  rw [Try.cTwoU] at hsz
  obtain ⟨c0, c1, rfl⟩ := array2 hsz
  obtain ⟨fuel, hf⟩ := h
  obtain ⟨xs, m1, rfl, hx1, hlen, hn2, hel⟩ := DataW.trod_array Try.underlying24 hf
  obtain ⟨x0, x1, rfl⟩ : ∃ x0 x1, xs = [x0, x1] := by
    match xs, hn2 with
    | [x0, x1], _ => exact ⟨x0, x1, rfl⟩
  obtain ⟨a, r0, wa⟩ := read_u64 (hel 0 (by decide))
  obtain ⟨b, r1, wb⟩ := read_u64 (hel 1 (by decide))
  rw [Try.cU64] at r0 r1
  simp [Value.cells] at r0 r1
  subst r0 r1
  exact ⟨a, b, rfl, wa, wb⟩
theorem Try.cThreeU : Try.prog.cellsOf 30 = 3 := by kernel_rfl
theorem open_threeU {H : Type} {enc : TypeId × Value → H} {W : World} {r : Reach} {b0 base : Nat} {sp : Nat → Bool} {held : Bool} {v : Value} {d : DataW H} {p : List MemPlace}
    (hv : Value.okWide Try.prog W r b0 30 v) (h : DataW.Trod enc Try.prog W base sp held 30 v d p) : ∃ a b c : Int, v = .agg #[.int .u64 a, .int .u64 b, .int .u64 c] ∧ inU a ∧ inU b ∧ inU c := by
  simp only [Value.okWide, Try.underlying30] at hv
  obtain ⟨cs, rfl, hsz, _⟩ := hv
  rw [Try.cThreeU] at hsz
  obtain ⟨c0, c1, c2, rfl⟩ := array3 hsz
  obtain ⟨fuel, hf⟩ := h
  obtain ⟨xs, m1, rfl, hx1, hlen, hn2, hel⟩ := DataW.trod_array Try.underlying30 hf
  obtain ⟨x0, x1, x2, rfl⟩ : ∃ x0 x1 x2, xs = [x0, x1, x2] := by
    match xs, hn2 with
    | [x0, x1, x2], _ => exact ⟨x0, x1, x2, rfl⟩
  obtain ⟨a, r0, wa⟩ := read_u64 (hel 0 (by decide))
  obtain ⟨b, r1, wb⟩ := read_u64 (hel 1 (by decide))
  obtain ⟨c, r2, wc⟩ := read_u64 (hel 2 (by decide))
  rw [Try.cU64] at r0 r1 r2
  simp [Value.cells] at r0 r1 r2
  subst r0 r1 r2
  exact ⟨a, b, c, rfl, wa, wb, wc⟩
theorem Try.cRowsU : Try.prog.cellsOf 44 = 3 := by kernel_rfl
theorem open_rowsU {H : Type} {enc : TypeId × Value → H} {W : World} {r : Reach} {b0 : Nat} {base : Nat} {held : Bool} {v : Value} {d : DataW H} {p : List MemPlace}
    (hv : Value.okWide Try.prog W r b0 44 v) (h : DataW.Trod enc Try.prog W base (fun _ => true) held 44 v d p) : ∃ (a0 a1 a2 : Option Addr) (c0 c1 c2 : Nat) (z0 z1 z2 : List Int),
      v = .agg #[.slice a0 z0.length c0, .slice a1 z1.length c1, .slice a2 z2.length c2] ∧ (z0.length ≤ maxLen ∧ z1.length ≤ maxLen ∧ z2.length ≤ maxLen) ∧ (RowU W a0 z0 ∧ AllU z0) ∧ (RowU W a1 z1 ∧ AllU z1) ∧ RowU W a2 z2 ∧ AllU z2 := by
  simp only [Value.okWide, Try.underlying44] at hv
  obtain ⟨cs, rfl, hsz, _⟩ := hv
  rw [Try.cRowsU] at hsz
  obtain ⟨v0, v1, v2, rfl⟩ := array3 hsz
  obtain ⟨fuel, hf⟩ := h
  obtain ⟨xs, m1, rfl, hx1, hlen, hn, hel⟩ := DataW.trod_array Try.underlying44 hf
  obtain ⟨x0, x1, x2, rfl⟩ : ∃ x0 x1 x2, xs = [x0, x1, x2] := by
    match xs, hn with
    | [x0, x1, x2], _ => exact ⟨x0, x1, x2, rfl⟩
  obtain ⟨a0, c0, z0, e0, l0, r0⟩ := read_u64s (hel 0 (by decide))
  obtain ⟨a1, c1, z1, e1, l1, r1⟩ := read_u64s (hel 1 (by decide))
  obtain ⟨a2, c2, z2, e2, l2, r2⟩ := read_u64s (hel 2 (by decide))
  rw [Try.cRow] at e0 e1 e2
  simp [Value.cells] at e0 e1 e2
  subst e0 e1 e2
  exact ⟨a0, a1, a2, c0, c1, c2, z0, z1, z2, rfl, ⟨l0, l1, l2⟩, r0, r1, r2⟩
end Go.Proofs.Ytgkeifjnnpcleab
