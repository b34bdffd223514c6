/- Heap's laws: keys, rows of keys and of acts, as arguments. -/
import Derived.Test.YtgcncimeedoplaaRows
import Derived.Test.YtgcncimeedoplaaHo
import Derived.ProofKit
import Derived.OpenShut
import Derived.Stop.Joined
import Derived.Lib.SmallJoins
import Derived.Deep.SlicePairs
import Derived.Deep.Slices
import Derived.Deep.Strs
namespace Go.Proofs.Ytgcncimeedoplaa
open Go.ChangeShapes Go.WideShapes Go.ChangeAt Go.RowKit Go.Joins

theorem Try.own : ownKnob Try.prog.godebug = none := by kernel_rfl
theorem Try.cInt : Try.prog.cellsOf 3 = 1 := by kernel_rfl
theorem Try.cU64 : Try.prog.cellsOf 22 = 1 := by kernel_rfl
theorem Try.cKey : Try.prog.cellsOf 24 = 4 := by kernel_rfl
theorem Try.laidOut : laidOutB Try.prog = true := by kernel_rfl
theorem add_none (b off i : Nat) : (⟨b, off, none⟩ : Addr).add i = ⟨b, off + i, none⟩ := by unfold Addr.add; split <;> simp_all

/-- All five numbers are such as a machine holds. -/
structure WfT (t : Th) : Prop where
  id : (Lit.int .i64 t.id).wf = true
  F : (Lit.int .u64 t.F).wf = true
  H : (Lit.int .u64 t.H).wf = true
  Y : (Lit.int .i64 t.Y).wf = true
  X : (Lit.int .i64 t.X).wf = true
theorem WfT.u {t : Th} (h : WfT t) : 0 ≤ t.F ∧ t.F ≤ 18446744073709551615 ∧ 0 ≤ t.H ∧ t.H ≤ 18446744073709551615 ∧ -9223372036854775808 ≤ t.Y ∧ t.Y ≤ 9223372036854775807 ∧ -9223372036854775808 ≤ t.X ∧ t.X ≤ 9223372036854775807 := by
  obtain ⟨_, h1, h2, h3, h4⟩ := h
  simp [Lit.wf, IntKind.min, IntKind.max, IntKind.signed, IntKind.bits] at h1 h2 h3 h4
  omega
/-- A thing of another number. -/
def withId (i : Int) (t : Th) : Th := ⟨i, t.F, t.H, t.Y, t.X⟩
theorem WfT.withId {t : Th} (h : WfT t) {i : Int} (hi : (Lit.int .i64 i).wf = true) : WfT (withId i t) := ⟨hi, h.F, h.H, h.Y, h.X⟩

theorem read_key {H : Type} {enc : TypeId × Value → H} {W : World} {base : Nat} {held : Bool} {n : Nat} {cs : List Value} {x : DataW H × List MemPlace}
    (hf : DataW.trod enc Try.prog W base (fun _ => true) held n 24 cs = some x) : ∃ t : Th, cs = [.int .u64 t.F, .int .u64 t.H, .int .i64 t.Y, .int .i64 t.X] ∧ t.id = 0 ∧ WfT t := by
  obtain ⟨y0, y1, y2, y3, k, rfl, hl, h0, h1, h2, h3⟩ := trod_struct4 Try.underlying24 hf
  rw [Try.cKey] at hl
  obtain ⟨c0, c1, c2, c3, rfl⟩ : ∃ c0 c1 c2 c3, cs = [c0, c1, c2, c3] := by
    match cs, hl with
    | [c0, c1, c2, c3], _ => exact ⟨c0, c1, c2, c3, rfl⟩
  simp only [Try.cInt, Try.cU64] at h0 h1 h2 h3
  obtain ⟨a, e0, _, w0⟩ := DataW.trod_int Try.underlying22 h0
  obtain ⟨b, e1, _, w1⟩ := DataW.trod_int Try.underlying22 h1
  obtain ⟨c, e2, _, w2⟩ := DataW.trod_int Try.underlying3 h2
  obtain ⟨d, e3, _, w3⟩ := DataW.trod_int Try.underlying3 h3
  simp at e0 e1 e2 e3
  exact ⟨⟨0, a, b, c, d⟩, by rw [e0, e1, e2, e3], rfl, ⟨by rfl, w0, w1, w2, w3⟩⟩
theorem open_key {H : Type} {enc : TypeId × Value → H} {W : World} {r : Reach} {b0 : Nat} {held : Bool} {v : Value} {d : DataW H} {p : List MemPlace}
    (hv : Value.okWide Try.prog W r b0 24 v) (h : DataW.Trod enc Try.prog W 0 (fun _ => true) held 24 v d p) : ∃ t : Th, v = .agg #[.int .u64 t.F, .int .u64 t.H, .int .i64 t.Y, .int .i64 t.X] ∧ t.id = 0 ∧ WfT t := by
  simp only [Value.okWide, Try.underlying24] at hv
  obtain ⟨cs, rfl, hsz, _⟩ := hv
  obtain ⟨fuel, hf⟩ := h
  obtain ⟨t, e, h0, hw⟩ := read_key hf
  refine ⟨t, ?_, h0, hw⟩
  simp only [Value.cells] at e
  obtain ⟨l⟩ := cs
  simp only at e
  rw [e]
theorem Try.cThreeK : Try.prog.cellsOf 25 = 12 := by kernel_rfl
theorem open_keys3 {H : Type} {enc : TypeId × Value → H} {W : World} {r : Reach} {b0 : Nat} {held : Bool} {v : Value} {d : DataW H} {p : List MemPlace}
    (hv : Value.okWide Try.prog W r b0 25 v) (h : DataW.Trod enc Try.prog W 0 (fun _ => true) held 25 v d p) : ∃ a b c : Th,
      v = .agg #[.int .u64 a.F, .int .u64 a.H, .int .i64 a.Y, .int .i64 a.X, .int .u64 b.F, .int .u64 b.H, .int .i64 b.Y, .int .i64 b.X, .int .u64 c.F, .int .u64 c.H, .int .i64 c.Y, .int .i64 c.X] := by
  simp only [Value.okWide, Try.underlying25] at hv
  obtain ⟨cs, rfl, hsz, _⟩ := hv
  rw [Try.cThreeK] at hsz
  obtain ⟨fuel, hf⟩ := h
  obtain ⟨xs, m1, rfl, hx1, hlen, hn, hel⟩ := DataW.trod_array Try.underlying25 hf
  obtain ⟨x0, x1, x2, rfl⟩ : ∃ x0 x1 x2, xs = [x0, x1, x2] := by
    match xs, hn with
    | [x0, x1, x2], _ => exact ⟨x0, x1, x2, rfl⟩
  obtain ⟨l⟩ := cs
  simp only [Value.cells] at hel
  obtain ⟨a, e0, _, _⟩ := read_key (hel 0 (by decide))
  obtain ⟨b, e1, _, _⟩ := read_key (hel 1 (by decide))
  obtain ⟨c, e2, _, _⟩ := read_key (hel 2 (by decide))
  rw [Try.cKey] at e0 e1 e2
  simp only [List.size_toArray] at hsz
  match l, hsz with
  | [v0, v1, v2, v3, v4, v5, v6, v7, v8, v9, v10, v11], _ =>
    simp at e0 e1 e2
    obtain ⟨rfl, rfl, rfl, rfl⟩ := e0
    obtain ⟨rfl, rfl, rfl, rfl⟩ := e1
    obtain ⟨rfl, rfl, rfl, rfl⟩ := e2
    exact ⟨a, b, c, rfl⟩
/-- A row of keys. -/
def RowK (W : World) (a : Option Addr) (ks : List Th) : Prop :=
  ks = [] ∨ ∃ b o, a = some ⟨b, o, none⟩ ∧ ∀ i k, ks[i]? = some k → W.cell? ⟨b, o + i * 4, none⟩ = some (.int .u64 k.F) ∧ W.cell? ⟨b, o + i * 4 + 1, none⟩ = some (.int .u64 k.H) ∧ W.cell? ⟨b, o + i * 4 + 2, none⟩ = some (.int .i64 k.Y) ∧ W.cell? ⟨b, o + i * 4 + 3, none⟩ = some (.int .i64 k.X)
theorem RowK.below {W W' : World} {a : Option Addr} {ks : List Th} (h : RowK W a ks) (hb : Below W.heap.size W W') : RowK W' a ks := by
  rcases h with h | ⟨b, o, h1, h2⟩
  · exact .inl h
  · exact .inr ⟨b, o, h1, fun i z hz => ⟨cell_later hb (h2 i z hz).1, cell_later hb (h2 i z hz).2.1, cell_later hb (h2 i z hz).2.2.1, cell_later hb (h2 i z hz).2.2.2⟩⟩
theorem RowK.at {W : World} {a : Option Addr} {ks : List Th} (h : RowK W a ks) {k : Nat} (hk : k < ks.length) : ∃ b o, a = some ⟨b, o, none⟩ ∧ W.cell? ⟨b, o + k * 4, none⟩ = some (.int .u64 (atT ks k).F) ∧ W.cell? ⟨b, o + k * 4 + 1, none⟩ = some (.int .u64 (atT ks k).H) ∧ W.cell? ⟨b, o + k * 4 + 2, none⟩ = some (.int .i64 (atT ks k).Y) ∧ W.cell? ⟨b, o + k * 4 + 3, none⟩ = some (.int .i64 (atT ks k).X) := by
  have e : ks[k]? = some (atT ks k) := by simp [atT, List.getD_eq_getElem?_getD, hk]
  rcases h with rfl | ⟨b, o, h1, h2⟩
  · simp at hk
  · exact ⟨b, o, h1, h2 k _ e⟩
theorem open_keyrow {H : Type} {enc : TypeId × Value → H} {W : World} {r : Reach} {b0 : Nat} {held : Bool} {v : Value} {d : DataW H} {p : List MemPlace}
    (hv : Value.okWide Try.prog W r b0 55 v) (h : DataW.Trod enc Try.prog W 0 (fun _ => true) held 55 v d p) : ∃ (a : Option Addr) (cap : Nat) (ks : List Th),
      v = .slice a ks.length cap ∧ ks.length ≤ maxLen ∧ RowK W a ks ∧ (∀ k ∈ ks, WfT k) ∧ (∀ k ∈ ks, k.id = 0) ∧ ks.length ≤ cap ∧ (a = none → cap = 0) := by
  obtain ⟨a, len, cap, rfl⟩ := okWide_slice Try.underlying55 hv
  obtain ⟨fuel, hf⟩ := h
  rcases Go.Deep.open_slice Try.underlying55 hf with ⟨e, _⟩ | ⟨a', len', cap', m, n, D, Pl, e, _, hl, hm, hmm, _, hx⟩
  · simp [Value.cells] at e
    obtain ⟨rfl, rfl, rfl⟩ := e
    exact ⟨none, 0, [], rfl, Nat.zero_le _, .inl rfl, (fun k hk => by cases hk), (fun k hk => by cases hk), Nat.le_refl _, fun _ => rfl⟩
  · simp [Value.cells] at e
    obtain ⟨rfl, rfl, rfl⟩ := e
    have hmm' : m = cap := by simpa using hmm
    subst hmm'
    have each : ∀ i, i < m → ∃ t : Th, (W.cell? (a'.add (i * 4)) = some (.int .u64 t.F) ∧ W.cell? ((a'.add (i * 4)).add 1) = some (.int .u64 t.H) ∧ W.cell? ((a'.add (i * 4)).add 2) = some (.int .i64 t.Y) ∧
        W.cell? ((a'.add (i * 4)).add 3) = some (.int .i64 t.X)) ∧ t.id = 0 ∧ WfT t := fun i hi => by
      obtain ⟨cs', h1, h2⟩ := hx i hi
      rw [Try.cKey] at h1
      obtain ⟨_, hlen, hcell⟩ := World.cells?_some h1
      obtain ⟨t, e, w0, w1⟩ := read_key h2
      subst e
      have k0 := hcell 0 (by decide)
      have k1 := hcell 1 (by decide)
      have k2 := hcell 2 (by decide)
      have k3 := hcell 3 (by decide)
      simp at k0 k1 k2 k3
      exact ⟨t, ⟨k0, k1, k2, k3⟩, w0, w1⟩
    obtain ⟨f, hf'⟩ := Go.Deep.choose_lt each
    refine ⟨some a', m, (List.range len).map f, by simp, by simp; omega, ?_, ?_, ?_, by simp; omega, fun e => by cases e⟩
    · by_cases h0 : len = 0
      · exact .inl (by simp [h0])
      · obtain ⟨b, off, spot⟩ := a'
        have hspot : spot = none := by simpa [Addr.add] using World.cell?_spot (hf' 0 (by omega)).1.1
        subst hspot
        refine .inr ⟨b, off, rfl, fun i t ht => ?_⟩
        have hi : i < len := by
          have := (List.getElem?_eq_some_iff.1 ht).1
          simpa using this
        simp [hi] at ht
        subst ht
        obtain ⟨k0, k1, k2, k3⟩ := (hf' i (by omega)).1
        rw [add_none] at k0
        rw [add_none, add_none] at k1 k2 k3
        exact ⟨k0, k1, k2, k3⟩
    · intro k hk
      obtain ⟨i, hi, rfl⟩ := List.mem_map.1 hk
      exact (hf' i (by have := List.mem_range.1 hi; omega)).2.2
    · intro k hk
      obtain ⟨i, hi, rfl⟩ := List.mem_map.1 hk
      exact (hf' i (by have := List.mem_range.1 hi; omega)).2.1
/-- What comes. -/
structure ActD where
  d : Int
  t : Th
instance : Inhabited ActD := ⟨⟨0, default⟩⟩
abbrev atD (l : List ActD) (j : Nat) : ActD := l.getD j default
/-- A row of acts. -/
def RowD (W : World) (a : Option Addr) (ks : List ActD) : Prop :=
  ks = [] ∨ ∃ b o, a = some ⟨b, o, none⟩ ∧ ∀ i k, ks[i]? = some k → W.cell? ⟨b, o + i * 6, none⟩ = some (.int .i64 k.d) ∧ W.cell? ⟨b, o + i * 6 + 1, none⟩ = some (.int .i64 k.t.id) ∧ W.cell? ⟨b, o + i * 6 + 2, none⟩ = some (.int .u64 k.t.F) ∧ W.cell? ⟨b, o + i * 6 + 3, none⟩ = some (.int .u64 k.t.H) ∧ W.cell? ⟨b, o + i * 6 + 4, none⟩ = some (.int .i64 k.t.Y) ∧ W.cell? ⟨b, o + i * 6 + 5, none⟩ = some (.int .i64 k.t.X)
theorem RowD.below {W W' : World} {a : Option Addr} {ks : List ActD} (h : RowD W a ks) (hb : Below W.heap.size W W') : RowD W' a ks := by
  rcases h with h | ⟨b, o, h1, h2⟩
  · exact .inl h
  · exact .inr ⟨b, o, h1, fun i z hz => ⟨cell_later hb (h2 i z hz).1, cell_later hb (h2 i z hz).2.1, cell_later hb (h2 i z hz).2.2.1, cell_later hb (h2 i z hz).2.2.2.1, cell_later hb (h2 i z hz).2.2.2.2.1, cell_later hb (h2 i z hz).2.2.2.2.2⟩⟩
theorem RowD.at {W : World} {a : Option Addr} {ks : List ActD} (h : RowD W a ks) {k : Nat} (hk : k < ks.length) : ∃ b o, a = some ⟨b, o, none⟩ ∧ W.cell? ⟨b, o + k * 6, none⟩ = some (.int .i64 (atD ks k).d) ∧ W.cell? ⟨b, o + k * 6 + 1, none⟩ = some (.int .i64 (atD ks k).t.id) ∧ W.cell? ⟨b, o + k * 6 + 2, none⟩ = some (.int .u64 (atD ks k).t.F) ∧ W.cell? ⟨b, o + k * 6 + 3, none⟩ = some (.int .u64 (atD ks k).t.H) ∧ W.cell? ⟨b, o + k * 6 + 4, none⟩ = some (.int .i64 (atD ks k).t.Y) ∧ W.cell? ⟨b, o + k * 6 + 5, none⟩ = some (.int .i64 (atD ks k).t.X) := by
  have e : ks[k]? = some (atD ks k) := by simp [atD, List.getD_eq_getElem?_getD, hk]
  rcases h with rfl | ⟨b, o, h1, h2⟩
  · simp at hk
  · exact ⟨b, o, h1, h2 k _ e⟩
theorem Try.cAct : Try.prog.cellsOf 41 = 6 := by kernel_rfl
theorem read_act {H : Type} {enc : TypeId × Value → H} {W : World} {base : Nat} {held : Bool} {n : Nat} {cs : List Value} {x : DataW H × List MemPlace}
    (hf : DataW.trod enc Try.prog W base (fun _ => true) held n 41 cs = some x) : ∃ k : ActD, cs = [.int .i64 k.d, .int .i64 k.t.id, .int .u64 k.t.F, .int .u64 k.t.H, .int .i64 k.t.Y, .int .i64 k.t.X] ∧ (Lit.int .i64 k.d).wf = true ∧ WfT k.t := by
  obtain ⟨y0, y1, y2, k, rfl, hl, h0, h1, h2⟩ := Go.Deep.trod_struct3 Try.underlying41 hf
  rw [Try.cAct] at hl
  obtain ⟨c0, c1, c2, c3, c4, c5, rfl⟩ : ∃ c0 c1 c2 c3 c4 c5, cs = [c0, c1, c2, c3, c4, c5] := by
    match cs, hl with
    | [c0, c1, c2, c3, c4, c5], _ => exact ⟨c0, c1, c2, c3, c4, c5, rfl⟩
  simp only [Try.cInt, Try.cKey] at h0 h1 h2
  obtain ⟨a, e0, _, w0⟩ := DataW.trod_int Try.underlying3 h0
  obtain ⟨b, e1, _, w1⟩ := DataW.trod_int Try.underlying3 h1
  obtain ⟨t, e2, _, w2⟩ := read_key h2
  simp at e0 e1 e2
  obtain ⟨e2, e3, e4, e5⟩ := e2
  exact ⟨⟨a, withId b t⟩, by rw [e0, e1, e2, e3, e4, e5]; rfl, w0, w2.withId w1⟩
theorem open_actrow {H : Type} {enc : TypeId × Value → H} {W : World} {r : Reach} {b0 : Nat} {held : Bool} {v : Value} {d : DataW H} {p : List MemPlace}
    (hv : Value.okWide Try.prog W r b0 32 v) (h : DataW.Trod enc Try.prog W 0 (fun _ => true) held 32 v d p) : ∃ (a : Option Addr) (cap : Nat) (ks : List ActD),
      v = .slice a ks.length cap ∧ ks.length ≤ maxLen ∧ RowD W a ks ∧ (∀ k ∈ ks, WfT k.t) := by
  obtain ⟨a, len, cap, rfl⟩ := okWide_slice Try.underlying32 hv
  obtain ⟨fuel, hf⟩ := h
  rcases Go.Deep.open_slice Try.underlying32 hf with ⟨e, _⟩ | ⟨a', len', cap', m, n, D, Pl, e, _, hl, hm, hmm, _, hx⟩
  · simp [Value.cells] at e
    obtain ⟨rfl, rfl, rfl⟩ := e
    exact ⟨none, 0, [], rfl, Nat.zero_le _, .inl rfl, fun k hk => by cases hk⟩
  · simp [Value.cells] at e
    obtain ⟨rfl, rfl, rfl⟩ := e
    have hmm' : m = cap := by simpa using hmm
    subst hmm'
    have each : ∀ i, i < m → ∃ t : ActD, (W.cell? (a'.add (i * 6)) = some (.int .i64 t.d) ∧ W.cell? ((a'.add (i * 6)).add 1) = some (.int .i64 t.t.id) ∧ W.cell? ((a'.add (i * 6)).add 2) = some (.int .u64 t.t.F) ∧
        W.cell? ((a'.add (i * 6)).add 3) = some (.int .u64 t.t.H) ∧ W.cell? ((a'.add (i * 6)).add 4) = some (.int .i64 t.t.Y) ∧ W.cell? ((a'.add (i * 6)).add 5) = some (.int .i64 t.t.X)) ∧ WfT t.t := fun i hi => by
      obtain ⟨cs', h1, h2⟩ := hx i hi
      rw [Try.cAct] at h1
      obtain ⟨_, hlen, hcell⟩ := World.cells?_some h1
      obtain ⟨t, e, _, w1⟩ := read_act h2
      subst e
      have k0 := hcell 0 (by decide)
      have k1 := hcell 1 (by decide)
      have k2 := hcell 2 (by decide)
      have k3 := hcell 3 (by decide)
      have k4 := hcell 4 (by decide)
      have k5 := hcell 5 (by decide)
      simp at k0 k1 k2 k3 k4 k5
      exact ⟨t, ⟨k0, k1, k2, k3, k4, k5⟩, w1⟩
    obtain ⟨f, hf'⟩ := Go.Deep.choose_lt each
    refine ⟨some a', m, (List.range len).map f, by simp, by simp; omega, ?_, ?_⟩
    · by_cases h0 : len = 0
      · exact .inl (by simp [h0])
      · obtain ⟨b, off, spot⟩ := a'
        have hspot : spot = none := by simpa [Addr.add] using World.cell?_spot (hf' 0 (by omega)).1.1
        subst hspot
        refine .inr ⟨b, off, rfl, fun i t ht => ?_⟩
        have hi : i < len := by
          have := (List.getElem?_eq_some_iff.1 ht).1
          simpa using this
        simp [hi] at ht
        subst ht
        obtain ⟨k0, k1, k2, k3, k4, k5⟩ := (hf' i (by omega)).1
        rw [add_none] at k0
        rw [add_none, add_none] at k1 k2 k3 k4 k5
        exact ⟨k0, k1, k2, k3, k4, k5⟩
    · intro k hk
      obtain ⟨i, hi, rfl⟩ := List.mem_map.1 hk
      exact (hf' i (by have := List.mem_range.1 hi; omega)).2
end Go.Proofs.Ytgcncimeedoplaa
