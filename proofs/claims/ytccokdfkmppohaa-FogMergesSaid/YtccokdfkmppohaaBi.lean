/- FogMerges: looks as arguments, with what their costs may be; what is told at the end. -/
import Derived.Test.YtccokdfkmppohaaBh
import Derived.Test.YtccokdfkmppohaaQ2
import Derived.Laws.AppendOwnNone
namespace Go.Proofs.Ytccokdfkmppohaa
open Go.ChangeShapes Go.WideShapes Go.ChangeAt Go.RowKit Go.Joins

set_option maxRecDepth 100000 in
theorem read_lookA {H : Type} {enc : TypeId × Value → H} {W : World} {held : Bool} {n : Nat} {c0 c1 c2 c3 : Value} {x : DataW H × List MemPlace}
    (hf : DataW.trod enc Try.prog W 0 (fun _ => true) held n 40 [c0, c1, c2, c3] = some x) : ∃ l : LookD, c0 = .int .i64 l.A ∧ c1 = .int .i64 l.B ∧ c2 = .slice l.a l.fs.length l.c ∧ c3 = .slice l.b l.zs.length l.d ∧ RowH W l.a l.fs ∧ RowC W l.b l.zs ∧ AllH l.fs := by
  obtain ⟨u0, u1, k, _, _, hu0, hu1⟩ := trod_struct2 Try.underlying40 hf
  have f0 : DataW.trod enc Try.prog W 0 (fun _ => true) held k 37 [c0, c1, c2] = some u0 := by
    have e : (([c0, c1, c2, c3].drop 0).take (Try.prog.cellsOf 37)) = [c0, c1, c2] := by rw [Try.cField]; rfl
    rw [← e]; exact hu0
  have f1 : DataW.trod enc Try.prog W 0 (fun _ => true) held k 38 [c3] = some u1 := by
    have e : (([c0, c1, c2, c3].drop 3).take (Try.prog.cellsOf 38)) = [c3] := by rw [Try.cCells]; rfl
    rw [← e]; exact hu1
  obtain ⟨y0, y1, n, _, _, hy0, hy1⟩ := trod_struct2 Try.underlying37 f0
  have h0 : DataW.trod enc Try.prog W 0 (fun _ => true) held n 23 [c0, c1] = some y0 := by
    have e : (([c0, c1, c2].drop 0).take (Try.prog.cellsOf 23)) = [c0, c1] := by rw [Try.cSize]; rfl
    rw [← e]; exact hy0
  have h1 : DataW.trod enc Try.prog W 0 (fun _ => true) held n 35 [c2] = some y1 := by
    have e : (([c0, c1, c2].drop 2).take (Try.prog.cellsOf 35)) = [c2] := by rw [Try.cRow]; rfl
    rw [← e]; exact hy1
  obtain ⟨z0, z1, m, _, _, hz0, hz1⟩ := trod_struct2 Try.underlying23 h0
  have g0 : DataW.trod enc Try.prog W 0 (fun _ => true) held m 3 [c0] = some z0 := by
    have e : (([c0, c1].drop 0).take (Try.prog.cellsOf 3)) = [c0] := by rw [Try.cInt]; rfl
    rw [← e]; exact hz0
  have g1 : DataW.trod enc Try.prog W 0 (fun _ => true) held m 3 [c1] = some z1 := by
    have e : (([c0, c1].drop 1).take (Try.prog.cellsOf 3)) = [c1] := by rw [Try.cInt]; rfl
    rw [← e]; exact hz1
  obtain ⟨X, e0, _, _⟩ := DataW.trod_int Try.underlying3 g0
  obtain ⟨Y, e1, _, _⟩ := DataW.trod_int Try.underlying3 g1
  obtain ⟨a, cap, fs, e2, hl, hr, hu⟩ := read_u16s h1
  obtain ⟨b, d, zs, e3, _, hz, _, _⟩ := read_rown f1
  simp at e0 e1 e2 e3
  exact ⟨⟨X, Y, a, cap, fs, b, d, zs⟩, e0, e1, e2, e3, hr, hz, hu⟩
set_option maxRecDepth 100000 in
theorem open_looksA {H : Type} {enc : TypeId × Value → H} {W : World} {r : Reach} {b0 : Nat} {held : Bool} {v : Value} {d : DataW H} {p : List MemPlace}
    (hv : Value.okWide Try.prog W r b0 24 v) (h : DataW.Trod enc Try.prog W 0 (fun _ => true) held 24 v d p) : ∃ (a : Option Addr) (cap : Nat) (ls : List LookD),
      v = .slice a ls.length cap ∧ ls.length ≤ maxLen ∧ RowL W a ls ∧ ls.length ≤ cap ∧ ∀ l ∈ ls, AllH l.fs := by
  obtain ⟨a, len, cap, rfl⟩ := okWide_slice Try.underlying24 hv
  obtain ⟨fuel, hf⟩ := h
  rcases Go.Deep.open_slice Try.underlying24 hf with ⟨e, _⟩ | ⟨a', len', cap', m, n, D, Pl, e, _, hl, hm, hmm, _, hx⟩
  · simp [Value.cells] at e
    obtain ⟨rfl, rfl, rfl⟩ := e
    exact ⟨none, 0, [], rfl, Nat.zero_le _, .inl rfl, Nat.le_refl _, fun l hl => by simp at hl⟩
  · simp [Value.cells] at e
    obtain ⟨rfl, rfl, rfl⟩ := e
    have hmm' : m = cap := by simpa using hmm
    subst hmm'
    have each : ∀ i, i < m → ∃ l : LookD, W.cell? (a'.add (i * 4)) = some (.int .i64 l.A) ∧ W.cell? ((a'.add (i * 4)).add 1) = some (.int .i64 l.B) ∧ W.cell? ((a'.add (i * 4)).add 2) = some (.slice l.a l.fs.length l.c) ∧
        W.cell? ((a'.add (i * 4)).add 3) = some (.slice l.b l.zs.length l.d) ∧ RowH W l.a l.fs ∧ RowC W l.b l.zs ∧ AllH l.fs := fun i hi => by
      obtain ⟨cs', h1, h2⟩ := hx i hi
      rw [Try.cLook] at h1
      obtain ⟨_, hlen, hcell⟩ := World.cells?_some h1
      match cs', hlen with
      | [c0, c1, c2, c3], _ =>
        obtain ⟨l, e0, e1, e2, e3, r0, r1, ru⟩ := read_lookA h2
        have k0 := hcell 0 (by decide)
        have k1 := hcell 1 (by decide)
        have k2 := hcell 2 (by decide)
        have k3 := hcell 3 (by decide)
        simp at k0 k1 k2 k3
        rw [e0] at k0
        rw [e1] at k1
        rw [e2] at k2
        rw [e3] at k3
        exact ⟨l, k0, k1, k2, k3, r0, r1, ru⟩
    obtain ⟨f, hf'⟩ := Go.Deep.choose_lt each
    refine ⟨some a', m, (List.range len).map f, by simp, by simp; omega, ?_, by simp; omega, fun l hl => by
      obtain ⟨i, hi, rfl⟩ := List.mem_map.1 hl
      exact (hf' i (by have := List.mem_range.1 hi; omega)).2.2.2.2.2.2⟩
    by_cases h0 : len = 0
    · exact .inl (by simp [h0])
    · obtain ⟨b, off, spot⟩ := a'
      have hspot : spot = none := by simpa [Addr.add] using World.cell?_spot (hf' 0 (by omega)).1
      subst hspot
      refine .inr ⟨b, off, rfl, fun i t ht => ?_⟩
      have hi : i < len := by
        have := (List.getElem?_eq_some_iff.1 ht).1
        simpa using this
      simp [hi] at ht
      subst ht
      obtain ⟨k0, k1, k2, k3, r0, r1, _⟩ := hf' i (by omega)
      rw [add_none] at k0
      rw [add_none, add_none] at k1 k2 k3
      exact ⟨k0, k1, k2, k3, r0, r1⟩

/-- All that is known is a cost. -/
def AllK (ms : List (Option Int)) : Prop := ∀ z, some z ∈ ms → inH z
theorem allK_none (n : Nat) : AllK (List.replicate n none) := fun z h => by simp at h
theorem allK_set {ms : List (Option Int)} (h : AllK ms) (i : Nat) {z : Int} (hz : inH z) : AllK (ms.set i (some z)) := fun y hy => by
  rcases List.mem_or_eq_of_mem_set hy with h1 | h1
  · exact h y h1
  · cases h1; exact hz
theorem allK_step {X : Int} {fs : List Int} (hu : AllH fs) {s : List (Option Int) × List (Int × Int)} (h : AllK s.1) (c : Int × Int) : AllK (stepS X fs s c).1 := by
  unfold stepS
  split
  · exact h
  · refine allK_set h _ ?_
    by_cases hi : numC X c < fs.length
    · have e : fs.getD (numC X c) 0 = fs[numC X c] := by simp [List.getD_eq_getElem?_getD, hi]
      rw [e]; exact hu.at hi
    · have e : fs.getD (numC X c) 0 = 0 := by simp [List.getD_eq_getElem?_getD, Nat.le_of_not_lt hi]
      rw [e]; exact ⟨Int.le_refl _, by decide⟩
theorem allK_fold {X : Int} {fs : List Int} (hu : AllH fs) : ∀ (cs : List (Int × Int)) (s : List (Option Int) × List (Int × Int)), AllK s.1 → AllK (cs.foldl (stepS X fs) s).1
  | [], _, h => h
  | c :: cs, _, h => allK_fold hu cs _ (allK_step hu h c)
theorem allK_look {X Y A B : Int} {fs : List Int} {bs : List Nat} {ms : List (Option Int)} (hu : AllH fs) (h : AllK ms) : AllK (lookS X Y A B fs bs ms).1 := by
  unfold lookS
  split
  · exact allK_fold hu _ _ h
  · exact h
theorem view_cost {ms : List (Option Int)} (h : AllK ms) : viewR (costR ms) = viewL ms := by
  unfold viewR costR viewL
  rw [List.map_map]
  refine List.map_congr_left (fun o ho => ?_)
  cases o with
  | none => rfl
  | some z => have := (h z ho).1; simp; omega
theorem cost_max {ms : List (Option Int)} (h : AllK ms) : ∀ z ∈ costR ms, z ≤ 65535 := fun z hz => by
  obtain ⟨o, ho, rfl⟩ := List.mem_map.1 hz
  cases o with
  | none => decide
  | some y => exact (h y ho).2
/-- A cell's cost, as the reference has it. -/
theorem cost_sign {ms : List (Option Int)} (h : AllK ms) {i : Nat} (hi : i < ms.length) : decide (0 ≤ (costR ms).getD i 0) = ms[i].isSome := by
  rw [costR_at hi]
  cases ho : ms[i] with
  | none => rfl
  | some z => have := (h z (by rw [← ho]; exact List.getElem_mem hi)).1; simp [this]
end Go.Proofs.Ytccokdfkmppohaa
