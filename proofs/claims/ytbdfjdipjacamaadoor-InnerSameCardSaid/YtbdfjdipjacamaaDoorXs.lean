/- The frame's parts for the laws of tables: a table as an argument. -/
import Derived.Test.YtbdfjdipjacamaaDoorXq
import Derived.Test.YtbdfjdipjacamaaDoorK2
namespace Go.Proofs.YtbdfjdipjacamaaDoor
open Go.ChangeShapes Go.WideShapes Go.ChangeAt Go.RowKit Go.Joins

theorem Tryd.cU64 : Tryd.prog.cellsOf 45 = 1 := by kernel_rfl
theorem Tryd.cRowU : Tryd.prog.cellsOf 33 = 1 := by kernel_rfl
theorem Tryd.cRowsU : Tryd.prog.cellsOf 70 = 1 := by kernel_rfl
theorem Tryd.cTable : Tryd.prog.cellsOf 72 = 2 := by kernel_rfl
theorem rowU_cells {W : World} {A : Option Addr} {L C : Nat} {zs : List Int} (hl : L ≤ zs.length) (hA : A = none → C = 0) (hz : zs.length = C)
    (h : ∀ a', A = some a' → ∀ i, i < C → W.cell? (a'.add i) = some (.int .u64 (zs.getD i 0))) : RowU W A (zs.take L) := by
  by_cases h0 : L = 0
  · exact .inl (by rw [h0]; rfl)
  · cases hA' : A with
    | none => have := hA hA'; omega
    | some a' =>
      obtain ⟨b, o, rfl⟩ := spot_none (h a' hA' 0 (by omega))
      refine .inr ⟨b, o, rfl, fun i z hz => ?_⟩
      rw [List.getElem?_take] at hz
      split at hz
      · have hi := (List.getElem?_eq_some_iff.1 hz).1
        have := h _ hA' i (by omega)
        rw [add_none] at this
        rw [this, List.getD_eq_getElem?_getD, hz]
        rfl
      · cases hz
set_option maxRecDepth 100000 in
theorem read_rowsU {H : Type} {enc : TypeId × Value → H} {W : World} {held : Bool} {m : Nat} {cs : List Value} {x : DataW H × List MemPlace}
    (h : DataW.trod enc Tryd.prog W 0 (fun _ => true) held m 70 cs = some x) : ∃ (a : Option Addr) (cap : Nat) (rs : List (List Int)), cs = [.slice a rs.length cap] ∧ TabR W a rs := by
  rcases Go.Deep.open_int_rows Tryd.underlying70 Tryd.underlying33 Tryd.underlying45 Tryd.cRowU Tryd.cU64 h with ⟨rfl, _⟩ | ⟨a, len, cap, A, L, C, Z, rfl, _, hl, hm, _, hc⟩
  · exact ⟨none, 0, [], rfl, .inl rfl⟩
  · refine ⟨some a, cap, (List.range len).map (fun r => (Z r).take (L r)), by simp, ?_⟩
    by_cases h0 : len = 0
    · exact .inl (by simp [h0])
    · obtain ⟨b, o, rfl⟩ := spot_none (hc 0 (by omega)).1
      refine .inr ⟨b, o, rfl, fun i r hr => ?_⟩
      have hi : i < len := by
        have := (List.getElem?_eq_some_iff.1 hr).1
        simpa using this
      simp [hi] at hr
      subst hr
      obtain ⟨q, q1, q2, q3, _, q4, q5⟩ := hc i (by omega)
      rw [add_none] at q
      refine ⟨A i, C i, ?_, ?_⟩
      · rw [q, List.length_take, Nat.min_eq_left (by omega)]
      · exact rowU_cells (C := C i) (by omega) q4 q3 (fun a' e c hc => (q5 a' e).2 c hc)
set_option maxRecDepth 100000 in
theorem open_table13 {H : Type} {enc : TypeId × Value → H} {W : World} {r : Reach} {b0 : Nat} {held : Bool} {v : Value} {d : DataW H} {p : List MemPlace}
    (hv : Value.okWide Tryd.prog W r b0 72 v) (h : DataW.Trod enc Tryd.prog W 0 (fun _ => true) held 72 v d p) : ∃ (a : Option Addr) (cap : Nat) (zs : List (Int × Int)) (t : Option Addr) (tc : Nat) (rs : List (List Int)),
      v = .agg #[.slice a zs.length cap, .slice t rs.length tc] ∧ RowC W a zs ∧ TabR W t rs := by
  simp only [Value.okWide, Tryd.underlying72] at hv
  obtain ⟨cs, rfl, hsz, _⟩ := hv
  rw [Tryd.cTable] at hsz
  obtain ⟨fuel, hf⟩ := h
  obtain ⟨y0, y1, n, _, _, hy0, hy1⟩ := trod_struct2 Tryd.underlying72 hf
  simp only [Value.cells] at hy0 hy1
  obtain ⟨l⟩ := cs
  match l, hsz with
  | [c0, c1], _ =>
    have h0 : DataW.trod enc Tryd.prog W 0 (fun _ => true) held n 44 [c0] = some y0 := by
      have e : (([c0, c1].drop 0).take (Tryd.prog.cellsOf 44)) = [c0] := by rw [Tryd.cCells]; rfl
      rw [← e]; exact hy0
    have h1 : DataW.trod enc Tryd.prog W 0 (fun _ => true) held n 70 [c1] = some y1 := by
      have e : (([c0, c1].drop 1).take (Tryd.prog.cellsOf 70)) = [c1] := by rw [Tryd.cRowsU]; rfl
      rw [← e]; exact hy1
    obtain ⟨a, cap, zs, e0, _, r0⟩ := read_row h0
    obtain ⟨t, tc, rs, e1, r1⟩ := read_rowsU h1
    simp at e0 e1
    subst e0 e1
    exact ⟨a, cap, zs, t, tc, rs, rfl, r0, r1⟩
end Go.Proofs.YtbdfjdipjacamaaDoor
