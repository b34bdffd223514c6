/- The frame's parts for the laws of tables: a cluster with its cells, and one of them. -/
import Derived.Test.YtgbhafadibdmcaaDoorXp
namespace Go.Proofs.YtgbhafadibdmcaaDoor
open Go.ChangeShapes Go.WideShapes Go.ChangeAt Go.RowKit Go.Joins

theorem Tryd.cOne13 : Tryd.prog.cellsOf 69 = 5 := by kernel_rfl
set_option maxRecDepth 100000 in
theorem read_one13 {H : Type} {enc : TypeId × Value → H} {W : World} {held : Bool} {m : Nat} {cs : List Value} {x : DataW H × List MemPlace}
    (h : DataW.trod enc Tryd.prog W 0 (fun _ => true) held m 69 cs = some x) (hsz : cs.length = 5) : ∃ (n : Int) (a : Option Addr) (cap : Nat) (zs : List (Int × Int)) (p : Int × Int) (k : Int),
      cs = [.int .i64 n, .slice a zs.length cap, .int .i64 p.1, .int .i64 p.2, .int .i64 k] ∧ zs.length ≤ maxLen ∧ RowC W a zs ∧ zs.length ≤ cap ∧ AllW zs := by
  match cs, hsz with
  | [c0, c1, c2, c3, c4], _ =>
    obtain ⟨y0, y1, n, _, _, hy0, hy1⟩ := trod_struct2 Tryd.underlying69 h
    have h0 : DataW.trod enc Tryd.prog W 0 (fun _ => true) held n 50 [c0, c1, c2, c3] = some y0 := by
      have e : (([c0, c1, c2, c3, c4].drop 0).take (Tryd.prog.cellsOf 50)) = [c0, c1, c2, c3] := by rw [Tryd.cCase13]; rfl
      rw [← e]; exact hy0
    have h1 : DataW.trod enc Tryd.prog W 0 (fun _ => true) held n 3 [c4] = some y1 := by
      have e : (([c0, c1, c2, c3, c4].drop 4).take (Tryd.prog.cellsOf 3)) = [c4] := by rw [Tryd.cInt]; rfl
      rw [← e]; exact hy1
    obtain ⟨q, a, cap, zs, p, e, r⟩ := read_case13 h0
    obtain ⟨k, e1, _, _⟩ := DataW.trod_int Tryd.underlying3 h1
    simp at e1
    injection e with e2 e3
    injection e3 with e4 e5
    injection e5 with e6 e7
    injection e7 with e8 e9
    subst e1 e2 e4 e6 e8
    exact ⟨q, a, cap, zs, p, k, rfl, r.1, r.2.1, r.2.2.1, r.2.2.2.1⟩
set_option maxRecDepth 100000 in
theorem open_one13 {H : Type} {enc : TypeId × Value → H} {W : World} {r : Reach} {b0 : Nat} {held : Bool} {v : Value} {d : DataW H} {p : List MemPlace}
    (hv : Value.okWide Tryd.prog W r b0 69 v) (h : DataW.Trod enc Tryd.prog W 0 (fun _ => true) held 69 v d p) : ∃ (n : Int) (a : Option Addr) (cap : Nat) (zs : List (Int × Int)) (p : Int × Int) (k : Int),
      v = .agg #[.int .i64 n, .slice a zs.length cap, .int .i64 p.1, .int .i64 p.2, .int .i64 k] ∧ zs.length ≤ maxLen ∧ RowC W a zs ∧ zs.length ≤ cap ∧ AllW zs := by
  simp only [Value.okWide, Tryd.underlying69] at hv
  obtain ⟨cs, rfl, hsz, _⟩ := hv
  rw [Tryd.cOne13] at hsz
  obtain ⟨fuel, hf⟩ := h
  simp only [Value.cells] at hf
  obtain ⟨l⟩ := cs
  obtain ⟨n, a, cap, zs, p, k, e, r⟩ := read_one13 hf (by simpa using hsz)
  simp only at e
  subst e
  exact ⟨n, a, cap, zs, p, k, rfl, r⟩
end Go.Proofs.YtgbhafadibdmcaaDoor
