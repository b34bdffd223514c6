/- Heap: Key. -/
import Derived.Test.YtofpoenehdmkpaaDoorHf
namespace Go.Proofs.YtofpoenehdmkpaaDoor
open Go.RowKit Go.Maps

/-- A key as a value. -/
def keyV (t : Th) : Value := .agg #[.int .u64 t.F, .int .u64 t.H, .int .i64 t.Y, .int .i64 t.X]
def keyA (m : List Th) (x : Int) : Th := (findT m x).getD default

set_option maxRecDepth 100000 in
set_option maxHeartbeats 1600000 in
theorem hkey_any (p : Nat) (m : List Th) (x : Int) (S : Nat → Prop) (w : World) (h : (HeapO p m).P w S) (hx : (Lit.int .i64 x).wf = true) :
    Calls Tryd.prog 86 #[.pointer (some ⟨p, 0, none⟩), .int .i64 x] w fun e w' => e = .returned (.tuple #[.agg #[.int .u64 (keyA m x).F, .int .u64 (keyA m x).H, .int .i64 (keyA m x).Y, .int .i64 (keyA m x).X], .bool (findT m x).isSome]) ∧ Below w.heap.size w w' := by
  obtain ⟨b, v, s, h1, h2, _⟩ := h
  have hf := h2.find x
  have hA := bl_al (bl0 w) (.cells #[.int .u64 0, .int .u64 0, .int .i64 0, .int .i64 0] 101)
  have h1' := h1.below hA
  have hlook := h1'.pl.look hx
  have c1 := h1.c1
  have zc1 := blk_lt c1
  unfold keyA
  cases e : s.f x with
  | none =>
    rw [e] at hf hlook
    rw [← hf]
    clear h1 h2 hf h1' hA
    go_enter Tryd.func86, Tryd.ntmps86
    go_wp2
    exact bodyPost_ret (v := .tuple #[.agg #[.int .u64 0, .int .u64 0, .int .i64 0, .int .i64 0], .bool false]) (by simp [results, Tryd.results86, go_sem]) rfl ⟨rfl, bl_al (bl0 _) _⟩
  | some q =>
    rw [e] at hf hlook
    rw [← hf]
    obtain ⟨hq1, hq2⟩ := h2.pf.some e
    obtain ⟨g, cap, rfl⟩ := h1.slice (by omega)
    obtain ⟨y0, y1, y2, y3, y4⟩ := h1.at hq1
    have c0 := h1.c0
    have zc0 := blk_lt c0
    have zy0 := blk_lt y0
    have hl := h2.len
    have hq0 : (0 : Int) ≤ (q : Int) := by omega
    have hqi : (q : Int) < (s.ts.length : Int) := by omega
    simp only [Option.map_some, Option.getD_some, Option.isSome_some]
    generalize atT s.ts q = t at *
    clear h1 h2 hf h1' hA hl
    go_enter Tryd.func86, Tryd.ntmps86
    go_wp2
    exact bodyPost_ret (v := .tuple #[.agg #[.int .u64 t.F, .int .u64 t.H, .int .i64 t.Y, .int .i64 t.X], .bool true]) (by simp [results, Tryd.results86, go_sem]) rfl ⟨rfl, bl_al (bl0 _) _⟩
set_option maxRecDepth 100000 in
set_option maxHeartbeats 1600000 in
theorem hkey_nil (x : Int) (w : World) :
    Calls Tryd.prog 86 #[.pointer none, .int .i64 x] w fun e w' => e = .returned (.tuple #[.agg #[.int .u64 0, .int .u64 0, .int .i64 0, .int .i64 0], .bool false]) ∧ Below w.heap.size w w' := by
  go_enter Tryd.func86, Tryd.ntmps86
  go_wp2
  exact bodyPost_ret (v := .tuple #[.agg #[.int .u64 0, .int .u64 0, .int .i64 0, .int .i64 0], .bool false]) (by simp [results, Tryd.results86, go_sem]) rfl ⟨rfl, bl_al (bl0 _) _⟩
end Go.Proofs.YtofpoenehdmkpaaDoor
