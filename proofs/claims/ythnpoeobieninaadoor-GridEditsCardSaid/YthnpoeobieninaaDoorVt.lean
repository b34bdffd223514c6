/- Rows of edits, as arguments; rows of numbers of one's own. -/
import Derived.Test.YthnpoeobieninaaDoorVp
import Derived.Laws.OwnMore
import Derived.Deep.OwnRows
namespace Go.Proofs.YthnpoeobieninaaDoor
open Go.ChangeShapes Go.WideShapes Go.ChangeAt Go.RowKit Go.Joins

/-- A row of edits in memory. -/
def RowE (W : World) (a : Option Addr) (ls : List ((Int × Int) × Int)) : Prop :=
  ls = [] ∨ ∃ b o, a = some ⟨b, o, none⟩ ∧ ∀ i t, ls[i]? = some t → W.cell? ⟨b, o + i * 3, none⟩ = some (.int .i64 t.1.1) ∧ W.cell? ⟨b, o + i * 3 + 1, none⟩ = some (.int .i64 t.1.2) ∧ W.cell? ⟨b, o + i * 3 + 2, none⟩ = some (.int .i64 t.2)
theorem RowE.below {W W' : World} {a : Option Addr} {ls : List ((Int × Int) × Int)} (h : RowE W a ls) (hb : Below W.heap.size W W') : RowE W' a ls := by
  rcases h with h | ⟨b, o, h1, h2⟩
  · exact .inl h
  · exact .inr ⟨b, o, h1, fun i z hz => ⟨cell_later hb (h2 i z hz).1, cell_later hb (h2 i z hz).2.1, cell_later hb (h2 i z hz).2.2⟩⟩
theorem RowE.cell {W : World} {a : Option Addr} {ls : List ((Int × Int) × Int)} (h : RowE W a ls) {k : Nat} (hk : k < ls.length) : ∃ b o, a = some ⟨b, o, none⟩ ∧ W.cell? ⟨b, o + k * 3, none⟩ = some (.int .i64 ls[k].1.1) ∧ W.cell? ⟨b, o + k * 3 + 1, none⟩ = some (.int .i64 ls[k].1.2) ∧ W.cell? ⟨b, o + k * 3 + 2, none⟩ = some (.int .i64 ls[k].2) := by
  rcases h with rfl | ⟨b, o, h1, h2⟩
  · simp at hk
  · exact ⟨b, o, h1, h2 k _ (List.getElem?_eq_getElem hk)⟩

set_option maxRecDepth 100000 in
theorem open_edits {H : Type} {enc : TypeId × Value → H} {W : World} {r : Reach} {b0 : Nat} {held : Bool} {v : Value} {d : DataW H} {p : List MemPlace}
    (hv : Value.okWide Tryd.prog W r b0 27 v) (h : DataW.Trod enc Tryd.prog W 0 (fun _ => true) held 27 v d p) : ∃ (a : Option Addr) (cap : Nat) (ls : List ((Int × Int) × Int)),
      v = .slice a ls.length cap ∧ ls.length ≤ maxLen ∧ RowE W a ls := by
  obtain ⟨a, len, cap, rfl⟩ := okWide_slice Tryd.underlying27 hv
  obtain ⟨fuel, hf⟩ := h
  rcases Go.Deep.open_slice Tryd.underlying27 hf with ⟨e, _⟩ | ⟨a', len', cap', m, n, D, Pl, e, _, hl, hm, hmm, _, hx⟩
  · simp [Value.cells] at e
    obtain ⟨rfl, rfl, rfl⟩ := e
    exact ⟨none, 0, [], rfl, Nat.zero_le _, .inl rfl⟩
  · simp [Value.cells] at e
    obtain ⟨rfl, rfl, rfl⟩ := e
    have hmm' : m = cap := by simpa using hmm
    subst hmm'
    have each : ∀ i, i < m → ∃ t : (Int × Int) × Int, W.cell? (a'.add (i * 3)) = some (.int .i64 t.1.1) ∧ W.cell? ((a'.add (i * 3)).add 1) = some (.int .i64 t.1.2) ∧ W.cell? ((a'.add (i * 3)).add 2) = some (.int .i64 t.2) := fun i hi => by
      obtain ⟨cs', h1, h2⟩ := hx i hi
      rw [Tryd.cEdit] at h1
      obtain ⟨_, hlen, hcell⟩ := World.cells?_some h1
      match cs', hlen with
      | [c0, c1, c2], _ =>
        obtain ⟨x, y, z, rfl, rfl, rfl⟩ := edit_three h2
        have k0 := hcell 0 (by decide)
        have k1 := hcell 1 (by decide)
        have k2 := hcell 2 (by decide)
        simp at k0 k1 k2
        exact ⟨((x, y), z), k0, k1, k2⟩
    obtain ⟨f, hf'⟩ := Go.Deep.choose_lt each
    refine ⟨some a', m, (List.range len).map f, by simp, by simp; omega, ?_⟩
    by_cases h0 : len = 0
    · exact .inl (by simp [h0])
    · obtain ⟨b, off, spot⟩ := a'
      have hspot : spot = none := by simpa [Addr.add] using World.cell?_spot (hf' 0 (by omega)).1
      subst hspot
      refine .inr ⟨b, off, rfl, fun i t ht => ?_⟩
      have hi : i < len := by
        have := (List.getElem?_eq_some_iff.1 ht).1
        simpa using this
      simp [hi] at ht
      subst ht
      obtain ⟨k0, k1, k2⟩ := hf' i (by omega)
      rw [add_none] at k0
      rw [add_none, add_none] at k1 k2
      exact ⟨k0, k1, k2⟩

def cellsI (zs : List Int) : List Value := zs.map (Value.int .i64)
theorem cellsI_len (zs : List Int) : (cellsI zs).length = zs.length := by simp [cellsI]
theorem cellsI_set (zs : List Int) (k : Nat) (z : Int) : (cellsI zs).set k (.int .i64 z) = cellsI (zs.set k z) := by simp [cellsI, List.map_set]
theorem Tryd.infoInt : (Tryd.prog.info? 3).map (fun i => (i.zero, i.size, i.bytes)) = some (some (.int .i64 0), 1, 8) := by kernel_rfl
theorem made_eq (n : Nat) (v : Value) : madeCells #[v] n = Array.replicate n v := by
  apply Array.ext
  · simp [madeCells]
  · intro i h1 h2
    simp [madeCells, Nat.mod_one]
theorem make_int (n : Nat) (hn : n ≤ 1048576) (w : World) : (Instr.makeSlice 37 (.int .i64 (n : Int)) (.int .i64 (n : Int))).run Tryd.prog w = .ok (.slice (some ⟨w.heap.size, 0, none⟩) n n) (w.alloc (.cells (Array.replicate n (Value.int .i64 0)) 3)) := by
  have := run_make_row' (P := Tryd.prog) 37 3 (.int .i64 0) 8 Tryd.underlying37 Tryd.infoInt rfl .i64 .i64 n (by omega) (by omega) w
  rw [made_eq] at this
  exact this
theorem made_own (w : World) (n : Nat) (hn : n ≤ 1048576) : (w.alloc (.cells (Array.replicate n (Value.int .i64 0)) 3)).ownsRow w.heap.size 3 1 (.slice (some ⟨w.heap.size, 0, none⟩) n n) n (cellsI (List.replicate n 0)) := by
  have h := World.ownsRow_lit (base := w.heap.size) (e := 3) (size := 1) w (Array.replicate n (Value.int .i64 0)) n (Nat.le_refl _) (by unfold maxLen; omega) (by simp)
  simpa [cellsI] using h
theorem own_kept2 {w w' : World} {B : Nat} {e : TypeId} {size : Nat} {v : Value} {n : Nat} {xs : List Value} {g h : Nat} (o : w.ownsRow B e size v n xs) (x : Kept2 g h w w') (hg : g < B) (hh : h < B) : w'.ownsRow B e size v n xs := by
  refine ⟨o.1, ?_⟩
  rcases o.2 with h | ⟨g', cap, cur, h1, h2, h3, h4⟩
  · exact .inl h
  · exact .inr ⟨g', cap, cur, h1, h2, (x.2 g' (Array.getElem?_eq_some_iff.1 h3).1 (by omega) (by omega)).trans h3, h4⟩
theorem edits_at {W : World} {B n c : Nat} {h : Nat} {zs : List Int} (o : W.ownsRow B 3 1 (.slice (some ⟨h, 0, none⟩) n c) n (cellsI zs)) {j : Nat} (hj : j < n) (hl : zs.length = n) : W.cell? ⟨h, j, none⟩ = some (.int .i64 (zs[j]'(by omega))) := by
  rw [o.cellAt j (by omega)]
  simp [cellsI, show j < zs.length by omega]
end Go.Proofs.YthnpoeobieninaaDoor
