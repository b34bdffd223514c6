/- Parts: rows of numbers and of pairs of cells; pairs along a border. -/
import Derived.Test.YtbdfjdipjacamaaDoorDf
import Derived.Deep.Matrix
namespace Go.Proofs.YtbdfjdipjacamaaDoor
open Go.RowKit

def cellsN (is : List Int) : List Value := is.map (Value.int .i64)
theorem cellsN_snoc (zs : List Int) (z : Int) : cellsN (zs ++ [z]) = cellsN zs ++ [.int .i64 z] := by simp [cellsN]
/-- A row of numbers in memory. -/
def RowN (W : World) (a : Option Addr) (zs : List Int) : Prop :=
  zs = [] ∨ ∃ b o, a = some ⟨b, o, none⟩ ∧ ∀ i z, zs[i]? = some z → W.cell? ⟨b, o + i, none⟩ = some (.int .i64 z)
theorem RowN.below {W W' : World} {a : Option Addr} {zs : List Int} (h : RowN W a zs) (hb : Below W.heap.size W W') : RowN W' a zs := by
  rcases h with h | ⟨b, o, h1, h2⟩
  · exact .inl h
  · exact .inr ⟨b, o, h1, fun i z hz => cell_later hb (h2 i z hz)⟩
theorem RowN.cell {W : World} {a : Option Addr} {zs : List Int} (h : RowN W a zs) {k : Nat} (hk : k < zs.length) : ∃ b o, a = some ⟨b, o, none⟩ ∧ W.cell? ⟨b, o + k, none⟩ = some (.int .i64 zs[k]) := by
  rcases h with rfl | ⟨b, o, h1, h2⟩
  · simp at hk
  · exact ⟨b, o, h1, h2 k _ (List.getElem?_eq_getElem hk)⟩
theorem own_shape {w : World} {base : Nat} {e : TypeId} {size : Nat} {v : Value} {n : Nat} {xs : List Value} (h : w.ownsRow base e size v n xs) : ∃ a cap, v = .slice a n cap ∧ n ≤ cap := by
  rcases h.2 with ⟨rfl, h0⟩ | ⟨g, cap, cur, rfl, _, _, hc, _⟩
  · exact ⟨none, 0, by rw [h0], by omega⟩
  · exact ⟨_, cap, rfl, hc⟩
theorem rowN_of_own {w : World} {base : Nat} {a : Option Addr} {cap : Nat} {zs : List Int} (h : w.ownsRow base 3 1 (.slice a zs.length cap) zs.length (cellsN zs)) : RowN w a zs := by
  have hown := h
  rcases h.2 with ⟨e, h0⟩ | ⟨g, cap, cur, e, hb, hg, _⟩
  · exact .inl (List.eq_nil_of_length_eq_zero h0)
  · cases e
    refine .inr ⟨g, 0, rfl, fun i z hz => ?_⟩
    have a0 := hown.cells (g := g) rfl i (.int .i64 z) (by simp [cellsN, hz])
    rw [addr_add] at a0
    rw [Nat.zero_add] at a0 ⊢
    exact a0
theorem cell_one (w : World) (a : Value) (t : TypeId) : ∀ j u, [a][j]? = some u → (w.alloc (.cells #[a] t)).cell? ((⟨w.heap.size, 0, none⟩ : Addr).add j) = some u := by
  intro j u hj
  match j, hj with
  | 0, hj => simp at hj; subst hj; simp [Addr.add]
theorem Tryd.infoN : (Tryd.prog.info? 3).map (fun i => (i.zero, i.size, i.bytes)) = some (some (.int .i64 0), 1, 8) := by kernel_rfl

/-- A row of pairs of cells in memory. -/
def RowPP (W : World) (a : Option Addr) (zs : List (IC × IC)) : Prop :=
  zs = [] ∨ ∃ b o, a = some ⟨b, o, none⟩ ∧ ∀ i z, zs[i]? = some z → (W.cell? ⟨b, o + i * 4, none⟩ = some (.int .i64 z.1.1) ∧ W.cell? ⟨b, o + i * 4 + 1, none⟩ = some (.int .i64 z.1.2)) ∧ W.cell? ⟨b, o + i * 4 + 2, none⟩ = some (.int .i64 z.2.1) ∧ W.cell? ⟨b, o + i * 4 + 3, none⟩ = some (.int .i64 z.2.2)
theorem RowPP.below {W W' : World} {a : Option Addr} {zs : List (IC × IC)} (h : RowPP W a zs) (hb : Below W.heap.size W W') : RowPP W' a zs := by
  rcases h with h | ⟨b, o, h1, h2⟩
  · exact .inl h
  · refine .inr ⟨b, o, h1, fun i z hz => ?_⟩
    obtain ⟨⟨q0, q1⟩, q2, q3⟩ := h2 i z hz
    exact ⟨⟨cell_later hb q0, cell_later hb q1⟩, cell_later hb q2, cell_later hb q3⟩
theorem RowPP.cell {W : World} {a : Option Addr} {zs : List (IC × IC)} (h : RowPP W a zs) {k : Nat} (hk : k < zs.length) : ∃ b o, a = some ⟨b, o, none⟩ ∧ (W.cell? ⟨b, o + k * 4, none⟩ = some (.int .i64 zs[k].1.1) ∧ W.cell? ⟨b, o + k * 4 + 1, none⟩ = some (.int .i64 zs[k].1.2)) ∧ W.cell? ⟨b, o + k * 4 + 2, none⟩ = some (.int .i64 zs[k].2.1) ∧ W.cell? ⟨b, o + k * 4 + 3, none⟩ = some (.int .i64 zs[k].2.2) := by
  rcases h with rfl | ⟨b, o, h1, h2⟩
  · simp at hk
  · exact ⟨b, o, h1, h2 k _ (List.getElem?_eq_getElem hk)⟩
def flatPP (zs : List (IC × IC)) : List Value := zs.flatMap (fun z => [.int .i64 z.1.1, .int .i64 z.1.2, .int .i64 z.2.1, .int .i64 z.2.2])
theorem flatPP_snoc (zs : List (IC × IC)) (z : IC × IC) : flatPP (zs ++ [z]) = flatPP zs ++ [.int .i64 z.1.1, .int .i64 z.1.2, .int .i64 z.2.1, .int .i64 z.2.2] := by simp [flatPP, List.flatMap_append]
theorem flatPP_at : ∀ (zs : List (IC × IC)) (i : Nat) (z : IC × IC), zs[i]? = some z → ((flatPP zs)[i * 4]? = some (.int .i64 z.1.1) ∧ (flatPP zs)[i * 4 + 1]? = some (.int .i64 z.1.2)) ∧ (flatPP zs)[i * 4 + 2]? = some (.int .i64 z.2.1) ∧ (flatPP zs)[i * 4 + 3]? = some (.int .i64 z.2.2)
  | [], i, z, h => by simp at h
  | y :: zs, 0, z, h => by simp at h; subst h; simp [flatPP]
  | y :: zs, i + 1, z, h => by
    have := flatPP_at zs i z (by simpa using h)
    have e : flatPP (y :: zs) = .int .i64 y.1.1 :: .int .i64 y.1.2 :: .int .i64 y.2.1 :: .int .i64 y.2.2 :: flatPP zs := rfl
    rw [e, show (i + 1) * 4 = i * 4 + 1 + 1 + 1 + 1 by omega]
    simpa using this
theorem rowPP_of_own {w : World} {base : Nat} {a : Option Addr} {cap : Nat} {zs : List (IC × IC)} (h : w.ownsRow base 117 4 (.slice a zs.length cap) zs.length (flatPP zs)) : RowPP w a zs := by
  have hown := h
  rcases h.2 with ⟨e, h0⟩ | ⟨g, cap, cur, e, hb, hg, _⟩
  · exact .inl (List.eq_nil_of_length_eq_zero h0)
  · cases e
    refine .inr ⟨g, 0, rfl, fun i z hz => ?_⟩
    obtain ⟨⟨e0, e1⟩, e2, e3⟩ := flatPP_at zs i z hz
    have a0 := hown.cells (g := g) rfl _ _ e0
    have a1 := hown.cells (g := g) rfl _ _ e1
    have a2 := hown.cells (g := g) rfl _ _ e2
    have a3 := hown.cells (g := g) rfl _ _ e3
    rw [addr_add, Nat.zero_add] at a0 a1 a2 a3
    simp only [Nat.zero_add]
    exact ⟨⟨a0, a1⟩, a2, a3⟩
theorem cell_four (w : World) (a b c d : Value) (t : TypeId) : ∀ j u, [a, b, c, d][j]? = some u → (w.alloc (.cells #[a, b, c, d] t)).cell? ((⟨w.heap.size, 0, none⟩ : Addr).add j) = some u := by
  intro j u hj
  match j, hj with
  | 0, hj => simp at hj; subst hj; simp [Addr.add]
  | 1, hj => simp at hj; subst hj; simp [Addr.add]
  | 2, hj => simp at hj; subst hj; simp [Addr.add]
  | 3, hj => simp at hj; subst hj; simp [Addr.add]
theorem Tryd.infoPP : (Tryd.prog.info? 117).map (fun i => (i.zero, i.size, i.bytes)) = some (some (.agg #[.int .i64 0, .int .i64 0, .int .i64 0, .int .i64 0]), 4, 32) := by kernel_rfl
theorem make_pp (n : Nat) (hn : n ≤ 1000000) (w : World) : (Instr.makeSlice 103 (.int .i64 0) (.int .i64 (n : Int))).run Tryd.prog w = .ok (.slice (some ⟨w.heap.size, 0, none⟩) 0 n) (w.alloc (.cells (madeCells #[.int .i64 0, .int .i64 0, .int .i64 0, .int .i64 0] (n * 4)) 117)) := by
  obtain ⟨i0, hi, hz0, hz1, hz2⟩ := info_parts Tryd.infoPP
  have hr := run_make (P := Tryd.prog) w 103 117 i0 (.agg #[.int .i64 0, .int .i64 0, .int .i64 0, .int .i64 0]) Tryd.underlying103 hi hz0 .i64 .i64 0 n (by omega) (by omega) (by rw [hz2]; omega) (by omega)
  simp only [Int.toNat_natCast, hz1] at hr
  exact hr
theorem own_pp (w : World) (n base : Nat) (hb : base ≤ w.heap.size) (hn : n ≤ 1000000) : (w.alloc (.cells (madeCells #[.int .i64 0, .int .i64 0, .int .i64 0, .int .i64 0] (n * 4)) 117)).ownsRow base 117 4 (.slice (some ⟨w.heap.size, 0, none⟩) 0 n) 0 (flatPP []) :=
  ⟨rfl, .inr ⟨w.heap.size, n, _, rfl, hb, heap_alloc_new w _, Nat.zero_le _, by unfold maxLen; omega, size_madeCells _ _, rfl⟩⟩

/-- Pairs along a border are on the map, if there is a cluster beyond. -/
theorem prs_on {W H S : Int} {p : IC} {d : Int} {k : Nat} (hr : rightP W H S = true) (h1 : 0 ≤ p.1) (h2 : p.1 < lieN W S) (h3 : 0 ≤ p.2) (h4 : p.2 < lieN H S) (hd : d = 1 ∨ d = 2) (ht : toP W H S p d = true) (hk : k < prsN W H S p d) :
    onB W H (prsF W H S p d k).1 = true ∧ onB W H (stepI (prsF W H S p d k).1 d) = true := by
  obtain ⟨⟨a1, a2, a3, a4⟩, a5, a6⟩ := rightP_iff.1 hr
  obtain ⟨g1, g2, g3, g4⟩ := lie_ge a1 a2 a5 a6 h1 h2
  obtain ⟨k1, k2, k3, k4⟩ := lie_ge a3 a4 a5 a6 h3 h4
  obtain ⟨⟨t1, t2, t3, t4⟩, ⟨t5, t6, t7, t8⟩, t9, t10⟩ := bx_bd hr h1 h2 h3 h4
  have ht2 := (toP_iff hr).1 ht
  have ew : bxX S p + bxW W S p = min (p.1 * S + S) W := by unfold bxX bxW; omega
  have eh : bxY S p + bxH H S p = min (p.2 * S + S) H := by unfold bxY bxH; omega
  unfold prsN at hk
  obtain rfl | rfl := hd
  · rw [stepI_1] at ht2
    simp only at ht2
    have g := g3 ht2.2.1
    rw [if_pos rfl] at hk
    have e : (prsF W H S p 1 k).1 = (bxX S p + bxW W S p - 1, bxY S p + (k : Int)) := rfl
    rw [e, stepI_1]
    unfold onB
    rw [inB_iff, inB_iff]
    simp only
    omega
  · rw [stepI_2] at ht2
    simp only at ht2
    have g := k3 ht2.2.2.2
    rw [if_neg (by decide)] at hk
    have e : (prsF W H S p 2 k).1 = (bxX S p + (k : Int), bxY S p + bxH H S p - 1) := rfl
    rw [e, stepI_2]
    unfold onB
    rw [inB_iff, inB_iff]
    simp only
    omega

end Go.Proofs.YtbdfjdipjacamaaDoor
