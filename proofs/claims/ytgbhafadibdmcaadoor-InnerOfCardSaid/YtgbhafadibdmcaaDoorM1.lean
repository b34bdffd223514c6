/- Texts joined: Df, Dg, Dh, Di, Dj, Dk, Dl, Dm, Dp, Dr, Xn, Xo, Xu, Xv. -/
import Derived.Test.YtgbhafadibdmcaaDoorK1
import Derived.Test.YtgbhafadibdmcaaDoorRo
import Derived.Test.YtgbhafadibdmcaaDoorAcg
import Derived.Deep.Matrix
import Derived.Deep.CutRange
import Derived.WalkMore
import Derived.Scope
import Derived.ChangeKeysEq
import Derived.Test.YtgbhafadibdmcaaDoorL1
import Derived.Test.YtgbhafadibdmcaaDoorJ1
import Derived.Test.YtgbhafadibdmcaaDoorCv
import Derived.Test.YtgbhafadibdmcaaDoorOs
/- Parts: the closure that tells those beside one, and Beside. -/
namespace Go.Proofs.YtgbhafadibdmcaaDoor
open Go.RowKit

/-- The closure's boxes. -/
def BesQ (W : World) (b q : Nat) (A B S : Int) (p : IC) : Prop :=
  (W.cell? ⟨b, 0, none⟩ = some (.int .i64 A) ∧ W.cell? ⟨b, 1, none⟩ = some (.int .i64 B) ∧ W.cell? ⟨b, 2, none⟩ = some (.int .i64 S)) ∧ W.cell? ⟨q, 0, none⟩ = some (.int .i64 p.1) ∧ W.cell? ⟨q, 1, none⟩ = some (.int .i64 p.2)
theorem BesQ.below {W W' : World} {b q : Nat} {A B S : Int} {p : IC} (h : BesQ W b q A B S p) (hb : Below W.heap.size W W') : BesQ W' b q A B S p :=
  ⟨⟨cell_later hb h.1.1, cell_later hb h.1.2.1, cell_later hb h.1.2.2⟩, cell_later hb h.2.1, cell_later hb h.2.2⟩

end Go.Proofs.YtgbhafadibdmcaaDoor

/- Parts: rows of numbers and of pairs of cells; pairs along a border. -/
namespace Go.Proofs.YtgbhafadibdmcaaDoor
open Go.RowKit

/-- A row of numbers in memory. -/
def RowN (W : World) (a : Option Addr) (zs : List Int) : Prop :=
  zs = [] ∨ ∃ b o, a = some ⟨b, o, none⟩ ∧ ∀ i z, zs[i]? = some z → W.cell? ⟨b, o + i, none⟩ = some (.int .i64 z)
theorem RowN.below {W W' : World} {a : Option Addr} {zs : List Int} (h : RowN W a zs) (hb : Below W.heap.size W W') : RowN W' a zs := by
  rcases h with h | ⟨b, o, h1, h2⟩
  · exact .inl h
  · exact .inr ⟨b, o, h1, fun i z hz => cell_later hb (h2 i z hz)⟩
theorem RowN.cell {W : World} {a : Option Addr} {zs : List Int} (h : RowN W a zs) {k : Nat} (hk : k < zs.length) : ∃ b o, a = some ⟨b, o, none⟩ ∧ W.cell? ⟨b, o + k, none⟩ = some (.int .i64 zs[k]) := by
  rcases h with rfl | ⟨b, o, h1, h2⟩
  · simp at hk
  · exact ⟨b, o, h1, h2 k _ (List.getElem?_eq_getElem hk)⟩
theorem own_shape {w : World} {base : Nat} {e : TypeId} {size : Nat} {v : Value} {n : Nat} {xs : List Value} (h : w.ownsRow base e size v n xs) : ∃ a cap, v = .slice a n cap ∧ n ≤ cap := by
  rcases h.2 with ⟨rfl, h0⟩ | ⟨g, cap, cur, rfl, _, _, hc, _⟩
  · exact ⟨none, 0, by rw [h0], by omega⟩
  · exact ⟨_, cap, rfl, hc⟩
/-- A row of pairs of cells in memory. -/
def RowPP (W : World) (a : Option Addr) (zs : List (IC × IC)) : Prop :=
  zs = [] ∨ ∃ b o, a = some ⟨b, o, none⟩ ∧ ∀ i z, zs[i]? = some z → (W.cell? ⟨b, o + i * 4, none⟩ = some (.int .i64 z.1.1) ∧ W.cell? ⟨b, o + i * 4 + 1, none⟩ = some (.int .i64 z.1.2)) ∧ W.cell? ⟨b, o + i * 4 + 2, none⟩ = some (.int .i64 z.2.1) ∧ W.cell? ⟨b, o + i * 4 + 3, none⟩ = some (.int .i64 z.2.2)
theorem RowPP.below {W W' : World} {a : Option Addr} {zs : List (IC × IC)} (h : RowPP W a zs) (hb : Below W.heap.size W W') : RowPP W' a zs := by
  rcases h with h | ⟨b, o, h1, h2⟩
  · exact .inl h
  · refine .inr ⟨b, o, h1, fun i z hz => ?_⟩
    obtain ⟨⟨q0, q1⟩, q2, q3⟩ := h2 i z hz
    exact ⟨⟨cell_later hb q0, cell_later hb q1⟩, cell_later hb q2, cell_later hb q3⟩
theorem RowPP.cell {W : World} {a : Option Addr} {zs : List (IC × IC)} (h : RowPP W a zs) {k : Nat} (hk : k < zs.length) : ∃ b o, a = some ⟨b, o, none⟩ ∧ (W.cell? ⟨b, o + k * 4, none⟩ = some (.int .i64 zs[k].1.1) ∧ W.cell? ⟨b, o + k * 4 + 1, none⟩ = some (.int .i64 zs[k].1.2)) ∧ W.cell? ⟨b, o + k * 4 + 2, none⟩ = some (.int .i64 zs[k].2.1) ∧ W.cell? ⟨b, o + k * 4 + 3, none⟩ = some (.int .i64 zs[k].2.2) := by
  rcases h with rfl | ⟨b, o, h1, h2⟩
  · simp at hk
  · exact ⟨b, o, h1, h2 k _ (List.getElem?_eq_getElem hk)⟩
def flatPP (zs : List (IC × IC)) : List Value := zs.flatMap (fun z => [.int .i64 z.1.1, .int .i64 z.1.2, .int .i64 z.2.1, .int .i64 z.2.2])
theorem flatPP_snoc (zs : List (IC × IC)) (z : IC × IC) : flatPP (zs ++ [z]) = flatPP zs ++ [.int .i64 z.1.1, .int .i64 z.1.2, .int .i64 z.2.1, .int .i64 z.2.2] := by simp [flatPP, List.flatMap_append]
theorem flatPP_at : ∀ (zs : List (IC × IC)) (i : Nat) (z : IC × IC), zs[i]? = some z → ((flatPP zs)[i * 4]? = some (.int .i64 z.1.1) ∧ (flatPP zs)[i * 4 + 1]? = some (.int .i64 z.1.2)) ∧ (flatPP zs)[i * 4 + 2]? = some (.int .i64 z.2.1) ∧ (flatPP zs)[i * 4 + 3]? = some (.int .i64 z.2.2)
  | [], i, z, h => by simp at h
  | y :: zs, 0, z, h => by simp at h; subst h; simp [flatPP]
  | y :: zs, i + 1, z, h => by
    have := flatPP_at zs i z (by simpa using h)
    have e : flatPP (y :: zs) = .int .i64 y.1.1 :: .int .i64 y.1.2 :: .int .i64 y.2.1 :: .int .i64 y.2.2 :: flatPP zs := rfl
    rw [e, show (i + 1) * 4 = i * 4 + 1 + 1 + 1 + 1 by omega]
    simpa using this
theorem cell_four (w : World) (a b c d : Value) (t : TypeId) : ∀ j u, [a, b, c, d][j]? = some u → (w.alloc (.cells #[a, b, c, d] t)).cell? ((⟨w.heap.size, 0, none⟩ : Addr).add j) = some u := by
  intro j u hj
  match j, hj with
  | 0, hj => simp at hj; subst hj; simp [Addr.add]
  | 1, hj => simp at hj; subst hj; simp [Addr.add]
  | 2, hj => simp at hj; subst hj; simp [Addr.add]
  | 3, hj => simp at hj; subst hj; simp [Addr.add]

end Go.Proofs.YtgbhafadibdmcaaDoor

/- Parts: the pairs along a border. -/
namespace Go.Proofs.YtgbhafadibdmcaaDoor
open Go.RowKit

end Go.Proofs.YtgbhafadibdmcaaDoor

/- Parts: those beside a cluster; the border of two. -/
namespace Go.Proofs.YtgbhafadibdmcaaDoor
open Go.RowKit

theorem BesQ.grown {W W' : World} {b q : Nat} {A B S : Int} {p : IC} {r : Option Nat} (h : BesQ W b q A B S p) (hg : W.grownBy W' r) (hb : some b ≠ r) (hq : some q ≠ r) : BesQ W' b q A B S p :=
  ⟨⟨hg.cell h.1.1 hb, hg.cell h.1.2.1 hb, hg.cell h.1.2.2 hb⟩, hg.cell h.2.1 hq, hg.cell h.2.2 hq⟩

end Go.Proofs.YtgbhafadibdmcaaDoor

/- Parts: the border of two. -/
namespace Go.Proofs.YtgbhafadibdmcaaDoor
open Go.RowKit

end Go.Proofs.YtgbhafadibdmcaaDoor

/- Parts: the laws' helpers; the chapter's examples. -/
namespace Go.Proofs.YtgbhafadibdmcaaDoor
open Go.RowKit

end Go.Proofs.YtgbhafadibdmcaaDoor

/- Parts: structs compared whole. -/
namespace Go.Proofs.YtgbhafadibdmcaaDoor
open Go.RowKit

end Go.Proofs.YtgbhafadibdmcaaDoor

/- Parts: rows of pairs compared; the chapter's examples. -/
namespace Go.Proofs.YtgbhafadibdmcaaDoor
open Go.RowKit

end Go.Proofs.YtgbhafadibdmcaaDoor

/- Parts: the reference's boxes: whether one lies on a map, whether it has a cell, the next cell. -/
namespace Go.Proofs.YtgbhafadibdmcaaDoor
open Go.RowKit

end Go.Proofs.YtgbhafadibdmcaaDoor

/- Parts: the reference's clusters, laid one by one. -/
namespace Go.Proofs.YtgbhafadibdmcaaDoor
open Go.RowKit

def bxF (W H S : Int) (k : Nat) : IC × IC := ((bxX S (plcP W S k), bxY S (plcP W S k)), (bxW W S (plcP W S k), bxH H S (plcP W S k)))
def boxL (W H S : Int) : List (IC × IC) := (List.range (cntN W H S)).map (bxF W H S)
theorem boxL_len (W H S : Int) : (boxL W H S).length = cntN W H S := by simp [boxL]
theorem boxL_at {W H S : Int} {k : Nat} (h : k < (boxL W H S).length) : (boxL W H S)[k] = bxF W H S k := by simp [boxL]
theorem rowX_of_own {w : World} {base : Nat} {a : Option Addr} {cap : Nat} {zs : List (IC × IC)} (h : w.ownsRow base 28 4 (.slice a zs.length cap) zs.length (flatPP zs)) : RowPP w a zs := by
  have hown := h
  rcases h.2 with ⟨e, h0⟩ | ⟨g, cap, cur, e, hb, hg, _⟩
  · exact .inl (List.eq_nil_of_length_eq_zero h0)
  · cases e
    refine .inr ⟨g, 0, rfl, fun i z hz => ?_⟩
    obtain ⟨⟨e0, e1⟩, e2, e3⟩ := flatPP_at zs i z hz
    have a0 := hown.cells (g := g) rfl _ _ e0
    have a1 := hown.cells (g := g) rfl _ _ e1
    have a2 := hown.cells (g := g) rfl _ _ e2
    have a3 := hown.cells (g := g) rfl _ _ e3
    rw [addr_add, Nat.zero_add] at a0 a1 a2 a3
    simp only [Nat.zero_add]
    exact ⟨⟨a0, a1⟩, a2, a3⟩
theorem Tryd.infoBx : (Tryd.prog.info? 28).map (fun i => (i.zero, i.size, i.bytes)) = some (some (.agg #[.int .i64 0, .int .i64 0, .int .i64 0, .int .i64 0]), 4, 32) := by kernel_rfl
theorem own_empty4 (w : World) (t : TypeId) (base : Nat) (hb : base ≤ w.heap.size) : (w.alloc (.cells #[] t)).ownsRow base t 4 (.slice (some ⟨w.heap.size, 0, none⟩) 0 0) 0 (flatPP []) :=
  ⟨rfl, .inr ⟨w.heap.size, 0, #[], rfl, hb, heap_alloc_new w _, Nat.le_refl _, Nat.zero_le _, rfl, rfl⟩⟩
theorem bxF_at {W H S : Int} {i j : Nat} (h : (i : Int) < lieN W S) (hl : 0 ≤ lieN W S) : bxF W H S (j * (lieN W S).toNat + i) = (((i : Int) * S, (j : Int) * S), (min S (W - i * S), min S (H - j * S))) := by
  have e : ((j * (lieN W S).toNat + i : Nat) : Int) = (j : Int) * lieN W S + i := by
    rw [Int.natCast_add, Int.natCast_mul, Int.toNat_of_nonneg hl]
  unfold bxF
  rw [e, plc_of (p := ((i : Int), (j : Int))) (by show (0 : Int) ≤ (i : Int); omega) h]
  rfl
def BxsR (l : List (IC × IC)) (w : World) (e : Ending) (w' : World) : Prop := ∃ a cap, e = .returned (.slice a l.length cap) ∧ RowPP w' a l ∧ Below w.heap.size w w'


set_option maxRecDepth 100000 in
set_option maxHeartbeats 8000000 in
theorem boxes11 (W H S : Int) (w : World) (hr : rightP W H S = true) :
    Calls Tryd.prog 20 #[.agg #[.int .i64 W, .int .i64 H], .int .i64 S] w (BxsR (boxL W H S) w) := by
  obtain ⟨i0, hi, hz0, hz1, hz2⟩ := info_parts Tryd.infoBx
  obtain ⟨⟨a1, a2, a3, a4⟩, a5, a6⟩ := rightP_iff.1 hr
  obtain ⟨hn, n1, n2⟩ := cntN_eq hr
  obtain ⟨b1, b2, b3, b4⟩ := lie_bd a1 a2 a5 a6
  obtain ⟨c1, c2, c3, c4⟩ := lie_bd a3 a4 a5 a6
  have HATX := Lib.hid (fun (i : Nat) => lie_at (i := (i : Int)) a1 a2 a5 a6 (by omega))
  have HATY := Lib.hid (fun (i : Nat) => lie_at (i := (i : Int)) a3 a4 a5 a6 (by omega))
  have HF := Lib.hid (fun (i j : Nat) (h : (i : Int) < lieN W S) => bxF_at (H := H) (j := j) h (show 0 ≤ lieN W S by omega))
  obtain ⟨lw, hlw⟩ : ∃ lw : Nat, lieN W S = lw := ⟨(lieN W S).toNat, by omega⟩
  obtain ⟨lh, hlh⟩ : ∃ lh : Nat, lieN H S = lh := ⟨(lieN H S).toNat, by omega⟩
  rw [hlw] at HATX HF b1 b2 b3 b4 hn n1 n2
  rw [hlh] at HATY c1 c2 c3 c4 hn n1 n2
  simp only [Int.toNat_natCast] at HF
  have hcnt : cntN W H S = lh * lw := by
    have : (cntN W H S : Int) = ((lh * lw : Nat) : Int) := by rw [hn, Int.natCast_mul, Int.mul_comm]
    omega
  obtain ⟨F, hF⟩ : ∃ F, bxF W H S = F := ⟨_, rfl⟩
  have HL := Lib.hid (show boxL W H S = (List.range (lh * lw)).map F by unfold boxL; rw [hcnt, hF])
  rw [hF] at HF
  have hK : ∀ j i : Nat, j < lh → i ≤ lw → j * lw + i ≤ 16384 := fun j i h1 h2 => by
    have h3 := Nat.mul_le_mul_right lw (show j + 1 ≤ lh by omega)
    rw [Nat.succ_mul] at h3
    have h4 : (lh * lw : Nat) ≤ 16384 := by
      have : ((lh * lw : Nat) : Int) ≤ 16384 := by rw [Int.natCast_mul, Int.mul_comm]; exact n2
      omega
    omega
  have HK := Lib.hid hK
  clear hn n1 n2 hcnt hF hK b3 b4 c3 c4 hlw hlh hr
  have hA := bl0 w
  go_enter Tryd.func20, Tryd.ntmps20
  go_wp2_with fail
  go_loopw [5, 6, 7, 8] (fun o yv _ _ wr => ∃ j : Nat, j ≤ lh ∧ yv = .int .i64 ((j : Int) * S) ∧ wr.ownsRow (w.heap.size + 1) 28 4 o (j * lw) (flatPP ((List.range (j * lw)).map F)) ∧ Below w.heap.size w wr ∧ wr.cell? ⟨w.heap.size, 0, none⟩ = some (.int .i64 W) ∧ wr.cell? ⟨w.heap.size, 1, none⟩ = some (.int .i64 H) ∧ w.heap.size + 1 ≤ wr.heap.size) (fun _ yv _ _ _ => (H + 16 - intOf yv).toNat)
  case atStart =>
    refine ⟨0, Nat.zero_le _, by rw [show ((0 : Nat) : Int) * S = 0 by simp], ?_, bl_al (bl_al (bl0 w) _) _, by simp [go_sem], by simp [go_sem], by simp⟩
    have ho := own_empty4 (w.alloc (.cells #[.int .i64 W, .int .i64 H] 23)) 28 (w.heap.size + 1) (by simp)
    rw [World.size_alloc] at ho
    rw [Nat.zero_mul]
    exact ho
  case round =>
    obtain ⟨j, hj, rfl, hown, hA, f0, f1, hsz⟩ := hrel
    have zf := blk_lt f0
    have hjy := HATY.out j
    obtain ⟨y, hy⟩ : ∃ y, (j : Int) * S = y := ⟨_, rfl⟩
    rw [hy] at hjy ⊢
    have hys : ((j + 1 : Nat) : Int) * S = y + S := by rw [← hy, Int.natCast_add, Int.add_mul]; simp
    have HYS := Lib.hid hys
    have hy0 : 0 ≤ y := by rw [← hy]; exact Int.mul_nonneg (by omega) (by omega)
    have HY := Lib.hid hy
    clear hys hy
    by_cases hlt : j < lh
    · have hly : y < H := hjy.1 (by omega)
      clear hjy
      go_wp2_with fail
      go_loopw [5, 7, 8] (fun o xv _ wr => ∃ i : Nat, i ≤ lw ∧ xv = .int .i64 ((i : Int) * S) ∧ wr.ownsRow (w.heap.size + 1) 28 4 o (j * lw + i) (flatPP ((List.range (j * lw + i)).map F)) ∧ Below w.heap.size w wr ∧ wr.cell? ⟨w.heap.size, 0, none⟩ = some (.int .i64 W) ∧ wr.cell? ⟨w.heap.size, 1, none⟩ = some (.int .i64 H) ∧ w.heap.size + 1 ≤ wr.heap.size) (fun _ xv _ _ => (W + 16 - intOf xv).toNat)
      case atStart => exact ⟨0, Nat.zero_le _, by rw [show ((0 : Nat) : Int) * S = 0 by simp], hown, hA, f0, f1, hsz⟩
      case round =>
        clear hown hA f0 f1 zf
        obtain ⟨i, hii, rfl, hown, hA, f0, f1, hsz⟩ := hrel
        have zf := blk_lt f0
        have hix := HATX.out i
        have hkk := HK.out j i hlt hii
        obtain ⟨x, hx⟩ : ∃ x, (i : Int) * S = x := ⟨_, rfl⟩
        rw [hx] at hix ⊢
        have hxs : ((i + 1 : Nat) : Int) * S = x + S := by rw [← hx, Int.natCast_add, Int.add_mul]; simp
        have HXN := Lib.hid hxs
        have hx0 : 0 ≤ x := by rw [← hx]; exact Int.mul_nonneg (by omega) (by omega)
        clear hxs
        by_cases hli : i < lw
        · have hlx : x < W := hix.1 (by omega)
          have hbf := HF.out i j (by omega)
          rw [hx, HY.out] at hbf
          obtain ⟨va, vc, rfl, hcp⟩ := own_shape hown
          obtain ⟨K, hKe⟩ : ∃ K, j * lw + i = K := ⟨_, rfl⟩
          rw [hKe] at hown hcp hkk hbf ⊢
          have HKN := Lib.hid (show j * lw + (i + 1) = K + 1 by omega)
          clear hix hx hKe
          have hw1 : IntKind.i64.wrap (x + S) = x + S := IntWalk.i64_in _ (by omega)
          have hw2 : IntKind.i64.wrap (y + S) = y + S := IntWalk.i64_in _ (by omega)
          have hw3 : IntKind.i64.wrap (W - x) = W - x := IntWalk.i64_in _ (by omega)
          have hw4 : IntKind.i64.wrap (H - y) = H - y := IntWalk.i64_in _ (by omega)
          by_cases hgx : W < x + S <;> by_cases hgy : H < y + S
          · obtain ⟨u, hu⟩ : ∃ u, W - x = u := ⟨_, rfl⟩
            obtain ⟨v, hv⟩ : ∃ v, H - y = v := ⟨_, rfl⟩
            have HSN := Lib.hid (show (List.range (K + 1)).map F = (List.range K).map F ++ [((x, y), (u, v))] by
              rw [List.range_succ, List.map_append, List.map_singleton, hbf, show min S (W - x) = u by omega, show min S (H - y) = v by omega])
            clear hbf
            rw [hu] at hw3
            rw [hv] at hw4
            go_wp2_with (at_builtin; refine wpList_append_own _ rfl _ _ 60 rfl (w.heap.size + 1) 28 i0 (.agg #[.int .i64 0, .int .i64 0, .int .i64 0, .int .i64 0]) 4 32 Tryd.underlying60 hi hz0 hz1 hz2 rfl (by decide) _ _ _ rfl ((hown.alloc _).alloc _) ⟨wr.heap.size + 1, 0, none⟩ 1 1 [.int .i64 x, .int .i64 y, .int .i64 u, .int .i64 v] rfl rfl ?d11 ?d12 ?d13 ?d14 ?d15 ?_)
            case d11 => (have := cell_four (wr.alloc (.cells #[.int .i64 x, .int .i64 y, .int .i64 u, .int .i64 v] 28)) (.int .i64 x) (.int .i64 y) (.int .i64 u) (.int .i64 v) 28; rw [World.size_alloc] at this; exact this)
            case d12 => (first | exact ⟨rfl, rfl, rfl, rfl⟩ | exact ⟨rfl, rfl, rfl⟩ | (intro u' hu; simp at hu; rcases hu with rfl | rfl | rfl | rfl <;> rfl))
            case d13 => unfold maxLen; omega
            case d14 => omega
            case d15 => (have := hA.size; simp; omega)
            intro v' w5 hown' hgrow _
            have hl2 : Below wr.heap.size wr ((wr.alloc (.cells #[.int .i64 x, .int .i64 y, .int .i64 u, .int .i64 v] 28)).alloc (.cells #[.int .i64 x, .int .i64 y, .int .i64 u, .int .i64 v] 28)) := bl_al (bl_al (bl0 _) _) _
            have hB5 : Below w.heap.size w w5 := (bl_tr hA hl2).grown hgrow (by have := hA.size; simp; omega) (fun j hj => by have := (hown.lt j hj).1; omega)
            have hne : some w.heap.size ≠ Value.ownBlock (.slice va K vc) := fun e => by have := (hown.lt _ e.symm).1; omega
            have f0' := hgrow.cell (cell_later hl2 f0) hne
            have f1' := hgrow.cell (cell_later hl2 f1) hne
            rw [← flatPP_snoc ((List.range K).map F) ((x, y), (u, v)), ← HSN.out] at hown'
            have hKs : w.heap.size + 1 ≤ w5.heap.size := by have h1 := hgrow.size; simp at h1; omega
            clear hgrow hown hl2 hne f0 f1 hA
            go_wp2
            go_roundw
            case rel => exact ⟨i + 1, by omega, by rw [HXN.out], by rw [HKN.out]; exact hown', hB5, f0', f1', hKs⟩
            case measure => simp [intOf]; omega
          · obtain ⟨u, hu⟩ : ∃ u, W - x = u := ⟨_, rfl⟩
            obtain ⟨v, hv⟩ : ∃ v, v = S := ⟨_, rfl⟩
            have HSN := Lib.hid (show (List.range (K + 1)).map F = (List.range K).map F ++ [((x, y), (u, v))] by
              rw [List.range_succ, List.map_append, List.map_singleton, hbf, show min S (W - x) = u by omega, show min S (H - y) = v by omega])
            clear hbf
            rw [hu] at hw3
            subst hv
            go_wp2_with (at_builtin; refine wpList_append_own _ rfl _ _ 60 rfl (w.heap.size + 1) 28 i0 (.agg #[.int .i64 0, .int .i64 0, .int .i64 0, .int .i64 0]) 4 32 Tryd.underlying60 hi hz0 hz1 hz2 rfl (by decide) _ _ _ rfl ((hown.alloc _).alloc _) ⟨wr.heap.size + 1, 0, none⟩ 1 1 [.int .i64 x, .int .i64 y, .int .i64 u, .int .i64 v] rfl rfl ?d21 ?d22 ?d23 ?d24 ?d25 ?_)
            try case d21 => (have := cell_four (wr.alloc (.cells #[.int .i64 x, .int .i64 y, .int .i64 u, .int .i64 v] 28)) (.int .i64 x) (.int .i64 y) (.int .i64 u) (.int .i64 v) 28; rw [World.size_alloc] at this; exact this)
            case d22 => (first | exact ⟨rfl, rfl, rfl, rfl⟩ | exact ⟨rfl, rfl, rfl⟩ | (intro u' hu; simp at hu; rcases hu with rfl | rfl | rfl | rfl <;> rfl))
            case d23 => unfold maxLen; omega
            case d24 => omega
            case d25 => (have := hA.size; simp; omega)
            intro v' w5 hown' hgrow _
            have hl2 : Below wr.heap.size wr ((wr.alloc (.cells #[.int .i64 x, .int .i64 y, .int .i64 u, .int .i64 v] 28)).alloc (.cells #[.int .i64 x, .int .i64 y, .int .i64 u, .int .i64 v] 28)) := bl_al (bl_al (bl0 _) _) _
            have hB5 : Below w.heap.size w w5 := (bl_tr hA hl2).grown hgrow (by have := hA.size; simp; omega) (fun j hj => by have := (hown.lt j hj).1; omega)
            have hne : some w.heap.size ≠ Value.ownBlock (.slice va K vc) := fun e => by have := (hown.lt _ e.symm).1; omega
            have f0' := hgrow.cell (cell_later hl2 f0) hne
            have f1' := hgrow.cell (cell_later hl2 f1) hne
            rw [← flatPP_snoc ((List.range K).map F) ((x, y), (u, v)), ← HSN.out] at hown'
            have hKs : w.heap.size + 1 ≤ w5.heap.size := by have h1 := hgrow.size; simp at h1; omega
            clear hgrow hown hl2 hne f0 f1 hA
            go_wp2
            go_roundw
            case rel => exact ⟨i + 1, by omega, by rw [HXN.out], by rw [HKN.out]; exact hown', hB5, f0', f1', hKs⟩
            case measure => simp [intOf]; omega
          · obtain ⟨u, hu⟩ : ∃ u, u = S := ⟨_, rfl⟩
            obtain ⟨v, hv⟩ : ∃ v, H - y = v := ⟨_, rfl⟩
            have HSN := Lib.hid (show (List.range (K + 1)).map F = (List.range K).map F ++ [((x, y), (u, v))] by
              rw [List.range_succ, List.map_append, List.map_singleton, hbf, show min S (W - x) = u by omega, show min S (H - y) = v by omega])
            clear hbf
            rw [hv] at hw4
            subst hu
            go_wp2_with (at_builtin; refine wpList_append_own _ rfl _ _ 60 rfl (w.heap.size + 1) 28 i0 (.agg #[.int .i64 0, .int .i64 0, .int .i64 0, .int .i64 0]) 4 32 Tryd.underlying60 hi hz0 hz1 hz2 rfl (by decide) _ _ _ rfl ((hown.alloc _).alloc _) ⟨wr.heap.size + 1, 0, none⟩ 1 1 [.int .i64 x, .int .i64 y, .int .i64 u, .int .i64 v] rfl rfl ?d31 ?d32 ?d33 ?d34 ?d35 ?_)
            try case d31 => (have := cell_four (wr.alloc (.cells #[.int .i64 x, .int .i64 y, .int .i64 u, .int .i64 v] 28)) (.int .i64 x) (.int .i64 y) (.int .i64 u) (.int .i64 v) 28; rw [World.size_alloc] at this; exact this)
            case d32 => (first | exact ⟨rfl, rfl, rfl, rfl⟩ | exact ⟨rfl, rfl, rfl⟩ | (intro u' hu; simp at hu; rcases hu with rfl | rfl | rfl | rfl <;> rfl))
            case d33 => unfold maxLen; omega
            case d34 => omega
            case d35 => (have := hA.size; simp; omega)
            intro v' w5 hown' hgrow _
            have hl2 : Below wr.heap.size wr ((wr.alloc (.cells #[.int .i64 x, .int .i64 y, .int .i64 u, .int .i64 v] 28)).alloc (.cells #[.int .i64 x, .int .i64 y, .int .i64 u, .int .i64 v] 28)) := bl_al (bl_al (bl0 _) _) _
            have hB5 : Below w.heap.size w w5 := (bl_tr hA hl2).grown hgrow (by have := hA.size; simp; omega) (fun j hj => by have := (hown.lt j hj).1; omega)
            have hne : some w.heap.size ≠ Value.ownBlock (.slice va K vc) := fun e => by have := (hown.lt _ e.symm).1; omega
            have f0' := hgrow.cell (cell_later hl2 f0) hne
            have f1' := hgrow.cell (cell_later hl2 f1) hne
            rw [← flatPP_snoc ((List.range K).map F) ((x, y), (u, v)), ← HSN.out] at hown'
            have hKs : w.heap.size + 1 ≤ w5.heap.size := by have h1 := hgrow.size; simp at h1; omega
            clear hgrow hown hl2 hne f0 f1 hA
            go_wp2
            go_roundw
            case rel => exact ⟨i + 1, by omega, by rw [HXN.out], by rw [HKN.out]; exact hown', hB5, f0', f1', hKs⟩
            case measure => simp [intOf]; omega
          · obtain ⟨u, hu⟩ : ∃ u, u = S := ⟨_, rfl⟩
            have HSN := Lib.hid (show (List.range (K + 1)).map F = (List.range K).map F ++ [((x, y), (u, u))] by
              rw [List.range_succ, List.map_append, List.map_singleton, hbf, show min S (W - x) = u by omega, show min S (H - y) = u by omega])
            clear hbf
            subst hu
            go_wp2_with (at_builtin; refine wpList_append_own _ rfl _ _ 60 rfl (w.heap.size + 1) 28 i0 (.agg #[.int .i64 0, .int .i64 0, .int .i64 0, .int .i64 0]) 4 32 Tryd.underlying60 hi hz0 hz1 hz2 rfl (by decide) _ _ _ rfl ((hown.alloc _).alloc _) ⟨wr.heap.size + 1, 0, none⟩ 1 1 [.int .i64 x, .int .i64 y, .int .i64 u, .int .i64 u] rfl rfl ?d41 ?d42 ?d43 ?d44 ?d45 ?_)
            try case d41 => (have := cell_four (wr.alloc (.cells #[.int .i64 x, .int .i64 y, .int .i64 u, .int .i64 u] 28)) (.int .i64 x) (.int .i64 y) (.int .i64 u) (.int .i64 u) 28; rw [World.size_alloc] at this; exact this)
            case d42 => (first | exact ⟨rfl, rfl, rfl, rfl⟩ | exact ⟨rfl, rfl, rfl⟩ | (intro u' hu; simp at hu; rcases hu with rfl | rfl | rfl | rfl <;> rfl))
            case d43 => unfold maxLen; omega
            case d44 => omega
            case d45 => (have := hA.size; simp; omega)
            intro v' w5 hown' hgrow _
            have hl2 : Below wr.heap.size wr ((wr.alloc (.cells #[.int .i64 x, .int .i64 y, .int .i64 u, .int .i64 u] 28)).alloc (.cells #[.int .i64 x, .int .i64 y, .int .i64 u, .int .i64 u] 28)) := bl_al (bl_al (bl0 _) _) _
            have hB5 : Below w.heap.size w w5 := (bl_tr hA hl2).grown hgrow (by have := hA.size; simp; omega) (fun j hj => by have := (hown.lt j hj).1; omega)
            have hne : some w.heap.size ≠ Value.ownBlock (.slice va K vc) := fun e => by have := (hown.lt _ e.symm).1; omega
            have f0' := hgrow.cell (cell_later hl2 f0) hne
            have f1' := hgrow.cell (cell_later hl2 f1) hne
            rw [← flatPP_snoc ((List.range K).map F) ((x, y), (u, u)), ← HSN.out] at hown'
            have hKs : w.heap.size + 1 ≤ w5.heap.size := by have h1 := hgrow.size; simp at h1; omega
            clear hgrow hown hl2 hne f0 f1 hA
            go_wp2
            go_roundw
            case rel => exact ⟨i + 1, by omega, by rw [HXN.out], by rw [HKN.out]; exact hown', hB5, f0', f1', hKs⟩
            case measure => simp [intOf]; omega
        · obtain rfl : i = lw := by omega
          have hge : ¬ x < W := fun h => by have := hix.2 h; omega
          have HKN := Lib.hid (show (j + 1) * i = j * i + i by rw [Nat.succ_mul])
          clear hix hx
          go_wp2
          go_roundw
          case rel => exact ⟨j + 1, by omega, by rw [HYS.out], by rw [HKN.out]; exact hown, hA, f0, f1, hsz⟩
          case measure => simp [intOf]; omega
    · obtain rfl : j = lh := by omega
      have hge : ¬ y < H := fun h => by have := hjy.2 h; omega
      obtain ⟨va, vc, rfl, hcp⟩ := own_shape hown
      have hl := HL.out
      have hrow : RowPP wr va ((List.range (j * lw)).map F) := rowX_of_own (cap := vc) (by simpa using hown)
      have HR := Lib.hid (show ∀ e, e = Ending.returned (.slice va (j * lw) vc) → BxsR (boxL W H S) w e wr from fun e he => ⟨va, vc, by rw [he, hl]; simp, by rw [hl]; exact hrow, hA⟩)
      obtain ⟨K, hKe⟩ : ∃ K, j * lw = K := ⟨_, rfl⟩
      rw [hKe] at HR ⊢
      clear hown hrow hl hjy hKe
      go_wp2
      go_ret
      exact HR.out _ rfl
end Go.Proofs.YtgbhafadibdmcaaDoor

/- Tables within a cluster: the reference's May. -/
namespace Go.Proofs.YtgbhafadibdmcaaDoor
open Go.RowKit

theorem rowI_ref (d c : IC) : (0 ≤ rowI d c) ↔ (c.2 < d.2 ∨ (c.2 = d.2 ∧ c.1 ≤ d.1)) := by
  have h := rowI_ge d c
  constructor
  · intro q
    have := h.1 q
    omega
  · intro q
    exact h.2 (by omega)
set_option maxRecDepth 100000 in
set_option maxHeartbeats 8000000 in
theorem may13_any (A B : Int) (a : Option Addr) (n cap : Nat) (X Y S id : Int) (ca : Option Addr) (cc : Nat) (cs : List IC) (w : World) (hcs : RowC w ca cs) (hl : cs.length ≤ 1048576) (hw : AllW cs) :
    Calls Tryd.prog 18 #[.agg #[.int .i64 A, .int .i64 B, .slice a n cap], .agg #[.int .i64 X, .int .i64 Y], .int .i64 S, .int .i64 id, .slice ca cs.length cc] w fun e w' => e = .returned (.int .i64 (chkI A B n X Y S id cs)) ∧ Below w.heap.size w w' := by
  have hA := bl0 w
  have H1 := Lib.hid (fun w => rcheck_any A B a n cap w)
  have H2 := Lib.hid (fun w => rright11 X Y S w)
  have hx : chkI A B n X Y S id cs = if chkF A B n ≠ 0 then chkF A B n else if X = A ∧ Y = B then (if plcX X Y S id ≠ 0 then plcX X Y S id else wrgI X Y S id cs) else 1 := rfl
  obtain ⟨E, hE⟩ : ∃ E, chkI A B n X Y S id cs = E := ⟨_, rfl⟩
  rw [hE] at hx ⊢
  clear hE
  by_cases h0 : chkF A B n = 0
  case neg =>
    rw [if_pos h0] at hx
    rw [← hx] at H1 h0
    have h1 : (E != 0) = true := by rw [bne_iff_ne]; exact h0
    clear h0 hx hcs
    go_enter Tryd.func18, Tryd.ntmps18
    go_wp2_with fail
    refine (H1.out _).mono ?_
    rintro e w1 ⟨rfl, hb⟩
    have hk : Below w.heap.size w w1 := by first | exact hb | exact bl_tr (bl_al (bl0 _) _) hb | exact bl_tr (bl_dr (bl_al (bl0 _) _)) hb | exact bl_tr (bl_al (bl_al (bl0 _) _) _) hb | exact bl_tr (bl_dr (bl_al (bl_al (bl0 _) _) _)) hb | exact bl_tr (bl_al (bl_al (bl_al (bl0 _) _) _) _) hb | exact bl_tr (bl_dr (bl_al (bl_al (bl_al (bl0 _) _) _) _)) hb | exact bl_tr (bl_al (bl_al (bl_al (bl_al (bl0 _) _) _) _) _) hb | exact bl_tr (bl_dr (bl_al (bl_al (bl_al (bl_al (bl0 _) _) _) _) _)) hb | exact bl_tr (bl_al (bl_al (bl_al (bl_al (bl_al (bl0 _) _) _) _) _) _) hb | exact bl_tr (bl_dr (bl_al (bl_al (bl_al (bl_al (bl_al (bl0 _) _) _) _) _) _)) hb | exact bl_tr (bl_al (bl_al (bl_al (bl_al (bl_al (bl_al (bl0 _) _) _) _) _) _) _) hb | exact bl_tr (bl_dr (bl_al (bl_al (bl_al (bl_al (bl_al (bl_al (bl0 _) _) _) _) _) _) _)) hb | exact bl_tr (bl_dr (bl0 _)) hb
    replace hA := bl_tr hA hk
    clear hb hk
    go_wp2
    go_ret
    exact ⟨rfl, hA⟩
  case pos =>
  rw [h0] at H1
  rw [if_neg (fun q => q h0)] at hx
  by_cases hs : X = A ∧ Y = B
  case neg =>
    rw [if_neg hs] at hx
    subst hx
    by_cases hs1 : X = A
    · subst hs1
      have e1 : (X == X) = true := beq_self_eq_true _
      have e2 : (Y == B) = false := by rw [beq_eq_false_iff_ne]; exact fun h => hs ⟨rfl, h⟩
      clear hs h0 hcs
      go_enter Tryd.func18, Tryd.ntmps18
      go_wp2_with fail
      refine (H1.out _).mono ?_
      rintro e w1 ⟨rfl, hb⟩
      have hk : Below w.heap.size w w1 := by first | exact hb | exact bl_tr (bl_al (bl0 _) _) hb | exact bl_tr (bl_dr (bl_al (bl0 _) _)) hb | exact bl_tr (bl_al (bl_al (bl0 _) _) _) hb | exact bl_tr (bl_dr (bl_al (bl_al (bl0 _) _) _)) hb | exact bl_tr (bl_al (bl_al (bl_al (bl0 _) _) _) _) hb | exact bl_tr (bl_dr (bl_al (bl_al (bl_al (bl0 _) _) _) _)) hb | exact bl_tr (bl_al (bl_al (bl_al (bl_al (bl0 _) _) _) _) _) hb | exact bl_tr (bl_dr (bl_al (bl_al (bl_al (bl_al (bl0 _) _) _) _) _)) hb | exact bl_tr (bl_al (bl_al (bl_al (bl_al (bl_al (bl0 _) _) _) _) _) _) hb | exact bl_tr (bl_dr (bl_al (bl_al (bl_al (bl_al (bl_al (bl0 _) _) _) _) _) _)) hb | exact bl_tr (bl_al (bl_al (bl_al (bl_al (bl_al (bl_al (bl0 _) _) _) _) _) _) _) hb | exact bl_tr (bl_dr (bl_al (bl_al (bl_al (bl_al (bl_al (bl_al (bl0 _) _) _) _) _) _) _)) hb | exact bl_tr (bl_dr (bl0 _)) hb
      replace hA := bl_tr hA hk
      have f0 := cell_later hb (v := .int .i64 X) (a := ⟨w.heap.size, 0, none⟩) (by simp [go_sem])
      have f1 := cell_later hb (v := .int .i64 B) (a := ⟨w.heap.size, 1, none⟩) (by simp [go_sem])
      have s0 := cell_later hb (v := .int .i64 X) (a := ⟨w.heap.size + 1, 0, none⟩) (by simp [go_sem])
      have s1 := cell_later hb (v := .int .i64 Y) (a := ⟨w.heap.size + 1, 1, none⟩) (by simp [go_sem])
      clear hb hk
      have zf0 := blk_lt f0
      have zf1 := blk_lt f1
      have zs0 := blk_lt s0
      have zs1 := blk_lt s1
      go_wp2
      go_ret
      exact ⟨rfl, hA⟩
    · have e1 : (X == A) = false := by rw [beq_eq_false_iff_ne]; exact hs1
      clear hs hs1 h0 hcs
      go_enter Tryd.func18, Tryd.ntmps18
      go_wp2_with fail
      refine (H1.out _).mono ?_
      rintro e w1 ⟨rfl, hb⟩
      have hk : Below w.heap.size w w1 := by first | exact hb | exact bl_tr (bl_al (bl0 _) _) hb | exact bl_tr (bl_dr (bl_al (bl0 _) _)) hb | exact bl_tr (bl_al (bl_al (bl0 _) _) _) hb | exact bl_tr (bl_dr (bl_al (bl_al (bl0 _) _) _)) hb | exact bl_tr (bl_al (bl_al (bl_al (bl0 _) _) _) _) hb | exact bl_tr (bl_dr (bl_al (bl_al (bl_al (bl0 _) _) _) _)) hb | exact bl_tr (bl_al (bl_al (bl_al (bl_al (bl0 _) _) _) _) _) hb | exact bl_tr (bl_dr (bl_al (bl_al (bl_al (bl_al (bl0 _) _) _) _) _)) hb | exact bl_tr (bl_al (bl_al (bl_al (bl_al (bl_al (bl0 _) _) _) _) _) _) hb | exact bl_tr (bl_dr (bl_al (bl_al (bl_al (bl_al (bl_al (bl0 _) _) _) _) _) _)) hb | exact bl_tr (bl_al (bl_al (bl_al (bl_al (bl_al (bl_al (bl0 _) _) _) _) _) _) _) hb | exact bl_tr (bl_dr (bl_al (bl_al (bl_al (bl_al (bl_al (bl_al (bl0 _) _) _) _) _) _) _)) hb | exact bl_tr (bl_dr (bl0 _)) hb
      replace hA := bl_tr hA hk
      have f0 := cell_later hb (v := .int .i64 A) (a := ⟨w.heap.size, 0, none⟩) (by simp [go_sem])
      have f1 := cell_later hb (v := .int .i64 B) (a := ⟨w.heap.size, 1, none⟩) (by simp [go_sem])
      have s0 := cell_later hb (v := .int .i64 X) (a := ⟨w.heap.size + 1, 0, none⟩) (by simp [go_sem])
      have s1 := cell_later hb (v := .int .i64 Y) (a := ⟨w.heap.size + 1, 1, none⟩) (by simp [go_sem])
      clear hb hk
      have zf0 := blk_lt f0
      have zf1 := blk_lt f1
      have zs0 := blk_lt s0
      have zs1 := blk_lt s1
      go_wp2
      go_ret
      exact ⟨rfl, hA⟩
  case pos =>
  rw [if_pos hs] at hx
  obtain ⟨rfl, rfl⟩ := hs
  have e1 : (X == X) = true := beq_self_eq_true _
  have e2 : (Y == Y) = true := beq_self_eq_true _
  clear h0
  cases hrt : rightP X Y S
  · have hp : plcX X Y S id = 1 := by unfold plcX; rw [if_neg (by rw [hrt]; decide)]
    rw [hp, if_pos (by decide)] at hx
    subst hx
    rw [hrt] at H2
    clear hp hrt hcs
    go_enter Tryd.func18, Tryd.ntmps18
    go_wp2_with fail
    refine (H1.out _).mono ?_
    rintro e w1 ⟨rfl, hb⟩
    have hk : Below w.heap.size w w1 := by first | exact hb | exact bl_tr (bl_al (bl0 _) _) hb | exact bl_tr (bl_dr (bl_al (bl0 _) _)) hb | exact bl_tr (bl_al (bl_al (bl0 _) _) _) hb | exact bl_tr (bl_dr (bl_al (bl_al (bl0 _) _) _)) hb | exact bl_tr (bl_al (bl_al (bl_al (bl0 _) _) _) _) hb | exact bl_tr (bl_dr (bl_al (bl_al (bl_al (bl0 _) _) _) _)) hb | exact bl_tr (bl_al (bl_al (bl_al (bl_al (bl0 _) _) _) _) _) hb | exact bl_tr (bl_dr (bl_al (bl_al (bl_al (bl_al (bl0 _) _) _) _) _)) hb | exact bl_tr (bl_al (bl_al (bl_al (bl_al (bl_al (bl0 _) _) _) _) _) _) hb | exact bl_tr (bl_dr (bl_al (bl_al (bl_al (bl_al (bl_al (bl0 _) _) _) _) _) _)) hb | exact bl_tr (bl_al (bl_al (bl_al (bl_al (bl_al (bl_al (bl0 _) _) _) _) _) _) _) hb | exact bl_tr (bl_dr (bl_al (bl_al (bl_al (bl_al (bl_al (bl_al (bl0 _) _) _) _) _) _) _)) hb | exact bl_tr (bl_dr (bl0 _)) hb
    replace hA := bl_tr hA hk
    have f0 := cell_later hb (v := .int .i64 X) (a := ⟨w.heap.size, 0, none⟩) (by simp [go_sem])
    have f1 := cell_later hb (v := .int .i64 Y) (a := ⟨w.heap.size, 1, none⟩) (by simp [go_sem])
    have s0 := cell_later hb (v := .int .i64 X) (a := ⟨w.heap.size + 1, 0, none⟩) (by simp [go_sem])
    have s1 := cell_later hb (v := .int .i64 Y) (a := ⟨w.heap.size + 1, 1, none⟩) (by simp [go_sem])
    clear hb hk
    have zf0 := blk_lt f0
    have zf1 := blk_lt f1
    have zs0 := blk_lt s0
    have zs1 := blk_lt s1
    go_wp2_with fail
    refine (H2.out _).mono ?_
    rintro e w2 ⟨rfl, hb⟩
    have hk : Below w1.heap.size w1 w2 := by first | exact hb | exact bl_tr (bl_al (bl0 _) _) hb | exact bl_tr (bl_dr (bl_al (bl0 _) _)) hb | exact bl_tr (bl_al (bl_al (bl0 _) _) _) hb | exact bl_tr (bl_dr (bl_al (bl_al (bl0 _) _) _)) hb | exact bl_tr (bl_al (bl_al (bl_al (bl0 _) _) _) _) hb | exact bl_tr (bl_dr (bl_al (bl_al (bl_al (bl0 _) _) _) _)) hb | exact bl_tr (bl_al (bl_al (bl_al (bl_al (bl0 _) _) _) _) _) hb | exact bl_tr (bl_dr (bl_al (bl_al (bl_al (bl_al (bl0 _) _) _) _) _)) hb | exact bl_tr (bl_al (bl_al (bl_al (bl_al (bl_al (bl0 _) _) _) _) _) _) hb | exact bl_tr (bl_dr (bl_al (bl_al (bl_al (bl_al (bl_al (bl0 _) _) _) _) _) _)) hb | exact bl_tr (bl_al (bl_al (bl_al (bl_al (bl_al (bl_al (bl0 _) _) _) _) _) _) _) hb | exact bl_tr (bl_dr (bl_al (bl_al (bl_al (bl_al (bl_al (bl_al (bl0 _) _) _) _) _) _) _)) hb | exact bl_tr (bl_dr (bl0 _)) hb
    replace hA := bl_tr hA hk
    clear hb hk
    go_wp2
    go_ret
    exact ⟨rfl, hA⟩
  · rw [hrt] at H2
    have H3 := Lib.hid (fun w => boxes11 X Y S w hrt)
    unfold BxsR at H3
    have hbl := boxL_len X Y S
    obtain ⟨hcn, n1, n2⟩ := cntN_eq hrt
    by_cases hin : 0 ≤ id ∧ id < lieN X S * lieN Y S
    case neg =>
      have hp : plcX X Y S id = 10 := by unfold plcX; rw [if_pos hrt, if_neg hin]
      rw [hp, if_pos (by decide)] at hx
      subst hx
      have hno : id < 0 ∨ ((0 : Int) ≤ id ∧ ((boxL X Y S).length : Int) ≤ id) := by rw [hbl]; omega
      obtain ⟨BL, hB⟩ : ∃ BL, boxL X Y S = BL := ⟨_, rfl⟩
      rw [hB] at H3 hno
      clear hp hrt hin hcn n1 n2 hbl hB hcs
      rcases hno with h0 | ⟨h0, h1⟩
      all_goals
        go_enter Tryd.func18, Tryd.ntmps18
        go_wp2_with fail
        refine (H1.out _).mono ?_
        rintro e w1 ⟨rfl, hb⟩
        have hk : Below w.heap.size w w1 := by first | exact hb | exact bl_tr (bl_al (bl0 _) _) hb | exact bl_tr (bl_dr (bl_al (bl0 _) _)) hb | exact bl_tr (bl_al (bl_al (bl0 _) _) _) hb | exact bl_tr (bl_dr (bl_al (bl_al (bl0 _) _) _)) hb | exact bl_tr (bl_al (bl_al (bl_al (bl0 _) _) _) _) hb | exact bl_tr (bl_dr (bl_al (bl_al (bl_al (bl0 _) _) _) _)) hb | exact bl_tr (bl_al (bl_al (bl_al (bl_al (bl0 _) _) _) _) _) hb | exact bl_tr (bl_dr (bl_al (bl_al (bl_al (bl_al (bl0 _) _) _) _) _)) hb | exact bl_tr (bl_al (bl_al (bl_al (bl_al (bl_al (bl0 _) _) _) _) _) _) hb | exact bl_tr (bl_dr (bl_al (bl_al (bl_al (bl_al (bl_al (bl0 _) _) _) _) _) _)) hb | exact bl_tr (bl_al (bl_al (bl_al (bl_al (bl_al (bl_al (bl0 _) _) _) _) _) _) _) hb | exact bl_tr (bl_dr (bl_al (bl_al (bl_al (bl_al (bl_al (bl_al (bl0 _) _) _) _) _) _) _)) hb | exact bl_tr (bl_dr (bl0 _)) hb
        replace hA := bl_tr hA hk
        have f0 := cell_later hb (v := .int .i64 X) (a := ⟨w.heap.size, 0, none⟩) (by simp [go_sem])
        have f1 := cell_later hb (v := .int .i64 Y) (a := ⟨w.heap.size, 1, none⟩) (by simp [go_sem])
        have s0 := cell_later hb (v := .int .i64 X) (a := ⟨w.heap.size + 1, 0, none⟩) (by simp [go_sem])
        have s1 := cell_later hb (v := .int .i64 Y) (a := ⟨w.heap.size + 1, 1, none⟩) (by simp [go_sem])
        clear hb hk
        have zf0 := blk_lt f0
        have zf1 := blk_lt f1
        have zs0 := blk_lt s0
        have zs1 := blk_lt s1
        go_wp2_with fail
        refine (H2.out _).mono ?_
        rintro e w2 ⟨rfl, hb⟩
        have hk : Below w1.heap.size w1 w2 := by first | exact hb | exact bl_tr (bl_al (bl0 _) _) hb | exact bl_tr (bl_dr (bl_al (bl0 _) _)) hb | exact bl_tr (bl_al (bl_al (bl0 _) _) _) hb | exact bl_tr (bl_dr (bl_al (bl_al (bl0 _) _) _)) hb | exact bl_tr (bl_al (bl_al (bl_al (bl0 _) _) _) _) hb | exact bl_tr (bl_dr (bl_al (bl_al (bl_al (bl0 _) _) _) _)) hb | exact bl_tr (bl_al (bl_al (bl_al (bl_al (bl0 _) _) _) _) _) hb | exact bl_tr (bl_dr (bl_al (bl_al (bl_al (bl_al (bl0 _) _) _) _) _)) hb | exact bl_tr (bl_al (bl_al (bl_al (bl_al (bl_al (bl0 _) _) _) _) _) _) hb | exact bl_tr (bl_dr (bl_al (bl_al (bl_al (bl_al (bl_al (bl0 _) _) _) _) _) _)) hb | exact bl_tr (bl_al (bl_al (bl_al (bl_al (bl_al (bl_al (bl0 _) _) _) _) _) _) _) hb | exact bl_tr (bl_dr (bl_al (bl_al (bl_al (bl_al (bl_al (bl_al (bl0 _) _) _) _) _) _) _)) hb | exact bl_tr (bl_dr (bl0 _)) hb
        replace hA := bl_tr hA hk
        replace s0 := cell_later hk s0
        replace s1 := cell_later hk s1
        clear hb hk
        have zs0 := blk_lt s0
        have zs1 := blk_lt s1
        go_wp2_with fail
        refine (H3.out _).mono ?_
        rintro e w3 ⟨ba, bc, rfl, hbr, hb⟩
        have hk : Below w2.heap.size w2 w3 := by first | exact hb | exact bl_tr (bl_al (bl0 _) _) hb | exact bl_tr (bl_dr (bl_al (bl0 _) _)) hb | exact bl_tr (bl_al (bl_al (bl0 _) _) _) hb | exact bl_tr (bl_dr (bl_al (bl_al (bl0 _) _) _)) hb | exact bl_tr (bl_al (bl_al (bl_al (bl0 _) _) _) _) hb | exact bl_tr (bl_dr (bl_al (bl_al (bl_al (bl0 _) _) _) _)) hb | exact bl_tr (bl_al (bl_al (bl_al (bl_al (bl0 _) _) _) _) _) hb | exact bl_tr (bl_dr (bl_al (bl_al (bl_al (bl_al (bl0 _) _) _) _) _)) hb | exact bl_tr (bl_al (bl_al (bl_al (bl_al (bl_al (bl0 _) _) _) _) _) _) hb | exact bl_tr (bl_dr (bl_al (bl_al (bl_al (bl_al (bl_al (bl0 _) _) _) _) _) _)) hb | exact bl_tr (bl_al (bl_al (bl_al (bl_al (bl_al (bl_al (bl0 _) _) _) _) _) _) _) hb | exact bl_tr (bl_dr (bl_al (bl_al (bl_al (bl_al (bl_al (bl_al (bl0 _) _) _) _) _) _) _)) hb | exact bl_tr (bl_dr (bl0 _)) hb
        replace hA := bl_tr hA hk
        clear hb hk
        clear hbr
        go_wp2
        go_ret
        exact ⟨rfl, hA⟩
    case pos =>
      obtain ⟨k0, rfl⟩ : ∃ k0 : Nat, id = k0 := ⟨id.toNat, by omega⟩
      obtain ⟨hk0, hk1⟩ := hin
      have hp : plcX X Y S k0 = 0 := plcX_yes.2 ⟨hrt, hk0, hk1⟩
      rw [hp, if_neg (fun q => q rfl)] at hx
      obtain ⟨BX', BY', U, V, hbb, ⟨b0, b1, b2, b3⟩, hbx, hhas⟩ := clu_box hp
      have hkb : k0 < (boxL X Y S).length := by rw [hbl]; omega
      have hat := boxL_at hkb
      have hbf : bxF X Y S k0 = ((BX', BY'), ((U : Int), (V : Int))) := by unfold bxF; rw [b0, b1, b2, b3]
      rw [hbf] at hat
      have hrB := (fitsB_iff.1 hbx.fits).1
      have HH := Lib.hid (fun (c : IC) (hc : wf64 c.1 ∧ wf64 c.2) w => rhas8_any BX' BY' U V c w hrB ⟨hbx.x.1, hbx.y.1⟩ hc)
      have HN := Lib.hid (fun (k : Nat) (h : wrgT X Y S k0 cs k = 0) => wrgT_next h)
      have HATK := Lib.hid (fun (k : Nat) (hk : k < cs.length) (h : wrgT X Y S k0 cs k = 0) (he : wrgE X Y S k0 cs k ≠ 0) => wrgI_at hk h he)
      have HE := Lib.hid (show ∀ (k : Nat) (hk : k < cs.length), wrgE X Y S k0 cs k = if inBx (BX', BY', (U : Int), (V : Int)) cs[k] = true then (if 0 < k ∧ 0 ≤ rowI (cs.getD (k - 1) (0, 0)) cs[k] then 11 else 0) else 10 from fun k hk => by unfold wrgE; rw [getD_c hk, hhas])
      have HZ := Lib.hid (show wrgT X Y S k0 cs 0 = 0 from rfl)
      have HEND := Lib.hid (show wrgI X Y S k0 cs = wrgT X Y S k0 cs cs.length from rfl)
      have HW := Lib.hid hw
      rw [← hx] at HATK HEND
      obtain ⟨T, hT⟩ : ∃ T, wrgT X Y S k0 cs = T := ⟨_, rfl⟩
      obtain ⟨EE, hEE⟩ : ∃ EE, wrgE X Y S k0 cs = EE := ⟨_, rfl⟩
      rw [hT] at HN HATK HZ HEND
      rw [hEE] at HN HATK HE
      obtain ⟨BL, hB⟩ : ∃ BL, boxL X Y S = BL := ⟨_, rfl⟩
      have hkB : k0 < BL.length := by rw [← hB]; exact hkb
      have hkb2 : (k0 : Int) < (BL.length : Int) := by omega
      have hge : ¬ ((BL.length : Int) ≤ (k0 : Int)) := by omega
      have hlt0 : ¬ ((k0 : Int) < 0) := by omega
      have d1 : decide (BL.length ≤ k0) = false := decide_eq_false (by omega)
      have d2 : decide ((k0 : Int) < 0) = false := decide_eq_false hlt0
      have HAT := Lib.hid (show BL[k0] = ((BX', BY'), ((U : Int), (V : Int))) by simp only [← hB]; exact hat)
      rw [hB] at H3
      have hl2 : (cs.length : Int) ≤ 1048576 := by omega
      clear hT hEE hB hat hkb hbf hbb b0 b1 b2 b3 hbx hhas hrB hp hx hcn n1 n2 hbl hrt hk1 hw
      go_enter Tryd.func18, Tryd.ntmps18
      go_wp2_with fail
      refine (H1.out _).mono ?_
      rintro e w1 ⟨rfl, hb⟩
      have hk : Below w.heap.size w w1 := by first | exact hb | exact bl_tr (bl_al (bl0 _) _) hb | exact bl_tr (bl_dr (bl_al (bl0 _) _)) hb | exact bl_tr (bl_al (bl_al (bl0 _) _) _) hb | exact bl_tr (bl_dr (bl_al (bl_al (bl0 _) _) _)) hb | exact bl_tr (bl_al (bl_al (bl_al (bl0 _) _) _) _) hb | exact bl_tr (bl_dr (bl_al (bl_al (bl_al (bl0 _) _) _) _)) hb | exact bl_tr (bl_al (bl_al (bl_al (bl_al (bl0 _) _) _) _) _) hb | exact bl_tr (bl_dr (bl_al (bl_al (bl_al (bl_al (bl0 _) _) _) _) _)) hb | exact bl_tr (bl_al (bl_al (bl_al (bl_al (bl_al (bl0 _) _) _) _) _) _) hb | exact bl_tr (bl_dr (bl_al (bl_al (bl_al (bl_al (bl_al (bl0 _) _) _) _) _) _)) hb | exact bl_tr (bl_al (bl_al (bl_al (bl_al (bl_al (bl_al (bl0 _) _) _) _) _) _) _) hb | exact bl_tr (bl_dr (bl_al (bl_al (bl_al (bl_al (bl_al (bl_al (bl0 _) _) _) _) _) _) _)) hb | exact bl_tr (bl_dr (bl0 _)) hb
      replace hA := bl_tr hA hk
      have f0 := cell_later hb (v := .int .i64 X) (a := ⟨w.heap.size, 0, none⟩) (by simp [go_sem])
      have f1 := cell_later hb (v := .int .i64 Y) (a := ⟨w.heap.size, 1, none⟩) (by simp [go_sem])
      have s0 := cell_later hb (v := .int .i64 X) (a := ⟨w.heap.size + 1, 0, none⟩) (by simp [go_sem])
      have s1 := cell_later hb (v := .int .i64 Y) (a := ⟨w.heap.size + 1, 1, none⟩) (by simp [go_sem])
      clear hb hk
      have zf0 := blk_lt f0
      have zf1 := blk_lt f1
      have zs0 := blk_lt s0
      have zs1 := blk_lt s1
      go_wp2_with fail
      refine (H2.out _).mono ?_
      rintro e w2 ⟨rfl, hb⟩
      have hk : Below w1.heap.size w1 w2 := by first | exact hb | exact bl_tr (bl_al (bl0 _) _) hb | exact bl_tr (bl_dr (bl_al (bl0 _) _)) hb | exact bl_tr (bl_al (bl_al (bl0 _) _) _) hb | exact bl_tr (bl_dr (bl_al (bl_al (bl0 _) _) _)) hb | exact bl_tr (bl_al (bl_al (bl_al (bl0 _) _) _) _) hb | exact bl_tr (bl_dr (bl_al (bl_al (bl_al (bl0 _) _) _) _)) hb | exact bl_tr (bl_al (bl_al (bl_al (bl_al (bl0 _) _) _) _) _) hb | exact bl_tr (bl_dr (bl_al (bl_al (bl_al (bl_al (bl0 _) _) _) _) _)) hb | exact bl_tr (bl_al (bl_al (bl_al (bl_al (bl_al (bl0 _) _) _) _) _) _) hb | exact bl_tr (bl_dr (bl_al (bl_al (bl_al (bl_al (bl_al (bl0 _) _) _) _) _) _)) hb | exact bl_tr (bl_al (bl_al (bl_al (bl_al (bl_al (bl_al (bl0 _) _) _) _) _) _) _) hb | exact bl_tr (bl_dr (bl_al (bl_al (bl_al (bl_al (bl_al (bl_al (bl0 _) _) _) _) _) _) _)) hb | exact bl_tr (bl_dr (bl0 _)) hb
      replace hA := bl_tr hA hk
      replace s0 := cell_later hk s0
      replace s1 := cell_later hk s1
      clear hb hk
      have zs0 := blk_lt s0
      have zs1 := blk_lt s1
      go_wp2_with fail
      refine (H3.out _).mono ?_
      rintro e w3 ⟨ba, bc, rfl, hbr, hb⟩
      have hk : Below w2.heap.size w2 w3 := by first | exact hb | exact bl_tr (bl_al (bl0 _) _) hb | exact bl_tr (bl_dr (bl_al (bl0 _) _)) hb | exact bl_tr (bl_al (bl_al (bl0 _) _) _) hb | exact bl_tr (bl_dr (bl_al (bl_al (bl0 _) _) _)) hb | exact bl_tr (bl_al (bl_al (bl_al (bl0 _) _) _) _) hb | exact bl_tr (bl_dr (bl_al (bl_al (bl_al (bl0 _) _) _) _)) hb | exact bl_tr (bl_al (bl_al (bl_al (bl_al (bl0 _) _) _) _) _) hb | exact bl_tr (bl_dr (bl_al (bl_al (bl_al (bl_al (bl0 _) _) _) _) _)) hb | exact bl_tr (bl_al (bl_al (bl_al (bl_al (bl_al (bl0 _) _) _) _) _) _) hb | exact bl_tr (bl_dr (bl_al (bl_al (bl_al (bl_al (bl_al (bl0 _) _) _) _) _) _)) hb | exact bl_tr (bl_al (bl_al (bl_al (bl_al (bl_al (bl_al (bl0 _) _) _) _) _) _) _) hb | exact bl_tr (bl_dr (bl_al (bl_al (bl_al (bl_al (bl_al (bl_al (bl0 _) _) _) _) _) _) _)) hb | exact bl_tr (bl_dr (bl0 _)) hb
      replace hA := bl_tr hA hk
      clear hb hk
      have HRC := Lib.hid (hcs.below hA)
      have HBR := Lib.hid hbr
      have HA := Lib.hid hA
      clear hcs hbr hA
      go_wp2_with fail
      go_loopw [13] (fun iv wr => ∃ k : Nat, k ≤ cs.length ∧ iv = .int .i64 k ∧ T k = 0 ∧ Below w3.heap.size w3 wr) (fun iv _ => cs.length - (intOf iv).toNat)
      case atStart => exact ⟨0, Nat.zero_le _, rfl, HZ.out, bl0 _⟩
      case round =>
        obtain ⟨k, hkl, rfl, ht, hB⟩ := hrel
        have hkk0 : (0 : Int) ≤ (k : Int) := by omega
        by_cases hlt : k < cs.length
        · have hlt2 : (k : Int) < (cs.length : Int) := by omega
          have he := HE.out k hlt
          have hat := HATK.out k hlt ht
          have hnx := HN.out k ht
          have hwc := HW.out _ (List.getElem_mem hlt)
          obtain ⟨gb, go, rfl, q0, q1⟩ := (HRC.out.below hB).cell hlt
          have hprev : 0 < k → ∃ d : IC, cs.getD (k - 1) (0, 0) = d ∧ wr.cell? ⟨gb, go + (k - 1) * 2, none⟩ = some (.int .i64 d.1) ∧ wr.cell? ⟨gb, go + (k - 1) * 2 + 1, none⟩ = some (.int .i64 d.2) := fun h0 => by
            obtain ⟨gb2, go2, e, r0, r1⟩ := (HRC.out.below hB).cell (show k - 1 < cs.length by omega)
            cases e
            exact ⟨_, getD_c (by omega), r0, r1⟩
          obtain ⟨hb0, ho0, rfl, ⟨u0, u1⟩, u2, u3⟩ := (HBR.out.below hB).cell hkB
          rw [HAT.out] at u0 u1 u2 u3
          simp only at u0 u1 u2 u3
          obtain ⟨c, hc⟩ : ∃ c, cs[k] = c := ⟨_, rfl⟩
          rw [hc] at he q0 q1 hwc
          have HHC := Lib.hid (HH.out c hwc)
          obtain ⟨t, htt⟩ : ∃ t, inBx (BX', BY', (U : Int), (V : Int)) c = t := ⟨_, rfl⟩
          rw [htt] at he HHC
          have HP := Lib.hid hprev
          have HAK := Lib.hid hat
          have HNX := Lib.hid hnx
          have HEK := Lib.hid he
          have HQ := Lib.hid (And.intro q0 q1)
          clear hprev hc htt hat hnx he hwc
          have hB2 := bl_dr (bl0 wr)
          go_upto_region 12 with fail
          go_region_held3 (fun W => (W.cell? ⟨hb0, ho0 + k0 * 4, none⟩ = some (.int .i64 BX') ∧ W.cell? ⟨hb0, ho0 + k0 * 4 + 1, none⟩ = some (.int .i64 BY') ∧ W.cell? ⟨hb0, ho0 + k0 * 4 + 2, none⟩ = some (.int .i64 U) ∧ W.cell? ⟨hb0, ho0 + k0 * 4 + 3, none⟩ = some (.int .i64 V)) ∧ W.cell? ⟨gb, go + k * 2, none⟩ = some (.int .i64 c.1) ∧ W.cell? ⟨gb, go + k * 2 + 1, none⟩ = some (.int .i64 c.2))
            (exact ⟨⟨cell_later hB2 u0, cell_later hB2 u1, cell_later hB2 u2, cell_later hB2 u3⟩, cell_later hB2 q0, cell_later hB2 q1⟩)
            ((go_at_call 11; (with_reducible refine (HHC.out _).mono ?_); rintro e w9 ⟨rfl, hb9⟩; replace hB2 := bl_tr hB2 hb9))
          all_goals
            have HB2 := Lib.hid hB2
            have HB3 := Lib.hid (bl_tr hB hB2)
            clear u0 u1 u2 u3 q0 q1 hB2
            cases t
            · have he := HEK.out
              rw [if_neg (by decide)] at he
              have hxx := HAK.out (by rw [he]; decide)
              rw [he] at hxx
              subst hxx
              go_wp2
              go_ret
              exact ⟨rfl, bl_tr HA.out HB3.out⟩
            · have he := HEK.out
              rw [if_pos rfl] at he
              by_cases h0 : k = 0
              · rw [if_neg (fun h => by have := h.1; omega)] at he
                have HN1 := Lib.hid (HNX.out.trans he)
                have hgd : decide ((0 : Int) < (k : Int)) = false := decide_eq_false (by omega)
                have hg0 : ¬ (0 : Int) < (k : Int) := by omega
                have hgn : decide (0 < k) = false := decide_eq_false (by omega)
                have hgm : ¬ 0 < k := by omega
                clear he h0
                go_wp2
                go_quiet (fail)
                go_wp2
                go_roundw
                case rel => exact ⟨k + 1, by omega, by go_num, HN1.out, bl_tr HB3.out (bl_drn _ _)⟩
                case measure => simp [intOf]; omega
              · obtain ⟨d, hd, r0, r1⟩ := HP.out (by omega)
                rw [hd] at he
                have hEV : EE k = if (c.2 < d.2 ∨ (c.2 = d.2 ∧ c.1 ≤ d.1)) then 11 else 0 := by
                  rw [he]
                  by_cases q : 0 ≤ rowI d c
                  · rw [if_pos ⟨by omega, q⟩, if_pos ((rowI_ref d c).1 q)]
                  · rw [if_neg (fun h => q h.2), if_neg (fun h => q ((rowI_ref d c).2 h))]
                have q0 := cell_later HB2.out HQ.out.1
                have q1 := cell_later HB2.out HQ.out.2
                replace r0 := cell_later HB2.out r0
                replace r1 := cell_later HB2.out r1
                have hgd : decide ((0 : Int) < (k : Int)) = true := decide_eq_true (by omega)
                have hg0 : (0 : Int) < (k : Int) := by omega
                have hgn : decide (0 < k) = true := decide_eq_true (by omega)
                have hgm : 0 < k := by omega
                have hkw : IntKind.i64.wrap ((k : Int) - 1) = ((k - 1 : Nat) : Int) := by rw [IntWalk.i64_in _ (by omega)]; omega
                have hj1 : (0 : Int) ≤ ((k - 1 : Nat) : Int) := by omega
                have hj2 : ((k - 1 : Nat) : Int) < (cs.length : Int) := by omega
                generalize hkk : k - 1 = j at *
                clear hd he hkk h0
                have HEV := Lib.hid hEV
                clear hEV
                by_cases c1 : c.2 < d.2
                · have he := HEV.out
                  rw [if_pos (.inl c1)] at he
                  have hxx := HAK.out (by rw [he]; decide)
                  rw [he] at hxx
                  subst hxx
                  have b1 : decide (c.2 < d.2) = true := decide_eq_true c1
                  go_wp2
                  go_quiet (fail)
                  go_wp2
                  go_ret
                  exact ⟨rfl, bl_tr HA.out (bl_tr HB3.out (bl_drn _ _))⟩
                · have b1 : decide (c.2 < d.2) = false := decide_eq_false c1
                  by_cases c2 : c.2 = d.2
                  · have b2 : (c.2 == d.2) = true := by rw [beq_iff_eq]; exact c2
                    by_cases c3 : c.1 ≤ d.1
                    · have he := HEV.out
                      rw [if_pos (.inr ⟨c2, c3⟩)] at he
                      have hxx := HAK.out (by rw [he]; decide)
                      rw [he] at hxx
                      subst hxx
                      have b3 : decide (c.1 ≤ d.1) = true := decide_eq_true c3
                      clear c2
                      go_wp2
                      go_quiet (fail)
                      go_wp2
                      go_ret
                      exact ⟨rfl, bl_tr HA.out (bl_tr HB3.out (bl_drn _ _))⟩
                    · have he := HEV.out
                      rw [if_neg (fun h => by rcases h with h | h; exact c1 h; exact c3 h.2)] at he
                      have HN1 := Lib.hid (HNX.out.trans he)
                      have b3 : decide (c.1 ≤ d.1) = false := decide_eq_false c3
                      clear c2
                      go_wp2
                      go_quiet (fail)
                      go_wp2
                      go_roundw
                      case rel => exact ⟨k + 1, by omega, by go_num, HN1.out, bl_tr HB3.out (bl_drn _ _)⟩
                      case measure => simp [intOf]; omega
                  · have he := HEV.out
                    rw [if_neg (fun h => by rcases h with h | h; exact c1 h; exact c2 h.1)] at he
                    have HN1 := Lib.hid (HNX.out.trans he)
                    have b2 : (c.2 == d.2) = false := by rw [beq_eq_false_iff_ne]; exact c2
                    go_wp2
                    go_quiet (fail)
                    go_wp2
                    go_roundw
                    case rel => exact ⟨k + 1, by omega, by go_num, HN1.out, bl_tr HB3.out (bl_drn _ _)⟩
                    case measure => simp [intOf]; omega
        · obtain rfl : k = cs.length := by omega
          have hge2 : ¬ (cs.length : Int) < (cs.length : Int) := by omega
          have hE0 : E = 0 := HEND.out.trans ht
          subst hE0
          go_wp2
          go_ret
          exact ⟨rfl, bl_tr HA.out hB⟩
end Go.Proofs.YtgbhafadibdmcaaDoor

/- Tables within a cluster: the reference's Row. -/
namespace Go.Proofs.YtgbhafadibdmcaaDoor
open Go.RowKit

theorem own_emptyU {w : World} {B : Nat} (t : TypeId) (hB : B ≤ w.heap.size) : (w.alloc (.cells #[] t)).ownsRow B t 1 (.slice (some ⟨w.heap.size, 0, none⟩) 0 0) 0 [] :=
  ⟨rfl, .inr ⟨w.heap.size, 0, #[], rfl, hB, heap_alloc_new w _, Nat.le_refl _, Nat.zero_le _, rfl, rfl⟩⟩
theorem own_shU {W : World} {base n : Nat} {v : Value} {xs : List Value} (h : W.ownsRow base 36 1 v n xs) : ∃ a c, v = .slice a n c := by
  rcases h.2 with ⟨rfl, rfl⟩ | ⟨g, cap, cur, rfl, _⟩
  · exact ⟨none, 0, rfl⟩
  · exact ⟨_, _, rfl⟩
theorem rowU_own2 {W : World} {base n c : Nat} {a : Option Addr} {zs : List Int} (h : W.ownsRow base 36 1 (.slice a n c) n (cellsU zs)) (hl : zs.length = n) : RowU W a zs := by
  rcases h.2 with ⟨e, h0⟩ | ⟨g, cap, cur, e, hb, hg, _⟩
  · exact .inl (List.eq_nil_of_length_eq_zero (by omega))
  · cases e
    exact rowU_own h
theorem own_lowU {W : World} {base base' n : Nat} {v : Value} {xs : List Value} (h : W.ownsRow base 36 1 v n xs) (hb : base' ≤ base) : W.ownsRow base' 36 1 v n xs := by
  refine ⟨h.1, ?_⟩
  rcases h.2 with h | ⟨g, cap, cur, h1, h2, h3⟩
  · exact .inl h
  · exact .inr ⟨g, cap, cur, h1, Nat.le_trans hb h2, h3⟩
/-- The same, and the row is one's own. -/
def Row13O (L : List Int) (w : World) (e : Ending) (w' : World) : Prop := ∃ a c, e = .returned (.slice a L.length c) ∧ w'.ownsRow w.heap.size 36 1 (.slice a L.length c) L.length (cellsU L) ∧ Below w.heap.size w w'
set_option maxRecDepth 100000 in
set_option maxHeartbeats 8000000 in
theorem row13_own (A B X Y : Int) (U V : Nat) (a : Option Addr) (cap : Nat) (zs : List Int) (p : IC) (ca : Option Addr) (cc : Nat) (cs : List IC) (w : World) (hr : RowH w a zs) (hz : AllH zs) (hn : (zs.length : Int) = A * B) (hx : BoxOn A B X Y U V) (hp : inBx (X, Y, (U : Int), (V : Int)) p = true) (hcs : RowC w ca cs) (hci : ∀ d ∈ cs, inBx (X, Y, (U : Int), (V : Int)) d = true) (hl : cs.length ≤ 1048576) :
    Calls Tryd.prog 42 #[.agg #[.int .i64 A, .int .i64 B, .slice a zs.length cap], .agg #[.int .i64 X, .int .i64 Y, .int .i64 U, .int .i64 V], .agg #[.int .i64 p.1, .int .i64 p.2], .slice ca cs.length cc] w (Row13O (rowO A (X, Y, (U : Int), (V : Int)) zs p cs) w) := by
  have hA := bl0 w
  obtain ⟨i0, hi0, hz0, hz1, hz2⟩ := info_parts Tryd.infoU
  have H1 := Lib.hid (fun w hr => far8_any A B X Y U V a cap zs p w hr hz hn hx hp)
  have HNU := Lib.hid (fun (d : IC) (hd : inBx (X, Y, (U : Int), (V : Int)) d = true) => (show (IntKind.i64.wrap (d.2 * A) = d.2 * A ∧ IntKind.i64.wrap (d.2 * A + d.1) = (numN A d : Int)) ∧ numN A d < zs.length by
    obtain ⟨o1, _⟩ := hx.on hd
    obtain ⟨i1, i2⟩ := numN_int o1
    exact ⟨num_on o1, by omega⟩))
  have hfl := farO_len A (X, Y, (U : Int), (V : Int)) zs p
  have hrl := rowO_len A (X, Y, (U : Int), (V : Int)) zs p cs
  have HRT := Lib.hid (show ∀ (k : Nat) (hk : k < cs.length), (rowO A (X, Y, (U : Int), (V : Int)) zs p cs).take (k + 1) = (rowO A (X, Y, (U : Int), (V : Int)) zs p cs).take k ++ [atD (farO A (X, Y, (U : Int), (V : Int)) zs p) (numN A cs[k])] from fun k hk => by
    rw [List.take_succ_eq_append_getElem (by rw [rowO_len]; exact hk)]
    congr 2
    simp [rowO])
  obtain ⟨FO, hFO⟩ : ∃ FO, farO A (X, Y, (U : Int), (V : Int)) zs p = FO := ⟨_, rfl⟩
  obtain ⟨R, hR⟩ : ∃ R, rowO A (X, Y, (U : Int), (V : Int)) zs p cs = R := ⟨_, rfl⟩
  rw [hFO] at H1 hfl HRT
  rw [hR] at hrl HRT ⊢
  have HFL := Lib.hid hfl
  have HRL := Lib.hid hrl
  have HCI := Lib.hid hci
  clear hz hn hx hp hci hfl hrl hFO hR
  have hl2 : (cs.length : Int) ≤ 1048576 := by omega
  go_enter Tryd.func42, Tryd.ntmps42
  go_wp2_with fail
  refine (H1.out _ (hr.below (by first | exact hA | exact (bl_al hA _) | exact (bl_dr (bl_al hA _)) | exact (bl_al (bl_al hA _) _) | exact (bl_dr (bl_al (bl_al hA _) _)) | exact (bl_al (bl_al (bl_al hA _) _) _) | exact (bl_dr (bl_al (bl_al (bl_al hA _) _) _)) | exact (bl_al (bl_al (bl_al (bl_al hA _) _) _) _) | exact (bl_dr (bl_al (bl_al (bl_al (bl_al hA _) _) _) _)) | exact (bl_al (bl_al (bl_al (bl_al (bl_al hA _) _) _) _) _) | exact (bl_dr (bl_al (bl_al (bl_al (bl_al (bl_al hA _) _) _) _) _)) | exact (bl_al (bl_al (bl_al (bl_al (bl_al (bl_al hA _) _) _) _) _) _) | exact (bl_dr (bl_al (bl_al (bl_al (bl_al (bl_al (bl_al hA _) _) _) _) _) _)) | exact (bl_dr hA)))).mono ?_
  rintro e w1 ⟨g, rfl, hfu, hb⟩
  have hk : Below w.heap.size w w1 := by first | exact hb | exact bl_tr (bl_al (bl0 _) _) hb | exact bl_tr (bl_dr (bl_al (bl0 _) _)) hb | exact bl_tr (bl_al (bl_al (bl0 _) _) _) hb | exact bl_tr (bl_dr (bl_al (bl_al (bl0 _) _) _)) hb | exact bl_tr (bl_al (bl_al (bl_al (bl0 _) _) _) _) hb | exact bl_tr (bl_dr (bl_al (bl_al (bl_al (bl0 _) _) _) _)) hb | exact bl_tr (bl_al (bl_al (bl_al (bl_al (bl0 _) _) _) _) _) hb | exact bl_tr (bl_dr (bl_al (bl_al (bl_al (bl_al (bl0 _) _) _) _) _)) hb | exact bl_tr (bl_al (bl_al (bl_al (bl_al (bl_al (bl0 _) _) _) _) _) _) hb | exact bl_tr (bl_dr (bl_al (bl_al (bl_al (bl_al (bl_al (bl0 _) _) _) _) _) _)) hb | exact bl_tr (bl_al (bl_al (bl_al (bl_al (bl_al (bl_al (bl0 _) _) _) _) _) _) _) hb | exact bl_tr (bl_dr (bl_al (bl_al (bl_al (bl_al (bl_al (bl_al (bl0 _) _) _) _) _) _) _)) hb | exact bl_tr (bl_dr (bl0 _)) hb
  replace hA := bl_tr hA hk
  have f0 := cell_later hb (v := .int .i64 A) (a := ⟨w.heap.size, 0, none⟩) (by simp [go_sem])
  clear hb hk
  have zf0 := blk_lt f0
  have HFU := Lib.hid hfu
  have HRC := Lib.hid (hcs.below hA)
  have HA := Lib.hid hA
  have F0 := Lib.hid f0
  have HZ := Lib.hid (own_emptyU (w := w1) (B := w1.heap.size) 36 (Nat.le_refl _))
  clear hfu hr hcs hA f0
  go_wp2_with fail
  go_loopw [10, 11] (fun ov iv wr => ∃ k : Nat, k ≤ cs.length ∧ iv = .int .i64 k ∧ wr.ownsRow w1.heap.size 36 1 ov k (cellsU (R.take k)) ∧ Below w1.heap.size w1 wr) (fun _ iv _ => cs.length - (intOf iv).toNat)
  case atStart => exact ⟨0, Nat.zero_le _, rfl, HZ.out, bl_al (bl0 _) _⟩
  case round =>
    obtain ⟨k, hk, rfl, hown, hB⟩ := hrel
    have hk0 : (0 : Int) ≤ (k : Int) := by omega
    by_cases hlt : k < cs.length
    · have hlt2 : (k : Int) < (cs.length : Int) := by omega
      obtain ⟨cb, co, rfl, u0, u1⟩ := (HRC.out.below hB).cell hlt
      have hin := HCI.out _ (List.getElem_mem hlt)
      have hrt := HRT.out k hlt
      obtain ⟨d, hd⟩ : ∃ d, cs[k] = d := ⟨_, rfl⟩
      have HDK := Lib.hid hd
      rw [hd] at u0 u1 hin hrt
      obtain ⟨⟨n1, n2⟩, n3⟩ := HNU.out d hin
      obtain ⟨ix, hix⟩ : ∃ ix, numN A d = ix := ⟨_, rfl⟩
      rw [hix] at n2 n3 hrt
      have hif : ix < FO.length := by rw [HFL.out]; exact n3
      obtain ⟨fb, fo, hh, qf⟩ := (HFU.out.below hB).cell hif
      cases hh
      obtain ⟨v, hv⟩ : ∃ v, atD FO ix = v := ⟨_, rfl⟩
      have HVK := Lib.hid hv
      rw [hv] at qf hrt
      rw [Nat.zero_add] at qf
      have hx0 : (0 : Int) ≤ (ix : Int) := by omega
      have hx1 : (ix : Int) < (zs.length : Int) := by omega
      have f0 := cell_later hB F0.out
      have zf := blk_lt f0
      have HRT2 := Lib.hid hrt
      obtain ⟨va, vc, rfl⟩ := own_shU hown
      clear hd hin hrt hix hv
      go_upto_region 6 with fail
      have hD := bl_dr (bl0 wr)
      refine (wpIn_wide (n := 11)).1 ?_
      refine ordS_begin (S := (fun W9 : World => W9.cell? ⟨w.heap.size, 0, none⟩ = some (.int .i64 A) ∧ W9.cell? ⟨cb, co + k * 2, none⟩ = some (.int .i64 d.1) ∧ W9.cell? ⟨cb, co + k * 2 + 1, none⟩ = some (.int .i64 d.2) ∧ W9.cell? ⟨g, ix, none⟩ = some (.int .u64 v))) (by kernel_rfl) ⟨cell_later hD f0, cell_later hD u0, cell_later hD u1, cell_later hD qf⟩ (fun hH => ?_)
      refine' ordS_take (i := 0) (oi := { dst := some 23, op := Op.move (Operand.tmp 10), type := 42, pos := _, after := #[], guard := none }) (v := _) rfl (by kernel_rfl) (by kernel_rfl) (by kernel_rfl) (by kernel_rfl) (fun _ _ _ h => h) (by assumption) (Or.inl ⟨by rfl, ?hy408⟩) (fun _ => rfl) ?rest408
      case hy408 => (intro w hSw; (try dsimp only at hSw); go_simp; try with_reducible rfl)
      try simp only [Act.put, List.setIfInBounds_toArray, List.set_cons_zero, List.set_cons_succ]
      refine' ordS_take (i := 1) (oi := { dst := some 24, op := Op.move (Operand.tmp 9), type := 42, pos := _, after := #[], guard := none }) (v := _) rfl (by kernel_rfl) (by kernel_rfl) (by kernel_rfl) (by kernel_rfl) (fun _ _ _ h => h) (by assumption) (Or.inl ⟨by rfl, ?hy409⟩) (fun _ => rfl) ?rest409
      case hy409 => (intro w hSw; (try dsimp only at hSw); go_simp; try with_reducible rfl)
      try simp only [Act.put, List.setIfInBounds_toArray, List.set_cons_zero, List.set_cons_succ]
      refine' ordS_take (i := 2) (oi := { dst := some 25, op := Op.move (Operand.tmp 3), type := 35, pos := _, after := #[], guard := none }) (v := _) rfl (by kernel_rfl) (by kernel_rfl) (by kernel_rfl) (by kernel_rfl) (fun _ _ _ h => h) (by assumption) (Or.inl ⟨by rfl, ?hy410⟩) (fun _ => rfl) ?rest410
      case hy410 => (intro w hSw; (try dsimp only at hSw); go_simp; try with_reducible rfl)
      try simp only [Act.put, List.setIfInBounds_toArray, List.set_cons_zero, List.set_cons_succ]
      refine' ordS_take (i := 3) (oi := { dst := some 26, op := Op.move (Operand.tmp 11), type := 3, pos := _, after := #[], guard := none }) (v := _) rfl (by kernel_rfl) (by kernel_rfl) (by kernel_rfl) (by kernel_rfl) (fun _ _ _ h => h) (by assumption) (Or.inl ⟨by rfl, ?hy411⟩) (fun _ => rfl) ?rest411
      case hy411 => (intro w hSw; (try dsimp only at hSw); go_simp; try with_reducible rfl)
      try simp only [Act.put, List.setIfInBounds_toArray, List.set_cons_zero, List.set_cons_succ]
      refine' ordS_take (i := 4) (oi := { dst := some 27, op := Op.indexAddr 35 (Operand.tmp 25) (Operand.tmp 26), type := 0, pos := _, after := #[{ on := 2, ground := Ground.data }, { on := 3, ground := Ground.data }], guard := none }) (v := _) rfl (by kernel_rfl) (by kernel_rfl) (by kernel_rfl) (by kernel_rfl) (fun _ _ _ h => h) (by assumption) (Or.inl ⟨by rfl, ?hy412⟩) (fun _ => rfl) ?rest412
      case hy412 => (intro w hSw; (try dsimp only at hSw); go_simp; try with_reducible rfl)
      try simp only [Act.put, List.setIfInBounds_toArray, List.set_cons_zero, List.set_cons_succ]
      refine' ordS_take (i := 5) (oi := { dst := some 28, op := Op.fieldAddr 30 (Operand.tmp 27) 1, type := 0, pos := _, after := #[{ on := 4, ground := Ground.data }], guard := none }) (v := _) rfl (by kernel_rfl) (by kernel_rfl) (by kernel_rfl) (by kernel_rfl) (fun _ _ _ h => h) (by assumption) (Or.inl ⟨by rfl, ?hy413⟩) (fun _ => rfl) ?rest413
      case hy413 => (intro w hSw; (try dsimp only at hSw); go_simp; try with_reducible rfl)
      try simp only [Act.put, List.setIfInBounds_toArray, List.set_cons_zero, List.set_cons_succ]
      refine' ordS_take (i := 6) (oi := { dst := some 29, op := Op.load 3 (Operand.tmp 28), type := 3, pos := _, after := #[{ on := 5, ground := Ground.data }], guard := none }) (v := _) rfl (by kernel_rfl) (by kernel_rfl) (by kernel_rfl) (by kernel_rfl) (fun _ _ _ h => h) (by assumption) (Or.inl ⟨by rfl, ?hy414⟩) (fun _ => rfl) ?rest414
      case hy414 => (intro w hSw; (try dsimp only at hSw); go_simp; try with_reducible rfl)
      try simp only [Act.put, List.setIfInBounds_toArray, List.set_cons_zero, List.set_cons_succ]
      refine' ordS_take (i := 7) (oi := { dst := some 30, op := Op.fieldAddr 26 (Operand.tmp 4) 0, type := 0, pos := _, after := #[], guard := none }) (v := _) rfl (by kernel_rfl) (by kernel_rfl) (by kernel_rfl) (by kernel_rfl) (fun _ _ _ h => h) (by assumption) (Or.inl ⟨by rfl, ?hy415⟩) (fun _ => rfl) ?rest415
      case hy415 => (intro w hSw; (try dsimp only at hSw); go_simp; try with_reducible rfl)
      try simp only [Act.put, List.setIfInBounds_toArray, List.set_cons_zero, List.set_cons_succ]
      refine' ordS_take (i := 8) (oi := { dst := some 31, op := Op.fieldAddr 23 (Operand.tmp 30) 0, type := 0, pos := _, after := #[{ on := 7, ground := Ground.data }], guard := none }) (v := _) rfl (by kernel_rfl) (by kernel_rfl) (by kernel_rfl) (by kernel_rfl) (fun _ _ _ h => h) (by assumption) (Or.inl ⟨by rfl, ?hy416⟩) (fun _ => rfl) ?rest416
      case hy416 => (intro w hSw; (try dsimp only at hSw); go_simp; try with_reducible rfl)
      try simp only [Act.put, List.setIfInBounds_toArray, List.set_cons_zero, List.set_cons_succ]
      refine' ordS_take (i := 9) (oi := { dst := some 32, op := Op.load 3 (Operand.tmp 31), type := 3, pos := _, after := #[{ on := 8, ground := Ground.data }], guard := none }) (v := _) rfl (by kernel_rfl) (by kernel_rfl) (by kernel_rfl) (by kernel_rfl) (fun _ _ _ h => h) (by assumption) (Or.inl ⟨by rfl, ?hy417⟩) (fun _ => rfl) ?rest417
      case hy417 => (intro w hSw; (try dsimp only at hSw); go_simp; try with_reducible rfl)
      try simp only [Act.put, List.setIfInBounds_toArray, List.set_cons_zero, List.set_cons_succ]
      refine' ordS_take (i := 10) (oi := { dst := some 33, op := Op.binOp BinOp.mul 3 (Operand.tmp 29) (Operand.tmp 32) 3, type := 3, pos := _, after := #[{ on := 6, ground := Ground.data }, { on := 9, ground := Ground.data }], guard := none }) (v := _) rfl (by kernel_rfl) (by kernel_rfl) (by kernel_rfl) (by kernel_rfl) (fun _ _ _ h => h) (by assumption) (Or.inl ⟨by rfl, ?hy418⟩) (fun _ => rfl) ?rest418
      case hy418 => (intro w hSw; (try dsimp only at hSw); go_simp; try with_reducible rfl)
      try simp only [Act.put, List.setIfInBounds_toArray, List.set_cons_zero, List.set_cons_succ]
      refine' ordS_take (i := 11) (oi := { dst := some 34, op := Op.move (Operand.tmp 3), type := 35, pos := _, after := #[], guard := none }) (v := _) rfl (by kernel_rfl) (by kernel_rfl) (by kernel_rfl) (by kernel_rfl) (fun _ _ _ h => h) (by assumption) (Or.inl ⟨by rfl, ?hy419⟩) (fun _ => rfl) ?rest419
      case hy419 => (intro w hSw; (try dsimp only at hSw); go_simp; try with_reducible rfl)
      try simp only [Act.put, List.setIfInBounds_toArray, List.set_cons_zero, List.set_cons_succ]
      refine' ordS_take (i := 12) (oi := { dst := some 35, op := Op.move (Operand.tmp 11), type := 3, pos := _, after := #[], guard := none }) (v := _) rfl (by kernel_rfl) (by kernel_rfl) (by kernel_rfl) (by kernel_rfl) (fun _ _ _ h => h) (by assumption) (Or.inl ⟨by rfl, ?hy420⟩) (fun _ => rfl) ?rest420
      case hy420 => (intro w hSw; (try dsimp only at hSw); go_simp; try with_reducible rfl)
      try simp only [Act.put, List.setIfInBounds_toArray, List.set_cons_zero, List.set_cons_succ]
      refine' ordS_take (i := 13) (oi := { dst := some 36, op := Op.indexAddr 35 (Operand.tmp 34) (Operand.tmp 35), type := 0, pos := _, after := #[{ on := 11, ground := Ground.data }, { on := 12, ground := Ground.data }], guard := none }) (v := _) rfl (by kernel_rfl) (by kernel_rfl) (by kernel_rfl) (by kernel_rfl) (fun _ _ _ h => h) (by assumption) (Or.inl ⟨by rfl, ?hy421⟩) (fun _ => rfl) ?rest421
      case hy421 => (intro w hSw; (try dsimp only at hSw); go_simp; try with_reducible rfl)
      try simp only [Act.put, List.setIfInBounds_toArray, List.set_cons_zero, List.set_cons_succ]
      refine' ordS_take (i := 14) (oi := { dst := some 37, op := Op.fieldAddr 30 (Operand.tmp 36) 0, type := 0, pos := _, after := #[{ on := 13, ground := Ground.data }], guard := none }) (v := _) rfl (by kernel_rfl) (by kernel_rfl) (by kernel_rfl) (by kernel_rfl) (fun _ _ _ h => h) (by assumption) (Or.inl ⟨by rfl, ?hy422⟩) (fun _ => rfl) ?rest422
      case hy422 => (intro w hSw; (try dsimp only at hSw); go_simp; try with_reducible rfl)
      try simp only [Act.put, List.setIfInBounds_toArray, List.set_cons_zero, List.set_cons_succ]
      refine' ordS_take (i := 15) (oi := { dst := some 38, op := Op.load 3 (Operand.tmp 37), type := 3, pos := _, after := #[{ on := 14, ground := Ground.data }], guard := none }) (v := _) rfl (by kernel_rfl) (by kernel_rfl) (by kernel_rfl) (by kernel_rfl) (fun _ _ _ h => h) (by assumption) (Or.inl ⟨by rfl, ?hy423⟩) (fun _ => rfl) ?rest423
      case hy423 => (intro w hSw; (try dsimp only at hSw); go_simp; try with_reducible rfl)
      try simp only [Act.put, List.setIfInBounds_toArray, List.set_cons_zero, List.set_cons_succ]
      refine' ordS_take (i := 16) (oi := { dst := some 39, op := Op.binOp BinOp.add 3 (Operand.tmp 33) (Operand.tmp 38) 3, type := 3, pos := _, after := #[{ on := 10, ground := Ground.data }, { on := 15, ground := Ground.data }], guard := none }) (v := _) rfl (by kernel_rfl) (by kernel_rfl) (by kernel_rfl) (by kernel_rfl) (fun _ _ _ h => h) (by assumption) (Or.inl ⟨by rfl, ?hy424⟩) (fun _ => rfl) ?rest424
      case hy424 => (intro w hSw; (try dsimp only at hSw); go_simp; try with_reducible rfl)
      try simp only [Act.put, List.setIfInBounds_toArray, List.set_cons_zero, List.set_cons_succ]
      refine' ordS_take (i := 17) (oi := { dst := some 40, op := Op.indexAddr 42 (Operand.tmp 24) (Operand.tmp 39), type := 0, pos := _, after := #[{ on := 1, ground := Ground.data }, { on := 16, ground := Ground.data }], guard := none }) (v := _) rfl (by kernel_rfl) (by kernel_rfl) (by kernel_rfl) (by kernel_rfl) (fun _ _ _ h => h) (by assumption) (Or.inl ⟨by rfl, ?hy425⟩) (fun _ => rfl) ?rest425
      case hy425 => (intro w hSw; (try dsimp only at hSw); go_simp; try with_reducible rfl)
      try simp only [Act.put, List.setIfInBounds_toArray, List.set_cons_zero, List.set_cons_succ]
      refine' ordS_take (i := 18) (oi := { dst := some 41, op := Op.load 36 (Operand.tmp 40), type := 36, pos := _, after := #[{ on := 17, ground := Ground.data }], guard := none }) (v := _) rfl (by kernel_rfl) (by kernel_rfl) (by kernel_rfl) (by kernel_rfl) (fun _ _ _ h => h) (by assumption) (Or.inl ⟨by rfl, ?hy426⟩) (fun _ => rfl) ?rest426
      case hy426 => (intro w hSw; (try dsimp only at hSw); go_simp; try with_reducible rfl)
      try simp only [Act.put, List.setIfInBounds_toArray, List.set_cons_zero, List.set_cons_succ]
      obtain ⟨W2, hW2⟩ : ∃ W2, wr.drew = W2 := ⟨_, rfl⟩
      rw [hW2] at hD hH
      rw [hW2]
      clear hW2
      have hown2 := own_later hown hD
      have hB2 := bl_tr hB hD
      replace f0 := cell_later hD f0; replace u0 := cell_later hD u0; replace u1 := cell_later hD u1; replace qf := cell_later hD qf
      refine ordS_one (i := 19) (o := { dst := some 42, op := Op.buildSlice 42 1 #[(0, Operand.tmp 41)], type := 42, pos := _, after := #[{ on := 18, ground := Ground.data }], guard := none }) (by kernel_rfl) rfl (by rfl) (fun K hK => ?_)
      go_simp
      have hb := bl_al (bl0 W2) (.cells #[.int .u64 v] 36)
      have hS3 := And.intro (cell_later hb f0) (And.intro (cell_later hb u0) (And.intro (cell_later hb u1) (cell_later hb qf)))
      refine hK _ _ hS3 ?_
      clear hK K
      try simp only [Act.put, List.setIfInBounds_toArray, List.set_cons_zero, List.set_cons_succ]
      refine ordS_append (i := 20) (o := { dst := some 43, op := Op.call { callee := Callee.builtin Builtin.append, args := #[Operand.tmp 23, Operand.tmp 42], argTypes := #[42, 42] }, type := 42, pos := _, after := #[{ on := 0, ground := Ground.data }, { on := 19, ground := Ground.data }], guard := none }) _ (by kernel_rfl) rfl (by rfl) _ _ 42 rfl w1.heap.size 36 i0 (.int .u64 0) 1 8 Tryd.underlying42 hi0 hz0 hz1 hz2 rfl (by decide) _ _ _ rfl (own_later hown2 hb) ⟨W2.heap.size, 0, none⟩ 1 1 [.int .u64 v] rfl rfl ?c1 ?c2 ?c3 ?c4 ?c5 ?_
      case c1 =>
        intro j u hu
        match j with
        | 0 => simp at hu; subst hu; simp [go_sem]
        | j + 1 => simp at hu
      case c2 => intro u' hu; simp at hu; rcases hu with rfl; rfl
      case c3 => unfold maxLen; omega
      case c4 => omega
      case c5 => (have := hB2.size; first | (simp; omega) | omega)
      intro v2 w10 hown' hgrow
      have hB5 : Below w1.heap.size w1 w10 := (bl_al hB2 (.cells #[.int .u64 v] 36)).grown hgrow (by have := hB2.size; simp; omega) (fun j hj => by have := ((own_later hown2 hb).lt j hj).1; omega)
      have hnb : ∀ j, j < w1.heap.size → some j ≠ (Value.slice va k vc).ownBlock := fun j hj e => by have := ((own_later hown2 hb).lt j e.symm).1; omega
      have hS10 := And.intro (cell_later hB5 F0.out) (And.intro (show w10.cell? ⟨cb, co + k * 2, none⟩ = some (.int .i64 d.1) from by
        obtain ⟨cb', co', h1, h2, h3⟩ := (HRC.out.below hB5).cell hlt
        cases h1
        rw [HDK.out] at h2
        exact h2) (And.intro (show w10.cell? ⟨cb, co + k * 2 + 1, none⟩ = some (.int .i64 d.2) from by
        obtain ⟨cb', co', h1, h2, h3⟩ := (HRC.out.below hB5).cell hlt
        cases h1
        rw [HDK.out] at h3
        exact h3) (show w10.cell? ⟨g, ix, none⟩ = some (.int .u64 v) from by
        obtain ⟨fb', fo', h1, h2⟩ := (HFU.out.below hB5).cell hif
        cases h1
        rw [HVK.out, Nat.zero_add] at h2
        exact h2)))
      refine ⟨hS10, ?_⟩
      try simp only [Act.put, List.setIfInBounds_toArray, List.set_cons_zero, List.set_cons_succ]
      first
        | (refine' ordS_take (i := 21) (oi := { dst := some 10, op := Op.assign (Operand.tmp 43), type := 42, pos := _, after := #[{ on := 20, ground := Ground.data }, { on := 20, ground := Ground.chain }, { on := 0, ground := Ground.phase }, { on := 1, ground := Ground.phase }, { on := 2, ground := Ground.phase }, { on := 3, ground := Ground.phase }, { on := 4, ground := Ground.phase }, { on := 5, ground := Ground.phase }, { on := 6, ground := Ground.phase }, { on := 7, ground := Ground.phase }, { on := 8, ground := Ground.phase }, { on := 9, ground := Ground.phase }, { on := 10, ground := Ground.phase }, { on := 11, ground := Ground.phase }, { on := 12, ground := Ground.phase }, { on := 13, ground := Ground.phase }, { on := 14, ground := Ground.phase }, { on := 15, ground := Ground.phase }, { on := 16, ground := Ground.phase }, { on := 17, ground := Ground.phase }, { on := 18, ground := Ground.phase }, { on := 19, ground := Ground.phase }, { on := 20, ground := Ground.phase }], guard := none }) (v := _) rfl (by kernel_rfl) (by kernel_rfl) (by kernel_rfl) (by kernel_rfl) (fun _ _ _ h => h) (by assumption) (Or.inl ⟨by rfl, ?hy427⟩) (fun _ => rfl) ?rest427
           case hy427 => (intro w hSw; (try dsimp only at hSw); go_simp; try with_reducible rfl))
        | (refine ordS_take (i := 21) (oi := { dst := some 10, op := Op.assign (Operand.tmp 43), type := 42, pos := _, after := #[{ on := 20, ground := Ground.data }, { on := 20, ground := Ground.chain }, { on := 0, ground := Ground.phase }, { on := 1, ground := Ground.phase }, { on := 2, ground := Ground.phase }, { on := 3, ground := Ground.phase }, { on := 4, ground := Ground.phase }, { on := 5, ground := Ground.phase }, { on := 6, ground := Ground.phase }, { on := 7, ground := Ground.phase }, { on := 8, ground := Ground.phase }, { on := 9, ground := Ground.phase }, { on := 10, ground := Ground.phase }, { on := 11, ground := Ground.phase }, { on := 12, ground := Ground.phase }, { on := 13, ground := Ground.phase }, { on := 14, ground := Ground.phase }, { on := 15, ground := Ground.phase }, { on := 16, ground := Ground.phase }, { on := 17, ground := Ground.phase }, { on := 18, ground := Ground.phase }, { on := 19, ground := Ground.phase }, { on := 20, ground := Ground.phase }], guard := none }) (v := undef) rfl (by kernel_rfl) (by kernel_rfl) (by kernel_rfl) (by kernel_rfl) (fun _ _ _ h => h) (by assumption) (Or.inr ⟨by rfl, rfl⟩) (fun _ => rfl) ?_)
      try simp only [Act.put, List.setIfInBounds_toArray, List.set_cons_zero, List.set_cons_succ]
      refine ordS_done (by kernel_rfl) ?_
      have e : cellsU (R.take k) ++ [.int .u64 v] = cellsU (R.take (k + 1)) := by rw [HRT2.out]; simp [cellsU]
      rw [e] at hown'
      clear hgrow hown hown2 hB2 hS3 hb hS10 hH hD f0 u0 u1 qf zf e
      go_wp2
      go_roundw
      case rel => exact ⟨k + 1, by omega, by go_num, hown', hB5⟩
      case measure => simp [intOf]; omega
    · obtain rfl : k = cs.length := by omega
      have hge : ¬ (cs.length : Int) < (cs.length : Int) := by omega
      obtain ⟨va, vc, rfl⟩ := own_shU hown
      have hall : R.take cs.length = R := by rw [← HRL.out]; exact List.take_length
      rw [hall] at hown
      have HRU := Lib.hid (own_lowU hown HA.out.size)
      have HA9 := Lib.hid (bl_tr HA.out hB)
      clear hown hB hall
      go_wp2
      go_ret
      exact ⟨va, vc, by rw [HRL.out]; rfl, by rw [HRL.out]; exact HRU.out, HA9.out⟩
end Go.Proofs.YtgbhafadibdmcaaDoor

/- Tables within a cluster: the reference's Of. -/
namespace Go.Proofs.YtgbhafadibdmcaaDoor
open Go.RowKit

/-- Rows of costs in a row of one's own. -/
def TRows (W : World) (base : Nat) (v : Value) (rs : List (List Int)) : Prop :=
  ∃ vals : List Value, W.ownsRow base 42 1 v rs.length vals ∧ ∀ (i : Nat) (u : Value) (r : List Int), vals[i]? = some u → rs[i]? = some r → ∃ ra rc, u = .slice ra r.length rc ∧ W.ownsRow base 36 1 (.slice ra r.length rc) r.length (cellsU r)
theorem TRows.nil (W : World) (base : Nat) : TRows W base (.slice none 0 0) [] :=
  ⟨[], ⟨rfl, .inl ⟨rfl, rfl⟩⟩, fun i u r h => by simp at h⟩
theorem TRows.later {W W' : World} {base : Nat} {v : Value} {rs : List (List Int)} (h : TRows W base v rs) (hb : Below W.heap.size W W') : TRows W' base v rs := by
  obtain ⟨vals, h1, h2⟩ := h
  refine ⟨vals, own_later h1 hb, fun i u r a b => ?_⟩
  obtain ⟨ra, rc, e, ho⟩ := h2 i u r a b
  exact ⟨ra, rc, e, own_later ho hb⟩
theorem TRows.set {W : World} {base T o : Nat} {v x : Value} {rs : List (List Int)} (h : TRows W base v rs) (hT : T < base) : TRows (W.setCell ⟨T, o, none⟩ x) base v rs := by
  obtain ⟨vals, h1, h2⟩ := h
  have key : ∀ {e : TypeId} {n : Nat} {u : Value} {xs : List Value}, W.ownsRow base e 1 u n xs → (W.setCell ⟨T, o, none⟩ x).ownsRow base e 1 u n xs := fun ho =>
    World.ownsRow.kept ho (hgrown_set _ _ _ _) (.inr (fun e => by have := (World.ownsRow.lt ho _ e).1; omega))
  refine ⟨vals, key h1, fun i u r a b => ?_⟩
  obtain ⟨ra, rc, e, ho⟩ := h2 i u r a b
  exact ⟨ra, rc, e, key ho⟩
theorem TRows.push {W W' : World} {base : Nat} {v v' : Value} {rs : List (List Int)} {vals : List Value} {ra : Option Addr} {rc : Nat} {r : List Int} (h1 : W.ownsRow base 42 1 v rs.length vals)
    (h2 : ∀ (i : Nat) (u : Value) (r : List Int), vals[i]? = some u → rs[i]? = some r → ∃ ra rc, u = .slice ra r.length rc ∧ W.ownsRow base 36 1 (.slice ra r.length rc) r.length (cellsU r))
    (hr : W.ownsRow base 36 1 (.slice ra r.length rc) r.length (cellsU r)) (h3 : W'.ownsRow base 42 1 v' (rs.length + 1) (vals ++ [.slice ra r.length rc])) (hg : W.grownBy W' v.ownBlock) : TRows W' base v' (rs ++ [r]) := by
  have hl : vals.length = rs.length := by have := h1.1; omega
  refine ⟨vals ++ [.slice ra r.length rc], by rw [List.length_append]; exact h3, fun i u q a b => ?_⟩
  by_cases hi : i < vals.length
  · rw [List.getElem?_append_left hi] at a
    rw [List.getElem?_append_left (by omega)] at b
    obtain ⟨qa, qc, e, ho⟩ := h2 i u q a b
    exact ⟨qa, qc, e, own_beside h1 ho (by decide) hg⟩
  · rw [List.getElem?_append_right (by omega)] at a
    rw [List.getElem?_append_right (by omega)] at b
    have hi0 : i - vals.length = 0 := by have := (List.getElem?_eq_some_iff.1 a).1; simp at this; omega
    rw [hi0] at a
    rw [show i - rs.length = 0 by omega] at b
    simp at a b
    subst a; subst b
    exact ⟨ra, rc, rfl, own_beside h1 hr (by decide) hg⟩
theorem TRows.read {W : World} {base n tc : Nat} {ta : Option Addr} {rs : List (List Int)} (h : TRows W base (.slice ta n tc) rs) : TabR W ta rs := by
  obtain ⟨vals, h1, h2⟩ := h
  have hl : vals.length = rs.length := by have := h1.1; omega
  rcases h1.2 with ⟨_, h0⟩ | ⟨g, cap, cur, e, _⟩
  · exact .inl (List.eq_nil_of_length_eq_zero h0)
  · cases e
    refine .inr ⟨g, 0, rfl, fun i r hr => ?_⟩
    have hi : i < vals.length := by rw [hl]; exact (List.getElem?_eq_some_iff.1 hr).1
    obtain ⟨ra, rc, e, ho⟩ := h2 i _ r (List.getElem?_eq_getElem hi) hr
    have hc := h1.cells (g := g) rfl i _ (List.getElem?_eq_getElem hi)
    rw [hadd, e] at hc
    exact ⟨ra, rc, by rw [Nat.zero_add]; exact hc, rowU_own2 ho rfl⟩
theorem TRows.shape {W : World} {base : Nat} {v : Value} {rs : List (List Int)} (h : TRows W base v rs) : ∃ a c, v = .slice a rs.length c := by
  obtain ⟨vals, h1, _⟩ := h
  rcases h1.2 with ⟨rfl, h0⟩ | ⟨g, cap, cur, rfl, _⟩
  · exact ⟨none, 0, by rw [h0]⟩
  · exact ⟨_, _, rfl⟩
theorem Gr.grown {q : Nat} {A B C : World} {r : Option Nat} (x : Gr q A B) (y : B.grownBy C r) (hr : ∀ j, r = some j → A.heap.size ≤ j) : Gr q A C :=
  ⟨y.os.trans x.os, y.tape.trans x.tape, y.output.trans x.output, Nat.le_trans x.size y.size, fun k hk hne => (y.block k (Nat.lt_of_lt_of_le hk x.size) (fun e => by have := hr k e.symm; omega)).trans (x.block k hk hne)⟩
/-- What Of's loop holds: all but the table lies, the table's cells stand, its rows grow. -/
structure TblI (w1 : World) (T : Nat) (ka : Option Addr) (n kc : Nat) (rs : List (List Int)) (W : World) : Prop where
  gr : Gr T w1 W
  tab : ∃ tv, W.heap[T]? = some (.cells #[.slice ka n kc, tv] 58 (0, 0)) ∧ TRows W w1.heap.size tv rs
theorem tab_set {W : World} {T : Nat} {x tv v : Value} {t : TypeId} (h : W.heap[T]? = some (.cells #[x, tv] t (0, 0))) : (W.setCell ⟨T, 1, none⟩ v).heap[T]? = some (.cells #[x, v] t (0, 0)) := by
  rw [hset_same W T 1 _ _ v h]
  simp
/-- What the reference's Of tells; its rows lie apart from all that lay before. -/
def TblR (cs : List IC) (rs : List (List Int)) (w : World) (e : Ending) (w' : World) : Prop :=
  ∃ ka kc ta tc, e = .returned (.agg #[.slice ka cs.length kc, .slice ta rs.length tc]) ∧ RowC w' ka cs ∧ TabR w' ta rs ∧ (∀ T x y, T < w.heap.size → RowC ((w'.setCell ⟨T, 0, none⟩ x).setCell ⟨T, 1, none⟩ y) ka cs ∧ TabR ((w'.setCell ⟨T, 0, none⟩ x).setCell ⟨T, 1, none⟩ y) ta rs) ∧ Below w.heap.size w w'
end Go.Proofs.YtgbhafadibdmcaaDoor

/- Tables within a cluster: the reference's Of, the walk. -/
namespace Go.Proofs.YtgbhafadibdmcaaDoor
open Go.RowKit

set_option maxRecDepth 100000 in
set_option maxHeartbeats 8000000 in
theorem rof13_any (A B X Y : Int) (U V : Nat) (a : Option Addr) (cap : Nat) (zs : List Int) (ca : Option Addr) (cc : Nat) (cs : List IC) (w : World) (hr : RowH w a zs) (hz : AllH zs) (hn : (zs.length : Int) = A * B) (hx : BoxOn A B X Y U V) (hcs : RowC w ca cs) (hci : ∀ d ∈ cs, inBx (X, Y, (U : Int), (V : Int)) d = true) (hl : cs.length ≤ 1048576) :
    Calls Tryd.prog 19 #[.agg #[.int .i64 A, .int .i64 B, .slice a zs.length cap], .agg #[.int .i64 X, .int .i64 Y, .int .i64 U, .int .i64 V], .slice ca cs.length cc] w (TblR cs (tblO A (X, Y, (U : Int), (V : Int)) zs cs) w) := by
  have hA := bl0 w
  obtain ⟨i0, hi0, hz0, hz1, hz2⟩ := info_parts Tryd.infoRU
  have H1 := Lib.hid (fun (d : IC) (hd : d ∈ cs) w hr hcs => row13_own A B X Y U V a cap zs d ca cc cs w hr hz hn hx (hci d hd) hcs hci hl)
  unfold Row13O at H1
  have hrl : ∀ d, (rowO A (X, Y, (U : Int), (V : Int)) zs d cs).length = cs.length := fun d => rowO_len A _ zs d cs
  have hLl : (tblO A (X, Y, (U : Int), (V : Int)) zs cs).length = cs.length := by simp [tblO]
  have HT := Lib.hid (show ∀ (k : Nat) (hk : k < cs.length), (tblO A (X, Y, (U : Int), (V : Int)) zs cs).take (k + 1) = (tblO A (X, Y, (U : Int), (V : Int)) zs cs).take k ++ [rowO A (X, Y, (U : Int), (V : Int)) zs cs[k] cs] from fun k hk => by
    rw [List.take_succ_eq_append_getElem (by rw [hLl]; exact hk)]
    congr 2
    simp [tblO])
  simp only [hrl] at H1
  have HRL := Lib.hid hrl
  obtain ⟨RO, hRO⟩ : ∃ RO : IC → List Int, (fun d => rowO A (X, Y, (U : Int), (V : Int)) zs d cs) = RO := ⟨_, rfl⟩
  have hRO2 : ∀ d, rowO A (X, Y, (U : Int), (V : Int)) zs d cs = RO d := fun d => congrFun hRO d
  simp only [hRO2] at H1 HT HRL
  obtain ⟨L, hL⟩ : ∃ L, tblO A (X, Y, (U : Int), (V : Int)) zs cs = L := ⟨_, rfl⟩
  rw [hL] at hLl HT ⊢
  have HLL := Lib.hid hLl
  clear hrl hRO hRO2 hL hLl hz hn hx hci
  have hl2 : (cs.length : Int) ≤ 1048576 := by omega
  obtain ⟨W3, hW3⟩ : ∃ W3, ((w.alloc (.cells #[.int .i64 A, .int .i64 B, .slice a zs.length cap] 26)).alloc (.cells #[.int .i64 X, .int .i64 Y, .int .i64 U, .int .i64 V] 28)).alloc (.cells #[.slice none 0 0, .slice none 0 0] 58) = W3 := ⟨_, rfl⟩
  have hA3 : Below w.heap.size w W3 := by rw [← hW3]; exact bl_al (bl_al (bl_al hA _) _) _
  have z3 : W3.heap.size = w.heap.size + 3 := by rw [← hW3]; simp
  have f0 : W3.cell? ⟨w.heap.size, 0, none⟩ = some (.int .i64 A) := by rw [← hW3]; simp [go_sem]
  have f1 : W3.cell? ⟨w.heap.size, 1, none⟩ = some (.int .i64 B) := by rw [← hW3]; simp [go_sem]
  have f2 : W3.cell? ⟨w.heap.size, 2, none⟩ = some (.slice a zs.length cap) := by rw [← hW3]; simp [go_sem]
  have b0 : W3.cell? ⟨w.heap.size + 1, 0, none⟩ = some (.int .i64 X) := by rw [← hW3]; simp [go_sem]
  have b1 : W3.cell? ⟨w.heap.size + 1, 1, none⟩ = some (.int .i64 Y) := by rw [← hW3]; simp [go_sem]
  have b2 : W3.cell? ⟨w.heap.size + 1, 2, none⟩ = some (.int .i64 U) := by rw [← hW3]; simp [go_sem]
  have b3 : W3.cell? ⟨w.heap.size + 1, 3, none⟩ = some (.int .i64 V) := by rw [← hW3]; simp [go_sem]
  have ht3 : W3.heap[w.heap.size + 1 + 1]? = some (.cells #[.slice none 0 0, .slice none 0 0] 58 (0, 0)) := by
    rw [← hW3]
    have := heap_alloc_new ((w.alloc (.cells #[.int .i64 A, .int .i64 B, .slice a zs.length cap] 26)).alloc (.cells #[.int .i64 X, .int .i64 Y, .int .i64 U, .int .i64 V] 28)) (.cells #[.slice none 0 0, .slice none 0 0] 58)
    simp only [World.size_alloc] at this
    exact this
  have HW3 := Lib.hid hW3
  have HZ3 := Lib.hid z3
  have hown0 := own_emptyC (w := W3) (B := W3.heap.size) 30 (Nat.le_refl _)
  have hb1 := bl_al (bl0 W3) (.cells #[] 30)
  have hrc1 := (hcs.below hA3).below hb1
  clear hW3 z3
  go_enter Tryd.func19, Tryd.ntmps19
  go_upto_region 1 with fail
  rw [HW3.out]
  go_wp2_with (at_builtin; refine wpList_append_rowQ rfl _ _ rfl W3.heap.size _ _ _ rfl hown0 ca cc cs rfl hrc1 ?c3 ?c5 ?_)
  case c3 => omega
  case c5 => rw [World.size_alloc]; omega
  intro v' W5 hown' hgrow
  have hB5 : Below W3.heap.size W3 W5 := hb1.grown hgrow (by rw [World.size_alloc]; omega) (fun j hj => by simp [Value.ownBlock] at hj; omega)
  try simp only [Nat.zero_add, List.nil_append] at hown'
  obtain ⟨ka, kc, rfl⟩ : ∃ a' c', v' = .slice a' cs.length c' := by
    rcases hown'.2 with ⟨rfl, h⟩ | ⟨g, cap, cur, h, _⟩
    · exact ⟨none, 0, by rw [h]⟩
    · exact ⟨_, _, h⟩
  have hA5 := bl_tr hA3 hB5
  obtain ⟨w1, hw1⟩ : ∃ w1, W5.alloc (.cells #[.slice ka cs.length kc, .slice none 0 0] 58) = w1 := ⟨_, rfl⟩
  obtain ⟨T, hTe⟩ : ∃ T, W5.heap.size = T := ⟨_, rfl⟩
  have hTT : w1.heap[T]? = some (.cells #[.slice ka cs.length kc, .slice none 0 0] 58 (0, 0)) := by rw [← hw1, ← hTe]; exact heap_alloc_new W5 _
  have hT1 : T < w1.heap.size := by rw [← hw1, ← hTe]; simp
  have hb15 : Below T W5 w1 := by rw [← hw1, ← hTe]; exact bl_al (bl0 _) _
  have hwT : w.heap.size + 3 ≤ T := by rw [← hTe, ← HZ3.out]; exact hB5.size
  have HK := Lib.hid (show ∀ wr, Gr T w1 wr → ∀ (k o : Nat) v, W5.cell? ⟨k, o, none⟩ = some v → wr.cell? ⟨k, o, none⟩ = some v from fun wr hg k o v hv => by
    have hk := blk_lt hv
    refine hg.cell ?_ (by omega)
    exact (World.cell?_of_block (a := ⟨k, o, none⟩) (hb15.block k (by omega))).trans hv)
  have HBW := Lib.hid (show ∀ wr, Gr T w1 wr → Below w.heap.size w wr from fun wr hg => Gr.base (hA5.trans (hb15.mono (by omega))) hg (by omega) (by omega))
  have HF := Lib.hid (show ∀ wr, Gr T w1 wr → wr.cell? ⟨w.heap.size, 0, none⟩ = some (.int .i64 A) ∧ wr.cell? ⟨w.heap.size, 1, none⟩ = some (.int .i64 B) ∧ wr.cell? ⟨w.heap.size, 2, none⟩ = some (.slice a zs.length cap) ∧ wr.cell? ⟨w.heap.size + 1, 0, none⟩ = some (.int .i64 X) ∧ wr.cell? ⟨w.heap.size + 1, 1, none⟩ = some (.int .i64 Y) ∧ wr.cell? ⟨w.heap.size + 1, 2, none⟩ = some (.int .i64 U) ∧ wr.cell? ⟨w.heap.size + 1, 3, none⟩ = some (.int .i64 V) from fun wr hg =>
    ⟨HK.out wr hg _ _ _ (cell_later hB5 f0), HK.out wr hg _ _ _ (cell_later hB5 f1), HK.out wr hg _ _ _ (cell_later hB5 f2), HK.out wr hg _ _ _ (cell_later hB5 b0), HK.out wr hg _ _ _ (cell_later hB5 b1), HK.out wr hg _ _ _ (cell_later hB5 b2), HK.out wr hg _ _ _ (cell_later hB5 b3)⟩)
  have HCS := Lib.hid (hcs.below hA5)
  have HKO := Lib.hid (show ∀ wr, Gr T w1 wr → ∀ x y, ((wr.setCell ⟨w.heap.size + 1 + 1, 0, none⟩ x).setCell ⟨w.heap.size + 1 + 1, 1, none⟩ y).ownsRow W3.heap.size 30 2 (.slice ka cs.length kc) cs.length (flatC cs) from fun wr hg x y => by
    have hne : ∀ j, (Value.slice ka cs.length kc).ownBlock = some j → W3.heap.size ≤ j ∧ j < T := fun j hj => by have := hown'.lt j hj; omega
    have o1 : w1.ownsRow W3.heap.size 30 2 (.slice ka cs.length kc) cs.length (flatC cs) := own_later hown' (by rw [hTe]; exact hb15)
    have o2 := World.ownsRow.kept o1 hg (.inr (fun e => by have := hne _ e; omega))
    have o3 := World.ownsRow.kept o2 (hgrown_set wr (w.heap.size + 1 + 1) 0 x) (.inr (fun e => by have := hne _ e; have := HZ3.out; omega))
    have o4 := World.ownsRow.kept o3 (hgrown_set _ (w.heap.size + 1 + 1) 1 y) (.inr (fun e => by have := hne _ e; have := HZ3.out; omega))
    exact o4)
  have HQ := Lib.hid (show ∀ wr, Gr T w1 wr → wr.heap[w.heap.size + 1 + 1]? = some (.cells #[.slice none 0 0, .slice none 0 0] 58 (0, 0)) from fun wr hg =>
    (hg.block _ (by omega) (fun e => by cases e; omega)).trans ((hb15.block _ (by omega)).trans ((hB5.block _ (by rw [HZ3.out]; omega)).trans ht3)))
  have HTT := Lib.hid hTT
  have HTe := Lib.hid hTe
  have HW1 := Lib.hid hw1
  have HR := Lib.hid hr
  have HC := Lib.hid hcs
  clear hw1 hTe hTT hb15 hown' hgrow hown0 hb1 hrc1 hB5 hA5 hA3 f0 f1 f2 b0 b1 b2 b3 ht3 hr hcs hA
  go_wp2_with fail
  rw [HW1.out, HTe.out]
  go_loopw [8] (fun iv wr => ∃ k : Nat, k ≤ cs.length ∧ iv = .int .i64 k ∧ TblI w1 T ka cs.length kc (L.take k) wr) (fun iv _ => cs.length - (intOf iv).toNat)
  case atStart => exact ⟨0, Nat.zero_le _, rfl, Gr.refl _ _, _, HTT.out, by rw [List.take_zero]; exact TRows.nil _ _⟩
  case round =>
    obtain ⟨k, hk, rfl, hI⟩ := hrel
    have hk0 : (0 : Int) ≤ (k : Int) := by omega
    by_cases hlt : k < cs.length
    · have hlt2 : (k : Int) < (cs.length : Int) := by omega
      obtain ⟨hgr, tv, htab, hrw⟩ := hI
      have hLk : (L.take k).length = k := by rw [List.length_take, HLL.out]; omega
      obtain ⟨ta, tc, rfl⟩ := hrw.shape
      rw [hLk] at htab hrw
      have hc1 : wr.cell? ⟨T, 1, none⟩ = some (.slice ta k tc) := by simp [World.cell?, htab]
      obtain ⟨cb, co, rfl, u0, u1⟩ := HCS.out.cell hlt
      have hdm : cs[k] ∈ cs := List.getElem_mem hlt
      have hrt := HT.out k hlt
      obtain ⟨d, hd⟩ : ∃ d, cs[k] = d := ⟨_, rfl⟩
      rw [hd] at u0 u1 hdm hrt
      have H1d := Lib.hid (H1.out d hdm)
      have HRT := Lib.hid hrt
      have HSS := Lib.hid (show ∀ W8, Gr T w1 W8 → W8.cell? ⟨T, 1, none⟩ = some (.slice ta k tc) → (fun W9 : World => W9.cell? ⟨T, 1, none⟩ = some (.slice ta k tc) ∧ W9.cell? ⟨w.heap.size, 0, none⟩ = some (.int .i64 A) ∧ W9.cell? ⟨w.heap.size, 1, none⟩ = some (.int .i64 B) ∧ W9.cell? ⟨w.heap.size, 2, none⟩ = some (.slice a zs.length cap) ∧ W9.cell? ⟨w.heap.size + 1, 0, none⟩ = some (.int .i64 X) ∧ W9.cell? ⟨w.heap.size + 1, 1, none⟩ = some (.int .i64 Y) ∧ W9.cell? ⟨w.heap.size + 1, 2, none⟩ = some (.int .i64 U) ∧ W9.cell? ⟨w.heap.size + 1, 3, none⟩ = some (.int .i64 V) ∧ W9.cell? ⟨cb, co + k * 2, none⟩ = some (.int .i64 d.1) ∧ W9.cell? ⟨cb, co + k * 2 + 1, none⟩ = some (.int .i64 d.2)) W8 from fun W8 hg hc => by
        obtain ⟨q0, q1, q2, q3, q4, q5, q6⟩ := HF.out W8 hg
        exact ⟨hc, q0, q1, q2, q3, q4, q5, q6, HK.out W8 hg _ _ _ u0, HK.out W8 hg _ _ _ u1⟩)
      have HGR := Lib.hid hgr
      have HTAB := Lib.hid htab
      have HRW := Lib.hid hrw
      have zc1 := blk_lt hc1
      obtain ⟨x0, x1, x2, x3, x4, x5, x6⟩ := HF.out wr hgr
      have zx := blk_lt x0
      clear u0 u1 hdm hrt hd hgr htab hrw x0 x1 x2 x3 x4 x5 x6 hLk
      go_upto_region 5 with fail
      have hD := bl_dr (bl0 wr)
      refine (wpIn_wide (n := 11)).1 ?_
      refine ordZ_begin (z := 13) (S := (fun W9 : World => W9.cell? ⟨T, 1, none⟩ = some (.slice ta k tc) ∧ W9.cell? ⟨w.heap.size, 0, none⟩ = some (.int .i64 A) ∧ W9.cell? ⟨w.heap.size, 1, none⟩ = some (.int .i64 B) ∧ W9.cell? ⟨w.heap.size, 2, none⟩ = some (.slice a zs.length cap) ∧ W9.cell? ⟨w.heap.size + 1, 0, none⟩ = some (.int .i64 X) ∧ W9.cell? ⟨w.heap.size + 1, 1, none⟩ = some (.int .i64 Y) ∧ W9.cell? ⟨w.heap.size + 1, 2, none⟩ = some (.int .i64 U) ∧ W9.cell? ⟨w.heap.size + 1, 3, none⟩ = some (.int .i64 V) ∧ W9.cell? ⟨cb, co + k * 2, none⟩ = some (.int .i64 d.1) ∧ W9.cell? ⟨cb, co + k * 2 + 1, none⟩ = some (.int .i64 d.2))) (by kernel_rfl) (HSS.out _ (HGR.out.trans (Gr.below hD)) (cell_later hD hc1)) (fun hH => ?_)
      first
        | (refine' ordZ_take (i := 0) (oi := { dst := some 19, op := Op.fieldAddr 58 (Operand.tmp 7) 1, type := 0, pos := _, after := #[], guard := none }) (v := _) rfl (by kernel_rfl) (by kernel_rfl) (by kernel_rfl) (by kernel_rfl) (fun _ _ _ h => h) (by assumption) (by kernel_rfl) (by decide) (by rfl) (Or.inl ⟨by rfl, ?hy428⟩) (fun _ => rfl) ?rest428
           case hy428 => (intro w hSw; (try dsimp only at hSw); go_simp; try with_reducible rfl))
        | (refine ordZ_take (i := 0) (oi := { dst := some 19, op := Op.fieldAddr 58 (Operand.tmp 7) 1, type := 0, pos := _, after := #[], guard := none }) (v := undef) rfl (by kernel_rfl) (by kernel_rfl) (by kernel_rfl) (by kernel_rfl) (fun _ _ _ h => h) (by assumption) (by kernel_rfl) (by decide) (by rfl) (Or.inr ⟨by rfl, rfl⟩) (fun _ => rfl) ?_)
      try simp only [Act.put, List.setIfInBounds_toArray, List.set_cons_zero, List.set_cons_succ]
      first
        | (refine' ordZ_take (i := 1) (oi := { dst := some 20, op := Op.load 52 (Operand.tmp 19), type := 52, pos := _, after := #[{ on := 0, ground := Ground.data }], guard := none }) (v := _) rfl (by kernel_rfl) (by kernel_rfl) (by kernel_rfl) (by kernel_rfl) (fun _ _ _ h => h) (by assumption) (by kernel_rfl) (by decide) (by rfl) (Or.inl ⟨by rfl, ?hy429⟩) (fun _ => rfl) ?rest429
           case hy429 => (intro w hSw; (try dsimp only at hSw); go_simp; try with_reducible rfl))
        | (refine ordZ_take (i := 1) (oi := { dst := some 20, op := Op.load 52 (Operand.tmp 19), type := 52, pos := _, after := #[{ on := 0, ground := Ground.data }], guard := none }) (v := undef) rfl (by kernel_rfl) (by kernel_rfl) (by kernel_rfl) (by kernel_rfl) (fun _ _ _ h => h) (by assumption) (by kernel_rfl) (by decide) (by rfl) (Or.inr ⟨by rfl, rfl⟩) (fun _ => rfl) ?_)
      try simp only [Act.put, List.setIfInBounds_toArray, List.set_cons_zero, List.set_cons_succ]
      first
        | (refine' ordZ_take (i := 2) (oi := { dst := some 21, op := Op.load 26 (Operand.tmp 3), type := 26, pos := _, after := #[], guard := none }) (v := _) rfl (by kernel_rfl) (by kernel_rfl) (by kernel_rfl) (by kernel_rfl) (fun _ _ _ h => h) (by assumption) (by kernel_rfl) (by decide) (by rfl) (Or.inl ⟨by rfl, ?hy430⟩) (fun _ => rfl) ?rest430
           case hy430 => (intro w hSw; (try dsimp only at hSw); go_simp; try with_reducible rfl))
        | (refine ordZ_take (i := 2) (oi := { dst := some 21, op := Op.load 26 (Operand.tmp 3), type := 26, pos := _, after := #[], guard := none }) (v := undef) rfl (by kernel_rfl) (by kernel_rfl) (by kernel_rfl) (by kernel_rfl) (fun _ _ _ h => h) (by assumption) (by kernel_rfl) (by decide) (by rfl) (Or.inr ⟨by rfl, rfl⟩) (fun _ => rfl) ?_)
      try simp only [Act.put, List.setIfInBounds_toArray, List.set_cons_zero, List.set_cons_succ]
      first
        | (refine' ordZ_take (i := 3) (oi := { dst := some 22, op := Op.load 28 (Operand.tmp 4), type := 28, pos := _, after := #[], guard := none }) (v := _) rfl (by kernel_rfl) (by kernel_rfl) (by kernel_rfl) (by kernel_rfl) (fun _ _ _ h => h) (by assumption) (by kernel_rfl) (by decide) (by rfl) (Or.inl ⟨by rfl, ?hy431⟩) (fun _ => rfl) ?rest431
           case hy431 => (intro w hSw; (try dsimp only at hSw); go_simp; try with_reducible rfl))
        | (refine ordZ_take (i := 3) (oi := { dst := some 22, op := Op.load 28 (Operand.tmp 4), type := 28, pos := _, after := #[], guard := none }) (v := undef) rfl (by kernel_rfl) (by kernel_rfl) (by kernel_rfl) (by kernel_rfl) (fun _ _ _ h => h) (by assumption) (by kernel_rfl) (by decide) (by rfl) (Or.inr ⟨by rfl, rfl⟩) (fun _ => rfl) ?_)
      try simp only [Act.put, List.setIfInBounds_toArray, List.set_cons_zero, List.set_cons_succ]
      first
        | (refine' ordZ_take (i := 4) (oi := { dst := some 23, op := Op.move (Operand.tmp 2), type := 35, pos := _, after := #[], guard := none }) (v := _) rfl (by kernel_rfl) (by kernel_rfl) (by kernel_rfl) (by kernel_rfl) (fun _ _ _ h => h) (by assumption) (by kernel_rfl) (by decide) (by rfl) (Or.inl ⟨by rfl, ?hy432⟩) (fun _ => rfl) ?rest432
           case hy432 => (intro w hSw; (try dsimp only at hSw); go_simp; try with_reducible rfl))
        | (refine ordZ_take (i := 4) (oi := { dst := some 23, op := Op.move (Operand.tmp 2), type := 35, pos := _, after := #[], guard := none }) (v := undef) rfl (by kernel_rfl) (by kernel_rfl) (by kernel_rfl) (by kernel_rfl) (fun _ _ _ h => h) (by assumption) (by kernel_rfl) (by decide) (by rfl) (Or.inr ⟨by rfl, rfl⟩) (fun _ => rfl) ?_)
      try simp only [Act.put, List.setIfInBounds_toArray, List.set_cons_zero, List.set_cons_succ]
      first
        | (refine' ordZ_take (i := 5) (oi := { dst := some 24, op := Op.move (Operand.tmp 8), type := 3, pos := _, after := #[], guard := none }) (v := _) rfl (by kernel_rfl) (by kernel_rfl) (by kernel_rfl) (by kernel_rfl) (fun _ _ _ h => h) (by assumption) (by kernel_rfl) (by decide) (by rfl) (Or.inl ⟨by rfl, ?hy433⟩) (fun _ => rfl) ?rest433
           case hy433 => (intro w hSw; (try dsimp only at hSw); go_simp; try with_reducible rfl))
        | (refine ordZ_take (i := 5) (oi := { dst := some 24, op := Op.move (Operand.tmp 8), type := 3, pos := _, after := #[], guard := none }) (v := undef) rfl (by kernel_rfl) (by kernel_rfl) (by kernel_rfl) (by kernel_rfl) (fun _ _ _ h => h) (by assumption) (by kernel_rfl) (by decide) (by rfl) (Or.inr ⟨by rfl, rfl⟩) (fun _ => rfl) ?_)
      try simp only [Act.put, List.setIfInBounds_toArray, List.set_cons_zero, List.set_cons_succ]
      first
        | (refine' ordZ_take (i := 6) (oi := { dst := some 25, op := Op.indexAddr 35 (Operand.tmp 23) (Operand.tmp 24), type := 0, pos := _, after := #[{ on := 4, ground := Ground.data }, { on := 5, ground := Ground.data }], guard := none }) (v := _) rfl (by kernel_rfl) (by kernel_rfl) (by kernel_rfl) (by kernel_rfl) (fun _ _ _ h => h) (by assumption) (by kernel_rfl) (by decide) (by rfl) (Or.inl ⟨by rfl, ?hy434⟩) (fun _ => rfl) ?rest434
           case hy434 => (intro w hSw; (try dsimp only at hSw); go_simp; try with_reducible rfl))
        | (refine ordZ_take (i := 6) (oi := { dst := some 25, op := Op.indexAddr 35 (Operand.tmp 23) (Operand.tmp 24), type := 0, pos := _, after := #[{ on := 4, ground := Ground.data }, { on := 5, ground := Ground.data }], guard := none }) (v := undef) rfl (by kernel_rfl) (by kernel_rfl) (by kernel_rfl) (by kernel_rfl) (fun _ _ _ h => h) (by assumption) (by kernel_rfl) (by decide) (by rfl) (Or.inr ⟨by rfl, rfl⟩) (fun _ => rfl) ?_)
      try simp only [Act.put, List.setIfInBounds_toArray, List.set_cons_zero, List.set_cons_succ]
      first
        | (refine' ordZ_take (i := 7) (oi := { dst := some 26, op := Op.load 30 (Operand.tmp 25), type := 30, pos := _, after := #[{ on := 6, ground := Ground.data }], guard := none }) (v := _) rfl (by kernel_rfl) (by kernel_rfl) (by kernel_rfl) (by kernel_rfl) (fun _ _ _ h => h) (by assumption) (by kernel_rfl) (by decide) (by rfl) (Or.inl ⟨by rfl, ?hy435⟩) (fun _ => rfl) ?rest435
           case hy435 => (intro w hSw; (try dsimp only at hSw); go_simp; try with_reducible rfl))
        | (refine ordZ_take (i := 7) (oi := { dst := some 26, op := Op.load 30 (Operand.tmp 25), type := 30, pos := _, after := #[{ on := 6, ground := Ground.data }], guard := none }) (v := undef) rfl (by kernel_rfl) (by kernel_rfl) (by kernel_rfl) (by kernel_rfl) (fun _ _ _ h => h) (by assumption) (by kernel_rfl) (by decide) (by rfl) (Or.inr ⟨by rfl, rfl⟩) (fun _ => rfl) ?_)
      try simp only [Act.put, List.setIfInBounds_toArray, List.set_cons_zero, List.set_cons_succ]
      first
        | (refine' ordZ_take (i := 8) (oi := { dst := some 27, op := Op.move (Operand.tmp 2), type := 35, pos := _, after := #[], guard := none }) (v := _) rfl (by kernel_rfl) (by kernel_rfl) (by kernel_rfl) (by kernel_rfl) (fun _ _ _ h => h) (by assumption) (by kernel_rfl) (by decide) (by rfl) (Or.inl ⟨by rfl, ?hy436⟩) (fun _ => rfl) ?rest436
           case hy436 => (intro w hSw; (try dsimp only at hSw); go_simp; try with_reducible rfl))
        | (refine ordZ_take (i := 8) (oi := { dst := some 27, op := Op.move (Operand.tmp 2), type := 35, pos := _, after := #[], guard := none }) (v := undef) rfl (by kernel_rfl) (by kernel_rfl) (by kernel_rfl) (by kernel_rfl) (fun _ _ _ h => h) (by assumption) (by kernel_rfl) (by decide) (by rfl) (Or.inr ⟨by rfl, rfl⟩) (fun _ => rfl) ?_)
      try simp only [Act.put, List.setIfInBounds_toArray, List.set_cons_zero, List.set_cons_succ]
      obtain ⟨W2, hW2⟩ : ∃ W2, wr.drew = W2 := ⟨_, rfl⟩
      rw [hW2] at hD hH
      rw [hW2]
      have hsz2 := Nat.le_trans HGR.out.size hD.size
      have hS2 := hH
      clear hW2 hH
      refine ordZ_one (i := 9) (o := { dst := some 28, op := Op.call { callee := Callee.value (Operand.func 42), args := #[Operand.tmp 21, Operand.tmp 22, Operand.tmp 26, Operand.tmp 27], argTypes := #[26, 28, 30, 35] }, type := 42, pos := _, after := #[{ on := 2, ground := Ground.data }, { on := 3, ground := Ground.data }, { on := 7, ground := Ground.data }, { on := 8, ground := Ground.data }], guard := none }) (by kernel_rfl) rfl (by rfl) (fun K hK => ?_)
      go_simp
      refine ⟨trivial, ?_⟩
      have hB2 := HBW.out _ (HGR.out.trans (Gr.below hD))
      with_reducible refine (callsIn_wide.2 (H1d.out _ (HR.out.below hB2) (HC.out.below hB2))).mono ?_
      rintro e W6 ⟨ra, rc, rfl, hro, hb6⟩
      replace hD := bl_tr hD hb6
      have hG6 := HGR.out.trans (Gr.below hD)
      have hc6 := cell_later hD hc1
      refine hK _ _ (fun _ => HSS.out _ hG6 hc6) ?_
      clear hK K hb6
      try simp only [Act.put, List.setIfInBounds_toArray, List.set_cons_zero, List.set_cons_succ]
      refine ordZ_one (i := 10) (o := { dst := some 29, op := Op.buildSlice 52 1 #[(0, Operand.tmp 28)], type := 52, pos := _, after := #[{ on := 9, ground := Ground.data }], guard := none }) (by kernel_rfl) rfl (by rfl) (fun K hK => ?_)
      go_simp
      have hb7 := bl_al (bl0 W6) (.cells #[.slice ra cs.length rc] 42)
      have hG7 := hG6.trans (Gr.below hb7)
      have hc7 := cell_later hb7 hc6
      refine hK _ _ (fun _ => HSS.out _ hG7 hc7) ?_
      clear hK K
      try simp only [Act.put, List.setIfInBounds_toArray, List.set_cons_zero, List.set_cons_succ]
      have hrl := HRL.out d
      have hro7 : (W6.alloc (.cells #[.slice ra cs.length rc] 42)).ownsRow w1.heap.size 36 1 (.slice ra (RO d).length rc) (RO d).length (cellsU (RO d)) := by rw [hrl]; exact own_later (own_lowU hro hsz2) hb7
      obtain ⟨vals, hv1, hv2⟩ := (HRW.out.later hD).later hb7
      have hLk : (L.take k).length = k := by rw [List.length_take, HLL.out]; omega
      have HV2 := Lib.hid hv2
      have HRO7 := Lib.hid hro7
      have HTAB7 := Lib.hid ((hb7.block _ (by have := HGR.out.size; have := hD.size; omega)).trans ((hD.block _ (by have := HGR.out.size; omega)).trans HTAB.out))
      rw [hLk] at hv1
      clear hv2 hro7 hro
      refine ordZ_append (i := 11) (o := { dst := some 30, op := Op.call { callee := Callee.builtin Builtin.append, args := #[Operand.tmp 20, Operand.tmp 29], argTypes := #[52, 52] }, type := 52, pos := _, after := #[{ on := 1, ground := Ground.data }, { on := 10, ground := Ground.data }, { on := 9, ground := Ground.chain }], guard := none }) _ (by kernel_rfl) rfl (by rfl) _ _ 52 rfl w1.heap.size 42 i0 (.slice none 0 0) 1 24 Tryd.underlying52 hi0 hz0 hz1 hz2 rfl (by decide) _ _ _ rfl hv1 ⟨W6.heap.size, 0, none⟩ 1 1 [.slice ra cs.length rc] rfl rfl ?c1 ?c2 ?c3 ?c4 ?c5 ?_
      case c1 =>
        intro j u hu
        match j with
        | 0 => simp at hu; subst hu; simp [go_sem]
        | j + 1 => simp at hu
      case c2 => intro u' hu; simp at hu; rcases hu with rfl; rfl
      case c3 => unfold maxLen; omega
      case c4 => omega
      case c5 => (have := HGR.out.size; have := hD.size; first | (simp; omega) | omega)
      intro v' w10 hown' hgrow
      obtain ⟨na, nc, rfl⟩ : ∃ na nc, v' = .slice na (k + 1) nc := by
        rcases hown'.2 with ⟨_, h⟩ | ⟨g, cap, cur, h, _⟩
        · omega
        · exact ⟨_, _, h⟩
      have hG10 := hG7.grown hgrow (fun j hj => (hv1.lt j hj).1)
      have hTne : some T ≠ (Value.slice ta k tc).ownBlock := fun e => by have := (hv1.lt T e.symm).1; omega
      have hc10 := hgrow.cell hc7 hTne
      have hS10 := HSS.out _ hG10 hc10
      refine ⟨fun _ => hS10, ?_⟩
      have htab10 := (hgrow.block T (Array.getElem?_eq_some_iff.1 HTAB7.out).1 hTne).trans HTAB7.out
      have hq10 : w10.frozen? ⟨T, 1, none⟩ = false := by simp [World.frozen?, htab10]
      have HPU := Lib.hid (TRows.push (rs := L.take k) (by rw [hLk]; exact hv1) HV2.out HRO7.out (by rw [hLk, hrl]; exact hown') hgrow)
      have zc10 := blk_lt hc10
      rw [← HRT.out] at HPU
      have HT10 := Lib.hid htab10
      have HG10 := Lib.hid hG10
      clear hown' hgrow hv1 hb7 hG7 hc7 hG6 hc6 hD htab10 hG10 hLk
      try simp only [Act.put, List.setIfInBounds_toArray, List.set_cons_zero, List.set_cons_succ]
      first
        | (refine' ordZ_take (i := 12) (oi := { dst := some 31, op := Op.fieldAddr 58 (Operand.tmp 7) 1, type := 0, pos := _, after := #[{ on := 0, ground := Ground.phase }, { on := 1, ground := Ground.phase }, { on := 2, ground := Ground.phase }, { on := 3, ground := Ground.phase }, { on := 4, ground := Ground.phase }, { on := 5, ground := Ground.phase }, { on := 6, ground := Ground.phase }, { on := 7, ground := Ground.phase }, { on := 8, ground := Ground.phase }, { on := 9, ground := Ground.phase }, { on := 10, ground := Ground.phase }, { on := 11, ground := Ground.phase }], guard := none }) (v := _) rfl (by kernel_rfl) (by kernel_rfl) (by kernel_rfl) (by kernel_rfl) (fun _ _ _ h => h) (by assumption) (by kernel_rfl) (by decide) (by rfl) (Or.inl ⟨by rfl, ?hy437⟩) (fun _ => rfl) ?rest437
           case hy437 => (intro w hSw; (try dsimp only at hSw); go_simp; try with_reducible rfl))
        | (refine ordZ_take (i := 12) (oi := { dst := some 31, op := Op.fieldAddr 58 (Operand.tmp 7) 1, type := 0, pos := _, after := #[{ on := 0, ground := Ground.phase }, { on := 1, ground := Ground.phase }, { on := 2, ground := Ground.phase }, { on := 3, ground := Ground.phase }, { on := 4, ground := Ground.phase }, { on := 5, ground := Ground.phase }, { on := 6, ground := Ground.phase }, { on := 7, ground := Ground.phase }, { on := 8, ground := Ground.phase }, { on := 9, ground := Ground.phase }, { on := 10, ground := Ground.phase }, { on := 11, ground := Ground.phase }], guard := none }) (v := undef) rfl (by kernel_rfl) (by kernel_rfl) (by kernel_rfl) (by kernel_rfl) (fun _ _ _ h => h) (by assumption) (by kernel_rfl) (by decide) (by rfl) (Or.inr ⟨by rfl, rfl⟩) (fun _ => rfl) ?_)
      try simp only [Act.put, List.setIfInBounds_toArray, List.set_cons_zero, List.set_cons_succ]
      refine ordZ_one (i := 13) (o := { dst := none, op := Op.store 52 (Operand.tmp 31) (Operand.tmp 30), type := 0, pos := _, after := #[{ on := 12, ground := Ground.data }, { on := 11, ground := Ground.data }, { on := 11, ground := Ground.chain }, { on := 0, ground := Ground.phase }, { on := 1, ground := Ground.phase }, { on := 2, ground := Ground.phase }, { on := 3, ground := Ground.phase }, { on := 4, ground := Ground.phase }, { on := 5, ground := Ground.phase }, { on := 6, ground := Ground.phase }, { on := 7, ground := Ground.phase }, { on := 8, ground := Ground.phase }, { on := 9, ground := Ground.phase }, { on := 10, ground := Ground.phase }, { on := 11, ground := Ground.phase }], guard := none }) (by kernel_rfl) rfl (by rfl) (fun K hK => ?_)
      go_simp
      refine hK _ _ (fun h => by cases h) ?_
      clear hK K
      try simp only [Act.put, List.setIfInBounds_toArray, List.set_cons_zero, List.set_cons_succ]
      refine ordZ_done (by kernel_rfl) ?_
      have HI := Lib.hid (show TblI w1 T ka cs.length kc (L.take (k + 1)) (w10.setCell ⟨T, 1, none⟩ (.slice na (k + 1) nc)) from ⟨HG10.out.trans (Gr.set w10 T 1 _), _, tab_set HT10.out, HPU.out.set hT1⟩)
      clear hc10 zc10 hq10
      go_wp2
      go_roundw
      case rel => exact ⟨k + 1, by omega, by go_num, HI.out⟩
      case measure => simp [intOf]; omega
    · obtain rfl : k = cs.length := by omega
      have hge : ¬ (cs.length : Int) < (cs.length : Int) := by omega
      obtain ⟨hgr, tv, htab, hrw⟩ := hI
      rw [show L.take cs.length = L by rw [← HLL.out]; exact List.take_length] at hrw
      obtain ⟨ta, tc, rfl⟩ := hrw.shape
      have hc0 : wr.cell? ⟨T, 0, none⟩ = some (.slice ka cs.length kc) := by simp [World.cell?, htab]
      have hc1 : wr.cell? ⟨T, 1, none⟩ = some (.slice ta L.length tc) := by simp [World.cell?, htab]
      have hq := HQ.out wr hgr
      have q0 : wr.cell? ⟨w.heap.size + 1 + 1, 0, none⟩ = some (.slice none 0 0) := by simp [World.cell?, hq]
      have q1 : wr.cell? ⟨w.heap.size + 1 + 1, 1, none⟩ = some (.slice none 0 0) := by simp [World.cell?, hq]
      have r0 : wr.frozen? ⟨w.heap.size + 1 + 1, 0, none⟩ = false := by simp [World.frozen?, hq]
      have r1 : wr.frozen? ⟨w.heap.size + 1 + 1, 1, none⟩ = false := by simp [World.frozen?, hq]
      have zc0 := blk_lt hc0
      have zq0 := blk_lt q0
      have HRD := Lib.hid (show ∀ x y, TRows ((wr.setCell ⟨w.heap.size + 1 + 1, 0, none⟩ x).setCell ⟨w.heap.size + 1 + 1, 1, none⟩ y) w1.heap.size (.slice ta L.length tc) L from fun x y => (hrw.set (by omega)).set (by omega))
      have HRC := Lib.hid (HKO.out wr hgr)
      have HBE := Lib.hid (HBW.out wr hgr)
      have HZ := HZ3.out
      have hT1' := hT1
      clear htab hrw hgr hq
      go_wp2
      refine bodyPost_ret (v := .agg #[.slice ka cs.length kc, .slice ta L.length tc]) (by simp [results, Tryd.results19, go_sem, q0, q1]) rfl ?_
      refine ⟨ka, kc, ta, tc, rfl, OwnC.rowC (HRC.out _ _), TRows.read (HRD.out _ _), fun T' x y hT' => ⟨?_, TRows.read (((HRD.out _ _).set (by omega)).set (by omega))⟩, bl_st (bl_st HBE.out (by omega) _) (by omega) _⟩
      have o3 := World.ownsRow.kept (HRC.out (.slice ka cs.length kc) (.slice ta L.length tc)) (hgrown_set _ T' 0 x) (.inr (fun e => by have := ((HRC.out (.slice ka cs.length kc) (.slice ta L.length tc)).lt _ e).1; omega))
      exact OwnC.rowC (World.ownsRow.kept o3 (hgrown_set _ T' 1 y) (.inr (fun e => by have := (o3.lt _ e).1; omega)))
end Go.Proofs.YtgbhafadibdmcaaDoor
