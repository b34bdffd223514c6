/- Parts: the reference's clusters, laid one by one. -/
import Derived.Test.YtbdfjdipjacamaaDoorDp
namespace Go.Proofs.YtbdfjdipjacamaaDoor
open Go.RowKit

def bxF (W H S : Int) (k : Nat) : IC × IC := ((bxX S (plcP W S k), bxY S (plcP W S k)), (bxW W S (plcP W S k), bxH H S (plcP W S k)))
def boxL (W H S : Int) : List (IC × IC) := (List.range (cntN W H S)).map (bxF W H S)
theorem boxL_len (W H S : Int) : (boxL W H S).length = cntN W H S := by simp [boxL]
theorem boxL_at {W H S : Int} {k : Nat} (h : k < (boxL W H S).length) : (boxL W H S)[k] = bxF W H S k := by simp [boxL]
theorem rowX_of_own {w : World} {base : Nat} {a : Option Addr} {cap : Nat} {zs : List (IC × IC)} (h : w.ownsRow base 28 4 (.slice a zs.length cap) zs.length (flatPP zs)) : RowPP w a zs := by
  have hown := h
  rcases h.2 with ⟨e, h0⟩ | ⟨g, cap, cur, e, hb, hg, _⟩
  · exact .inl (List.eq_nil_of_length_eq_zero h0)
  · cases e
    refine .inr ⟨g, 0, rfl, fun i z hz => ?_⟩
    obtain ⟨⟨e0, e1⟩, e2, e3⟩ := flatPP_at zs i z hz
    have a0 := hown.cells (g := g) rfl _ _ e0
    have a1 := hown.cells (g := g) rfl _ _ e1
    have a2 := hown.cells (g := g) rfl _ _ e2
    have a3 := hown.cells (g := g) rfl _ _ e3
    rw [addr_add, Nat.zero_add] at a0 a1 a2 a3
    simp only [Nat.zero_add]
    exact ⟨⟨a0, a1⟩, a2, a3⟩
theorem Tryd.infoBx : (Tryd.prog.info? 28).map (fun i => (i.zero, i.size, i.bytes)) = some (some (.agg #[.int .i64 0, .int .i64 0, .int .i64 0, .int .i64 0]), 4, 32) := by kernel_rfl
theorem own_empty4 (w : World) (t : TypeId) (base : Nat) (hb : base ≤ w.heap.size) : (w.alloc (.cells #[] t)).ownsRow base t 4 (.slice (some ⟨w.heap.size, 0, none⟩) 0 0) 0 (flatPP []) :=
  ⟨rfl, .inr ⟨w.heap.size, 0, #[], rfl, hb, heap_alloc_new w _, Nat.le_refl _, Nat.zero_le _, rfl, rfl⟩⟩
theorem bxF_at {W H S : Int} {i j : Nat} (h : (i : Int) < lieN W S) (hl : 0 ≤ lieN W S) : bxF W H S (j * (lieN W S).toNat + i) = (((i : Int) * S, (j : Int) * S), (min S (W - i * S), min S (H - j * S))) := by
  have e : ((j * (lieN W S).toNat + i : Nat) : Int) = (j : Int) * lieN W S + i := by
    rw [Int.natCast_add, Int.natCast_mul, Int.toNat_of_nonneg hl]
  unfold bxF
  rw [e, plc_of (p := ((i : Int), (j : Int))) (by show (0 : Int) ≤ (i : Int); omega) h]
  rfl
def BxsR (l : List (IC × IC)) (w : World) (e : Ending) (w' : World) : Prop := ∃ a cap, e = .returned (.slice a l.length cap) ∧ RowPP w' a l ∧ Below w.heap.size w w'


set_option maxRecDepth 100000 in
set_option maxHeartbeats 8000000 in
theorem boxes11 (W H S : Int) (w : World) (hr : rightP W H S = true) :
    Calls Tryd.prog 29 #[.agg #[.int .i64 W, .int .i64 H], .int .i64 S] w (BxsR (boxL W H S) w) := by
  obtain ⟨i0, hi, hz0, hz1, hz2⟩ := info_parts Tryd.infoBx
  obtain ⟨⟨a1, a2, a3, a4⟩, a5, a6⟩ := rightP_iff.1 hr
  obtain ⟨hn, n1, n2⟩ := cntN_eq hr
  obtain ⟨b1, b2, b3, b4⟩ := lie_bd a1 a2 a5 a6
  obtain ⟨c1, c2, c3, c4⟩ := lie_bd a3 a4 a5 a6
  have HATX := Lib.hid (fun (i : Nat) => lie_at (i := (i : Int)) a1 a2 a5 a6 (by omega))
  have HATY := Lib.hid (fun (i : Nat) => lie_at (i := (i : Int)) a3 a4 a5 a6 (by omega))
  have HF := Lib.hid (fun (i j : Nat) (h : (i : Int) < lieN W S) => bxF_at (H := H) (j := j) h (show 0 ≤ lieN W S by omega))
  obtain ⟨lw, hlw⟩ : ∃ lw : Nat, lieN W S = lw := ⟨(lieN W S).toNat, by omega⟩
  obtain ⟨lh, hlh⟩ : ∃ lh : Nat, lieN H S = lh := ⟨(lieN H S).toNat, by omega⟩
  rw [hlw] at HATX HF b1 b2 b3 b4 hn n1 n2
  rw [hlh] at HATY c1 c2 c3 c4 hn n1 n2
  simp only [Int.toNat_natCast] at HF
  have hcnt : cntN W H S = lh * lw := by
    have : (cntN W H S : Int) = ((lh * lw : Nat) : Int) := by rw [hn, Int.natCast_mul, Int.mul_comm]
    omega
  obtain ⟨F, hF⟩ : ∃ F, bxF W H S = F := ⟨_, rfl⟩
  have HL := Lib.hid (show boxL W H S = (List.range (lh * lw)).map F by unfold boxL; rw [hcnt, hF])
  rw [hF] at HF
  have hK : ∀ j i : Nat, j < lh → i ≤ lw → j * lw + i ≤ 16384 := fun j i h1 h2 => by
    have h3 := Nat.mul_le_mul_right lw (show j + 1 ≤ lh by omega)
    rw [Nat.succ_mul] at h3
    have h4 : (lh * lw : Nat) ≤ 16384 := by
      have : ((lh * lw : Nat) : Int) ≤ 16384 := by rw [Int.natCast_mul, Int.mul_comm]; exact n2
      omega
    omega
  have HK := Lib.hid hK
  clear hn n1 n2 hcnt hF hK b3 b4 c3 c4 hlw hlh hr
  have hA := bl0 w
  go_enter Tryd.func29, Tryd.ntmps29
  go_wp2_with fail
  go_loopw [5, 6, 7, 8] (fun o yv _ _ wr => ∃ j : Nat, j ≤ lh ∧ yv = .int .i64 ((j : Int) * S) ∧ wr.ownsRow (w.heap.size + 1) 28 4 o (j * lw) (flatPP ((List.range (j * lw)).map F)) ∧ Below w.heap.size w wr ∧ wr.cell? ⟨w.heap.size, 0, none⟩ = some (.int .i64 W) ∧ wr.cell? ⟨w.heap.size, 1, none⟩ = some (.int .i64 H) ∧ w.heap.size + 1 ≤ wr.heap.size) (fun _ yv _ _ _ => (H + 16 - intOf yv).toNat)
  case atStart =>
    refine ⟨0, Nat.zero_le _, by rw [show ((0 : Nat) : Int) * S = 0 by simp], ?_, bl_al (bl_al (bl0 w) _) _, by simp [go_sem], by simp [go_sem], by simp⟩
    have ho := own_empty4 (w.alloc (.cells #[.int .i64 W, .int .i64 H] 23)) 28 (w.heap.size + 1) (by simp)
    rw [World.size_alloc] at ho
    rw [Nat.zero_mul]
    exact ho
  case round =>
    obtain ⟨j, hj, rfl, hown, hA, f0, f1, hsz⟩ := hrel
    have zf := blk_lt f0
    have hjy := HATY.out j
    obtain ⟨y, hy⟩ : ∃ y, (j : Int) * S = y := ⟨_, rfl⟩
    rw [hy] at hjy ⊢
    have hys : ((j + 1 : Nat) : Int) * S = y + S := by rw [← hy, Int.natCast_add, Int.add_mul]; simp
    have HYS := Lib.hid hys
    have hy0 : 0 ≤ y := by rw [← hy]; exact Int.mul_nonneg (by omega) (by omega)
    have HY := Lib.hid hy
    clear hys hy
    by_cases hlt : j < lh
    · have hly : y < H := hjy.1 (by omega)
      clear hjy
      go_wp2_with fail
      go_loopw [5, 7, 8] (fun o xv _ wr => ∃ i : Nat, i ≤ lw ∧ xv = .int .i64 ((i : Int) * S) ∧ wr.ownsRow (w.heap.size + 1) 28 4 o (j * lw + i) (flatPP ((List.range (j * lw + i)).map F)) ∧ Below w.heap.size w wr ∧ wr.cell? ⟨w.heap.size, 0, none⟩ = some (.int .i64 W) ∧ wr.cell? ⟨w.heap.size, 1, none⟩ = some (.int .i64 H) ∧ w.heap.size + 1 ≤ wr.heap.size) (fun _ xv _ _ => (W + 16 - intOf xv).toNat)
      case atStart => exact ⟨0, Nat.zero_le _, by rw [show ((0 : Nat) : Int) * S = 0 by simp], hown, hA, f0, f1, hsz⟩
      case round =>
        clear hown hA f0 f1 zf
        obtain ⟨i, hii, rfl, hown, hA, f0, f1, hsz⟩ := hrel
        have zf := blk_lt f0
        have hix := HATX.out i
        have hkk := HK.out j i hlt hii
        obtain ⟨x, hx⟩ : ∃ x, (i : Int) * S = x := ⟨_, rfl⟩
        rw [hx] at hix ⊢
        have hxs : ((i + 1 : Nat) : Int) * S = x + S := by rw [← hx, Int.natCast_add, Int.add_mul]; simp
        have HXN := Lib.hid hxs
        have hx0 : 0 ≤ x := by rw [← hx]; exact Int.mul_nonneg (by omega) (by omega)
        clear hxs
        by_cases hli : i < lw
        · have hlx : x < W := hix.1 (by omega)
          have hbf := HF.out i j (by omega)
          rw [hx, HY.out] at hbf
          obtain ⟨va, vc, rfl, hcp⟩ := own_shape hown
          obtain ⟨K, hKe⟩ : ∃ K, j * lw + i = K := ⟨_, rfl⟩
          rw [hKe] at hown hcp hkk hbf ⊢
          have HKN := Lib.hid (show j * lw + (i + 1) = K + 1 by omega)
          clear hix hx hKe
          have hw1 : IntKind.i64.wrap (x + S) = x + S := IntWalk.i64_in _ (by omega)
          have hw2 : IntKind.i64.wrap (y + S) = y + S := IntWalk.i64_in _ (by omega)
          have hw3 : IntKind.i64.wrap (W - x) = W - x := IntWalk.i64_in _ (by omega)
          have hw4 : IntKind.i64.wrap (H - y) = H - y := IntWalk.i64_in _ (by omega)
          by_cases hgx : W < x + S <;> by_cases hgy : H < y + S
          · obtain ⟨u, hu⟩ : ∃ u, W - x = u := ⟨_, rfl⟩
            obtain ⟨v, hv⟩ : ∃ v, H - y = v := ⟨_, rfl⟩
            have HSN := Lib.hid (show (List.range (K + 1)).map F = (List.range K).map F ++ [((x, y), (u, v))] by
              rw [List.range_succ, List.map_append, List.map_singleton, hbf, show min S (W - x) = u by omega, show min S (H - y) = v by omega])
            clear hbf
            rw [hu] at hw3
            rw [hv] at hw4
            go_wp2_with (at_builtin; refine wpList_append_own _ rfl _ _ 63 rfl (w.heap.size + 1) 28 i0 (.agg #[.int .i64 0, .int .i64 0, .int .i64 0, .int .i64 0]) 4 32 Tryd.underlying63 hi hz0 hz1 hz2 rfl (by decide) _ _ _ rfl ((hown.alloc _).alloc _) ⟨wr.heap.size + 1, 0, none⟩ 1 1 [.int .i64 x, .int .i64 y, .int .i64 u, .int .i64 v] rfl rfl ?d11 ?d12 ?d13 ?d14 ?d15 ?_)
            case d11 => (have := cell_four (wr.alloc (.cells #[.int .i64 x, .int .i64 y, .int .i64 u, .int .i64 v] 28)) (.int .i64 x) (.int .i64 y) (.int .i64 u) (.int .i64 v) 28; rw [World.size_alloc] at this; exact this)
            case d12 => (first | exact ⟨rfl, rfl, rfl, rfl⟩ | exact ⟨rfl, rfl, rfl⟩ | (intro u' hu; simp at hu; rcases hu with rfl | rfl | rfl | rfl <;> rfl))
            case d13 => unfold maxLen; omega
            case d14 => omega
            case d15 => (have := hA.size; simp; omega)
            intro v' w5 hown' hgrow _
            have hl2 : Below wr.heap.size wr ((wr.alloc (.cells #[.int .i64 x, .int .i64 y, .int .i64 u, .int .i64 v] 28)).alloc (.cells #[.int .i64 x, .int .i64 y, .int .i64 u, .int .i64 v] 28)) := bl_al (bl_al (bl0 _) _) _
            have hB5 : Below w.heap.size w w5 := (bl_tr hA hl2).grown hgrow (by have := hA.size; simp; omega) (fun j hj => by have := (hown.lt j hj).1; omega)
            have hne : some w.heap.size ≠ Value.ownBlock (.slice va K vc) := fun e => by have := (hown.lt _ e.symm).1; omega
            have f0' := hgrow.cell (cell_later hl2 f0) hne
            have f1' := hgrow.cell (cell_later hl2 f1) hne
            rw [← flatPP_snoc ((List.range K).map F) ((x, y), (u, v)), ← HSN.out] at hown'
            have hKs : w.heap.size + 1 ≤ w5.heap.size := by have h1 := hgrow.size; simp at h1; omega
            clear hgrow hown hl2 hne f0 f1 hA
            go_wp2
            go_roundw
            case rel => exact ⟨i + 1, by omega, by rw [HXN.out], by rw [HKN.out]; exact hown', hB5, f0', f1', hKs⟩
            case measure => simp [intOf]; omega
          · obtain ⟨u, hu⟩ : ∃ u, W - x = u := ⟨_, rfl⟩
            obtain ⟨v, hv⟩ : ∃ v, v = S := ⟨_, rfl⟩
            have HSN := Lib.hid (show (List.range (K + 1)).map F = (List.range K).map F ++ [((x, y), (u, v))] by
              rw [List.range_succ, List.map_append, List.map_singleton, hbf, show min S (W - x) = u by omega, show min S (H - y) = v by omega])
            clear hbf
            rw [hu] at hw3
            subst hv
            go_wp2_with (at_builtin; refine wpList_append_own _ rfl _ _ 63 rfl (w.heap.size + 1) 28 i0 (.agg #[.int .i64 0, .int .i64 0, .int .i64 0, .int .i64 0]) 4 32 Tryd.underlying63 hi hz0 hz1 hz2 rfl (by decide) _ _ _ rfl ((hown.alloc _).alloc _) ⟨wr.heap.size + 1, 0, none⟩ 1 1 [.int .i64 x, .int .i64 y, .int .i64 u, .int .i64 v] rfl rfl ?d21 ?d22 ?d23 ?d24 ?d25 ?_)
            try case d21 => (have := cell_four (wr.alloc (.cells #[.int .i64 x, .int .i64 y, .int .i64 u, .int .i64 v] 28)) (.int .i64 x) (.int .i64 y) (.int .i64 u) (.int .i64 v) 28; rw [World.size_alloc] at this; exact this)
            case d22 => (first | exact ⟨rfl, rfl, rfl, rfl⟩ | exact ⟨rfl, rfl, rfl⟩ | (intro u' hu; simp at hu; rcases hu with rfl | rfl | rfl | rfl <;> rfl))
            case d23 => unfold maxLen; omega
            case d24 => omega
            case d25 => (have := hA.size; simp; omega)
            intro v' w5 hown' hgrow _
            have hl2 : Below wr.heap.size wr ((wr.alloc (.cells #[.int .i64 x, .int .i64 y, .int .i64 u, .int .i64 v] 28)).alloc (.cells #[.int .i64 x, .int .i64 y, .int .i64 u, .int .i64 v] 28)) := bl_al (bl_al (bl0 _) _) _
            have hB5 : Below w.heap.size w w5 := (bl_tr hA hl2).grown hgrow (by have := hA.size; simp; omega) (fun j hj => by have := (hown.lt j hj).1; omega)
            have hne : some w.heap.size ≠ Value.ownBlock (.slice va K vc) := fun e => by have := (hown.lt _ e.symm).1; omega
            have f0' := hgrow.cell (cell_later hl2 f0) hne
            have f1' := hgrow.cell (cell_later hl2 f1) hne
            rw [← flatPP_snoc ((List.range K).map F) ((x, y), (u, v)), ← HSN.out] at hown'
            have hKs : w.heap.size + 1 ≤ w5.heap.size := by have h1 := hgrow.size; simp at h1; omega
            clear hgrow hown hl2 hne f0 f1 hA
            go_wp2
            go_roundw
            case rel => exact ⟨i + 1, by omega, by rw [HXN.out], by rw [HKN.out]; exact hown', hB5, f0', f1', hKs⟩
            case measure => simp [intOf]; omega
          · obtain ⟨u, hu⟩ : ∃ u, u = S := ⟨_, rfl⟩
            obtain ⟨v, hv⟩ : ∃ v, H - y = v := ⟨_, rfl⟩
            have HSN := Lib.hid (show (List.range (K + 1)).map F = (List.range K).map F ++ [((x, y), (u, v))] by
              rw [List.range_succ, List.map_append, List.map_singleton, hbf, show min S (W - x) = u by omega, show min S (H - y) = v by omega])
            clear hbf
            rw [hv] at hw4
            subst hu
            go_wp2_with (at_builtin; refine wpList_append_own _ rfl _ _ 63 rfl (w.heap.size + 1) 28 i0 (.agg #[.int .i64 0, .int .i64 0, .int .i64 0, .int .i64 0]) 4 32 Tryd.underlying63 hi hz0 hz1 hz2 rfl (by decide) _ _ _ rfl ((hown.alloc _).alloc _) ⟨wr.heap.size + 1, 0, none⟩ 1 1 [.int .i64 x, .int .i64 y, .int .i64 u, .int .i64 v] rfl rfl ?d31 ?d32 ?d33 ?d34 ?d35 ?_)
            try case d31 => (have := cell_four (wr.alloc (.cells #[.int .i64 x, .int .i64 y, .int .i64 u, .int .i64 v] 28)) (.int .i64 x) (.int .i64 y) (.int .i64 u) (.int .i64 v) 28; rw [World.size_alloc] at this; exact this)
            case d32 => (first | exact ⟨rfl, rfl, rfl, rfl⟩ | exact ⟨rfl, rfl, rfl⟩ | (intro u' hu; simp at hu; rcases hu with rfl | rfl | rfl | rfl <;> rfl))
            case d33 => unfold maxLen; omega
            case d34 => omega
            case d35 => (have := hA.size; simp; omega)
            intro v' w5 hown' hgrow _
            have hl2 : Below wr.heap.size wr ((wr.alloc (.cells #[.int .i64 x, .int .i64 y, .int .i64 u, .int .i64 v] 28)).alloc (.cells #[.int .i64 x, .int .i64 y, .int .i64 u, .int .i64 v] 28)) := bl_al (bl_al (bl0 _) _) _
            have hB5 : Below w.heap.size w w5 := (bl_tr hA hl2).grown hgrow (by have := hA.size; simp; omega) (fun j hj => by have := (hown.lt j hj).1; omega)
            have hne : some w.heap.size ≠ Value.ownBlock (.slice va K vc) := fun e => by have := (hown.lt _ e.symm).1; omega
            have f0' := hgrow.cell (cell_later hl2 f0) hne
            have f1' := hgrow.cell (cell_later hl2 f1) hne
            rw [← flatPP_snoc ((List.range K).map F) ((x, y), (u, v)), ← HSN.out] at hown'
            have hKs : w.heap.size + 1 ≤ w5.heap.size := by have h1 := hgrow.size; simp at h1; omega
            clear hgrow hown hl2 hne f0 f1 hA
            go_wp2
            go_roundw
            case rel => exact ⟨i + 1, by omega, by rw [HXN.out], by rw [HKN.out]; exact hown', hB5, f0', f1', hKs⟩
            case measure => simp [intOf]; omega
          · obtain ⟨u, hu⟩ : ∃ u, u = S := ⟨_, rfl⟩
            have HSN := Lib.hid (show (List.range (K + 1)).map F = (List.range K).map F ++ [((x, y), (u, u))] by
              rw [List.range_succ, List.map_append, List.map_singleton, hbf, show min S (W - x) = u by omega, show min S (H - y) = u by omega])
            clear hbf
            subst hu
            go_wp2_with (at_builtin; refine wpList_append_own _ rfl _ _ 63 rfl (w.heap.size + 1) 28 i0 (.agg #[.int .i64 0, .int .i64 0, .int .i64 0, .int .i64 0]) 4 32 Tryd.underlying63 hi hz0 hz1 hz2 rfl (by decide) _ _ _ rfl ((hown.alloc _).alloc _) ⟨wr.heap.size + 1, 0, none⟩ 1 1 [.int .i64 x, .int .i64 y, .int .i64 u, .int .i64 u] rfl rfl ?d41 ?d42 ?d43 ?d44 ?d45 ?_)
            try case d41 => (have := cell_four (wr.alloc (.cells #[.int .i64 x, .int .i64 y, .int .i64 u, .int .i64 u] 28)) (.int .i64 x) (.int .i64 y) (.int .i64 u) (.int .i64 u) 28; rw [World.size_alloc] at this; exact this)
            case d42 => (first | exact ⟨rfl, rfl, rfl, rfl⟩ | exact ⟨rfl, rfl, rfl⟩ | (intro u' hu; simp at hu; rcases hu with rfl | rfl | rfl | rfl <;> rfl))
            case d43 => unfold maxLen; omega
            case d44 => omega
            case d45 => (have := hA.size; simp; omega)
            intro v' w5 hown' hgrow _
            have hl2 : Below wr.heap.size wr ((wr.alloc (.cells #[.int .i64 x, .int .i64 y, .int .i64 u, .int .i64 u] 28)).alloc (.cells #[.int .i64 x, .int .i64 y, .int .i64 u, .int .i64 u] 28)) := bl_al (bl_al (bl0 _) _) _
            have hB5 : Below w.heap.size w w5 := (bl_tr hA hl2).grown hgrow (by have := hA.size; simp; omega) (fun j hj => by have := (hown.lt j hj).1; omega)
            have hne : some w.heap.size ≠ Value.ownBlock (.slice va K vc) := fun e => by have := (hown.lt _ e.symm).1; omega
            have f0' := hgrow.cell (cell_later hl2 f0) hne
            have f1' := hgrow.cell (cell_later hl2 f1) hne
            rw [← flatPP_snoc ((List.range K).map F) ((x, y), (u, u)), ← HSN.out] at hown'
            have hKs : w.heap.size + 1 ≤ w5.heap.size := by have h1 := hgrow.size; simp at h1; omega
            clear hgrow hown hl2 hne f0 f1 hA
            go_wp2
            go_roundw
            case rel => exact ⟨i + 1, by omega, by rw [HXN.out], by rw [HKN.out]; exact hown', hB5, f0', f1', hKs⟩
            case measure => simp [intOf]; omega
        · obtain rfl : i = lw := by omega
          have hge : ¬ x < W := fun h => by have := hix.2 h; omega
          have HKN := Lib.hid (show (j + 1) * i = j * i + i by rw [Nat.succ_mul])
          clear hix hx
          go_wp2
          go_roundw
          case rel => exact ⟨j + 1, by omega, by rw [HYS.out], by rw [HKN.out]; exact hown, hA, f0, f1, hsz⟩
          case measure => simp [intOf]; omega
    · obtain rfl : j = lh := by omega
      have hge : ¬ y < H := fun h => by have := hjy.2 h; omega
      obtain ⟨va, vc, rfl, hcp⟩ := own_shape hown
      have hl := HL.out
      have hrow : RowPP wr va ((List.range (j * lw)).map F) := rowX_of_own (cap := vc) (by simpa using hown)
      have HR := Lib.hid (show ∀ e, e = Ending.returned (.slice va (j * lw) vc) → BxsR (boxL W H S) w e wr from fun e he => ⟨va, vc, by rw [he, hl]; simp, by rw [hl]; exact hrow, hA⟩)
      obtain ⟨K, hKe⟩ : ∃ K, j * lw = K := ⟨_, rfl⟩
      rw [hKe] at HR ⊢
      clear hown hrow hl hjy hKe
      go_wp2
      go_ret
      exact HR.out _ rfl
end Go.Proofs.YtbdfjdipjacamaaDoor
