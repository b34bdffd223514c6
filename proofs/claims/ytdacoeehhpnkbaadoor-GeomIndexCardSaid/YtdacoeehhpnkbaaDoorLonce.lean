/- GeomOnce: the law's walk. -/
import Derived.Test.YtdacoeehhpnkbaaDoorGf
import Derived.Lib.Hide
namespace Go.Proofs.YtdacoeehhpnkbaaDoor
open Go.RowKit

def idxN (W H X Y : Int) : Int := if inB W H X Y = true then Y * W + X else 0
def idxE (W H X Y : Int) : Int := if inB W H X Y = true then 0 else 10
theorem index_any (W H X Y : Int) (w : World) :
    Calls Tryd.prog 15 #[.agg #[.int .i64 W, .int .i64 H], .agg #[.int .i64 X, .int .i64 Y]] w fun e w' => e = .returned (.tuple #[.int .i64 (idxN W H X Y), .int .i64 (idxE W H X Y)]) ∧ Below w.heap.size w w' := by
  cases h : inB W H X Y
  · have := index_no W H X Y w h
    simpa [idxN, idxE, h] using this
  · have := index_yes W H X Y w h
    simpa [idxN, idxE, h] using this
theorem index_to (W H X Y A : Int) (w : World) (h : inB W H X Y = true) (hA : Y * W + X = A) :
    Calls Tryd.prog 15 #[.agg #[.int .i64 W, .int .i64 H], .agg #[.int .i64 X, .int .i64 Y]] w fun e w' => e = .returned (.tuple #[.int .i64 A, .int .i64 0]) ∧ Below w.heap.size w w' := by
  subst hA
  exact index_yes W H X Y w h

theorem divmod_of {W X Y : Int} (h0 : 0 ≤ X) (h1 : X < W) : (Y * W + X) % W = X ∧ (Y * W + X) / W = Y := by
  constructor
  · rw [Int.add_comm, Int.add_mul_emod_self_right, Int.emod_eq_of_lt h0 h1]
  · rw [Int.add_comm, Int.add_mul_ediv_right _ _ (by omega), Int.ediv_eq_zero_of_lt h0 h1, Int.zero_add]

theorem at_of_index {W H X Y A : Int} (h : inB W H X Y = true) (hA : Y * W + X = A) : atB W H A = true ∧ A % W = X ∧ A / W = Y := by
  subst hA
  obtain ⟨h1, h2, h3, h4, h5, h6, h7, h8⟩ := inB_iff.1 h
  obtain ⟨e1, e2⟩ := divmod_of (Y := Y) h5 h6
  refine ⟨atB_iff.2 ⟨h1, h2, h3, h4, ?_, ?_⟩, e1, e2⟩
  · have := Int.mul_nonneg h7 (show 0 ≤ W by omega); omega
  · have a : (Y + 1) * W ≤ H * W := Int.mul_le_mul_of_nonneg_right (by omega) (by omega)
    rw [Int.add_mul] at a
    rw [Int.mul_comm W H]; omega

theorem at_to (W H X Y A : Int) (w : World) (h : inB W H X Y = true) (hA : Y * W + X = A) :
    Calls Tryd.prog 16 #[.agg #[.int .i64 W, .int .i64 H], .int .i64 A] w fun e w' => e = .returned (.tuple #[.agg #[.int .i64 X, .int .i64 Y], .int .i64 0]) ∧ Below w.heap.size w w' := by
  obtain ⟨h1, h2, h3⟩ := at_of_index h hA
  have := at_yes W H A w h1
  rw [h2, h3] at this
  exact this

theorem in_of_at {W H i : Int} (h : atB W H i = true) : inB W H (i % W) (i / W) = true ∧ i / W * W + i % W = i := by
  obtain ⟨h1, h2, h3, h4, h5, h6⟩ := atB_iff.1 h
  have m0 := Int.emod_nonneg i (show W ≠ 0 by omega)
  have m1 := Int.emod_lt_of_pos i (show 0 < W by omega)
  have e := Int.mul_ediv_add_emod i W
  have d0 : 0 ≤ i / W := Int.ediv_nonneg h5 (by omega)
  have d1 : i / W < H := Int.ediv_lt_of_lt_mul (by omega) (by rw [Int.mul_comm]; exact h6)
  exact ⟨inB_iff.2 ⟨h1, h2, h3, h4, m0, m1, d0, d1⟩, by rw [Int.mul_comm]; exact e⟩

theorem at_any' (W H i P Q : Int) (w : World) (h : atB W H i = true) (hP : i % W = P) (hQ : i / W = Q) :
    Calls Tryd.prog 16 #[.agg #[.int .i64 W, .int .i64 H], .int .i64 i] w fun e w' => e = .returned (.tuple #[.agg #[.int .i64 P, .int .i64 Q], .int .i64 0]) ∧ Below w.heap.size w w' := by
  subst hP hQ
  exact at_yes W H i w h

theorem once_lt {W H X Y U V A B : Int} (h : inB W H X Y = true) (k : inB W H U V = true) (hA : Y * W + X = A) (hB : V * W + U = B) (hl : Y < V) : A < B := by
  subst hA hB
  obtain ⟨h1, h2, h3, h4, h5, h6, h7, h8⟩ := inB_iff.1 h
  obtain ⟨k1, k2, k3, k4, k5, k6, k7, k8⟩ := inB_iff.1 k
  have a : (Y + 1) * W ≤ V * W := Int.mul_le_mul_of_nonneg_right (by omega) (by omega)
  rw [Int.add_mul] at a
  omega
theorem once_ne {W H X Y U V A B : Int} (h : inB W H X Y = true) (k : inB W H U V = true) (hA : Y * W + X = A) (hB : V * W + U = B) (hn : ¬ (X = U ∧ Y = V)) : A ≠ B := by
  intro e
  obtain ⟨_, a1, a2⟩ := at_of_index h hA
  obtain ⟨_, b1, b2⟩ := at_of_index k hB
  subst e
  exact hn ⟨a1.symm.trans b1, a2.symm.trans b2⟩



set_option maxRecDepth 100000 in
set_option maxHeartbeats 3200000 in
theorem once_out (W H X Y U V i : Int) (w : World) (hs : Stp w) (hi : inB W H X Y = false) : Calls
    Tryd.prog 7 #[.agg #[.int .i64 W, .int .i64 H], .agg #[.int .i64 X, .int .i64 Y, .int .i64 U, .int .i64 V], .int .i64 i] w fun e w' => e = .returned (.bool true) ∧ Below w.heap.size w w' := by
  have hA := bl0 w
  go_enter Tryd.func7, Tryd.ntmps7
  go_wp2_with fail
  refine (index_no _ _ _ _ _ hi).mono ?_
  rintro e w1 ⟨rfl, hb⟩
  have hk : Below w.heap.size w w1 := by first | exact hb | exact bl_tr (bl_al (bl0 _) _) hb | exact bl_tr (bl_dr (bl_al (bl0 _) _)) hb | exact bl_tr (bl_al (bl_al (bl0 _) _) _) hb | exact bl_tr (bl_dr (bl_al (bl_al (bl0 _) _) _)) hb | exact bl_tr (bl_al (bl_al (bl_al (bl0 _) _) _) _) hb | exact bl_tr (bl_dr (bl_al (bl_al (bl_al (bl0 _) _) _) _)) hb | exact bl_tr (bl_al (bl_al (bl_al (bl_al (bl0 _) _) _) _) _) hb | exact bl_tr (bl_dr (bl_al (bl_al (bl_al (bl_al (bl0 _) _) _) _) _)) hb | exact bl_tr (bl_al (bl_al (bl_al (bl_al (bl_al (bl0 _) _) _) _) _) _) hb | exact bl_tr (bl_dr (bl_al (bl_al (bl_al (bl_al (bl_al (bl0 _) _) _) _) _) _)) hb | exact bl_tr (bl_al (bl_al (bl_al (bl_al (bl_al (bl_al (bl0 _) _) _) _) _) _) _) hb | exact bl_tr (bl_dr (bl_al (bl_al (bl_al (bl_al (bl_al (bl_al (bl0 _) _) _) _) _) _) _)) hb | exact bl_tr (bl_dr (bl0 _)) hb
  replace hA := bl_tr hA hk
  have s0 := cell_later hb (v := .int .i64 W) (a := ⟨w.heap.size, 0, none⟩) (by simp [go_sem])
  have s1 := cell_later hb (v := .int .i64 H) (a := ⟨w.heap.size, 1, none⟩) (by simp [go_sem])
  have a0 := cell_later hb (v := .int .i64 X) (a := ⟨w.heap.size + 1, 0, none⟩) (by simp [go_sem])
  have a1 := cell_later hb (v := .int .i64 Y) (a := ⟨w.heap.size + 1, 1, none⟩) (by simp [go_sem])
  have b0 := cell_later hb (v := .int .i64 U) (a := ⟨w.heap.size + 1, 2, none⟩) (by simp [go_sem])
  have b1 := cell_later hb (v := .int .i64 V) (a := ⟨w.heap.size + 1, 3, none⟩) (by simp [go_sem])
  clear hb hk
  have zs0 := blk_lt s0
  have zs1 := blk_lt s1
  have za0 := blk_lt a0
  have za1 := blk_lt a1
  have zb0 := blk_lt b0
  have zb1 := blk_lt b1
  go_wp2_with fail
  refine (index_any _ _ _ _ _).mono ?_
  rintro e wz ⟨rfl, hb⟩
  have hk : Below w1.heap.size w1 wz := by first | exact hb | exact bl_tr (bl_al (bl0 _) _) hb | exact bl_tr (bl_dr (bl_al (bl0 _) _)) hb | exact bl_tr (bl_al (bl_al (bl0 _) _) _) hb | exact bl_tr (bl_dr (bl_al (bl_al (bl0 _) _) _)) hb | exact bl_tr (bl_al (bl_al (bl_al (bl0 _) _) _) _) hb | exact bl_tr (bl_dr (bl_al (bl_al (bl_al (bl0 _) _) _) _)) hb | exact bl_tr (bl_al (bl_al (bl_al (bl_al (bl0 _) _) _) _) _) hb | exact bl_tr (bl_dr (bl_al (bl_al (bl_al (bl_al (bl0 _) _) _) _) _)) hb | exact bl_tr (bl_al (bl_al (bl_al (bl_al (bl_al (bl0 _) _) _) _) _) _) hb | exact bl_tr (bl_dr (bl_al (bl_al (bl_al (bl_al (bl_al (bl0 _) _) _) _) _) _)) hb | exact bl_tr (bl_al (bl_al (bl_al (bl_al (bl_al (bl_al (bl0 _) _) _) _) _) _) _) hb | exact bl_tr (bl_dr (bl_al (bl_al (bl_al (bl_al (bl_al (bl_al (bl0 _) _) _) _) _) _) _)) hb | exact bl_tr (bl_dr (bl0 _)) hb
  replace hA := bl_tr hA hk
  replace s0 := cell_later hk s0
  replace s1 := cell_later hk s1
  clear hb hk
  have zs0 := blk_lt s0
  have zs1 := blk_lt s1
  cases ht : atB W H i
  · cases hm : mayB W H
    · --
      go_wp2_with fail
      refine (at_no _ _ _ _ ht).mono ?_
      rintro e v1 ⟨rfl, hb⟩
      have hk : Below wz.heap.size wz v1 := by first | exact hb | exact bl_tr (bl_al (bl0 _) _) hb | exact bl_tr (bl_dr (bl_al (bl0 _) _)) hb | exact bl_tr (bl_al (bl_al (bl0 _) _) _) hb | exact bl_tr (bl_dr (bl_al (bl_al (bl0 _) _) _)) hb | exact bl_tr (bl_al (bl_al (bl_al (bl0 _) _) _) _) hb | exact bl_tr (bl_dr (bl_al (bl_al (bl_al (bl0 _) _) _) _)) hb | exact bl_tr (bl_al (bl_al (bl_al (bl_al (bl0 _) _) _) _) _) hb | exact bl_tr (bl_dr (bl_al (bl_al (bl_al (bl_al (bl0 _) _) _) _) _)) hb | exact bl_tr (bl_al (bl_al (bl_al (bl_al (bl_al (bl0 _) _) _) _) _) _) hb | exact bl_tr (bl_dr (bl_al (bl_al (bl_al (bl_al (bl_al (bl0 _) _) _) _) _) _)) hb | exact bl_tr (bl_al (bl_al (bl_al (bl_al (bl_al (bl_al (bl0 _) _) _) _) _) _) _) hb | exact bl_tr (bl_dr (bl_al (bl_al (bl_al (bl_al (bl_al (bl_al (bl0 _) _) _) _) _) _) _)) hb | exact bl_tr (bl_dr (bl0 _)) hb
      replace hA := bl_tr hA hk
      replace s0 := cell_later hk s0
      replace s1 := cell_later hk s1
      clear hb hk
      have zs0 := blk_lt s0
      have zs1 := blk_lt s1
      go_wp2_with fail
      refine (may_any _ _ _).mono ?_
      rintro e v2 ⟨rfl, hb⟩
      have hk : Below v1.heap.size v1 v2 := by first | exact hb | exact bl_tr (bl_al (bl0 _) _) hb | exact bl_tr (bl_dr (bl_al (bl0 _) _)) hb | exact bl_tr (bl_al (bl_al (bl0 _) _) _) hb | exact bl_tr (bl_dr (bl_al (bl_al (bl0 _) _) _)) hb | exact bl_tr (bl_al (bl_al (bl_al (bl0 _) _) _) _) hb | exact bl_tr (bl_dr (bl_al (bl_al (bl_al (bl0 _) _) _) _)) hb | exact bl_tr (bl_al (bl_al (bl_al (bl_al (bl0 _) _) _) _) _) hb | exact bl_tr (bl_dr (bl_al (bl_al (bl_al (bl_al (bl0 _) _) _) _) _)) hb | exact bl_tr (bl_al (bl_al (bl_al (bl_al (bl_al (bl0 _) _) _) _) _) _) hb | exact bl_tr (bl_dr (bl_al (bl_al (bl_al (bl_al (bl_al (bl0 _) _) _) _) _) _)) hb | exact bl_tr (bl_al (bl_al (bl_al (bl_al (bl_al (bl_al (bl0 _) _) _) _) _) _) _) hb | exact bl_tr (bl_dr (bl_al (bl_al (bl_al (bl_al (bl_al (bl_al (bl0 _) _) _) _) _) _) _)) hb | exact bl_tr (bl_dr (bl0 _)) hb
      replace hA := bl_tr hA hk
      replace s0 := cell_later hk s0
      replace s1 := cell_later hk s1
      clear hb hk
      have zs0 := blk_lt s0
      have zs1 := blk_lt s1
      go_wp2_with fail
      refine (awake_any _ (hs.below (by first | exact hA | exact (bl_al hA _) | exact (bl_dr (bl_al hA _)) | exact (bl_al (bl_al hA _) _) | exact (bl_dr (bl_al (bl_al hA _) _)) | exact (bl_al (bl_al (bl_al hA _) _) _) | exact (bl_dr (bl_al (bl_al (bl_al hA _) _) _)) | exact (bl_al (bl_al (bl_al (bl_al hA _) _) _) _) | exact (bl_dr (bl_al (bl_al (bl_al (bl_al hA _) _) _) _)) | exact (bl_al (bl_al (bl_al (bl_al (bl_al hA _) _) _) _) _) | exact (bl_dr (bl_al (bl_al (bl_al (bl_al (bl_al hA _) _) _) _) _)) | exact (bl_al (bl_al (bl_al (bl_al (bl_al (bl_al hA _) _) _) _) _) _) | exact (bl_dr (bl_al (bl_al (bl_al (bl_al (bl_al (bl_al hA _) _) _) _) _) _)) | exact (bl_dr hA)))).mono ?_
      rintro e v3 ⟨rfl, hb⟩
      have hk : Below v2.heap.size v2 v3 := by first | exact hb | exact bl_tr (bl_al (bl0 _) _) hb | exact bl_tr (bl_dr (bl_al (bl0 _) _)) hb | exact bl_tr (bl_al (bl_al (bl0 _) _) _) hb | exact bl_tr (bl_dr (bl_al (bl_al (bl0 _) _) _)) hb | exact bl_tr (bl_al (bl_al (bl_al (bl0 _) _) _) _) hb | exact bl_tr (bl_dr (bl_al (bl_al (bl_al (bl0 _) _) _) _)) hb | exact bl_tr (bl_al (bl_al (bl_al (bl_al (bl0 _) _) _) _) _) hb | exact bl_tr (bl_dr (bl_al (bl_al (bl_al (bl_al (bl0 _) _) _) _) _)) hb | exact bl_tr (bl_al (bl_al (bl_al (bl_al (bl_al (bl0 _) _) _) _) _) _) hb | exact bl_tr (bl_dr (bl_al (bl_al (bl_al (bl_al (bl_al (bl0 _) _) _) _) _) _)) hb | exact bl_tr (bl_al (bl_al (bl_al (bl_al (bl_al (bl_al (bl0 _) _) _) _) _) _) _) hb | exact bl_tr (bl_dr (bl_al (bl_al (bl_al (bl_al (bl_al (bl_al (bl0 _) _) _) _) _) _) _)) hb | exact bl_tr (bl_dr (bl0 _)) hb
      replace hA := bl_tr hA hk
      clear hb hk
      go_wp2
      go_ret
      exact ⟨rfl, hA⟩
    · have hj : i < 0 ∨ W * H ≤ i := by
        have h1 := mayB_iff.1 hm
        have h2 : ¬ (1 ≤ W ∧ W ≤ 256 ∧ 1 ≤ H ∧ H ≤ 256 ∧ 0 ≤ i ∧ i < W * H) := by simpa [atB] using ht
        omega
      obtain ⟨h1, h2, h3, h4⟩ := mayB_iff.1 hm
      obtain ⟨m1, m2⟩ : 0 ≤ W * H ∧ W * H ≤ 65536 := ⟨Int.mul_nonneg (by omega) (by omega), by have a : W * H ≤ 256 * H := Int.mul_le_mul_of_nonneg_right h2 (by omega); omega⟩
      by_cases hl : i < 0
      all_goals
        go_wp2_with fail
        refine (at_no _ _ _ _ ht).mono ?_
        rintro e v1 ⟨rfl, hb⟩
        have hk : Below wz.heap.size wz v1 := by first | exact hb | exact bl_tr (bl_al (bl0 _) _) hb | exact bl_tr (bl_dr (bl_al (bl0 _) _)) hb | exact bl_tr (bl_al (bl_al (bl0 _) _) _) hb | exact bl_tr (bl_dr (bl_al (bl_al (bl0 _) _) _)) hb | exact bl_tr (bl_al (bl_al (bl_al (bl0 _) _) _) _) hb | exact bl_tr (bl_dr (bl_al (bl_al (bl_al (bl0 _) _) _) _)) hb | exact bl_tr (bl_al (bl_al (bl_al (bl_al (bl0 _) _) _) _) _) hb | exact bl_tr (bl_dr (bl_al (bl_al (bl_al (bl_al (bl0 _) _) _) _) _)) hb | exact bl_tr (bl_al (bl_al (bl_al (bl_al (bl_al (bl0 _) _) _) _) _) _) hb | exact bl_tr (bl_dr (bl_al (bl_al (bl_al (bl_al (bl_al (bl0 _) _) _) _) _) _)) hb | exact bl_tr (bl_al (bl_al (bl_al (bl_al (bl_al (bl_al (bl0 _) _) _) _) _) _) _) hb | exact bl_tr (bl_dr (bl_al (bl_al (bl_al (bl_al (bl_al (bl_al (bl0 _) _) _) _) _) _) _)) hb | exact bl_tr (bl_dr (bl0 _)) hb
        replace hA := bl_tr hA hk
        replace s0 := cell_later hk s0
        replace s1 := cell_later hk s1
        clear hb hk
        have zs0 := blk_lt s0
        have zs1 := blk_lt s1
        go_wp2_with fail
        refine (may_any _ _ _).mono ?_
        rintro e v2 ⟨rfl, hb⟩
        have hk : Below v1.heap.size v1 v2 := by first | exact hb | exact bl_tr (bl_al (bl0 _) _) hb | exact bl_tr (bl_dr (bl_al (bl0 _) _)) hb | exact bl_tr (bl_al (bl_al (bl0 _) _) _) hb | exact bl_tr (bl_dr (bl_al (bl_al (bl0 _) _) _)) hb | exact bl_tr (bl_al (bl_al (bl_al (bl0 _) _) _) _) hb | exact bl_tr (bl_dr (bl_al (bl_al (bl_al (bl0 _) _) _) _)) hb | exact bl_tr (bl_al (bl_al (bl_al (bl_al (bl0 _) _) _) _) _) hb | exact bl_tr (bl_dr (bl_al (bl_al (bl_al (bl_al (bl0 _) _) _) _) _)) hb | exact bl_tr (bl_al (bl_al (bl_al (bl_al (bl_al (bl0 _) _) _) _) _) _) hb | exact bl_tr (bl_dr (bl_al (bl_al (bl_al (bl_al (bl_al (bl0 _) _) _) _) _) _)) hb | exact bl_tr (bl_al (bl_al (bl_al (bl_al (bl_al (bl_al (bl0 _) _) _) _) _) _) _) hb | exact bl_tr (bl_dr (bl_al (bl_al (bl_al (bl_al (bl_al (bl_al (bl0 _) _) _) _) _) _) _)) hb | exact bl_tr (bl_dr (bl0 _)) hb
        replace hA := bl_tr hA hk
        replace s0 := cell_later hk s0
        replace s1 := cell_later hk s1
        clear hb hk
        have zs0 := blk_lt s0
        have zs1 := blk_lt s1
        go_wp2_with fail
        refine (awake_any _ (hs.below (by first | exact hA | exact (bl_al hA _) | exact (bl_dr (bl_al hA _)) | exact (bl_al (bl_al hA _) _) | exact (bl_dr (bl_al (bl_al hA _) _)) | exact (bl_al (bl_al (bl_al hA _) _) _) | exact (bl_dr (bl_al (bl_al (bl_al hA _) _) _)) | exact (bl_al (bl_al (bl_al (bl_al hA _) _) _) _) | exact (bl_dr (bl_al (bl_al (bl_al (bl_al hA _) _) _) _)) | exact (bl_al (bl_al (bl_al (bl_al (bl_al hA _) _) _) _) _) | exact (bl_dr (bl_al (bl_al (bl_al (bl_al (bl_al hA _) _) _) _) _)) | exact (bl_al (bl_al (bl_al (bl_al (bl_al (bl_al hA _) _) _) _) _) _) | exact (bl_dr (bl_al (bl_al (bl_al (bl_al (bl_al (bl_al hA _) _) _) _) _) _)) | exact (bl_dr hA)))).mono ?_
        rintro e v3 ⟨rfl, hb⟩
        have hk : Below v2.heap.size v2 v3 := by first | exact hb | exact bl_tr (bl_al (bl0 _) _) hb | exact bl_tr (bl_dr (bl_al (bl0 _) _)) hb | exact bl_tr (bl_al (bl_al (bl0 _) _) _) hb | exact bl_tr (bl_dr (bl_al (bl_al (bl0 _) _) _)) hb | exact bl_tr (bl_al (bl_al (bl_al (bl0 _) _) _) _) hb | exact bl_tr (bl_dr (bl_al (bl_al (bl_al (bl0 _) _) _) _)) hb | exact bl_tr (bl_al (bl_al (bl_al (bl_al (bl0 _) _) _) _) _) hb | exact bl_tr (bl_dr (bl_al (bl_al (bl_al (bl_al (bl0 _) _) _) _) _)) hb | exact bl_tr (bl_al (bl_al (bl_al (bl_al (bl_al (bl0 _) _) _) _) _) _) hb | exact bl_tr (bl_dr (bl_al (bl_al (bl_al (bl_al (bl_al (bl0 _) _) _) _) _) _)) hb | exact bl_tr (bl_al (bl_al (bl_al (bl_al (bl_al (bl_al (bl0 _) _) _) _) _) _) _) hb | exact bl_tr (bl_dr (bl_al (bl_al (bl_al (bl_al (bl_al (bl_al (bl0 _) _) _) _) _) _) _)) hb | exact bl_tr (bl_dr (bl0 _)) hb
        replace hA := bl_tr hA hk
        clear hb hk
        go_wp2
        go_ret
        exact ⟨ret_bool (by simp; try omega), hA⟩
  · obtain ⟨hin, hN⟩ := in_of_at ht
    obtain ⟨P, hP⟩ : ∃ P, i % W = P := ⟨_, rfl⟩
    obtain ⟨Q, hQ⟩ : ∃ Q, i / W = Q := ⟨_, rfl⟩
    rw [hP, hQ] at hin
    rw [hP, hQ] at hN
    have HP := Lib.hid hP
    have HQ := Lib.hid hQ
    have HN := Lib.hid hN
    clear hP hQ hN
    go_wp2_with fail
    refine (at_any' _ _ _ _ _ _ ht HP.out HQ.out).mono ?_
    rintro e v1 ⟨rfl, hb⟩
    have hk : Below wz.heap.size wz v1 := by first | exact hb | exact bl_tr (bl_al (bl0 _) _) hb | exact bl_tr (bl_dr (bl_al (bl0 _) _)) hb | exact bl_tr (bl_al (bl_al (bl0 _) _) _) hb | exact bl_tr (bl_dr (bl_al (bl_al (bl0 _) _) _)) hb | exact bl_tr (bl_al (bl_al (bl_al (bl0 _) _) _) _) hb | exact bl_tr (bl_dr (bl_al (bl_al (bl_al (bl0 _) _) _) _)) hb | exact bl_tr (bl_al (bl_al (bl_al (bl_al (bl0 _) _) _) _) _) hb | exact bl_tr (bl_dr (bl_al (bl_al (bl_al (bl_al (bl0 _) _) _) _) _)) hb | exact bl_tr (bl_al (bl_al (bl_al (bl_al (bl_al (bl0 _) _) _) _) _) _) hb | exact bl_tr (bl_dr (bl_al (bl_al (bl_al (bl_al (bl_al (bl0 _) _) _) _) _) _)) hb | exact bl_tr (bl_al (bl_al (bl_al (bl_al (bl_al (bl_al (bl0 _) _) _) _) _) _) _) hb | exact bl_tr (bl_dr (bl_al (bl_al (bl_al (bl_al (bl_al (bl_al (bl0 _) _) _) _) _) _) _)) hb | exact bl_tr (bl_dr (bl0 _)) hb
    replace hA := bl_tr hA hk
    replace s0 := cell_later hk s0
    replace s1 := cell_later hk s1
    clear hb hk
    have zs0 := blk_lt s0
    have zs1 := blk_lt s1
    go_wp2_with fail
    refine (index_to _ _ _ _ _ _ hin HN.out).mono ?_
    rintro e v2 ⟨rfl, hb⟩
    have hk : Below v1.heap.size v1 v2 := by first | exact hb | exact bl_tr (bl_al (bl0 _) _) hb | exact bl_tr (bl_dr (bl_al (bl0 _) _)) hb | exact bl_tr (bl_al (bl_al (bl0 _) _) _) hb | exact bl_tr (bl_dr (bl_al (bl_al (bl0 _) _) _)) hb | exact bl_tr (bl_al (bl_al (bl_al (bl0 _) _) _) _) hb | exact bl_tr (bl_dr (bl_al (bl_al (bl_al (bl0 _) _) _) _)) hb | exact bl_tr (bl_al (bl_al (bl_al (bl_al (bl0 _) _) _) _) _) hb | exact bl_tr (bl_dr (bl_al (bl_al (bl_al (bl_al (bl0 _) _) _) _) _)) hb | exact bl_tr (bl_al (bl_al (bl_al (bl_al (bl_al (bl0 _) _) _) _) _) _) hb | exact bl_tr (bl_dr (bl_al (bl_al (bl_al (bl_al (bl_al (bl0 _) _) _) _) _) _)) hb | exact bl_tr (bl_al (bl_al (bl_al (bl_al (bl_al (bl_al (bl0 _) _) _) _) _) _) _) hb | exact bl_tr (bl_dr (bl_al (bl_al (bl_al (bl_al (bl_al (bl_al (bl0 _) _) _) _) _) _) _)) hb | exact bl_tr (bl_dr (bl0 _)) hb
    replace hA := bl_tr hA hk
    replace s0 := cell_later hk s0
    replace s1 := cell_later hk s1
    have c0 := cell_later hb (v := .int .i64 P) (a := ⟨v1.heap.size, 0, none⟩) (by simp [go_sem])
    have c1 := cell_later hb (v := .int .i64 Q) (a := ⟨v1.heap.size, 1, none⟩) (by simp [go_sem])
    clear hb hk
    have zs0 := blk_lt s0
    have zs1 := blk_lt s1
    have zc0 := blk_lt c0
    have zc1 := blk_lt c1
    go_wp2_with fail
    refine (in_any _ _ _ _ _).mono ?_
    rintro e v3 ⟨rfl, hb⟩
    have hk : Below v2.heap.size v2 v3 := by first | exact hb | exact bl_tr (bl_al (bl0 _) _) hb | exact bl_tr (bl_dr (bl_al (bl0 _) _)) hb | exact bl_tr (bl_al (bl_al (bl0 _) _) _) hb | exact bl_tr (bl_dr (bl_al (bl_al (bl0 _) _) _)) hb | exact bl_tr (bl_al (bl_al (bl_al (bl0 _) _) _) _) hb | exact bl_tr (bl_dr (bl_al (bl_al (bl_al (bl0 _) _) _) _)) hb | exact bl_tr (bl_al (bl_al (bl_al (bl_al (bl0 _) _) _) _) _) hb | exact bl_tr (bl_dr (bl_al (bl_al (bl_al (bl_al (bl0 _) _) _) _) _)) hb | exact bl_tr (bl_al (bl_al (bl_al (bl_al (bl_al (bl0 _) _) _) _) _) _) hb | exact bl_tr (bl_dr (bl_al (bl_al (bl_al (bl_al (bl_al (bl0 _) _) _) _) _) _)) hb | exact bl_tr (bl_al (bl_al (bl_al (bl_al (bl_al (bl_al (bl0 _) _) _) _) _) _) _) hb | exact bl_tr (bl_dr (bl_al (bl_al (bl_al (bl_al (bl_al (bl_al (bl0 _) _) _) _) _) _) _)) hb | exact bl_tr (bl_dr (bl0 _)) hb
    replace hA := bl_tr hA hk
    replace s0 := cell_later hk s0
    replace s1 := cell_later hk s1
    replace c0 := cell_later hk c0
    replace c1 := cell_later hk c1
    clear hb hk
    have zs0 := blk_lt s0
    have zs1 := blk_lt s1
    have zc0 := blk_lt c0
    have zc1 := blk_lt c1
    go_wp2_with fail
    refine (awake_any _ (hs.below (by first | exact hA | exact (bl_al hA _) | exact (bl_dr (bl_al hA _)) | exact (bl_al (bl_al hA _) _) | exact (bl_dr (bl_al (bl_al hA _) _)) | exact (bl_al (bl_al (bl_al hA _) _) _) | exact (bl_dr (bl_al (bl_al (bl_al hA _) _) _)) | exact (bl_al (bl_al (bl_al (bl_al hA _) _) _) _) | exact (bl_dr (bl_al (bl_al (bl_al (bl_al hA _) _) _) _)) | exact (bl_al (bl_al (bl_al (bl_al (bl_al hA _) _) _) _) _) | exact (bl_dr (bl_al (bl_al (bl_al (bl_al (bl_al hA _) _) _) _) _)) | exact (bl_al (bl_al (bl_al (bl_al (bl_al (bl_al hA _) _) _) _) _) _) | exact (bl_dr (bl_al (bl_al (bl_al (bl_al (bl_al (bl_al hA _) _) _) _) _) _)) | exact (bl_dr hA)))).mono ?_
    rintro e v4 ⟨rfl, hb⟩
    have hk : Below v3.heap.size v3 v4 := by first | exact hb | exact bl_tr (bl_al (bl0 _) _) hb | exact bl_tr (bl_dr (bl_al (bl0 _) _)) hb | exact bl_tr (bl_al (bl_al (bl0 _) _) _) hb | exact bl_tr (bl_dr (bl_al (bl_al (bl0 _) _) _)) hb | exact bl_tr (bl_al (bl_al (bl_al (bl0 _) _) _) _) hb | exact bl_tr (bl_dr (bl_al (bl_al (bl_al (bl0 _) _) _) _)) hb | exact bl_tr (bl_al (bl_al (bl_al (bl_al (bl0 _) _) _) _) _) hb | exact bl_tr (bl_dr (bl_al (bl_al (bl_al (bl_al (bl0 _) _) _) _) _)) hb | exact bl_tr (bl_al (bl_al (bl_al (bl_al (bl_al (bl0 _) _) _) _) _) _) hb | exact bl_tr (bl_dr (bl_al (bl_al (bl_al (bl_al (bl_al (bl0 _) _) _) _) _) _)) hb | exact bl_tr (bl_al (bl_al (bl_al (bl_al (bl_al (bl_al (bl0 _) _) _) _) _) _) _) hb | exact bl_tr (bl_dr (bl_al (bl_al (bl_al (bl_al (bl_al (bl_al (bl0 _) _) _) _) _) _) _)) hb | exact bl_tr (bl_dr (bl0 _)) hb
    replace hA := bl_tr hA hk
    clear hb hk
    go_wp2
    go_ret
    exact ⟨rfl, hA⟩

set_option maxRecDepth 100000 in
set_option maxHeartbeats 3200000 in
theorem once_one (W H X Y U V i : Int) (w : World) (hs : Stp w) (hi : inB W H X Y = true) (hj : inB W H U V = false) (A : Int) (HA : Hid (Y * W + X = A)) : Calls
    Tryd.prog 7 #[.agg #[.int .i64 W, .int .i64 H], .agg #[.int .i64 X, .int .i64 Y, .int .i64 U, .int .i64 V], .int .i64 i] w fun e w' => e = .returned (.bool true) ∧ Below w.heap.size w w' := by
  have hA := bl0 w
  go_enter Tryd.func7, Tryd.ntmps7
  go_wp2_with fail
  refine (index_to _ _ _ _ _ _ hi HA.out).mono ?_
  rintro e w1 ⟨rfl, hb⟩
  have hk : Below w.heap.size w w1 := by first | exact hb | exact bl_tr (bl_al (bl0 _) _) hb | exact bl_tr (bl_dr (bl_al (bl0 _) _)) hb | exact bl_tr (bl_al (bl_al (bl0 _) _) _) hb | exact bl_tr (bl_dr (bl_al (bl_al (bl0 _) _) _)) hb | exact bl_tr (bl_al (bl_al (bl_al (bl0 _) _) _) _) hb | exact bl_tr (bl_dr (bl_al (bl_al (bl_al (bl0 _) _) _) _)) hb | exact bl_tr (bl_al (bl_al (bl_al (bl_al (bl0 _) _) _) _) _) hb | exact bl_tr (bl_dr (bl_al (bl_al (bl_al (bl_al (bl0 _) _) _) _) _)) hb | exact bl_tr (bl_al (bl_al (bl_al (bl_al (bl_al (bl0 _) _) _) _) _) _) hb | exact bl_tr (bl_dr (bl_al (bl_al (bl_al (bl_al (bl_al (bl0 _) _) _) _) _) _)) hb | exact bl_tr (bl_al (bl_al (bl_al (bl_al (bl_al (bl_al (bl0 _) _) _) _) _) _) _) hb | exact bl_tr (bl_dr (bl_al (bl_al (bl_al (bl_al (bl_al (bl_al (bl0 _) _) _) _) _) _) _)) hb | exact bl_tr (bl_dr (bl0 _)) hb
  replace hA := bl_tr hA hk
  have s0 := cell_later hb (v := .int .i64 W) (a := ⟨w.heap.size, 0, none⟩) (by simp [go_sem])
  have s1 := cell_later hb (v := .int .i64 H) (a := ⟨w.heap.size, 1, none⟩) (by simp [go_sem])
  have a0 := cell_later hb (v := .int .i64 X) (a := ⟨w.heap.size + 1, 0, none⟩) (by simp [go_sem])
  have a1 := cell_later hb (v := .int .i64 Y) (a := ⟨w.heap.size + 1, 1, none⟩) (by simp [go_sem])
  have b0 := cell_later hb (v := .int .i64 U) (a := ⟨w.heap.size + 1, 2, none⟩) (by simp [go_sem])
  have b1 := cell_later hb (v := .int .i64 V) (a := ⟨w.heap.size + 1, 3, none⟩) (by simp [go_sem])
  clear hb hk
  have zs0 := blk_lt s0
  have zs1 := blk_lt s1
  have za0 := blk_lt a0
  have za1 := blk_lt a1
  have zb0 := blk_lt b0
  have zb1 := blk_lt b1
  go_wp2_with fail
  refine (index_no _ _ _ _ _ hj).mono ?_
  rintro e w2 ⟨rfl, hb⟩
  have hk : Below w1.heap.size w1 w2 := by first | exact hb | exact bl_tr (bl_al (bl0 _) _) hb | exact bl_tr (bl_dr (bl_al (bl0 _) _)) hb | exact bl_tr (bl_al (bl_al (bl0 _) _) _) hb | exact bl_tr (bl_dr (bl_al (bl_al (bl0 _) _) _)) hb | exact bl_tr (bl_al (bl_al (bl_al (bl0 _) _) _) _) hb | exact bl_tr (bl_dr (bl_al (bl_al (bl_al (bl0 _) _) _) _)) hb | exact bl_tr (bl_al (bl_al (bl_al (bl_al (bl0 _) _) _) _) _) hb | exact bl_tr (bl_dr (bl_al (bl_al (bl_al (bl_al (bl0 _) _) _) _) _)) hb | exact bl_tr (bl_al (bl_al (bl_al (bl_al (bl_al (bl0 _) _) _) _) _) _) hb | exact bl_tr (bl_dr (bl_al (bl_al (bl_al (bl_al (bl_al (bl0 _) _) _) _) _) _)) hb | exact bl_tr (bl_al (bl_al (bl_al (bl_al (bl_al (bl_al (bl0 _) _) _) _) _) _) _) hb | exact bl_tr (bl_dr (bl_al (bl_al (bl_al (bl_al (bl_al (bl_al (bl0 _) _) _) _) _) _) _)) hb | exact bl_tr (bl_dr (bl0 _)) hb
  replace hA := bl_tr hA hk
  replace s0 := cell_later hk s0
  replace s1 := cell_later hk s1
  replace a0 := cell_later hk a0
  replace a1 := cell_later hk a1
  replace b0 := cell_later hk b0
  replace b1 := cell_later hk b1
  clear hb hk
  have zs0 := blk_lt s0
  have zs1 := blk_lt s1
  have za0 := blk_lt a0
  have za1 := blk_lt a1
  have zb0 := blk_lt b0
  have zb1 := blk_lt b1
  go_wp2_with fail
  refine (at_to _ _ _ _ _ _ hi HA.out).mono ?_
  rintro e w3 ⟨rfl, hb⟩
  have hk : Below w2.heap.size w2 w3 := by first | exact hb | exact bl_tr (bl_al (bl0 _) _) hb | exact bl_tr (bl_dr (bl_al (bl0 _) _)) hb | exact bl_tr (bl_al (bl_al (bl0 _) _) _) hb | exact bl_tr (bl_dr (bl_al (bl_al (bl0 _) _) _)) hb | exact bl_tr (bl_al (bl_al (bl_al (bl0 _) _) _) _) hb | exact bl_tr (bl_dr (bl_al (bl_al (bl_al (bl0 _) _) _) _)) hb | exact bl_tr (bl_al (bl_al (bl_al (bl_al (bl0 _) _) _) _) _) hb | exact bl_tr (bl_dr (bl_al (bl_al (bl_al (bl_al (bl0 _) _) _) _) _)) hb | exact bl_tr (bl_al (bl_al (bl_al (bl_al (bl_al (bl0 _) _) _) _) _) _) hb | exact bl_tr (bl_dr (bl_al (bl_al (bl_al (bl_al (bl_al (bl0 _) _) _) _) _) _)) hb | exact bl_tr (bl_al (bl_al (bl_al (bl_al (bl_al (bl_al (bl0 _) _) _) _) _) _) _) hb | exact bl_tr (bl_dr (bl_al (bl_al (bl_al (bl_al (bl_al (bl_al (bl0 _) _) _) _) _) _) _)) hb | exact bl_tr (bl_dr (bl0 _)) hb
  replace hA := bl_tr hA hk
  replace s0 := cell_later hk s0
  replace s1 := cell_later hk s1
  replace a0 := cell_later hk a0
  replace a1 := cell_later hk a1
  replace b0 := cell_later hk b0
  replace b1 := cell_later hk b1
  clear hb hk
  have zs0 := blk_lt s0
  have zs1 := blk_lt s1
  have za0 := blk_lt a0
  have za1 := blk_lt a1
  have zb0 := blk_lt b0
  have zb1 := blk_lt b1
  go_wp2_with fail
  refine (in_any _ _ _ _ _).mono ?_
  rintro e wz ⟨rfl, hb⟩
  have hk : Below w3.heap.size w3 wz := by first | exact hb | exact bl_tr (bl_al (bl0 _) _) hb | exact bl_tr (bl_dr (bl_al (bl0 _) _)) hb | exact bl_tr (bl_al (bl_al (bl0 _) _) _) hb | exact bl_tr (bl_dr (bl_al (bl_al (bl0 _) _) _)) hb | exact bl_tr (bl_al (bl_al (bl_al (bl0 _) _) _) _) hb | exact bl_tr (bl_dr (bl_al (bl_al (bl_al (bl0 _) _) _) _)) hb | exact bl_tr (bl_al (bl_al (bl_al (bl_al (bl0 _) _) _) _) _) hb | exact bl_tr (bl_dr (bl_al (bl_al (bl_al (bl_al (bl0 _) _) _) _) _)) hb | exact bl_tr (bl_al (bl_al (bl_al (bl_al (bl_al (bl0 _) _) _) _) _) _) hb | exact bl_tr (bl_dr (bl_al (bl_al (bl_al (bl_al (bl_al (bl0 _) _) _) _) _) _)) hb | exact bl_tr (bl_al (bl_al (bl_al (bl_al (bl_al (bl_al (bl0 _) _) _) _) _) _) _) hb | exact bl_tr (bl_dr (bl_al (bl_al (bl_al (bl_al (bl_al (bl_al (bl0 _) _) _) _) _) _) _)) hb | exact bl_tr (bl_dr (bl0 _)) hb
  replace hA := bl_tr hA hk
  replace s0 := cell_later hk s0
  replace s1 := cell_later hk s1
  replace a0 := cell_later hk a0
  replace a1 := cell_later hk a1
  replace b0 := cell_later hk b0
  replace b1 := cell_later hk b1
  have d0 := cell_later hb (v := .int .i64 X) (a := ⟨w3.heap.size, 0, none⟩) (by simp [go_sem])
  have d1 := cell_later hb (v := .int .i64 Y) (a := ⟨w3.heap.size, 1, none⟩) (by simp [go_sem])
  clear hb hk
  have zs0 := blk_lt s0
  have zs1 := blk_lt s1
  have za0 := blk_lt a0
  have za1 := blk_lt a1
  have zb0 := blk_lt b0
  have zb1 := blk_lt b1
  have zd0 := blk_lt d0
  have zd1 := blk_lt d1
  cases ht : atB W H i
  · cases hm : mayB W H
    · --
      go_wp2_with fail
      refine (at_no _ _ _ _ ht).mono ?_
      rintro e v1 ⟨rfl, hb⟩
      have hk : Below wz.heap.size wz v1 := by first | exact hb | exact bl_tr (bl_al (bl0 _) _) hb | exact bl_tr (bl_dr (bl_al (bl0 _) _)) hb | exact bl_tr (bl_al (bl_al (bl0 _) _) _) hb | exact bl_tr (bl_dr (bl_al (bl_al (bl0 _) _) _)) hb | exact bl_tr (bl_al (bl_al (bl_al (bl0 _) _) _) _) hb | exact bl_tr (bl_dr (bl_al (bl_al (bl_al (bl0 _) _) _) _)) hb | exact bl_tr (bl_al (bl_al (bl_al (bl_al (bl0 _) _) _) _) _) hb | exact bl_tr (bl_dr (bl_al (bl_al (bl_al (bl_al (bl0 _) _) _) _) _)) hb | exact bl_tr (bl_al (bl_al (bl_al (bl_al (bl_al (bl0 _) _) _) _) _) _) hb | exact bl_tr (bl_dr (bl_al (bl_al (bl_al (bl_al (bl_al (bl0 _) _) _) _) _) _)) hb | exact bl_tr (bl_al (bl_al (bl_al (bl_al (bl_al (bl_al (bl0 _) _) _) _) _) _) _) hb | exact bl_tr (bl_dr (bl_al (bl_al (bl_al (bl_al (bl_al (bl_al (bl0 _) _) _) _) _) _) _)) hb | exact bl_tr (bl_dr (bl0 _)) hb
      replace hA := bl_tr hA hk
      replace s0 := cell_later hk s0
      replace s1 := cell_later hk s1
      clear hb hk
      have zs0 := blk_lt s0
      have zs1 := blk_lt s1
      go_wp2_with fail
      refine (may_any _ _ _).mono ?_
      rintro e v2 ⟨rfl, hb⟩
      have hk : Below v1.heap.size v1 v2 := by first | exact hb | exact bl_tr (bl_al (bl0 _) _) hb | exact bl_tr (bl_dr (bl_al (bl0 _) _)) hb | exact bl_tr (bl_al (bl_al (bl0 _) _) _) hb | exact bl_tr (bl_dr (bl_al (bl_al (bl0 _) _) _)) hb | exact bl_tr (bl_al (bl_al (bl_al (bl0 _) _) _) _) hb | exact bl_tr (bl_dr (bl_al (bl_al (bl_al (bl0 _) _) _) _)) hb | exact bl_tr (bl_al (bl_al (bl_al (bl_al (bl0 _) _) _) _) _) hb | exact bl_tr (bl_dr (bl_al (bl_al (bl_al (bl_al (bl0 _) _) _) _) _)) hb | exact bl_tr (bl_al (bl_al (bl_al (bl_al (bl_al (bl0 _) _) _) _) _) _) hb | exact bl_tr (bl_dr (bl_al (bl_al (bl_al (bl_al (bl_al (bl0 _) _) _) _) _) _)) hb | exact bl_tr (bl_al (bl_al (bl_al (bl_al (bl_al (bl_al (bl0 _) _) _) _) _) _) _) hb | exact bl_tr (bl_dr (bl_al (bl_al (bl_al (bl_al (bl_al (bl_al (bl0 _) _) _) _) _) _) _)) hb | exact bl_tr (bl_dr (bl0 _)) hb
      replace hA := bl_tr hA hk
      replace s0 := cell_later hk s0
      replace s1 := cell_later hk s1
      clear hb hk
      have zs0 := blk_lt s0
      have zs1 := blk_lt s1
      go_wp2_with fail
      refine (awake_any _ (hs.below (by first | exact hA | exact (bl_al hA _) | exact (bl_dr (bl_al hA _)) | exact (bl_al (bl_al hA _) _) | exact (bl_dr (bl_al (bl_al hA _) _)) | exact (bl_al (bl_al (bl_al hA _) _) _) | exact (bl_dr (bl_al (bl_al (bl_al hA _) _) _)) | exact (bl_al (bl_al (bl_al (bl_al hA _) _) _) _) | exact (bl_dr (bl_al (bl_al (bl_al (bl_al hA _) _) _) _)) | exact (bl_al (bl_al (bl_al (bl_al (bl_al hA _) _) _) _) _) | exact (bl_dr (bl_al (bl_al (bl_al (bl_al (bl_al hA _) _) _) _) _)) | exact (bl_al (bl_al (bl_al (bl_al (bl_al (bl_al hA _) _) _) _) _) _) | exact (bl_dr (bl_al (bl_al (bl_al (bl_al (bl_al (bl_al hA _) _) _) _) _) _)) | exact (bl_dr hA)))).mono ?_
      rintro e v3 ⟨rfl, hb⟩
      have hk : Below v2.heap.size v2 v3 := by first | exact hb | exact bl_tr (bl_al (bl0 _) _) hb | exact bl_tr (bl_dr (bl_al (bl0 _) _)) hb | exact bl_tr (bl_al (bl_al (bl0 _) _) _) hb | exact bl_tr (bl_dr (bl_al (bl_al (bl0 _) _) _)) hb | exact bl_tr (bl_al (bl_al (bl_al (bl0 _) _) _) _) hb | exact bl_tr (bl_dr (bl_al (bl_al (bl_al (bl0 _) _) _) _)) hb | exact bl_tr (bl_al (bl_al (bl_al (bl_al (bl0 _) _) _) _) _) hb | exact bl_tr (bl_dr (bl_al (bl_al (bl_al (bl_al (bl0 _) _) _) _) _)) hb | exact bl_tr (bl_al (bl_al (bl_al (bl_al (bl_al (bl0 _) _) _) _) _) _) hb | exact bl_tr (bl_dr (bl_al (bl_al (bl_al (bl_al (bl_al (bl0 _) _) _) _) _) _)) hb | exact bl_tr (bl_al (bl_al (bl_al (bl_al (bl_al (bl_al (bl0 _) _) _) _) _) _) _) hb | exact bl_tr (bl_dr (bl_al (bl_al (bl_al (bl_al (bl_al (bl_al (bl0 _) _) _) _) _) _) _)) hb | exact bl_tr (bl_dr (bl0 _)) hb
      replace hA := bl_tr hA hk
      clear hb hk
      go_wp2
      go_ret
      exact ⟨rfl, hA⟩
    · have hj : i < 0 ∨ W * H ≤ i := by
        have h1 := mayB_iff.1 hm
        have h2 : ¬ (1 ≤ W ∧ W ≤ 256 ∧ 1 ≤ H ∧ H ≤ 256 ∧ 0 ≤ i ∧ i < W * H) := by simpa [atB] using ht
        omega
      obtain ⟨h1, h2, h3, h4⟩ := mayB_iff.1 hm
      obtain ⟨m1, m2⟩ : 0 ≤ W * H ∧ W * H ≤ 65536 := ⟨Int.mul_nonneg (by omega) (by omega), by have a : W * H ≤ 256 * H := Int.mul_le_mul_of_nonneg_right h2 (by omega); omega⟩
      by_cases hl : i < 0
      all_goals
        go_wp2_with fail
        refine (at_no _ _ _ _ ht).mono ?_
        rintro e v1 ⟨rfl, hb⟩
        have hk : Below wz.heap.size wz v1 := by first | exact hb | exact bl_tr (bl_al (bl0 _) _) hb | exact bl_tr (bl_dr (bl_al (bl0 _) _)) hb | exact bl_tr (bl_al (bl_al (bl0 _) _) _) hb | exact bl_tr (bl_dr (bl_al (bl_al (bl0 _) _) _)) hb | exact bl_tr (bl_al (bl_al (bl_al (bl0 _) _) _) _) hb | exact bl_tr (bl_dr (bl_al (bl_al (bl_al (bl0 _) _) _) _)) hb | exact bl_tr (bl_al (bl_al (bl_al (bl_al (bl0 _) _) _) _) _) hb | exact bl_tr (bl_dr (bl_al (bl_al (bl_al (bl_al (bl0 _) _) _) _) _)) hb | exact bl_tr (bl_al (bl_al (bl_al (bl_al (bl_al (bl0 _) _) _) _) _) _) hb | exact bl_tr (bl_dr (bl_al (bl_al (bl_al (bl_al (bl_al (bl0 _) _) _) _) _) _)) hb | exact bl_tr (bl_al (bl_al (bl_al (bl_al (bl_al (bl_al (bl0 _) _) _) _) _) _) _) hb | exact bl_tr (bl_dr (bl_al (bl_al (bl_al (bl_al (bl_al (bl_al (bl0 _) _) _) _) _) _) _)) hb | exact bl_tr (bl_dr (bl0 _)) hb
        replace hA := bl_tr hA hk
        replace s0 := cell_later hk s0
        replace s1 := cell_later hk s1
        clear hb hk
        have zs0 := blk_lt s0
        have zs1 := blk_lt s1
        go_wp2_with fail
        refine (may_any _ _ _).mono ?_
        rintro e v2 ⟨rfl, hb⟩
        have hk : Below v1.heap.size v1 v2 := by first | exact hb | exact bl_tr (bl_al (bl0 _) _) hb | exact bl_tr (bl_dr (bl_al (bl0 _) _)) hb | exact bl_tr (bl_al (bl_al (bl0 _) _) _) hb | exact bl_tr (bl_dr (bl_al (bl_al (bl0 _) _) _)) hb | exact bl_tr (bl_al (bl_al (bl_al (bl0 _) _) _) _) hb | exact bl_tr (bl_dr (bl_al (bl_al (bl_al (bl0 _) _) _) _)) hb | exact bl_tr (bl_al (bl_al (bl_al (bl_al (bl0 _) _) _) _) _) hb | exact bl_tr (bl_dr (bl_al (bl_al (bl_al (bl_al (bl0 _) _) _) _) _)) hb | exact bl_tr (bl_al (bl_al (bl_al (bl_al (bl_al (bl0 _) _) _) _) _) _) hb | exact bl_tr (bl_dr (bl_al (bl_al (bl_al (bl_al (bl_al (bl0 _) _) _) _) _) _)) hb | exact bl_tr (bl_al (bl_al (bl_al (bl_al (bl_al (bl_al (bl0 _) _) _) _) _) _) _) hb | exact bl_tr (bl_dr (bl_al (bl_al (bl_al (bl_al (bl_al (bl_al (bl0 _) _) _) _) _) _) _)) hb | exact bl_tr (bl_dr (bl0 _)) hb
        replace hA := bl_tr hA hk
        replace s0 := cell_later hk s0
        replace s1 := cell_later hk s1
        clear hb hk
        have zs0 := blk_lt s0
        have zs1 := blk_lt s1
        go_wp2_with fail
        refine (awake_any _ (hs.below (by first | exact hA | exact (bl_al hA _) | exact (bl_dr (bl_al hA _)) | exact (bl_al (bl_al hA _) _) | exact (bl_dr (bl_al (bl_al hA _) _)) | exact (bl_al (bl_al (bl_al hA _) _) _) | exact (bl_dr (bl_al (bl_al (bl_al hA _) _) _)) | exact (bl_al (bl_al (bl_al (bl_al hA _) _) _) _) | exact (bl_dr (bl_al (bl_al (bl_al (bl_al hA _) _) _) _)) | exact (bl_al (bl_al (bl_al (bl_al (bl_al hA _) _) _) _) _) | exact (bl_dr (bl_al (bl_al (bl_al (bl_al (bl_al hA _) _) _) _) _)) | exact (bl_al (bl_al (bl_al (bl_al (bl_al (bl_al hA _) _) _) _) _) _) | exact (bl_dr (bl_al (bl_al (bl_al (bl_al (bl_al (bl_al hA _) _) _) _) _) _)) | exact (bl_dr hA)))).mono ?_
        rintro e v3 ⟨rfl, hb⟩
        have hk : Below v2.heap.size v2 v3 := by first | exact hb | exact bl_tr (bl_al (bl0 _) _) hb | exact bl_tr (bl_dr (bl_al (bl0 _) _)) hb | exact bl_tr (bl_al (bl_al (bl0 _) _) _) hb | exact bl_tr (bl_dr (bl_al (bl_al (bl0 _) _) _)) hb | exact bl_tr (bl_al (bl_al (bl_al (bl0 _) _) _) _) hb | exact bl_tr (bl_dr (bl_al (bl_al (bl_al (bl0 _) _) _) _)) hb | exact bl_tr (bl_al (bl_al (bl_al (bl_al (bl0 _) _) _) _) _) hb | exact bl_tr (bl_dr (bl_al (bl_al (bl_al (bl_al (bl0 _) _) _) _) _)) hb | exact bl_tr (bl_al (bl_al (bl_al (bl_al (bl_al (bl0 _) _) _) _) _) _) hb | exact bl_tr (bl_dr (bl_al (bl_al (bl_al (bl_al (bl_al (bl0 _) _) _) _) _) _)) hb | exact bl_tr (bl_al (bl_al (bl_al (bl_al (bl_al (bl_al (bl0 _) _) _) _) _) _) _) hb | exact bl_tr (bl_dr (bl_al (bl_al (bl_al (bl_al (bl_al (bl_al (bl0 _) _) _) _) _) _) _)) hb | exact bl_tr (bl_dr (bl0 _)) hb
        replace hA := bl_tr hA hk
        clear hb hk
        go_wp2
        go_ret
        exact ⟨ret_bool (by simp; try omega), hA⟩
  · obtain ⟨hin, hN⟩ := in_of_at ht
    obtain ⟨P, hP⟩ : ∃ P, i % W = P := ⟨_, rfl⟩
    obtain ⟨Q, hQ⟩ : ∃ Q, i / W = Q := ⟨_, rfl⟩
    rw [hP, hQ] at hin
    rw [hP, hQ] at hN
    have HP := Lib.hid hP
    have HQ := Lib.hid hQ
    have HN := Lib.hid hN
    clear hP hQ hN
    go_wp2_with fail
    refine (at_any' _ _ _ _ _ _ ht HP.out HQ.out).mono ?_
    rintro e v1 ⟨rfl, hb⟩
    have hk : Below wz.heap.size wz v1 := by first | exact hb | exact bl_tr (bl_al (bl0 _) _) hb | exact bl_tr (bl_dr (bl_al (bl0 _) _)) hb | exact bl_tr (bl_al (bl_al (bl0 _) _) _) hb | exact bl_tr (bl_dr (bl_al (bl_al (bl0 _) _) _)) hb | exact bl_tr (bl_al (bl_al (bl_al (bl0 _) _) _) _) hb | exact bl_tr (bl_dr (bl_al (bl_al (bl_al (bl0 _) _) _) _)) hb | exact bl_tr (bl_al (bl_al (bl_al (bl_al (bl0 _) _) _) _) _) hb | exact bl_tr (bl_dr (bl_al (bl_al (bl_al (bl_al (bl0 _) _) _) _) _)) hb | exact bl_tr (bl_al (bl_al (bl_al (bl_al (bl_al (bl0 _) _) _) _) _) _) hb | exact bl_tr (bl_dr (bl_al (bl_al (bl_al (bl_al (bl_al (bl0 _) _) _) _) _) _)) hb | exact bl_tr (bl_al (bl_al (bl_al (bl_al (bl_al (bl_al (bl0 _) _) _) _) _) _) _) hb | exact bl_tr (bl_dr (bl_al (bl_al (bl_al (bl_al (bl_al (bl_al (bl0 _) _) _) _) _) _) _)) hb | exact bl_tr (bl_dr (bl0 _)) hb
    replace hA := bl_tr hA hk
    replace s0 := cell_later hk s0
    replace s1 := cell_later hk s1
    clear hb hk
    have zs0 := blk_lt s0
    have zs1 := blk_lt s1
    go_wp2_with fail
    refine (index_to _ _ _ _ _ _ hin HN.out).mono ?_
    rintro e v2 ⟨rfl, hb⟩
    have hk : Below v1.heap.size v1 v2 := by first | exact hb | exact bl_tr (bl_al (bl0 _) _) hb | exact bl_tr (bl_dr (bl_al (bl0 _) _)) hb | exact bl_tr (bl_al (bl_al (bl0 _) _) _) hb | exact bl_tr (bl_dr (bl_al (bl_al (bl0 _) _) _)) hb | exact bl_tr (bl_al (bl_al (bl_al (bl0 _) _) _) _) hb | exact bl_tr (bl_dr (bl_al (bl_al (bl_al (bl0 _) _) _) _)) hb | exact bl_tr (bl_al (bl_al (bl_al (bl_al (bl0 _) _) _) _) _) hb | exact bl_tr (bl_dr (bl_al (bl_al (bl_al (bl_al (bl0 _) _) _) _) _)) hb | exact bl_tr (bl_al (bl_al (bl_al (bl_al (bl_al (bl0 _) _) _) _) _) _) hb | exact bl_tr (bl_dr (bl_al (bl_al (bl_al (bl_al (bl_al (bl0 _) _) _) _) _) _)) hb | exact bl_tr (bl_al (bl_al (bl_al (bl_al (bl_al (bl_al (bl0 _) _) _) _) _) _) _) hb | exact bl_tr (bl_dr (bl_al (bl_al (bl_al (bl_al (bl_al (bl_al (bl0 _) _) _) _) _) _) _)) hb | exact bl_tr (bl_dr (bl0 _)) hb
    replace hA := bl_tr hA hk
    replace s0 := cell_later hk s0
    replace s1 := cell_later hk s1
    have c0 := cell_later hb (v := .int .i64 P) (a := ⟨v1.heap.size, 0, none⟩) (by simp [go_sem])
    have c1 := cell_later hb (v := .int .i64 Q) (a := ⟨v1.heap.size, 1, none⟩) (by simp [go_sem])
    clear hb hk
    have zs0 := blk_lt s0
    have zs1 := blk_lt s1
    have zc0 := blk_lt c0
    have zc1 := blk_lt c1
    go_wp2_with fail
    refine (in_any _ _ _ _ _).mono ?_
    rintro e v3 ⟨rfl, hb⟩
    have hk : Below v2.heap.size v2 v3 := by first | exact hb | exact bl_tr (bl_al (bl0 _) _) hb | exact bl_tr (bl_dr (bl_al (bl0 _) _)) hb | exact bl_tr (bl_al (bl_al (bl0 _) _) _) hb | exact bl_tr (bl_dr (bl_al (bl_al (bl0 _) _) _)) hb | exact bl_tr (bl_al (bl_al (bl_al (bl0 _) _) _) _) hb | exact bl_tr (bl_dr (bl_al (bl_al (bl_al (bl0 _) _) _) _)) hb | exact bl_tr (bl_al (bl_al (bl_al (bl_al (bl0 _) _) _) _) _) hb | exact bl_tr (bl_dr (bl_al (bl_al (bl_al (bl_al (bl0 _) _) _) _) _)) hb | exact bl_tr (bl_al (bl_al (bl_al (bl_al (bl_al (bl0 _) _) _) _) _) _) hb | exact bl_tr (bl_dr (bl_al (bl_al (bl_al (bl_al (bl_al (bl0 _) _) _) _) _) _)) hb | exact bl_tr (bl_al (bl_al (bl_al (bl_al (bl_al (bl_al (bl0 _) _) _) _) _) _) _) hb | exact bl_tr (bl_dr (bl_al (bl_al (bl_al (bl_al (bl_al (bl_al (bl0 _) _) _) _) _) _) _)) hb | exact bl_tr (bl_dr (bl0 _)) hb
    replace hA := bl_tr hA hk
    replace s0 := cell_later hk s0
    replace s1 := cell_later hk s1
    replace c0 := cell_later hk c0
    replace c1 := cell_later hk c1
    clear hb hk
    have zs0 := blk_lt s0
    have zs1 := blk_lt s1
    have zc0 := blk_lt c0
    have zc1 := blk_lt c1
    go_wp2_with fail
    refine (awake_any _ (hs.below (by first | exact hA | exact (bl_al hA _) | exact (bl_dr (bl_al hA _)) | exact (bl_al (bl_al hA _) _) | exact (bl_dr (bl_al (bl_al hA _) _)) | exact (bl_al (bl_al (bl_al hA _) _) _) | exact (bl_dr (bl_al (bl_al (bl_al hA _) _) _)) | exact (bl_al (bl_al (bl_al (bl_al hA _) _) _) _) | exact (bl_dr (bl_al (bl_al (bl_al (bl_al hA _) _) _) _)) | exact (bl_al (bl_al (bl_al (bl_al (bl_al hA _) _) _) _) _) | exact (bl_dr (bl_al (bl_al (bl_al (bl_al (bl_al hA _) _) _) _) _)) | exact (bl_al (bl_al (bl_al (bl_al (bl_al (bl_al hA _) _) _) _) _) _) | exact (bl_dr (bl_al (bl_al (bl_al (bl_al (bl_al (bl_al hA _) _) _) _) _) _)) | exact (bl_dr hA)))).mono ?_
    rintro e v4 ⟨rfl, hb⟩
    have hk : Below v3.heap.size v3 v4 := by first | exact hb | exact bl_tr (bl_al (bl0 _) _) hb | exact bl_tr (bl_dr (bl_al (bl0 _) _)) hb | exact bl_tr (bl_al (bl_al (bl0 _) _) _) hb | exact bl_tr (bl_dr (bl_al (bl_al (bl0 _) _) _)) hb | exact bl_tr (bl_al (bl_al (bl_al (bl0 _) _) _) _) hb | exact bl_tr (bl_dr (bl_al (bl_al (bl_al (bl0 _) _) _) _)) hb | exact bl_tr (bl_al (bl_al (bl_al (bl_al (bl0 _) _) _) _) _) hb | exact bl_tr (bl_dr (bl_al (bl_al (bl_al (bl_al (bl0 _) _) _) _) _)) hb | exact bl_tr (bl_al (bl_al (bl_al (bl_al (bl_al (bl0 _) _) _) _) _) _) hb | exact bl_tr (bl_dr (bl_al (bl_al (bl_al (bl_al (bl_al (bl0 _) _) _) _) _) _)) hb | exact bl_tr (bl_al (bl_al (bl_al (bl_al (bl_al (bl_al (bl0 _) _) _) _) _) _) _) hb | exact bl_tr (bl_dr (bl_al (bl_al (bl_al (bl_al (bl_al (bl_al (bl0 _) _) _) _) _) _) _)) hb | exact bl_tr (bl_dr (bl0 _)) hb
    replace hA := bl_tr hA hk
    clear hb hk
    go_wp2
    go_ret
    exact ⟨rfl, hA⟩


set_option maxRecDepth 100000 in
set_option maxHeartbeats 3200000 in
theorem once_same (W H X Y i : Int) (w : World) (hs : Stp w) (hi : inB W H X Y = true) (A : Int) (HA : Hid (Y * W + X = A)) : Calls
    Tryd.prog 7 #[.agg #[.int .i64 W, .int .i64 H], .agg #[.int .i64 X, .int .i64 Y, .int .i64 X, .int .i64 Y], .int .i64 i] w fun e w' => e = .returned (.bool true) ∧ Below w.heap.size w w' := by
  have hA := bl0 w
  go_enter Tryd.func7, Tryd.ntmps7
  go_wp2_with fail
  refine (index_to _ _ _ _ _ _ hi HA.out).mono ?_
  rintro e w1 ⟨rfl, hb⟩
  have hk : Below w.heap.size w w1 := by first | exact hb | exact bl_tr (bl_al (bl0 _) _) hb | exact bl_tr (bl_dr (bl_al (bl0 _) _)) hb | exact bl_tr (bl_al (bl_al (bl0 _) _) _) hb | exact bl_tr (bl_dr (bl_al (bl_al (bl0 _) _) _)) hb | exact bl_tr (bl_al (bl_al (bl_al (bl0 _) _) _) _) hb | exact bl_tr (bl_dr (bl_al (bl_al (bl_al (bl0 _) _) _) _)) hb | exact bl_tr (bl_al (bl_al (bl_al (bl_al (bl0 _) _) _) _) _) hb | exact bl_tr (bl_dr (bl_al (bl_al (bl_al (bl_al (bl0 _) _) _) _) _)) hb | exact bl_tr (bl_al (bl_al (bl_al (bl_al (bl_al (bl0 _) _) _) _) _) _) hb | exact bl_tr (bl_dr (bl_al (bl_al (bl_al (bl_al (bl_al (bl0 _) _) _) _) _) _)) hb | exact bl_tr (bl_al (bl_al (bl_al (bl_al (bl_al (bl_al (bl0 _) _) _) _) _) _) _) hb | exact bl_tr (bl_dr (bl_al (bl_al (bl_al (bl_al (bl_al (bl_al (bl0 _) _) _) _) _) _) _)) hb | exact bl_tr (bl_dr (bl0 _)) hb
  replace hA := bl_tr hA hk
  have s0 := cell_later hb (v := .int .i64 W) (a := ⟨w.heap.size, 0, none⟩) (by simp [go_sem])
  have s1 := cell_later hb (v := .int .i64 H) (a := ⟨w.heap.size, 1, none⟩) (by simp [go_sem])
  have a0 := cell_later hb (v := .int .i64 X) (a := ⟨w.heap.size + 1, 0, none⟩) (by simp [go_sem])
  have a1 := cell_later hb (v := .int .i64 Y) (a := ⟨w.heap.size + 1, 1, none⟩) (by simp [go_sem])
  have b0 := cell_later hb (v := .int .i64 X) (a := ⟨w.heap.size + 1, 2, none⟩) (by simp [go_sem])
  have b1 := cell_later hb (v := .int .i64 Y) (a := ⟨w.heap.size + 1, 3, none⟩) (by simp [go_sem])
  clear hb hk
  have zs0 := blk_lt s0
  have zs1 := blk_lt s1
  have za0 := blk_lt a0
  have za1 := blk_lt a1
  have zb0 := blk_lt b0
  have zb1 := blk_lt b1
  go_wp2_with fail
  refine (index_to _ _ _ _ _ _ hi HA.out).mono ?_
  rintro e w2 ⟨rfl, hb⟩
  have hk : Below w1.heap.size w1 w2 := by first | exact hb | exact bl_tr (bl_al (bl0 _) _) hb | exact bl_tr (bl_dr (bl_al (bl0 _) _)) hb | exact bl_tr (bl_al (bl_al (bl0 _) _) _) hb | exact bl_tr (bl_dr (bl_al (bl_al (bl0 _) _) _)) hb | exact bl_tr (bl_al (bl_al (bl_al (bl0 _) _) _) _) hb | exact bl_tr (bl_dr (bl_al (bl_al (bl_al (bl0 _) _) _) _)) hb | exact bl_tr (bl_al (bl_al (bl_al (bl_al (bl0 _) _) _) _) _) hb | exact bl_tr (bl_dr (bl_al (bl_al (bl_al (bl_al (bl0 _) _) _) _) _)) hb | exact bl_tr (bl_al (bl_al (bl_al (bl_al (bl_al (bl0 _) _) _) _) _) _) hb | exact bl_tr (bl_dr (bl_al (bl_al (bl_al (bl_al (bl_al (bl0 _) _) _) _) _) _)) hb | exact bl_tr (bl_al (bl_al (bl_al (bl_al (bl_al (bl_al (bl0 _) _) _) _) _) _) _) hb | exact bl_tr (bl_dr (bl_al (bl_al (bl_al (bl_al (bl_al (bl_al (bl0 _) _) _) _) _) _) _)) hb | exact bl_tr (bl_dr (bl0 _)) hb
  replace hA := bl_tr hA hk
  replace s0 := cell_later hk s0
  replace s1 := cell_later hk s1
  replace a0 := cell_later hk a0
  replace a1 := cell_later hk a1
  replace b0 := cell_later hk b0
  replace b1 := cell_later hk b1
  clear hb hk
  have zs0 := blk_lt s0
  have zs1 := blk_lt s1
  have za0 := blk_lt a0
  have za1 := blk_lt a1
  have zb0 := blk_lt b0
  have zb1 := blk_lt b1
  go_wp2_with fail
  refine (at_to _ _ _ _ _ _ hi HA.out).mono ?_
  rintro e w3 ⟨rfl, hb⟩
  have hk : Below w2.heap.size w2 w3 := by first | exact hb | exact bl_tr (bl_al (bl0 _) _) hb | exact bl_tr (bl_dr (bl_al (bl0 _) _)) hb | exact bl_tr (bl_al (bl_al (bl0 _) _) _) hb | exact bl_tr (bl_dr (bl_al (bl_al (bl0 _) _) _)) hb | exact bl_tr (bl_al (bl_al (bl_al (bl0 _) _) _) _) hb | exact bl_tr (bl_dr (bl_al (bl_al (bl_al (bl0 _) _) _) _)) hb | exact bl_tr (bl_al (bl_al (bl_al (bl_al (bl0 _) _) _) _) _) hb | exact bl_tr (bl_dr (bl_al (bl_al (bl_al (bl_al (bl0 _) _) _) _) _)) hb | exact bl_tr (bl_al (bl_al (bl_al (bl_al (bl_al (bl0 _) _) _) _) _) _) hb | exact bl_tr (bl_dr (bl_al (bl_al (bl_al (bl_al (bl_al (bl0 _) _) _) _) _) _)) hb | exact bl_tr (bl_al (bl_al (bl_al (bl_al (bl_al (bl_al (bl0 _) _) _) _) _) _) _) hb | exact bl_tr (bl_dr (bl_al (bl_al (bl_al (bl_al (bl_al (bl_al (bl0 _) _) _) _) _) _) _)) hb | exact bl_tr (bl_dr (bl0 _)) hb
  replace hA := bl_tr hA hk
  replace s0 := cell_later hk s0
  replace s1 := cell_later hk s1
  replace a0 := cell_later hk a0
  replace a1 := cell_later hk a1
  replace b0 := cell_later hk b0
  replace b1 := cell_later hk b1
  clear hb hk
  have zs0 := blk_lt s0
  have zs1 := blk_lt s1
  have za0 := blk_lt a0
  have za1 := blk_lt a1
  have zb0 := blk_lt b0
  have zb1 := blk_lt b1
  go_wp2_with fail
  refine (in_any _ _ _ _ _).mono ?_
  rintro e wz ⟨rfl, hb⟩
  have hk : Below w3.heap.size w3 wz := by first | exact hb | exact bl_tr (bl_al (bl0 _) _) hb | exact bl_tr (bl_dr (bl_al (bl0 _) _)) hb | exact bl_tr (bl_al (bl_al (bl0 _) _) _) hb | exact bl_tr (bl_dr (bl_al (bl_al (bl0 _) _) _)) hb | exact bl_tr (bl_al (bl_al (bl_al (bl0 _) _) _) _) hb | exact bl_tr (bl_dr (bl_al (bl_al (bl_al (bl0 _) _) _) _)) hb | exact bl_tr (bl_al (bl_al (bl_al (bl_al (bl0 _) _) _) _) _) hb | exact bl_tr (bl_dr (bl_al (bl_al (bl_al (bl_al (bl0 _) _) _) _) _)) hb | exact bl_tr (bl_al (bl_al (bl_al (bl_al (bl_al (bl0 _) _) _) _) _) _) hb | exact bl_tr (bl_dr (bl_al (bl_al (bl_al (bl_al (bl_al (bl0 _) _) _) _) _) _)) hb | exact bl_tr (bl_al (bl_al (bl_al (bl_al (bl_al (bl_al (bl0 _) _) _) _) _) _) _) hb | exact bl_tr (bl_dr (bl_al (bl_al (bl_al (bl_al (bl_al (bl_al (bl0 _) _) _) _) _) _) _)) hb | exact bl_tr (bl_dr (bl0 _)) hb
  replace hA := bl_tr hA hk
  replace s0 := cell_later hk s0
  replace s1 := cell_later hk s1
  replace a0 := cell_later hk a0
  replace a1 := cell_later hk a1
  replace b0 := cell_later hk b0
  replace b1 := cell_later hk b1
  have d0 := cell_later hb (v := .int .i64 X) (a := ⟨w3.heap.size, 0, none⟩) (by simp [go_sem])
  have d1 := cell_later hb (v := .int .i64 Y) (a := ⟨w3.heap.size, 1, none⟩) (by simp [go_sem])
  clear hb hk
  have zs0 := blk_lt s0
  have zs1 := blk_lt s1
  have za0 := blk_lt a0
  have za1 := blk_lt a1
  have zb0 := blk_lt b0
  have zb1 := blk_lt b1
  have zd0 := blk_lt d0
  have zd1 := blk_lt d1
  cases ht : atB W H i
  · cases hm : mayB W H
    · --
      go_wp2_with fail
      refine (at_no _ _ _ _ ht).mono ?_
      rintro e v1 ⟨rfl, hb⟩
      have hk : Below wz.heap.size wz v1 := by first | exact hb | exact bl_tr (bl_al (bl0 _) _) hb | exact bl_tr (bl_dr (bl_al (bl0 _) _)) hb | exact bl_tr (bl_al (bl_al (bl0 _) _) _) hb | exact bl_tr (bl_dr (bl_al (bl_al (bl0 _) _) _)) hb | exact bl_tr (bl_al (bl_al (bl_al (bl0 _) _) _) _) hb | exact bl_tr (bl_dr (bl_al (bl_al (bl_al (bl0 _) _) _) _)) hb | exact bl_tr (bl_al (bl_al (bl_al (bl_al (bl0 _) _) _) _) _) hb | exact bl_tr (bl_dr (bl_al (bl_al (bl_al (bl_al (bl0 _) _) _) _) _)) hb | exact bl_tr (bl_al (bl_al (bl_al (bl_al (bl_al (bl0 _) _) _) _) _) _) hb | exact bl_tr (bl_dr (bl_al (bl_al (bl_al (bl_al (bl_al (bl0 _) _) _) _) _) _)) hb | exact bl_tr (bl_al (bl_al (bl_al (bl_al (bl_al (bl_al (bl0 _) _) _) _) _) _) _) hb | exact bl_tr (bl_dr (bl_al (bl_al (bl_al (bl_al (bl_al (bl_al (bl0 _) _) _) _) _) _) _)) hb | exact bl_tr (bl_dr (bl0 _)) hb
      replace hA := bl_tr hA hk
      replace s0 := cell_later hk s0
      replace s1 := cell_later hk s1
      clear hb hk
      have zs0 := blk_lt s0
      have zs1 := blk_lt s1
      go_wp2_with fail
      refine (may_any _ _ _).mono ?_
      rintro e v2 ⟨rfl, hb⟩
      have hk : Below v1.heap.size v1 v2 := by first | exact hb | exact bl_tr (bl_al (bl0 _) _) hb | exact bl_tr (bl_dr (bl_al (bl0 _) _)) hb | exact bl_tr (bl_al (bl_al (bl0 _) _) _) hb | exact bl_tr (bl_dr (bl_al (bl_al (bl0 _) _) _)) hb | exact bl_tr (bl_al (bl_al (bl_al (bl0 _) _) _) _) hb | exact bl_tr (bl_dr (bl_al (bl_al (bl_al (bl0 _) _) _) _)) hb | exact bl_tr (bl_al (bl_al (bl_al (bl_al (bl0 _) _) _) _) _) hb | exact bl_tr (bl_dr (bl_al (bl_al (bl_al (bl_al (bl0 _) _) _) _) _)) hb | exact bl_tr (bl_al (bl_al (bl_al (bl_al (bl_al (bl0 _) _) _) _) _) _) hb | exact bl_tr (bl_dr (bl_al (bl_al (bl_al (bl_al (bl_al (bl0 _) _) _) _) _) _)) hb | exact bl_tr (bl_al (bl_al (bl_al (bl_al (bl_al (bl_al (bl0 _) _) _) _) _) _) _) hb | exact bl_tr (bl_dr (bl_al (bl_al (bl_al (bl_al (bl_al (bl_al (bl0 _) _) _) _) _) _) _)) hb | exact bl_tr (bl_dr (bl0 _)) hb
      replace hA := bl_tr hA hk
      replace s0 := cell_later hk s0
      replace s1 := cell_later hk s1
      clear hb hk
      have zs0 := blk_lt s0
      have zs1 := blk_lt s1
      go_wp2_with fail
      refine (awake_any _ (hs.below (by first | exact hA | exact (bl_al hA _) | exact (bl_dr (bl_al hA _)) | exact (bl_al (bl_al hA _) _) | exact (bl_dr (bl_al (bl_al hA _) _)) | exact (bl_al (bl_al (bl_al hA _) _) _) | exact (bl_dr (bl_al (bl_al (bl_al hA _) _) _)) | exact (bl_al (bl_al (bl_al (bl_al hA _) _) _) _) | exact (bl_dr (bl_al (bl_al (bl_al (bl_al hA _) _) _) _)) | exact (bl_al (bl_al (bl_al (bl_al (bl_al hA _) _) _) _) _) | exact (bl_dr (bl_al (bl_al (bl_al (bl_al (bl_al hA _) _) _) _) _)) | exact (bl_al (bl_al (bl_al (bl_al (bl_al (bl_al hA _) _) _) _) _) _) | exact (bl_dr (bl_al (bl_al (bl_al (bl_al (bl_al (bl_al hA _) _) _) _) _) _)) | exact (bl_dr hA)))).mono ?_
      rintro e v3 ⟨rfl, hb⟩
      have hk : Below v2.heap.size v2 v3 := by first | exact hb | exact bl_tr (bl_al (bl0 _) _) hb | exact bl_tr (bl_dr (bl_al (bl0 _) _)) hb | exact bl_tr (bl_al (bl_al (bl0 _) _) _) hb | exact bl_tr (bl_dr (bl_al (bl_al (bl0 _) _) _)) hb | exact bl_tr (bl_al (bl_al (bl_al (bl0 _) _) _) _) hb | exact bl_tr (bl_dr (bl_al (bl_al (bl_al (bl0 _) _) _) _)) hb | exact bl_tr (bl_al (bl_al (bl_al (bl_al (bl0 _) _) _) _) _) hb | exact bl_tr (bl_dr (bl_al (bl_al (bl_al (bl_al (bl0 _) _) _) _) _)) hb | exact bl_tr (bl_al (bl_al (bl_al (bl_al (bl_al (bl0 _) _) _) _) _) _) hb | exact bl_tr (bl_dr (bl_al (bl_al (bl_al (bl_al (bl_al (bl0 _) _) _) _) _) _)) hb | exact bl_tr (bl_al (bl_al (bl_al (bl_al (bl_al (bl_al (bl0 _) _) _) _) _) _) _) hb | exact bl_tr (bl_dr (bl_al (bl_al (bl_al (bl_al (bl_al (bl_al (bl0 _) _) _) _) _) _) _)) hb | exact bl_tr (bl_dr (bl0 _)) hb
      replace hA := bl_tr hA hk
      clear hb hk
      go_wp2
      go_ret
      exact ⟨rfl, hA⟩
    · have hj : i < 0 ∨ W * H ≤ i := by
        have h1 := mayB_iff.1 hm
        have h2 : ¬ (1 ≤ W ∧ W ≤ 256 ∧ 1 ≤ H ∧ H ≤ 256 ∧ 0 ≤ i ∧ i < W * H) := by simpa [atB] using ht
        omega
      obtain ⟨h1, h2, h3, h4⟩ := mayB_iff.1 hm
      obtain ⟨m1, m2⟩ : 0 ≤ W * H ∧ W * H ≤ 65536 := ⟨Int.mul_nonneg (by omega) (by omega), by have a : W * H ≤ 256 * H := Int.mul_le_mul_of_nonneg_right h2 (by omega); omega⟩
      by_cases hl : i < 0
      all_goals
        go_wp2_with fail
        refine (at_no _ _ _ _ ht).mono ?_
        rintro e v1 ⟨rfl, hb⟩
        have hk : Below wz.heap.size wz v1 := by first | exact hb | exact bl_tr (bl_al (bl0 _) _) hb | exact bl_tr (bl_dr (bl_al (bl0 _) _)) hb | exact bl_tr (bl_al (bl_al (bl0 _) _) _) hb | exact bl_tr (bl_dr (bl_al (bl_al (bl0 _) _) _)) hb | exact bl_tr (bl_al (bl_al (bl_al (bl0 _) _) _) _) hb | exact bl_tr (bl_dr (bl_al (bl_al (bl_al (bl0 _) _) _) _)) hb | exact bl_tr (bl_al (bl_al (bl_al (bl_al (bl0 _) _) _) _) _) hb | exact bl_tr (bl_dr (bl_al (bl_al (bl_al (bl_al (bl0 _) _) _) _) _)) hb | exact bl_tr (bl_al (bl_al (bl_al (bl_al (bl_al (bl0 _) _) _) _) _) _) hb | exact bl_tr (bl_dr (bl_al (bl_al (bl_al (bl_al (bl_al (bl0 _) _) _) _) _) _)) hb | exact bl_tr (bl_al (bl_al (bl_al (bl_al (bl_al (bl_al (bl0 _) _) _) _) _) _) _) hb | exact bl_tr (bl_dr (bl_al (bl_al (bl_al (bl_al (bl_al (bl_al (bl0 _) _) _) _) _) _) _)) hb | exact bl_tr (bl_dr (bl0 _)) hb
        replace hA := bl_tr hA hk
        replace s0 := cell_later hk s0
        replace s1 := cell_later hk s1
        clear hb hk
        have zs0 := blk_lt s0
        have zs1 := blk_lt s1
        go_wp2_with fail
        refine (may_any _ _ _).mono ?_
        rintro e v2 ⟨rfl, hb⟩
        have hk : Below v1.heap.size v1 v2 := by first | exact hb | exact bl_tr (bl_al (bl0 _) _) hb | exact bl_tr (bl_dr (bl_al (bl0 _) _)) hb | exact bl_tr (bl_al (bl_al (bl0 _) _) _) hb | exact bl_tr (bl_dr (bl_al (bl_al (bl0 _) _) _)) hb | exact bl_tr (bl_al (bl_al (bl_al (bl0 _) _) _) _) hb | exact bl_tr (bl_dr (bl_al (bl_al (bl_al (bl0 _) _) _) _)) hb | exact bl_tr (bl_al (bl_al (bl_al (bl_al (bl0 _) _) _) _) _) hb | exact bl_tr (bl_dr (bl_al (bl_al (bl_al (bl_al (bl0 _) _) _) _) _)) hb | exact bl_tr (bl_al (bl_al (bl_al (bl_al (bl_al (bl0 _) _) _) _) _) _) hb | exact bl_tr (bl_dr (bl_al (bl_al (bl_al (bl_al (bl_al (bl0 _) _) _) _) _) _)) hb | exact bl_tr (bl_al (bl_al (bl_al (bl_al (bl_al (bl_al (bl0 _) _) _) _) _) _) _) hb | exact bl_tr (bl_dr (bl_al (bl_al (bl_al (bl_al (bl_al (bl_al (bl0 _) _) _) _) _) _) _)) hb | exact bl_tr (bl_dr (bl0 _)) hb
        replace hA := bl_tr hA hk
        replace s0 := cell_later hk s0
        replace s1 := cell_later hk s1
        clear hb hk
        have zs0 := blk_lt s0
        have zs1 := blk_lt s1
        go_wp2_with fail
        refine (awake_any _ (hs.below (by first | exact hA | exact (bl_al hA _) | exact (bl_dr (bl_al hA _)) | exact (bl_al (bl_al hA _) _) | exact (bl_dr (bl_al (bl_al hA _) _)) | exact (bl_al (bl_al (bl_al hA _) _) _) | exact (bl_dr (bl_al (bl_al (bl_al hA _) _) _)) | exact (bl_al (bl_al (bl_al (bl_al hA _) _) _) _) | exact (bl_dr (bl_al (bl_al (bl_al (bl_al hA _) _) _) _)) | exact (bl_al (bl_al (bl_al (bl_al (bl_al hA _) _) _) _) _) | exact (bl_dr (bl_al (bl_al (bl_al (bl_al (bl_al hA _) _) _) _) _)) | exact (bl_al (bl_al (bl_al (bl_al (bl_al (bl_al hA _) _) _) _) _) _) | exact (bl_dr (bl_al (bl_al (bl_al (bl_al (bl_al (bl_al hA _) _) _) _) _) _)) | exact (bl_dr hA)))).mono ?_
        rintro e v3 ⟨rfl, hb⟩
        have hk : Below v2.heap.size v2 v3 := by first | exact hb | exact bl_tr (bl_al (bl0 _) _) hb | exact bl_tr (bl_dr (bl_al (bl0 _) _)) hb | exact bl_tr (bl_al (bl_al (bl0 _) _) _) hb | exact bl_tr (bl_dr (bl_al (bl_al (bl0 _) _) _)) hb | exact bl_tr (bl_al (bl_al (bl_al (bl0 _) _) _) _) hb | exact bl_tr (bl_dr (bl_al (bl_al (bl_al (bl0 _) _) _) _)) hb | exact bl_tr (bl_al (bl_al (bl_al (bl_al (bl0 _) _) _) _) _) hb | exact bl_tr (bl_dr (bl_al (bl_al (bl_al (bl_al (bl0 _) _) _) _) _)) hb | exact bl_tr (bl_al (bl_al (bl_al (bl_al (bl_al (bl0 _) _) _) _) _) _) hb | exact bl_tr (bl_dr (bl_al (bl_al (bl_al (bl_al (bl_al (bl0 _) _) _) _) _) _)) hb | exact bl_tr (bl_al (bl_al (bl_al (bl_al (bl_al (bl_al (bl0 _) _) _) _) _) _) _) hb | exact bl_tr (bl_dr (bl_al (bl_al (bl_al (bl_al (bl_al (bl_al (bl0 _) _) _) _) _) _) _)) hb | exact bl_tr (bl_dr (bl0 _)) hb
        replace hA := bl_tr hA hk
        clear hb hk
        go_wp2
        go_ret
        exact ⟨ret_bool (by simp; try omega), hA⟩
  · obtain ⟨hin, hN⟩ := in_of_at ht
    obtain ⟨P, hP⟩ : ∃ P, i % W = P := ⟨_, rfl⟩
    obtain ⟨Q, hQ⟩ : ∃ Q, i / W = Q := ⟨_, rfl⟩
    rw [hP, hQ] at hin
    rw [hP, hQ] at hN
    have HP := Lib.hid hP
    have HQ := Lib.hid hQ
    have HN := Lib.hid hN
    clear hP hQ hN
    go_wp2_with fail
    refine (at_any' _ _ _ _ _ _ ht HP.out HQ.out).mono ?_
    rintro e v1 ⟨rfl, hb⟩
    have hk : Below wz.heap.size wz v1 := by first | exact hb | exact bl_tr (bl_al (bl0 _) _) hb | exact bl_tr (bl_dr (bl_al (bl0 _) _)) hb | exact bl_tr (bl_al (bl_al (bl0 _) _) _) hb | exact bl_tr (bl_dr (bl_al (bl_al (bl0 _) _) _)) hb | exact bl_tr (bl_al (bl_al (bl_al (bl0 _) _) _) _) hb | exact bl_tr (bl_dr (bl_al (bl_al (bl_al (bl0 _) _) _) _)) hb | exact bl_tr (bl_al (bl_al (bl_al (bl_al (bl0 _) _) _) _) _) hb | exact bl_tr (bl_dr (bl_al (bl_al (bl_al (bl_al (bl0 _) _) _) _) _)) hb | exact bl_tr (bl_al (bl_al (bl_al (bl_al (bl_al (bl0 _) _) _) _) _) _) hb | exact bl_tr (bl_dr (bl_al (bl_al (bl_al (bl_al (bl_al (bl0 _) _) _) _) _) _)) hb | exact bl_tr (bl_al (bl_al (bl_al (bl_al (bl_al (bl_al (bl0 _) _) _) _) _) _) _) hb | exact bl_tr (bl_dr (bl_al (bl_al (bl_al (bl_al (bl_al (bl_al (bl0 _) _) _) _) _) _) _)) hb | exact bl_tr (bl_dr (bl0 _)) hb
    replace hA := bl_tr hA hk
    replace s0 := cell_later hk s0
    replace s1 := cell_later hk s1
    clear hb hk
    have zs0 := blk_lt s0
    have zs1 := blk_lt s1
    go_wp2_with fail
    refine (index_to _ _ _ _ _ _ hin HN.out).mono ?_
    rintro e v2 ⟨rfl, hb⟩
    have hk : Below v1.heap.size v1 v2 := by first | exact hb | exact bl_tr (bl_al (bl0 _) _) hb | exact bl_tr (bl_dr (bl_al (bl0 _) _)) hb | exact bl_tr (bl_al (bl_al (bl0 _) _) _) hb | exact bl_tr (bl_dr (bl_al (bl_al (bl0 _) _) _)) hb | exact bl_tr (bl_al (bl_al (bl_al (bl0 _) _) _) _) hb | exact bl_tr (bl_dr (bl_al (bl_al (bl_al (bl0 _) _) _) _)) hb | exact bl_tr (bl_al (bl_al (bl_al (bl_al (bl0 _) _) _) _) _) hb | exact bl_tr (bl_dr (bl_al (bl_al (bl_al (bl_al (bl0 _) _) _) _) _)) hb | exact bl_tr (bl_al (bl_al (bl_al (bl_al (bl_al (bl0 _) _) _) _) _) _) hb | exact bl_tr (bl_dr (bl_al (bl_al (bl_al (bl_al (bl_al (bl0 _) _) _) _) _) _)) hb | exact bl_tr (bl_al (bl_al (bl_al (bl_al (bl_al (bl_al (bl0 _) _) _) _) _) _) _) hb | exact bl_tr (bl_dr (bl_al (bl_al (bl_al (bl_al (bl_al (bl_al (bl0 _) _) _) _) _) _) _)) hb | exact bl_tr (bl_dr (bl0 _)) hb
    replace hA := bl_tr hA hk
    replace s0 := cell_later hk s0
    replace s1 := cell_later hk s1
    have c0 := cell_later hb (v := .int .i64 P) (a := ⟨v1.heap.size, 0, none⟩) (by simp [go_sem])
    have c1 := cell_later hb (v := .int .i64 Q) (a := ⟨v1.heap.size, 1, none⟩) (by simp [go_sem])
    clear hb hk
    have zs0 := blk_lt s0
    have zs1 := blk_lt s1
    have zc0 := blk_lt c0
    have zc1 := blk_lt c1
    go_wp2_with fail
    refine (in_any _ _ _ _ _).mono ?_
    rintro e v3 ⟨rfl, hb⟩
    have hk : Below v2.heap.size v2 v3 := by first | exact hb | exact bl_tr (bl_al (bl0 _) _) hb | exact bl_tr (bl_dr (bl_al (bl0 _) _)) hb | exact bl_tr (bl_al (bl_al (bl0 _) _) _) hb | exact bl_tr (bl_dr (bl_al (bl_al (bl0 _) _) _)) hb | exact bl_tr (bl_al (bl_al (bl_al (bl0 _) _) _) _) hb | exact bl_tr (bl_dr (bl_al (bl_al (bl_al (bl0 _) _) _) _)) hb | exact bl_tr (bl_al (bl_al (bl_al (bl_al (bl0 _) _) _) _) _) hb | exact bl_tr (bl_dr (bl_al (bl_al (bl_al (bl_al (bl0 _) _) _) _) _)) hb | exact bl_tr (bl_al (bl_al (bl_al (bl_al (bl_al (bl0 _) _) _) _) _) _) hb | exact bl_tr (bl_dr (bl_al (bl_al (bl_al (bl_al (bl_al (bl0 _) _) _) _) _) _)) hb | exact bl_tr (bl_al (bl_al (bl_al (bl_al (bl_al (bl_al (bl0 _) _) _) _) _) _) _) hb | exact bl_tr (bl_dr (bl_al (bl_al (bl_al (bl_al (bl_al (bl_al (bl0 _) _) _) _) _) _) _)) hb | exact bl_tr (bl_dr (bl0 _)) hb
    replace hA := bl_tr hA hk
    replace s0 := cell_later hk s0
    replace s1 := cell_later hk s1
    replace c0 := cell_later hk c0
    replace c1 := cell_later hk c1
    clear hb hk
    have zs0 := blk_lt s0
    have zs1 := blk_lt s1
    have zc0 := blk_lt c0
    have zc1 := blk_lt c1
    go_wp2_with fail
    refine (awake_any _ (hs.below (by first | exact hA | exact (bl_al hA _) | exact (bl_dr (bl_al hA _)) | exact (bl_al (bl_al hA _) _) | exact (bl_dr (bl_al (bl_al hA _) _)) | exact (bl_al (bl_al (bl_al hA _) _) _) | exact (bl_dr (bl_al (bl_al (bl_al hA _) _) _)) | exact (bl_al (bl_al (bl_al (bl_al hA _) _) _) _) | exact (bl_dr (bl_al (bl_al (bl_al (bl_al hA _) _) _) _)) | exact (bl_al (bl_al (bl_al (bl_al (bl_al hA _) _) _) _) _) | exact (bl_dr (bl_al (bl_al (bl_al (bl_al (bl_al hA _) _) _) _) _)) | exact (bl_al (bl_al (bl_al (bl_al (bl_al (bl_al hA _) _) _) _) _) _) | exact (bl_dr (bl_al (bl_al (bl_al (bl_al (bl_al (bl_al hA _) _) _) _) _) _)) | exact (bl_dr hA)))).mono ?_
    rintro e v4 ⟨rfl, hb⟩
    have hk : Below v3.heap.size v3 v4 := by first | exact hb | exact bl_tr (bl_al (bl0 _) _) hb | exact bl_tr (bl_dr (bl_al (bl0 _) _)) hb | exact bl_tr (bl_al (bl_al (bl0 _) _) _) hb | exact bl_tr (bl_dr (bl_al (bl_al (bl0 _) _) _)) hb | exact bl_tr (bl_al (bl_al (bl_al (bl0 _) _) _) _) hb | exact bl_tr (bl_dr (bl_al (bl_al (bl_al (bl0 _) _) _) _)) hb | exact bl_tr (bl_al (bl_al (bl_al (bl_al (bl0 _) _) _) _) _) hb | exact bl_tr (bl_dr (bl_al (bl_al (bl_al (bl_al (bl0 _) _) _) _) _)) hb | exact bl_tr (bl_al (bl_al (bl_al (bl_al (bl_al (bl0 _) _) _) _) _) _) hb | exact bl_tr (bl_dr (bl_al (bl_al (bl_al (bl_al (bl_al (bl0 _) _) _) _) _) _)) hb | exact bl_tr (bl_al (bl_al (bl_al (bl_al (bl_al (bl_al (bl0 _) _) _) _) _) _) _) hb | exact bl_tr (bl_dr (bl_al (bl_al (bl_al (bl_al (bl_al (bl_al (bl0 _) _) _) _) _) _) _)) hb | exact bl_tr (bl_dr (bl0 _)) hb
    replace hA := bl_tr hA hk
    clear hb hk
    go_wp2
    go_ret
    exact ⟨rfl, hA⟩

set_option maxRecDepth 100000 in
set_option maxHeartbeats 3200000 in
theorem once_lower (W H X Y U V i : Int) (w : World) (hs : Stp w) (hi : inB W H X Y = true) (hj : inB W H U V = true) (A B : Int) (HA : Hid (Y * W + X = A)) (HB : Hid (V * W + U = B)) (hl : Y < V) (hab : A < B) : Calls
    Tryd.prog 7 #[.agg #[.int .i64 W, .int .i64 H], .agg #[.int .i64 X, .int .i64 Y, .int .i64 U, .int .i64 V], .int .i64 i] w fun e w' => e = .returned (.bool true) ∧ Below w.heap.size w w' := by
  have n1 : (A == B) = false := by simp; omega
  have n2 : (Y == V) = false := by simp; omega
  have hA := bl0 w
  go_enter Tryd.func7, Tryd.ntmps7
  go_wp2_with fail
  refine (index_to _ _ _ _ _ _ hi HA.out).mono ?_
  rintro e w1 ⟨rfl, hb⟩
  have hk : Below w.heap.size w w1 := by first | exact hb | exact bl_tr (bl_al (bl0 _) _) hb | exact bl_tr (bl_dr (bl_al (bl0 _) _)) hb | exact bl_tr (bl_al (bl_al (bl0 _) _) _) hb | exact bl_tr (bl_dr (bl_al (bl_al (bl0 _) _) _)) hb | exact bl_tr (bl_al (bl_al (bl_al (bl0 _) _) _) _) hb | exact bl_tr (bl_dr (bl_al (bl_al (bl_al (bl0 _) _) _) _)) hb | exact bl_tr (bl_al (bl_al (bl_al (bl_al (bl0 _) _) _) _) _) hb | exact bl_tr (bl_dr (bl_al (bl_al (bl_al (bl_al (bl0 _) _) _) _) _)) hb | exact bl_tr (bl_al (bl_al (bl_al (bl_al (bl_al (bl0 _) _) _) _) _) _) hb | exact bl_tr (bl_dr (bl_al (bl_al (bl_al (bl_al (bl_al (bl0 _) _) _) _) _) _)) hb | exact bl_tr (bl_al (bl_al (bl_al (bl_al (bl_al (bl_al (bl0 _) _) _) _) _) _) _) hb | exact bl_tr (bl_dr (bl_al (bl_al (bl_al (bl_al (bl_al (bl_al (bl0 _) _) _) _) _) _) _)) hb | exact bl_tr (bl_dr (bl0 _)) hb
  replace hA := bl_tr hA hk
  have s0 := cell_later hb (v := .int .i64 W) (a := ⟨w.heap.size, 0, none⟩) (by simp [go_sem])
  have s1 := cell_later hb (v := .int .i64 H) (a := ⟨w.heap.size, 1, none⟩) (by simp [go_sem])
  have a0 := cell_later hb (v := .int .i64 X) (a := ⟨w.heap.size + 1, 0, none⟩) (by simp [go_sem])
  have a1 := cell_later hb (v := .int .i64 Y) (a := ⟨w.heap.size + 1, 1, none⟩) (by simp [go_sem])
  have b0 := cell_later hb (v := .int .i64 U) (a := ⟨w.heap.size + 1, 2, none⟩) (by simp [go_sem])
  have b1 := cell_later hb (v := .int .i64 V) (a := ⟨w.heap.size + 1, 3, none⟩) (by simp [go_sem])
  clear hb hk
  have zs0 := blk_lt s0
  have zs1 := blk_lt s1
  have za0 := blk_lt a0
  have za1 := blk_lt a1
  have zb0 := blk_lt b0
  have zb1 := blk_lt b1
  go_wp2_with fail
  refine (index_to _ _ _ _ _ _ hj HB.out).mono ?_
  rintro e w2 ⟨rfl, hb⟩
  have hk : Below w1.heap.size w1 w2 := by first | exact hb | exact bl_tr (bl_al (bl0 _) _) hb | exact bl_tr (bl_dr (bl_al (bl0 _) _)) hb | exact bl_tr (bl_al (bl_al (bl0 _) _) _) hb | exact bl_tr (bl_dr (bl_al (bl_al (bl0 _) _) _)) hb | exact bl_tr (bl_al (bl_al (bl_al (bl0 _) _) _) _) hb | exact bl_tr (bl_dr (bl_al (bl_al (bl_al (bl0 _) _) _) _)) hb | exact bl_tr (bl_al (bl_al (bl_al (bl_al (bl0 _) _) _) _) _) hb | exact bl_tr (bl_dr (bl_al (bl_al (bl_al (bl_al (bl0 _) _) _) _) _)) hb | exact bl_tr (bl_al (bl_al (bl_al (bl_al (bl_al (bl0 _) _) _) _) _) _) hb | exact bl_tr (bl_dr (bl_al (bl_al (bl_al (bl_al (bl_al (bl0 _) _) _) _) _) _)) hb | exact bl_tr (bl_al (bl_al (bl_al (bl_al (bl_al (bl_al (bl0 _) _) _) _) _) _) _) hb | exact bl_tr (bl_dr (bl_al (bl_al (bl_al (bl_al (bl_al (bl_al (bl0 _) _) _) _) _) _) _)) hb | exact bl_tr (bl_dr (bl0 _)) hb
  replace hA := bl_tr hA hk
  replace s0 := cell_later hk s0
  replace s1 := cell_later hk s1
  replace a0 := cell_later hk a0
  replace a1 := cell_later hk a1
  replace b0 := cell_later hk b0
  replace b1 := cell_later hk b1
  clear hb hk
  have zs0 := blk_lt s0
  have zs1 := blk_lt s1
  have za0 := blk_lt a0
  have za1 := blk_lt a1
  have zb0 := blk_lt b0
  have zb1 := blk_lt b1
  go_wp2_with fail
  refine (at_to _ _ _ _ _ _ hi HA.out).mono ?_
  rintro e w3 ⟨rfl, hb⟩
  have hk : Below w2.heap.size w2 w3 := by first | exact hb | exact bl_tr (bl_al (bl0 _) _) hb | exact bl_tr (bl_dr (bl_al (bl0 _) _)) hb | exact bl_tr (bl_al (bl_al (bl0 _) _) _) hb | exact bl_tr (bl_dr (bl_al (bl_al (bl0 _) _) _)) hb | exact bl_tr (bl_al (bl_al (bl_al (bl0 _) _) _) _) hb | exact bl_tr (bl_dr (bl_al (bl_al (bl_al (bl0 _) _) _) _)) hb | exact bl_tr (bl_al (bl_al (bl_al (bl_al (bl0 _) _) _) _) _) hb | exact bl_tr (bl_dr (bl_al (bl_al (bl_al (bl_al (bl0 _) _) _) _) _)) hb | exact bl_tr (bl_al (bl_al (bl_al (bl_al (bl_al (bl0 _) _) _) _) _) _) hb | exact bl_tr (bl_dr (bl_al (bl_al (bl_al (bl_al (bl_al (bl0 _) _) _) _) _) _)) hb | exact bl_tr (bl_al (bl_al (bl_al (bl_al (bl_al (bl_al (bl0 _) _) _) _) _) _) _) hb | exact bl_tr (bl_dr (bl_al (bl_al (bl_al (bl_al (bl_al (bl_al (bl0 _) _) _) _) _) _) _)) hb | exact bl_tr (bl_dr (bl0 _)) hb
  replace hA := bl_tr hA hk
  replace s0 := cell_later hk s0
  replace s1 := cell_later hk s1
  replace a0 := cell_later hk a0
  replace a1 := cell_later hk a1
  replace b0 := cell_later hk b0
  replace b1 := cell_later hk b1
  clear hb hk
  have zs0 := blk_lt s0
  have zs1 := blk_lt s1
  have za0 := blk_lt a0
  have za1 := blk_lt a1
  have zb0 := blk_lt b0
  have zb1 := blk_lt b1
  go_wp2_with fail
  refine (in_any _ _ _ _ _).mono ?_
  rintro e wz ⟨rfl, hb⟩
  have hk : Below w3.heap.size w3 wz := by first | exact hb | exact bl_tr (bl_al (bl0 _) _) hb | exact bl_tr (bl_dr (bl_al (bl0 _) _)) hb | exact bl_tr (bl_al (bl_al (bl0 _) _) _) hb | exact bl_tr (bl_dr (bl_al (bl_al (bl0 _) _) _)) hb | exact bl_tr (bl_al (bl_al (bl_al (bl0 _) _) _) _) hb | exact bl_tr (bl_dr (bl_al (bl_al (bl_al (bl0 _) _) _) _)) hb | exact bl_tr (bl_al (bl_al (bl_al (bl_al (bl0 _) _) _) _) _) hb | exact bl_tr (bl_dr (bl_al (bl_al (bl_al (bl_al (bl0 _) _) _) _) _)) hb | exact bl_tr (bl_al (bl_al (bl_al (bl_al (bl_al (bl0 _) _) _) _) _) _) hb | exact bl_tr (bl_dr (bl_al (bl_al (bl_al (bl_al (bl_al (bl0 _) _) _) _) _) _)) hb | exact bl_tr (bl_al (bl_al (bl_al (bl_al (bl_al (bl_al (bl0 _) _) _) _) _) _) _) hb | exact bl_tr (bl_dr (bl_al (bl_al (bl_al (bl_al (bl_al (bl_al (bl0 _) _) _) _) _) _) _)) hb | exact bl_tr (bl_dr (bl0 _)) hb
  replace hA := bl_tr hA hk
  replace s0 := cell_later hk s0
  replace s1 := cell_later hk s1
  replace a0 := cell_later hk a0
  replace a1 := cell_later hk a1
  replace b0 := cell_later hk b0
  replace b1 := cell_later hk b1
  have d0 := cell_later hb (v := .int .i64 X) (a := ⟨w3.heap.size, 0, none⟩) (by simp [go_sem])
  have d1 := cell_later hb (v := .int .i64 Y) (a := ⟨w3.heap.size, 1, none⟩) (by simp [go_sem])
  clear hb hk
  have zs0 := blk_lt s0
  have zs1 := blk_lt s1
  have za0 := blk_lt a0
  have za1 := blk_lt a1
  have zb0 := blk_lt b0
  have zb1 := blk_lt b1
  have zd0 := blk_lt d0
  have zd1 := blk_lt d1
  cases ht : atB W H i
  · cases hm : mayB W H
    · --
      go_wp2_with fail
      refine (at_no _ _ _ _ ht).mono ?_
      rintro e v1 ⟨rfl, hb⟩
      have hk : Below wz.heap.size wz v1 := by first | exact hb | exact bl_tr (bl_al (bl0 _) _) hb | exact bl_tr (bl_dr (bl_al (bl0 _) _)) hb | exact bl_tr (bl_al (bl_al (bl0 _) _) _) hb | exact bl_tr (bl_dr (bl_al (bl_al (bl0 _) _) _)) hb | exact bl_tr (bl_al (bl_al (bl_al (bl0 _) _) _) _) hb | exact bl_tr (bl_dr (bl_al (bl_al (bl_al (bl0 _) _) _) _)) hb | exact bl_tr (bl_al (bl_al (bl_al (bl_al (bl0 _) _) _) _) _) hb | exact bl_tr (bl_dr (bl_al (bl_al (bl_al (bl_al (bl0 _) _) _) _) _)) hb | exact bl_tr (bl_al (bl_al (bl_al (bl_al (bl_al (bl0 _) _) _) _) _) _) hb | exact bl_tr (bl_dr (bl_al (bl_al (bl_al (bl_al (bl_al (bl0 _) _) _) _) _) _)) hb | exact bl_tr (bl_al (bl_al (bl_al (bl_al (bl_al (bl_al (bl0 _) _) _) _) _) _) _) hb | exact bl_tr (bl_dr (bl_al (bl_al (bl_al (bl_al (bl_al (bl_al (bl0 _) _) _) _) _) _) _)) hb | exact bl_tr (bl_dr (bl0 _)) hb
      replace hA := bl_tr hA hk
      replace s0 := cell_later hk s0
      replace s1 := cell_later hk s1
      clear hb hk
      have zs0 := blk_lt s0
      have zs1 := blk_lt s1
      go_wp2_with fail
      refine (may_any _ _ _).mono ?_
      rintro e v2 ⟨rfl, hb⟩
      have hk : Below v1.heap.size v1 v2 := by first | exact hb | exact bl_tr (bl_al (bl0 _) _) hb | exact bl_tr (bl_dr (bl_al (bl0 _) _)) hb | exact bl_tr (bl_al (bl_al (bl0 _) _) _) hb | exact bl_tr (bl_dr (bl_al (bl_al (bl0 _) _) _)) hb | exact bl_tr (bl_al (bl_al (bl_al (bl0 _) _) _) _) hb | exact bl_tr (bl_dr (bl_al (bl_al (bl_al (bl0 _) _) _) _)) hb | exact bl_tr (bl_al (bl_al (bl_al (bl_al (bl0 _) _) _) _) _) hb | exact bl_tr (bl_dr (bl_al (bl_al (bl_al (bl_al (bl0 _) _) _) _) _)) hb | exact bl_tr (bl_al (bl_al (bl_al (bl_al (bl_al (bl0 _) _) _) _) _) _) hb | exact bl_tr (bl_dr (bl_al (bl_al (bl_al (bl_al (bl_al (bl0 _) _) _) _) _) _)) hb | exact bl_tr (bl_al (bl_al (bl_al (bl_al (bl_al (bl_al (bl0 _) _) _) _) _) _) _) hb | exact bl_tr (bl_dr (bl_al (bl_al (bl_al (bl_al (bl_al (bl_al (bl0 _) _) _) _) _) _) _)) hb | exact bl_tr (bl_dr (bl0 _)) hb
      replace hA := bl_tr hA hk
      replace s0 := cell_later hk s0
      replace s1 := cell_later hk s1
      clear hb hk
      have zs0 := blk_lt s0
      have zs1 := blk_lt s1
      go_wp2_with fail
      refine (awake_any _ (hs.below (by first | exact hA | exact (bl_al hA _) | exact (bl_dr (bl_al hA _)) | exact (bl_al (bl_al hA _) _) | exact (bl_dr (bl_al (bl_al hA _) _)) | exact (bl_al (bl_al (bl_al hA _) _) _) | exact (bl_dr (bl_al (bl_al (bl_al hA _) _) _)) | exact (bl_al (bl_al (bl_al (bl_al hA _) _) _) _) | exact (bl_dr (bl_al (bl_al (bl_al (bl_al hA _) _) _) _)) | exact (bl_al (bl_al (bl_al (bl_al (bl_al hA _) _) _) _) _) | exact (bl_dr (bl_al (bl_al (bl_al (bl_al (bl_al hA _) _) _) _) _)) | exact (bl_al (bl_al (bl_al (bl_al (bl_al (bl_al hA _) _) _) _) _) _) | exact (bl_dr (bl_al (bl_al (bl_al (bl_al (bl_al (bl_al hA _) _) _) _) _) _)) | exact (bl_dr hA)))).mono ?_
      rintro e v3 ⟨rfl, hb⟩
      have hk : Below v2.heap.size v2 v3 := by first | exact hb | exact bl_tr (bl_al (bl0 _) _) hb | exact bl_tr (bl_dr (bl_al (bl0 _) _)) hb | exact bl_tr (bl_al (bl_al (bl0 _) _) _) hb | exact bl_tr (bl_dr (bl_al (bl_al (bl0 _) _) _)) hb | exact bl_tr (bl_al (bl_al (bl_al (bl0 _) _) _) _) hb | exact bl_tr (bl_dr (bl_al (bl_al (bl_al (bl0 _) _) _) _)) hb | exact bl_tr (bl_al (bl_al (bl_al (bl_al (bl0 _) _) _) _) _) hb | exact bl_tr (bl_dr (bl_al (bl_al (bl_al (bl_al (bl0 _) _) _) _) _)) hb | exact bl_tr (bl_al (bl_al (bl_al (bl_al (bl_al (bl0 _) _) _) _) _) _) hb | exact bl_tr (bl_dr (bl_al (bl_al (bl_al (bl_al (bl_al (bl0 _) _) _) _) _) _)) hb | exact bl_tr (bl_al (bl_al (bl_al (bl_al (bl_al (bl_al (bl0 _) _) _) _) _) _) _) hb | exact bl_tr (bl_dr (bl_al (bl_al (bl_al (bl_al (bl_al (bl_al (bl0 _) _) _) _) _) _) _)) hb | exact bl_tr (bl_dr (bl0 _)) hb
      replace hA := bl_tr hA hk
      clear hb hk
      go_wp2
      go_ret
      exact ⟨rfl, hA⟩
    · have hj : i < 0 ∨ W * H ≤ i := by
        have h1 := mayB_iff.1 hm
        have h2 : ¬ (1 ≤ W ∧ W ≤ 256 ∧ 1 ≤ H ∧ H ≤ 256 ∧ 0 ≤ i ∧ i < W * H) := by simpa [atB] using ht
        omega
      obtain ⟨h1, h2, h3, h4⟩ := mayB_iff.1 hm
      obtain ⟨m1, m2⟩ : 0 ≤ W * H ∧ W * H ≤ 65536 := ⟨Int.mul_nonneg (by omega) (by omega), by have a : W * H ≤ 256 * H := Int.mul_le_mul_of_nonneg_right h2 (by omega); omega⟩
      by_cases hl : i < 0
      all_goals
        go_wp2_with fail
        refine (at_no _ _ _ _ ht).mono ?_
        rintro e v1 ⟨rfl, hb⟩
        have hk : Below wz.heap.size wz v1 := by first | exact hb | exact bl_tr (bl_al (bl0 _) _) hb | exact bl_tr (bl_dr (bl_al (bl0 _) _)) hb | exact bl_tr (bl_al (bl_al (bl0 _) _) _) hb | exact bl_tr (bl_dr (bl_al (bl_al (bl0 _) _) _)) hb | exact bl_tr (bl_al (bl_al (bl_al (bl0 _) _) _) _) hb | exact bl_tr (bl_dr (bl_al (bl_al (bl_al (bl0 _) _) _) _)) hb | exact bl_tr (bl_al (bl_al (bl_al (bl_al (bl0 _) _) _) _) _) hb | exact bl_tr (bl_dr (bl_al (bl_al (bl_al (bl_al (bl0 _) _) _) _) _)) hb | exact bl_tr (bl_al (bl_al (bl_al (bl_al (bl_al (bl0 _) _) _) _) _) _) hb | exact bl_tr (bl_dr (bl_al (bl_al (bl_al (bl_al (bl_al (bl0 _) _) _) _) _) _)) hb | exact bl_tr (bl_al (bl_al (bl_al (bl_al (bl_al (bl_al (bl0 _) _) _) _) _) _) _) hb | exact bl_tr (bl_dr (bl_al (bl_al (bl_al (bl_al (bl_al (bl_al (bl0 _) _) _) _) _) _) _)) hb | exact bl_tr (bl_dr (bl0 _)) hb
        replace hA := bl_tr hA hk
        replace s0 := cell_later hk s0
        replace s1 := cell_later hk s1
        clear hb hk
        have zs0 := blk_lt s0
        have zs1 := blk_lt s1
        go_wp2_with fail
        refine (may_any _ _ _).mono ?_
        rintro e v2 ⟨rfl, hb⟩
        have hk : Below v1.heap.size v1 v2 := by first | exact hb | exact bl_tr (bl_al (bl0 _) _) hb | exact bl_tr (bl_dr (bl_al (bl0 _) _)) hb | exact bl_tr (bl_al (bl_al (bl0 _) _) _) hb | exact bl_tr (bl_dr (bl_al (bl_al (bl0 _) _) _)) hb | exact bl_tr (bl_al (bl_al (bl_al (bl0 _) _) _) _) hb | exact bl_tr (bl_dr (bl_al (bl_al (bl_al (bl0 _) _) _) _)) hb | exact bl_tr (bl_al (bl_al (bl_al (bl_al (bl0 _) _) _) _) _) hb | exact bl_tr (bl_dr (bl_al (bl_al (bl_al (bl_al (bl0 _) _) _) _) _)) hb | exact bl_tr (bl_al (bl_al (bl_al (bl_al (bl_al (bl0 _) _) _) _) _) _) hb | exact bl_tr (bl_dr (bl_al (bl_al (bl_al (bl_al (bl_al (bl0 _) _) _) _) _) _)) hb | exact bl_tr (bl_al (bl_al (bl_al (bl_al (bl_al (bl_al (bl0 _) _) _) _) _) _) _) hb | exact bl_tr (bl_dr (bl_al (bl_al (bl_al (bl_al (bl_al (bl_al (bl0 _) _) _) _) _) _) _)) hb | exact bl_tr (bl_dr (bl0 _)) hb
        replace hA := bl_tr hA hk
        replace s0 := cell_later hk s0
        replace s1 := cell_later hk s1
        clear hb hk
        have zs0 := blk_lt s0
        have zs1 := blk_lt s1
        go_wp2_with fail
        refine (awake_any _ (hs.below (by first | exact hA | exact (bl_al hA _) | exact (bl_dr (bl_al hA _)) | exact (bl_al (bl_al hA _) _) | exact (bl_dr (bl_al (bl_al hA _) _)) | exact (bl_al (bl_al (bl_al hA _) _) _) | exact (bl_dr (bl_al (bl_al (bl_al hA _) _) _)) | exact (bl_al (bl_al (bl_al (bl_al hA _) _) _) _) | exact (bl_dr (bl_al (bl_al (bl_al (bl_al hA _) _) _) _)) | exact (bl_al (bl_al (bl_al (bl_al (bl_al hA _) _) _) _) _) | exact (bl_dr (bl_al (bl_al (bl_al (bl_al (bl_al hA _) _) _) _) _)) | exact (bl_al (bl_al (bl_al (bl_al (bl_al (bl_al hA _) _) _) _) _) _) | exact (bl_dr (bl_al (bl_al (bl_al (bl_al (bl_al (bl_al hA _) _) _) _) _) _)) | exact (bl_dr hA)))).mono ?_
        rintro e v3 ⟨rfl, hb⟩
        have hk : Below v2.heap.size v2 v3 := by first | exact hb | exact bl_tr (bl_al (bl0 _) _) hb | exact bl_tr (bl_dr (bl_al (bl0 _) _)) hb | exact bl_tr (bl_al (bl_al (bl0 _) _) _) hb | exact bl_tr (bl_dr (bl_al (bl_al (bl0 _) _) _)) hb | exact bl_tr (bl_al (bl_al (bl_al (bl0 _) _) _) _) hb | exact bl_tr (bl_dr (bl_al (bl_al (bl_al (bl0 _) _) _) _)) hb | exact bl_tr (bl_al (bl_al (bl_al (bl_al (bl0 _) _) _) _) _) hb | exact bl_tr (bl_dr (bl_al (bl_al (bl_al (bl_al (bl0 _) _) _) _) _)) hb | exact bl_tr (bl_al (bl_al (bl_al (bl_al (bl_al (bl0 _) _) _) _) _) _) hb | exact bl_tr (bl_dr (bl_al (bl_al (bl_al (bl_al (bl_al (bl0 _) _) _) _) _) _)) hb | exact bl_tr (bl_al (bl_al (bl_al (bl_al (bl_al (bl_al (bl0 _) _) _) _) _) _) _) hb | exact bl_tr (bl_dr (bl_al (bl_al (bl_al (bl_al (bl_al (bl_al (bl0 _) _) _) _) _) _) _)) hb | exact bl_tr (bl_dr (bl0 _)) hb
        replace hA := bl_tr hA hk
        clear hb hk
        go_wp2
        go_ret
        exact ⟨ret_bool (by simp; try omega), hA⟩
  · obtain ⟨hin, hN⟩ := in_of_at ht
    obtain ⟨P, hP⟩ : ∃ P, i % W = P := ⟨_, rfl⟩
    obtain ⟨Q, hQ⟩ : ∃ Q, i / W = Q := ⟨_, rfl⟩
    rw [hP, hQ] at hin
    rw [hP, hQ] at hN
    have HP := Lib.hid hP
    have HQ := Lib.hid hQ
    have HN := Lib.hid hN
    clear hP hQ hN
    go_wp2_with fail
    refine (at_any' _ _ _ _ _ _ ht HP.out HQ.out).mono ?_
    rintro e v1 ⟨rfl, hb⟩
    have hk : Below wz.heap.size wz v1 := by first | exact hb | exact bl_tr (bl_al (bl0 _) _) hb | exact bl_tr (bl_dr (bl_al (bl0 _) _)) hb | exact bl_tr (bl_al (bl_al (bl0 _) _) _) hb | exact bl_tr (bl_dr (bl_al (bl_al (bl0 _) _) _)) hb | exact bl_tr (bl_al (bl_al (bl_al (bl0 _) _) _) _) hb | exact bl_tr (bl_dr (bl_al (bl_al (bl_al (bl0 _) _) _) _)) hb | exact bl_tr (bl_al (bl_al (bl_al (bl_al (bl0 _) _) _) _) _) hb | exact bl_tr (bl_dr (bl_al (bl_al (bl_al (bl_al (bl0 _) _) _) _) _)) hb | exact bl_tr (bl_al (bl_al (bl_al (bl_al (bl_al (bl0 _) _) _) _) _) _) hb | exact bl_tr (bl_dr (bl_al (bl_al (bl_al (bl_al (bl_al (bl0 _) _) _) _) _) _)) hb | exact bl_tr (bl_al (bl_al (bl_al (bl_al (bl_al (bl_al (bl0 _) _) _) _) _) _) _) hb | exact bl_tr (bl_dr (bl_al (bl_al (bl_al (bl_al (bl_al (bl_al (bl0 _) _) _) _) _) _) _)) hb | exact bl_tr (bl_dr (bl0 _)) hb
    replace hA := bl_tr hA hk
    replace s0 := cell_later hk s0
    replace s1 := cell_later hk s1
    clear hb hk
    have zs0 := blk_lt s0
    have zs1 := blk_lt s1
    go_wp2_with fail
    refine (index_to _ _ _ _ _ _ hin HN.out).mono ?_
    rintro e v2 ⟨rfl, hb⟩
    have hk : Below v1.heap.size v1 v2 := by first | exact hb | exact bl_tr (bl_al (bl0 _) _) hb | exact bl_tr (bl_dr (bl_al (bl0 _) _)) hb | exact bl_tr (bl_al (bl_al (bl0 _) _) _) hb | exact bl_tr (bl_dr (bl_al (bl_al (bl0 _) _) _)) hb | exact bl_tr (bl_al (bl_al (bl_al (bl0 _) _) _) _) hb | exact bl_tr (bl_dr (bl_al (bl_al (bl_al (bl0 _) _) _) _)) hb | exact bl_tr (bl_al (bl_al (bl_al (bl_al (bl0 _) _) _) _) _) hb | exact bl_tr (bl_dr (bl_al (bl_al (bl_al (bl_al (bl0 _) _) _) _) _)) hb | exact bl_tr (bl_al (bl_al (bl_al (bl_al (bl_al (bl0 _) _) _) _) _) _) hb | exact bl_tr (bl_dr (bl_al (bl_al (bl_al (bl_al (bl_al (bl0 _) _) _) _) _) _)) hb | exact bl_tr (bl_al (bl_al (bl_al (bl_al (bl_al (bl_al (bl0 _) _) _) _) _) _) _) hb | exact bl_tr (bl_dr (bl_al (bl_al (bl_al (bl_al (bl_al (bl_al (bl0 _) _) _) _) _) _) _)) hb | exact bl_tr (bl_dr (bl0 _)) hb
    replace hA := bl_tr hA hk
    replace s0 := cell_later hk s0
    replace s1 := cell_later hk s1
    have c0 := cell_later hb (v := .int .i64 P) (a := ⟨v1.heap.size, 0, none⟩) (by simp [go_sem])
    have c1 := cell_later hb (v := .int .i64 Q) (a := ⟨v1.heap.size, 1, none⟩) (by simp [go_sem])
    clear hb hk
    have zs0 := blk_lt s0
    have zs1 := blk_lt s1
    have zc0 := blk_lt c0
    have zc1 := blk_lt c1
    go_wp2_with fail
    refine (in_any _ _ _ _ _).mono ?_
    rintro e v3 ⟨rfl, hb⟩
    have hk : Below v2.heap.size v2 v3 := by first | exact hb | exact bl_tr (bl_al (bl0 _) _) hb | exact bl_tr (bl_dr (bl_al (bl0 _) _)) hb | exact bl_tr (bl_al (bl_al (bl0 _) _) _) hb | exact bl_tr (bl_dr (bl_al (bl_al (bl0 _) _) _)) hb | exact bl_tr (bl_al (bl_al (bl_al (bl0 _) _) _) _) hb | exact bl_tr (bl_dr (bl_al (bl_al (bl_al (bl0 _) _) _) _)) hb | exact bl_tr (bl_al (bl_al (bl_al (bl_al (bl0 _) _) _) _) _) hb | exact bl_tr (bl_dr (bl_al (bl_al (bl_al (bl_al (bl0 _) _) _) _) _)) hb | exact bl_tr (bl_al (bl_al (bl_al (bl_al (bl_al (bl0 _) _) _) _) _) _) hb | exact bl_tr (bl_dr (bl_al (bl_al (bl_al (bl_al (bl_al (bl0 _) _) _) _) _) _)) hb | exact bl_tr (bl_al (bl_al (bl_al (bl_al (bl_al (bl_al (bl0 _) _) _) _) _) _) _) hb | exact bl_tr (bl_dr (bl_al (bl_al (bl_al (bl_al (bl_al (bl_al (bl0 _) _) _) _) _) _) _)) hb | exact bl_tr (bl_dr (bl0 _)) hb
    replace hA := bl_tr hA hk
    replace s0 := cell_later hk s0
    replace s1 := cell_later hk s1
    replace c0 := cell_later hk c0
    replace c1 := cell_later hk c1
    clear hb hk
    have zs0 := blk_lt s0
    have zs1 := blk_lt s1
    have zc0 := blk_lt c0
    have zc1 := blk_lt c1
    go_wp2_with fail
    refine (awake_any _ (hs.below (by first | exact hA | exact (bl_al hA _) | exact (bl_dr (bl_al hA _)) | exact (bl_al (bl_al hA _) _) | exact (bl_dr (bl_al (bl_al hA _) _)) | exact (bl_al (bl_al (bl_al hA _) _) _) | exact (bl_dr (bl_al (bl_al (bl_al hA _) _) _)) | exact (bl_al (bl_al (bl_al (bl_al hA _) _) _) _) | exact (bl_dr (bl_al (bl_al (bl_al (bl_al hA _) _) _) _)) | exact (bl_al (bl_al (bl_al (bl_al (bl_al hA _) _) _) _) _) | exact (bl_dr (bl_al (bl_al (bl_al (bl_al (bl_al hA _) _) _) _) _)) | exact (bl_al (bl_al (bl_al (bl_al (bl_al (bl_al hA _) _) _) _) _) _) | exact (bl_dr (bl_al (bl_al (bl_al (bl_al (bl_al (bl_al hA _) _) _) _) _) _)) | exact (bl_dr hA)))).mono ?_
    rintro e v4 ⟨rfl, hb⟩
    have hk : Below v3.heap.size v3 v4 := by first | exact hb | exact bl_tr (bl_al (bl0 _) _) hb | exact bl_tr (bl_dr (bl_al (bl0 _) _)) hb | exact bl_tr (bl_al (bl_al (bl0 _) _) _) hb | exact bl_tr (bl_dr (bl_al (bl_al (bl0 _) _) _)) hb | exact bl_tr (bl_al (bl_al (bl_al (bl0 _) _) _) _) hb | exact bl_tr (bl_dr (bl_al (bl_al (bl_al (bl0 _) _) _) _)) hb | exact bl_tr (bl_al (bl_al (bl_al (bl_al (bl0 _) _) _) _) _) hb | exact bl_tr (bl_dr (bl_al (bl_al (bl_al (bl_al (bl0 _) _) _) _) _)) hb | exact bl_tr (bl_al (bl_al (bl_al (bl_al (bl_al (bl0 _) _) _) _) _) _) hb | exact bl_tr (bl_dr (bl_al (bl_al (bl_al (bl_al (bl_al (bl0 _) _) _) _) _) _)) hb | exact bl_tr (bl_al (bl_al (bl_al (bl_al (bl_al (bl_al (bl0 _) _) _) _) _) _) _) hb | exact bl_tr (bl_dr (bl_al (bl_al (bl_al (bl_al (bl_al (bl_al (bl0 _) _) _) _) _) _) _)) hb | exact bl_tr (bl_dr (bl0 _)) hb
    replace hA := bl_tr hA hk
    clear hb hk
    go_wp2
    go_ret
    exact ⟨rfl, hA⟩

set_option maxRecDepth 100000 in
set_option maxHeartbeats 3200000 in
theorem once_side (W H X Y U V i : Int) (w : World) (hs : Stp w) (hi : inB W H X Y = true) (hj : inB W H U V = true) (A B : Int) (HA : Hid (Y * W + X = A)) (HB : Hid (V * W + U = B)) (hl : ¬ Y < V) (hab : A ≠ B) (n3 : (X == U) = false) : Calls
    Tryd.prog 7 #[.agg #[.int .i64 W, .int .i64 H], .agg #[.int .i64 X, .int .i64 Y, .int .i64 U, .int .i64 V], .int .i64 i] w fun e w' => e = .returned (.bool true) ∧ Below w.heap.size w w' := by
  have n1 : (A == B) = false := by simpa using hab
  clear hab
  have hA := bl0 w
  go_enter Tryd.func7, Tryd.ntmps7
  go_wp2_with fail
  refine (index_to _ _ _ _ _ _ hi HA.out).mono ?_
  rintro e w1 ⟨rfl, hb⟩
  have hk : Below w.heap.size w w1 := by first | exact hb | exact bl_tr (bl_al (bl0 _) _) hb | exact bl_tr (bl_dr (bl_al (bl0 _) _)) hb | exact bl_tr (bl_al (bl_al (bl0 _) _) _) hb | exact bl_tr (bl_dr (bl_al (bl_al (bl0 _) _) _)) hb | exact bl_tr (bl_al (bl_al (bl_al (bl0 _) _) _) _) hb | exact bl_tr (bl_dr (bl_al (bl_al (bl_al (bl0 _) _) _) _)) hb | exact bl_tr (bl_al (bl_al (bl_al (bl_al (bl0 _) _) _) _) _) hb | exact bl_tr (bl_dr (bl_al (bl_al (bl_al (bl_al (bl0 _) _) _) _) _)) hb | exact bl_tr (bl_al (bl_al (bl_al (bl_al (bl_al (bl0 _) _) _) _) _) _) hb | exact bl_tr (bl_dr (bl_al (bl_al (bl_al (bl_al (bl_al (bl0 _) _) _) _) _) _)) hb | exact bl_tr (bl_al (bl_al (bl_al (bl_al (bl_al (bl_al (bl0 _) _) _) _) _) _) _) hb | exact bl_tr (bl_dr (bl_al (bl_al (bl_al (bl_al (bl_al (bl_al (bl0 _) _) _) _) _) _) _)) hb | exact bl_tr (bl_dr (bl0 _)) hb
  replace hA := bl_tr hA hk
  have s0 := cell_later hb (v := .int .i64 W) (a := ⟨w.heap.size, 0, none⟩) (by simp [go_sem])
  have s1 := cell_later hb (v := .int .i64 H) (a := ⟨w.heap.size, 1, none⟩) (by simp [go_sem])
  have a0 := cell_later hb (v := .int .i64 X) (a := ⟨w.heap.size + 1, 0, none⟩) (by simp [go_sem])
  have a1 := cell_later hb (v := .int .i64 Y) (a := ⟨w.heap.size + 1, 1, none⟩) (by simp [go_sem])
  have b0 := cell_later hb (v := .int .i64 U) (a := ⟨w.heap.size + 1, 2, none⟩) (by simp [go_sem])
  have b1 := cell_later hb (v := .int .i64 V) (a := ⟨w.heap.size + 1, 3, none⟩) (by simp [go_sem])
  clear hb hk
  have zs0 := blk_lt s0
  have zs1 := blk_lt s1
  have za0 := blk_lt a0
  have za1 := blk_lt a1
  have zb0 := blk_lt b0
  have zb1 := blk_lt b1
  go_wp2_with fail
  refine (index_to _ _ _ _ _ _ hj HB.out).mono ?_
  rintro e w2 ⟨rfl, hb⟩
  have hk : Below w1.heap.size w1 w2 := by first | exact hb | exact bl_tr (bl_al (bl0 _) _) hb | exact bl_tr (bl_dr (bl_al (bl0 _) _)) hb | exact bl_tr (bl_al (bl_al (bl0 _) _) _) hb | exact bl_tr (bl_dr (bl_al (bl_al (bl0 _) _) _)) hb | exact bl_tr (bl_al (bl_al (bl_al (bl0 _) _) _) _) hb | exact bl_tr (bl_dr (bl_al (bl_al (bl_al (bl0 _) _) _) _)) hb | exact bl_tr (bl_al (bl_al (bl_al (bl_al (bl0 _) _) _) _) _) hb | exact bl_tr (bl_dr (bl_al (bl_al (bl_al (bl_al (bl0 _) _) _) _) _)) hb | exact bl_tr (bl_al (bl_al (bl_al (bl_al (bl_al (bl0 _) _) _) _) _) _) hb | exact bl_tr (bl_dr (bl_al (bl_al (bl_al (bl_al (bl_al (bl0 _) _) _) _) _) _)) hb | exact bl_tr (bl_al (bl_al (bl_al (bl_al (bl_al (bl_al (bl0 _) _) _) _) _) _) _) hb | exact bl_tr (bl_dr (bl_al (bl_al (bl_al (bl_al (bl_al (bl_al (bl0 _) _) _) _) _) _) _)) hb | exact bl_tr (bl_dr (bl0 _)) hb
  replace hA := bl_tr hA hk
  replace s0 := cell_later hk s0
  replace s1 := cell_later hk s1
  replace a0 := cell_later hk a0
  replace a1 := cell_later hk a1
  replace b0 := cell_later hk b0
  replace b1 := cell_later hk b1
  clear hb hk
  have zs0 := blk_lt s0
  have zs1 := blk_lt s1
  have za0 := blk_lt a0
  have za1 := blk_lt a1
  have zb0 := blk_lt b0
  have zb1 := blk_lt b1
  go_wp2_with fail
  refine (at_to _ _ _ _ _ _ hi HA.out).mono ?_
  rintro e w3 ⟨rfl, hb⟩
  have hk : Below w2.heap.size w2 w3 := by first | exact hb | exact bl_tr (bl_al (bl0 _) _) hb | exact bl_tr (bl_dr (bl_al (bl0 _) _)) hb | exact bl_tr (bl_al (bl_al (bl0 _) _) _) hb | exact bl_tr (bl_dr (bl_al (bl_al (bl0 _) _) _)) hb | exact bl_tr (bl_al (bl_al (bl_al (bl0 _) _) _) _) hb | exact bl_tr (bl_dr (bl_al (bl_al (bl_al (bl0 _) _) _) _)) hb | exact bl_tr (bl_al (bl_al (bl_al (bl_al (bl0 _) _) _) _) _) hb | exact bl_tr (bl_dr (bl_al (bl_al (bl_al (bl_al (bl0 _) _) _) _) _)) hb | exact bl_tr (bl_al (bl_al (bl_al (bl_al (bl_al (bl0 _) _) _) _) _) _) hb | exact bl_tr (bl_dr (bl_al (bl_al (bl_al (bl_al (bl_al (bl0 _) _) _) _) _) _)) hb | exact bl_tr (bl_al (bl_al (bl_al (bl_al (bl_al (bl_al (bl0 _) _) _) _) _) _) _) hb | exact bl_tr (bl_dr (bl_al (bl_al (bl_al (bl_al (bl_al (bl_al (bl0 _) _) _) _) _) _) _)) hb | exact bl_tr (bl_dr (bl0 _)) hb
  replace hA := bl_tr hA hk
  replace s0 := cell_later hk s0
  replace s1 := cell_later hk s1
  replace a0 := cell_later hk a0
  replace a1 := cell_later hk a1
  replace b0 := cell_later hk b0
  replace b1 := cell_later hk b1
  clear hb hk
  have zs0 := blk_lt s0
  have zs1 := blk_lt s1
  have za0 := blk_lt a0
  have za1 := blk_lt a1
  have zb0 := blk_lt b0
  have zb1 := blk_lt b1
  go_wp2_with fail
  refine (in_any _ _ _ _ _).mono ?_
  rintro e wz ⟨rfl, hb⟩
  have hk : Below w3.heap.size w3 wz := by first | exact hb | exact bl_tr (bl_al (bl0 _) _) hb | exact bl_tr (bl_dr (bl_al (bl0 _) _)) hb | exact bl_tr (bl_al (bl_al (bl0 _) _) _) hb | exact bl_tr (bl_dr (bl_al (bl_al (bl0 _) _) _)) hb | exact bl_tr (bl_al (bl_al (bl_al (bl0 _) _) _) _) hb | exact bl_tr (bl_dr (bl_al (bl_al (bl_al (bl0 _) _) _) _)) hb | exact bl_tr (bl_al (bl_al (bl_al (bl_al (bl0 _) _) _) _) _) hb | exact bl_tr (bl_dr (bl_al (bl_al (bl_al (bl_al (bl0 _) _) _) _) _)) hb | exact bl_tr (bl_al (bl_al (bl_al (bl_al (bl_al (bl0 _) _) _) _) _) _) hb | exact bl_tr (bl_dr (bl_al (bl_al (bl_al (bl_al (bl_al (bl0 _) _) _) _) _) _)) hb | exact bl_tr (bl_al (bl_al (bl_al (bl_al (bl_al (bl_al (bl0 _) _) _) _) _) _) _) hb | exact bl_tr (bl_dr (bl_al (bl_al (bl_al (bl_al (bl_al (bl_al (bl0 _) _) _) _) _) _) _)) hb | exact bl_tr (bl_dr (bl0 _)) hb
  replace hA := bl_tr hA hk
  replace s0 := cell_later hk s0
  replace s1 := cell_later hk s1
  replace a0 := cell_later hk a0
  replace a1 := cell_later hk a1
  replace b0 := cell_later hk b0
  replace b1 := cell_later hk b1
  have d0 := cell_later hb (v := .int .i64 X) (a := ⟨w3.heap.size, 0, none⟩) (by simp [go_sem])
  have d1 := cell_later hb (v := .int .i64 Y) (a := ⟨w3.heap.size, 1, none⟩) (by simp [go_sem])
  clear hb hk
  have zs0 := blk_lt s0
  have zs1 := blk_lt s1
  have za0 := blk_lt a0
  have za1 := blk_lt a1
  have zb0 := blk_lt b0
  have zb1 := blk_lt b1
  have zd0 := blk_lt d0
  have zd1 := blk_lt d1
  cases ht : atB W H i
  · cases hm : mayB W H
    · --
      go_wp2_with fail
      refine (at_no _ _ _ _ ht).mono ?_
      rintro e v1 ⟨rfl, hb⟩
      have hk : Below wz.heap.size wz v1 := by first | exact hb | exact bl_tr (bl_al (bl0 _) _) hb | exact bl_tr (bl_dr (bl_al (bl0 _) _)) hb | exact bl_tr (bl_al (bl_al (bl0 _) _) _) hb | exact bl_tr (bl_dr (bl_al (bl_al (bl0 _) _) _)) hb | exact bl_tr (bl_al (bl_al (bl_al (bl0 _) _) _) _) hb | exact bl_tr (bl_dr (bl_al (bl_al (bl_al (bl0 _) _) _) _)) hb | exact bl_tr (bl_al (bl_al (bl_al (bl_al (bl0 _) _) _) _) _) hb | exact bl_tr (bl_dr (bl_al (bl_al (bl_al (bl_al (bl0 _) _) _) _) _)) hb | exact bl_tr (bl_al (bl_al (bl_al (bl_al (bl_al (bl0 _) _) _) _) _) _) hb | exact bl_tr (bl_dr (bl_al (bl_al (bl_al (bl_al (bl_al (bl0 _) _) _) _) _) _)) hb | exact bl_tr (bl_al (bl_al (bl_al (bl_al (bl_al (bl_al (bl0 _) _) _) _) _) _) _) hb | exact bl_tr (bl_dr (bl_al (bl_al (bl_al (bl_al (bl_al (bl_al (bl0 _) _) _) _) _) _) _)) hb | exact bl_tr (bl_dr (bl0 _)) hb
      replace hA := bl_tr hA hk
      replace s0 := cell_later hk s0
      replace s1 := cell_later hk s1
      clear hb hk
      have zs0 := blk_lt s0
      have zs1 := blk_lt s1
      go_wp2_with fail
      refine (may_any _ _ _).mono ?_
      rintro e v2 ⟨rfl, hb⟩
      have hk : Below v1.heap.size v1 v2 := by first | exact hb | exact bl_tr (bl_al (bl0 _) _) hb | exact bl_tr (bl_dr (bl_al (bl0 _) _)) hb | exact bl_tr (bl_al (bl_al (bl0 _) _) _) hb | exact bl_tr (bl_dr (bl_al (bl_al (bl0 _) _) _)) hb | exact bl_tr (bl_al (bl_al (bl_al (bl0 _) _) _) _) hb | exact bl_tr (bl_dr (bl_al (bl_al (bl_al (bl0 _) _) _) _)) hb | exact bl_tr (bl_al (bl_al (bl_al (bl_al (bl0 _) _) _) _) _) hb | exact bl_tr (bl_dr (bl_al (bl_al (bl_al (bl_al (bl0 _) _) _) _) _)) hb | exact bl_tr (bl_al (bl_al (bl_al (bl_al (bl_al (bl0 _) _) _) _) _) _) hb | exact bl_tr (bl_dr (bl_al (bl_al (bl_al (bl_al (bl_al (bl0 _) _) _) _) _) _)) hb | exact bl_tr (bl_al (bl_al (bl_al (bl_al (bl_al (bl_al (bl0 _) _) _) _) _) _) _) hb | exact bl_tr (bl_dr (bl_al (bl_al (bl_al (bl_al (bl_al (bl_al (bl0 _) _) _) _) _) _) _)) hb | exact bl_tr (bl_dr (bl0 _)) hb
      replace hA := bl_tr hA hk
      replace s0 := cell_later hk s0
      replace s1 := cell_later hk s1
      clear hb hk
      have zs0 := blk_lt s0
      have zs1 := blk_lt s1
      go_wp2_with fail
      refine (awake_any _ (hs.below (by first | exact hA | exact (bl_al hA _) | exact (bl_dr (bl_al hA _)) | exact (bl_al (bl_al hA _) _) | exact (bl_dr (bl_al (bl_al hA _) _)) | exact (bl_al (bl_al (bl_al hA _) _) _) | exact (bl_dr (bl_al (bl_al (bl_al hA _) _) _)) | exact (bl_al (bl_al (bl_al (bl_al hA _) _) _) _) | exact (bl_dr (bl_al (bl_al (bl_al (bl_al hA _) _) _) _)) | exact (bl_al (bl_al (bl_al (bl_al (bl_al hA _) _) _) _) _) | exact (bl_dr (bl_al (bl_al (bl_al (bl_al (bl_al hA _) _) _) _) _)) | exact (bl_al (bl_al (bl_al (bl_al (bl_al (bl_al hA _) _) _) _) _) _) | exact (bl_dr (bl_al (bl_al (bl_al (bl_al (bl_al (bl_al hA _) _) _) _) _) _)) | exact (bl_dr hA)))).mono ?_
      rintro e v3 ⟨rfl, hb⟩
      have hk : Below v2.heap.size v2 v3 := by first | exact hb | exact bl_tr (bl_al (bl0 _) _) hb | exact bl_tr (bl_dr (bl_al (bl0 _) _)) hb | exact bl_tr (bl_al (bl_al (bl0 _) _) _) hb | exact bl_tr (bl_dr (bl_al (bl_al (bl0 _) _) _)) hb | exact bl_tr (bl_al (bl_al (bl_al (bl0 _) _) _) _) hb | exact bl_tr (bl_dr (bl_al (bl_al (bl_al (bl0 _) _) _) _)) hb | exact bl_tr (bl_al (bl_al (bl_al (bl_al (bl0 _) _) _) _) _) hb | exact bl_tr (bl_dr (bl_al (bl_al (bl_al (bl_al (bl0 _) _) _) _) _)) hb | exact bl_tr (bl_al (bl_al (bl_al (bl_al (bl_al (bl0 _) _) _) _) _) _) hb | exact bl_tr (bl_dr (bl_al (bl_al (bl_al (bl_al (bl_al (bl0 _) _) _) _) _) _)) hb | exact bl_tr (bl_al (bl_al (bl_al (bl_al (bl_al (bl_al (bl0 _) _) _) _) _) _) _) hb | exact bl_tr (bl_dr (bl_al (bl_al (bl_al (bl_al (bl_al (bl_al (bl0 _) _) _) _) _) _) _)) hb | exact bl_tr (bl_dr (bl0 _)) hb
      replace hA := bl_tr hA hk
      clear hb hk
      go_wp2
      go_ret
      exact ⟨rfl, hA⟩
    · have hj : i < 0 ∨ W * H ≤ i := by
        have h1 := mayB_iff.1 hm
        have h2 : ¬ (1 ≤ W ∧ W ≤ 256 ∧ 1 ≤ H ∧ H ≤ 256 ∧ 0 ≤ i ∧ i < W * H) := by simpa [atB] using ht
        omega
      obtain ⟨h1, h2, h3, h4⟩ := mayB_iff.1 hm
      obtain ⟨m1, m2⟩ : 0 ≤ W * H ∧ W * H ≤ 65536 := ⟨Int.mul_nonneg (by omega) (by omega), by have a : W * H ≤ 256 * H := Int.mul_le_mul_of_nonneg_right h2 (by omega); omega⟩
      by_cases hl : i < 0
      all_goals
        go_wp2_with fail
        refine (at_no _ _ _ _ ht).mono ?_
        rintro e v1 ⟨rfl, hb⟩
        have hk : Below wz.heap.size wz v1 := by first | exact hb | exact bl_tr (bl_al (bl0 _) _) hb | exact bl_tr (bl_dr (bl_al (bl0 _) _)) hb | exact bl_tr (bl_al (bl_al (bl0 _) _) _) hb | exact bl_tr (bl_dr (bl_al (bl_al (bl0 _) _) _)) hb | exact bl_tr (bl_al (bl_al (bl_al (bl0 _) _) _) _) hb | exact bl_tr (bl_dr (bl_al (bl_al (bl_al (bl0 _) _) _) _)) hb | exact bl_tr (bl_al (bl_al (bl_al (bl_al (bl0 _) _) _) _) _) hb | exact bl_tr (bl_dr (bl_al (bl_al (bl_al (bl_al (bl0 _) _) _) _) _)) hb | exact bl_tr (bl_al (bl_al (bl_al (bl_al (bl_al (bl0 _) _) _) _) _) _) hb | exact bl_tr (bl_dr (bl_al (bl_al (bl_al (bl_al (bl_al (bl0 _) _) _) _) _) _)) hb | exact bl_tr (bl_al (bl_al (bl_al (bl_al (bl_al (bl_al (bl0 _) _) _) _) _) _) _) hb | exact bl_tr (bl_dr (bl_al (bl_al (bl_al (bl_al (bl_al (bl_al (bl0 _) _) _) _) _) _) _)) hb | exact bl_tr (bl_dr (bl0 _)) hb
        replace hA := bl_tr hA hk
        replace s0 := cell_later hk s0
        replace s1 := cell_later hk s1
        clear hb hk
        have zs0 := blk_lt s0
        have zs1 := blk_lt s1
        go_wp2_with fail
        refine (may_any _ _ _).mono ?_
        rintro e v2 ⟨rfl, hb⟩
        have hk : Below v1.heap.size v1 v2 := by first | exact hb | exact bl_tr (bl_al (bl0 _) _) hb | exact bl_tr (bl_dr (bl_al (bl0 _) _)) hb | exact bl_tr (bl_al (bl_al (bl0 _) _) _) hb | exact bl_tr (bl_dr (bl_al (bl_al (bl0 _) _) _)) hb | exact bl_tr (bl_al (bl_al (bl_al (bl0 _) _) _) _) hb | exact bl_tr (bl_dr (bl_al (bl_al (bl_al (bl0 _) _) _) _)) hb | exact bl_tr (bl_al (bl_al (bl_al (bl_al (bl0 _) _) _) _) _) hb | exact bl_tr (bl_dr (bl_al (bl_al (bl_al (bl_al (bl0 _) _) _) _) _)) hb | exact bl_tr (bl_al (bl_al (bl_al (bl_al (bl_al (bl0 _) _) _) _) _) _) hb | exact bl_tr (bl_dr (bl_al (bl_al (bl_al (bl_al (bl_al (bl0 _) _) _) _) _) _)) hb | exact bl_tr (bl_al (bl_al (bl_al (bl_al (bl_al (bl_al (bl0 _) _) _) _) _) _) _) hb | exact bl_tr (bl_dr (bl_al (bl_al (bl_al (bl_al (bl_al (bl_al (bl0 _) _) _) _) _) _) _)) hb | exact bl_tr (bl_dr (bl0 _)) hb
        replace hA := bl_tr hA hk
        replace s0 := cell_later hk s0
        replace s1 := cell_later hk s1
        clear hb hk
        have zs0 := blk_lt s0
        have zs1 := blk_lt s1
        go_wp2_with fail
        refine (awake_any _ (hs.below (by first | exact hA | exact (bl_al hA _) | exact (bl_dr (bl_al hA _)) | exact (bl_al (bl_al hA _) _) | exact (bl_dr (bl_al (bl_al hA _) _)) | exact (bl_al (bl_al (bl_al hA _) _) _) | exact (bl_dr (bl_al (bl_al (bl_al hA _) _) _)) | exact (bl_al (bl_al (bl_al (bl_al hA _) _) _) _) | exact (bl_dr (bl_al (bl_al (bl_al (bl_al hA _) _) _) _)) | exact (bl_al (bl_al (bl_al (bl_al (bl_al hA _) _) _) _) _) | exact (bl_dr (bl_al (bl_al (bl_al (bl_al (bl_al hA _) _) _) _) _)) | exact (bl_al (bl_al (bl_al (bl_al (bl_al (bl_al hA _) _) _) _) _) _) | exact (bl_dr (bl_al (bl_al (bl_al (bl_al (bl_al (bl_al hA _) _) _) _) _) _)) | exact (bl_dr hA)))).mono ?_
        rintro e v3 ⟨rfl, hb⟩
        have hk : Below v2.heap.size v2 v3 := by first | exact hb | exact bl_tr (bl_al (bl0 _) _) hb | exact bl_tr (bl_dr (bl_al (bl0 _) _)) hb | exact bl_tr (bl_al (bl_al (bl0 _) _) _) hb | exact bl_tr (bl_dr (bl_al (bl_al (bl0 _) _) _)) hb | exact bl_tr (bl_al (bl_al (bl_al (bl0 _) _) _) _) hb | exact bl_tr (bl_dr (bl_al (bl_al (bl_al (bl0 _) _) _) _)) hb | exact bl_tr (bl_al (bl_al (bl_al (bl_al (bl0 _) _) _) _) _) hb | exact bl_tr (bl_dr (bl_al (bl_al (bl_al (bl_al (bl0 _) _) _) _) _)) hb | exact bl_tr (bl_al (bl_al (bl_al (bl_al (bl_al (bl0 _) _) _) _) _) _) hb | exact bl_tr (bl_dr (bl_al (bl_al (bl_al (bl_al (bl_al (bl0 _) _) _) _) _) _)) hb | exact bl_tr (bl_al (bl_al (bl_al (bl_al (bl_al (bl_al (bl0 _) _) _) _) _) _) _) hb | exact bl_tr (bl_dr (bl_al (bl_al (bl_al (bl_al (bl_al (bl_al (bl0 _) _) _) _) _) _) _)) hb | exact bl_tr (bl_dr (bl0 _)) hb
        replace hA := bl_tr hA hk
        clear hb hk
        go_wp2
        go_ret
        exact ⟨ret_bool (by simp; try omega), hA⟩
  · obtain ⟨hin, hN⟩ := in_of_at ht
    obtain ⟨P, hP⟩ : ∃ P, i % W = P := ⟨_, rfl⟩
    obtain ⟨Q, hQ⟩ : ∃ Q, i / W = Q := ⟨_, rfl⟩
    rw [hP, hQ] at hin
    rw [hP, hQ] at hN
    have HP := Lib.hid hP
    have HQ := Lib.hid hQ
    have HN := Lib.hid hN
    clear hP hQ hN
    go_wp2_with fail
    refine (at_any' _ _ _ _ _ _ ht HP.out HQ.out).mono ?_
    rintro e v1 ⟨rfl, hb⟩
    have hk : Below wz.heap.size wz v1 := by first | exact hb | exact bl_tr (bl_al (bl0 _) _) hb | exact bl_tr (bl_dr (bl_al (bl0 _) _)) hb | exact bl_tr (bl_al (bl_al (bl0 _) _) _) hb | exact bl_tr (bl_dr (bl_al (bl_al (bl0 _) _) _)) hb | exact bl_tr (bl_al (bl_al (bl_al (bl0 _) _) _) _) hb | exact bl_tr (bl_dr (bl_al (bl_al (bl_al (bl0 _) _) _) _)) hb | exact bl_tr (bl_al (bl_al (bl_al (bl_al (bl0 _) _) _) _) _) hb | exact bl_tr (bl_dr (bl_al (bl_al (bl_al (bl_al (bl0 _) _) _) _) _)) hb | exact bl_tr (bl_al (bl_al (bl_al (bl_al (bl_al (bl0 _) _) _) _) _) _) hb | exact bl_tr (bl_dr (bl_al (bl_al (bl_al (bl_al (bl_al (bl0 _) _) _) _) _) _)) hb | exact bl_tr (bl_al (bl_al (bl_al (bl_al (bl_al (bl_al (bl0 _) _) _) _) _) _) _) hb | exact bl_tr (bl_dr (bl_al (bl_al (bl_al (bl_al (bl_al (bl_al (bl0 _) _) _) _) _) _) _)) hb | exact bl_tr (bl_dr (bl0 _)) hb
    replace hA := bl_tr hA hk
    replace s0 := cell_later hk s0
    replace s1 := cell_later hk s1
    clear hb hk
    have zs0 := blk_lt s0
    have zs1 := blk_lt s1
    go_wp2_with fail
    refine (index_to _ _ _ _ _ _ hin HN.out).mono ?_
    rintro e v2 ⟨rfl, hb⟩
    have hk : Below v1.heap.size v1 v2 := by first | exact hb | exact bl_tr (bl_al (bl0 _) _) hb | exact bl_tr (bl_dr (bl_al (bl0 _) _)) hb | exact bl_tr (bl_al (bl_al (bl0 _) _) _) hb | exact bl_tr (bl_dr (bl_al (bl_al (bl0 _) _) _)) hb | exact bl_tr (bl_al (bl_al (bl_al (bl0 _) _) _) _) hb | exact bl_tr (bl_dr (bl_al (bl_al (bl_al (bl0 _) _) _) _)) hb | exact bl_tr (bl_al (bl_al (bl_al (bl_al (bl0 _) _) _) _) _) hb | exact bl_tr (bl_dr (bl_al (bl_al (bl_al (bl_al (bl0 _) _) _) _) _)) hb | exact bl_tr (bl_al (bl_al (bl_al (bl_al (bl_al (bl0 _) _) _) _) _) _) hb | exact bl_tr (bl_dr (bl_al (bl_al (bl_al (bl_al (bl_al (bl0 _) _) _) _) _) _)) hb | exact bl_tr (bl_al (bl_al (bl_al (bl_al (bl_al (bl_al (bl0 _) _) _) _) _) _) _) hb | exact bl_tr (bl_dr (bl_al (bl_al (bl_al (bl_al (bl_al (bl_al (bl0 _) _) _) _) _) _) _)) hb | exact bl_tr (bl_dr (bl0 _)) hb
    replace hA := bl_tr hA hk
    replace s0 := cell_later hk s0
    replace s1 := cell_later hk s1
    have c0 := cell_later hb (v := .int .i64 P) (a := ⟨v1.heap.size, 0, none⟩) (by simp [go_sem])
    have c1 := cell_later hb (v := .int .i64 Q) (a := ⟨v1.heap.size, 1, none⟩) (by simp [go_sem])
    clear hb hk
    have zs0 := blk_lt s0
    have zs1 := blk_lt s1
    have zc0 := blk_lt c0
    have zc1 := blk_lt c1
    go_wp2_with fail
    refine (in_any _ _ _ _ _).mono ?_
    rintro e v3 ⟨rfl, hb⟩
    have hk : Below v2.heap.size v2 v3 := by first | exact hb | exact bl_tr (bl_al (bl0 _) _) hb | exact bl_tr (bl_dr (bl_al (bl0 _) _)) hb | exact bl_tr (bl_al (bl_al (bl0 _) _) _) hb | exact bl_tr (bl_dr (bl_al (bl_al (bl0 _) _) _)) hb | exact bl_tr (bl_al (bl_al (bl_al (bl0 _) _) _) _) hb | exact bl_tr (bl_dr (bl_al (bl_al (bl_al (bl0 _) _) _) _)) hb | exact bl_tr (bl_al (bl_al (bl_al (bl_al (bl0 _) _) _) _) _) hb | exact bl_tr (bl_dr (bl_al (bl_al (bl_al (bl_al (bl0 _) _) _) _) _)) hb | exact bl_tr (bl_al (bl_al (bl_al (bl_al (bl_al (bl0 _) _) _) _) _) _) hb | exact bl_tr (bl_dr (bl_al (bl_al (bl_al (bl_al (bl_al (bl0 _) _) _) _) _) _)) hb | exact bl_tr (bl_al (bl_al (bl_al (bl_al (bl_al (bl_al (bl0 _) _) _) _) _) _) _) hb | exact bl_tr (bl_dr (bl_al (bl_al (bl_al (bl_al (bl_al (bl_al (bl0 _) _) _) _) _) _) _)) hb | exact bl_tr (bl_dr (bl0 _)) hb
    replace hA := bl_tr hA hk
    replace s0 := cell_later hk s0
    replace s1 := cell_later hk s1
    replace c0 := cell_later hk c0
    replace c1 := cell_later hk c1
    clear hb hk
    have zs0 := blk_lt s0
    have zs1 := blk_lt s1
    have zc0 := blk_lt c0
    have zc1 := blk_lt c1
    go_wp2_with fail
    refine (awake_any _ (hs.below (by first | exact hA | exact (bl_al hA _) | exact (bl_dr (bl_al hA _)) | exact (bl_al (bl_al hA _) _) | exact (bl_dr (bl_al (bl_al hA _) _)) | exact (bl_al (bl_al (bl_al hA _) _) _) | exact (bl_dr (bl_al (bl_al (bl_al hA _) _) _)) | exact (bl_al (bl_al (bl_al (bl_al hA _) _) _) _) | exact (bl_dr (bl_al (bl_al (bl_al (bl_al hA _) _) _) _)) | exact (bl_al (bl_al (bl_al (bl_al (bl_al hA _) _) _) _) _) | exact (bl_dr (bl_al (bl_al (bl_al (bl_al (bl_al hA _) _) _) _) _)) | exact (bl_al (bl_al (bl_al (bl_al (bl_al (bl_al hA _) _) _) _) _) _) | exact (bl_dr (bl_al (bl_al (bl_al (bl_al (bl_al (bl_al hA _) _) _) _) _) _)) | exact (bl_dr hA)))).mono ?_
    rintro e v4 ⟨rfl, hb⟩
    have hk : Below v3.heap.size v3 v4 := by first | exact hb | exact bl_tr (bl_al (bl0 _) _) hb | exact bl_tr (bl_dr (bl_al (bl0 _) _)) hb | exact bl_tr (bl_al (bl_al (bl0 _) _) _) hb | exact bl_tr (bl_dr (bl_al (bl_al (bl0 _) _) _)) hb | exact bl_tr (bl_al (bl_al (bl_al (bl0 _) _) _) _) hb | exact bl_tr (bl_dr (bl_al (bl_al (bl_al (bl0 _) _) _) _)) hb | exact bl_tr (bl_al (bl_al (bl_al (bl_al (bl0 _) _) _) _) _) hb | exact bl_tr (bl_dr (bl_al (bl_al (bl_al (bl_al (bl0 _) _) _) _) _)) hb | exact bl_tr (bl_al (bl_al (bl_al (bl_al (bl_al (bl0 _) _) _) _) _) _) hb | exact bl_tr (bl_dr (bl_al (bl_al (bl_al (bl_al (bl_al (bl0 _) _) _) _) _) _)) hb | exact bl_tr (bl_al (bl_al (bl_al (bl_al (bl_al (bl_al (bl0 _) _) _) _) _) _) _) hb | exact bl_tr (bl_dr (bl_al (bl_al (bl_al (bl_al (bl_al (bl_al (bl0 _) _) _) _) _) _) _)) hb | exact bl_tr (bl_dr (bl0 _)) hb
    replace hA := bl_tr hA hk
    clear hb hk
    go_wp2
    go_ret
    exact ⟨rfl, hA⟩

set_option maxRecDepth 100000 in
set_option maxHeartbeats 3200000 in
theorem once_under (W H X Y V i : Int) (w : World) (hs : Stp w) (hi : inB W H X Y = true) (hj : inB W H X V = true) (A B : Int) (HA : Hid (Y * W + X = A)) (HB : Hid (V * W + X = B)) (hl : ¬ Y < V) (hab : A ≠ B) (n3 : (Y == V) = false) : Calls
    Tryd.prog 7 #[.agg #[.int .i64 W, .int .i64 H], .agg #[.int .i64 X, .int .i64 Y, .int .i64 X, .int .i64 V], .int .i64 i] w fun e w' => e = .returned (.bool true) ∧ Below w.heap.size w w' := by
  have n1 : (A == B) = false := by simpa using hab
  clear hab
  have hA := bl0 w
  go_enter Tryd.func7, Tryd.ntmps7
  go_wp2_with fail
  refine (index_to _ _ _ _ _ _ hi HA.out).mono ?_
  rintro e w1 ⟨rfl, hb⟩
  have hk : Below w.heap.size w w1 := by first | exact hb | exact bl_tr (bl_al (bl0 _) _) hb | exact bl_tr (bl_dr (bl_al (bl0 _) _)) hb | exact bl_tr (bl_al (bl_al (bl0 _) _) _) hb | exact bl_tr (bl_dr (bl_al (bl_al (bl0 _) _) _)) hb | exact bl_tr (bl_al (bl_al (bl_al (bl0 _) _) _) _) hb | exact bl_tr (bl_dr (bl_al (bl_al (bl_al (bl0 _) _) _) _)) hb | exact bl_tr (bl_al (bl_al (bl_al (bl_al (bl0 _) _) _) _) _) hb | exact bl_tr (bl_dr (bl_al (bl_al (bl_al (bl_al (bl0 _) _) _) _) _)) hb | exact bl_tr (bl_al (bl_al (bl_al (bl_al (bl_al (bl0 _) _) _) _) _) _) hb | exact bl_tr (bl_dr (bl_al (bl_al (bl_al (bl_al (bl_al (bl0 _) _) _) _) _) _)) hb | exact bl_tr (bl_al (bl_al (bl_al (bl_al (bl_al (bl_al (bl0 _) _) _) _) _) _) _) hb | exact bl_tr (bl_dr (bl_al (bl_al (bl_al (bl_al (bl_al (bl_al (bl0 _) _) _) _) _) _) _)) hb | exact bl_tr (bl_dr (bl0 _)) hb
  replace hA := bl_tr hA hk
  have s0 := cell_later hb (v := .int .i64 W) (a := ⟨w.heap.size, 0, none⟩) (by simp [go_sem])
  have s1 := cell_later hb (v := .int .i64 H) (a := ⟨w.heap.size, 1, none⟩) (by simp [go_sem])
  have a0 := cell_later hb (v := .int .i64 X) (a := ⟨w.heap.size + 1, 0, none⟩) (by simp [go_sem])
  have a1 := cell_later hb (v := .int .i64 Y) (a := ⟨w.heap.size + 1, 1, none⟩) (by simp [go_sem])
  have b0 := cell_later hb (v := .int .i64 X) (a := ⟨w.heap.size + 1, 2, none⟩) (by simp [go_sem])
  have b1 := cell_later hb (v := .int .i64 V) (a := ⟨w.heap.size + 1, 3, none⟩) (by simp [go_sem])
  clear hb hk
  have zs0 := blk_lt s0
  have zs1 := blk_lt s1
  have za0 := blk_lt a0
  have za1 := blk_lt a1
  have zb0 := blk_lt b0
  have zb1 := blk_lt b1
  go_wp2_with fail
  refine (index_to _ _ _ _ _ _ hj HB.out).mono ?_
  rintro e w2 ⟨rfl, hb⟩
  have hk : Below w1.heap.size w1 w2 := by first | exact hb | exact bl_tr (bl_al (bl0 _) _) hb | exact bl_tr (bl_dr (bl_al (bl0 _) _)) hb | exact bl_tr (bl_al (bl_al (bl0 _) _) _) hb | exact bl_tr (bl_dr (bl_al (bl_al (bl0 _) _) _)) hb | exact bl_tr (bl_al (bl_al (bl_al (bl0 _) _) _) _) hb | exact bl_tr (bl_dr (bl_al (bl_al (bl_al (bl0 _) _) _) _)) hb | exact bl_tr (bl_al (bl_al (bl_al (bl_al (bl0 _) _) _) _) _) hb | exact bl_tr (bl_dr (bl_al (bl_al (bl_al (bl_al (bl0 _) _) _) _) _)) hb | exact bl_tr (bl_al (bl_al (bl_al (bl_al (bl_al (bl0 _) _) _) _) _) _) hb | exact bl_tr (bl_dr (bl_al (bl_al (bl_al (bl_al (bl_al (bl0 _) _) _) _) _) _)) hb | exact bl_tr (bl_al (bl_al (bl_al (bl_al (bl_al (bl_al (bl0 _) _) _) _) _) _) _) hb | exact bl_tr (bl_dr (bl_al (bl_al (bl_al (bl_al (bl_al (bl_al (bl0 _) _) _) _) _) _) _)) hb | exact bl_tr (bl_dr (bl0 _)) hb
  replace hA := bl_tr hA hk
  replace s0 := cell_later hk s0
  replace s1 := cell_later hk s1
  replace a0 := cell_later hk a0
  replace a1 := cell_later hk a1
  replace b0 := cell_later hk b0
  replace b1 := cell_later hk b1
  clear hb hk
  have zs0 := blk_lt s0
  have zs1 := blk_lt s1
  have za0 := blk_lt a0
  have za1 := blk_lt a1
  have zb0 := blk_lt b0
  have zb1 := blk_lt b1
  go_wp2_with fail
  refine (at_to _ _ _ _ _ _ hi HA.out).mono ?_
  rintro e w3 ⟨rfl, hb⟩
  have hk : Below w2.heap.size w2 w3 := by first | exact hb | exact bl_tr (bl_al (bl0 _) _) hb | exact bl_tr (bl_dr (bl_al (bl0 _) _)) hb | exact bl_tr (bl_al (bl_al (bl0 _) _) _) hb | exact bl_tr (bl_dr (bl_al (bl_al (bl0 _) _) _)) hb | exact bl_tr (bl_al (bl_al (bl_al (bl0 _) _) _) _) hb | exact bl_tr (bl_dr (bl_al (bl_al (bl_al (bl0 _) _) _) _)) hb | exact bl_tr (bl_al (bl_al (bl_al (bl_al (bl0 _) _) _) _) _) hb | exact bl_tr (bl_dr (bl_al (bl_al (bl_al (bl_al (bl0 _) _) _) _) _)) hb | exact bl_tr (bl_al (bl_al (bl_al (bl_al (bl_al (bl0 _) _) _) _) _) _) hb | exact bl_tr (bl_dr (bl_al (bl_al (bl_al (bl_al (bl_al (bl0 _) _) _) _) _) _)) hb | exact bl_tr (bl_al (bl_al (bl_al (bl_al (bl_al (bl_al (bl0 _) _) _) _) _) _) _) hb | exact bl_tr (bl_dr (bl_al (bl_al (bl_al (bl_al (bl_al (bl_al (bl0 _) _) _) _) _) _) _)) hb | exact bl_tr (bl_dr (bl0 _)) hb
  replace hA := bl_tr hA hk
  replace s0 := cell_later hk s0
  replace s1 := cell_later hk s1
  replace a0 := cell_later hk a0
  replace a1 := cell_later hk a1
  replace b0 := cell_later hk b0
  replace b1 := cell_later hk b1
  clear hb hk
  have zs0 := blk_lt s0
  have zs1 := blk_lt s1
  have za0 := blk_lt a0
  have za1 := blk_lt a1
  have zb0 := blk_lt b0
  have zb1 := blk_lt b1
  go_wp2_with fail
  refine (in_any _ _ _ _ _).mono ?_
  rintro e wz ⟨rfl, hb⟩
  have hk : Below w3.heap.size w3 wz := by first | exact hb | exact bl_tr (bl_al (bl0 _) _) hb | exact bl_tr (bl_dr (bl_al (bl0 _) _)) hb | exact bl_tr (bl_al (bl_al (bl0 _) _) _) hb | exact bl_tr (bl_dr (bl_al (bl_al (bl0 _) _) _)) hb | exact bl_tr (bl_al (bl_al (bl_al (bl0 _) _) _) _) hb | exact bl_tr (bl_dr (bl_al (bl_al (bl_al (bl0 _) _) _) _)) hb | exact bl_tr (bl_al (bl_al (bl_al (bl_al (bl0 _) _) _) _) _) hb | exact bl_tr (bl_dr (bl_al (bl_al (bl_al (bl_al (bl0 _) _) _) _) _)) hb | exact bl_tr (bl_al (bl_al (bl_al (bl_al (bl_al (bl0 _) _) _) _) _) _) hb | exact bl_tr (bl_dr (bl_al (bl_al (bl_al (bl_al (bl_al (bl0 _) _) _) _) _) _)) hb | exact bl_tr (bl_al (bl_al (bl_al (bl_al (bl_al (bl_al (bl0 _) _) _) _) _) _) _) hb | exact bl_tr (bl_dr (bl_al (bl_al (bl_al (bl_al (bl_al (bl_al (bl0 _) _) _) _) _) _) _)) hb | exact bl_tr (bl_dr (bl0 _)) hb
  replace hA := bl_tr hA hk
  replace s0 := cell_later hk s0
  replace s1 := cell_later hk s1
  replace a0 := cell_later hk a0
  replace a1 := cell_later hk a1
  replace b0 := cell_later hk b0
  replace b1 := cell_later hk b1
  have d0 := cell_later hb (v := .int .i64 X) (a := ⟨w3.heap.size, 0, none⟩) (by simp [go_sem])
  have d1 := cell_later hb (v := .int .i64 Y) (a := ⟨w3.heap.size, 1, none⟩) (by simp [go_sem])
  clear hb hk
  have zs0 := blk_lt s0
  have zs1 := blk_lt s1
  have za0 := blk_lt a0
  have za1 := blk_lt a1
  have zb0 := blk_lt b0
  have zb1 := blk_lt b1
  have zd0 := blk_lt d0
  have zd1 := blk_lt d1
  cases ht : atB W H i
  · cases hm : mayB W H
    · --
      go_wp2_with fail
      refine (at_no _ _ _ _ ht).mono ?_
      rintro e v1 ⟨rfl, hb⟩
      have hk : Below wz.heap.size wz v1 := by first | exact hb | exact bl_tr (bl_al (bl0 _) _) hb | exact bl_tr (bl_dr (bl_al (bl0 _) _)) hb | exact bl_tr (bl_al (bl_al (bl0 _) _) _) hb | exact bl_tr (bl_dr (bl_al (bl_al (bl0 _) _) _)) hb | exact bl_tr (bl_al (bl_al (bl_al (bl0 _) _) _) _) hb | exact bl_tr (bl_dr (bl_al (bl_al (bl_al (bl0 _) _) _) _)) hb | exact bl_tr (bl_al (bl_al (bl_al (bl_al (bl0 _) _) _) _) _) hb | exact bl_tr (bl_dr (bl_al (bl_al (bl_al (bl_al (bl0 _) _) _) _) _)) hb | exact bl_tr (bl_al (bl_al (bl_al (bl_al (bl_al (bl0 _) _) _) _) _) _) hb | exact bl_tr (bl_dr (bl_al (bl_al (bl_al (bl_al (bl_al (bl0 _) _) _) _) _) _)) hb | exact bl_tr (bl_al (bl_al (bl_al (bl_al (bl_al (bl_al (bl0 _) _) _) _) _) _) _) hb | exact bl_tr (bl_dr (bl_al (bl_al (bl_al (bl_al (bl_al (bl_al (bl0 _) _) _) _) _) _) _)) hb | exact bl_tr (bl_dr (bl0 _)) hb
      replace hA := bl_tr hA hk
      replace s0 := cell_later hk s0
      replace s1 := cell_later hk s1
      clear hb hk
      have zs0 := blk_lt s0
      have zs1 := blk_lt s1
      go_wp2_with fail
      refine (may_any _ _ _).mono ?_
      rintro e v2 ⟨rfl, hb⟩
      have hk : Below v1.heap.size v1 v2 := by first | exact hb | exact bl_tr (bl_al (bl0 _) _) hb | exact bl_tr (bl_dr (bl_al (bl0 _) _)) hb | exact bl_tr (bl_al (bl_al (bl0 _) _) _) hb | exact bl_tr (bl_dr (bl_al (bl_al (bl0 _) _) _)) hb | exact bl_tr (bl_al (bl_al (bl_al (bl0 _) _) _) _) hb | exact bl_tr (bl_dr (bl_al (bl_al (bl_al (bl0 _) _) _) _)) hb | exact bl_tr (bl_al (bl_al (bl_al (bl_al (bl0 _) _) _) _) _) hb | exact bl_tr (bl_dr (bl_al (bl_al (bl_al (bl_al (bl0 _) _) _) _) _)) hb | exact bl_tr (bl_al (bl_al (bl_al (bl_al (bl_al (bl0 _) _) _) _) _) _) hb | exact bl_tr (bl_dr (bl_al (bl_al (bl_al (bl_al (bl_al (bl0 _) _) _) _) _) _)) hb | exact bl_tr (bl_al (bl_al (bl_al (bl_al (bl_al (bl_al (bl0 _) _) _) _) _) _) _) hb | exact bl_tr (bl_dr (bl_al (bl_al (bl_al (bl_al (bl_al (bl_al (bl0 _) _) _) _) _) _) _)) hb | exact bl_tr (bl_dr (bl0 _)) hb
      replace hA := bl_tr hA hk
      replace s0 := cell_later hk s0
      replace s1 := cell_later hk s1
      clear hb hk
      have zs0 := blk_lt s0
      have zs1 := blk_lt s1
      go_wp2_with fail
      refine (awake_any _ (hs.below (by first | exact hA | exact (bl_al hA _) | exact (bl_dr (bl_al hA _)) | exact (bl_al (bl_al hA _) _) | exact (bl_dr (bl_al (bl_al hA _) _)) | exact (bl_al (bl_al (bl_al hA _) _) _) | exact (bl_dr (bl_al (bl_al (bl_al hA _) _) _)) | exact (bl_al (bl_al (bl_al (bl_al hA _) _) _) _) | exact (bl_dr (bl_al (bl_al (bl_al (bl_al hA _) _) _) _)) | exact (bl_al (bl_al (bl_al (bl_al (bl_al hA _) _) _) _) _) | exact (bl_dr (bl_al (bl_al (bl_al (bl_al (bl_al hA _) _) _) _) _)) | exact (bl_al (bl_al (bl_al (bl_al (bl_al (bl_al hA _) _) _) _) _) _) | exact (bl_dr (bl_al (bl_al (bl_al (bl_al (bl_al (bl_al hA _) _) _) _) _) _)) | exact (bl_dr hA)))).mono ?_
      rintro e v3 ⟨rfl, hb⟩
      have hk : Below v2.heap.size v2 v3 := by first | exact hb | exact bl_tr (bl_al (bl0 _) _) hb | exact bl_tr (bl_dr (bl_al (bl0 _) _)) hb | exact bl_tr (bl_al (bl_al (bl0 _) _) _) hb | exact bl_tr (bl_dr (bl_al (bl_al (bl0 _) _) _)) hb | exact bl_tr (bl_al (bl_al (bl_al (bl0 _) _) _) _) hb | exact bl_tr (bl_dr (bl_al (bl_al (bl_al (bl0 _) _) _) _)) hb | exact bl_tr (bl_al (bl_al (bl_al (bl_al (bl0 _) _) _) _) _) hb | exact bl_tr (bl_dr (bl_al (bl_al (bl_al (bl_al (bl0 _) _) _) _) _)) hb | exact bl_tr (bl_al (bl_al (bl_al (bl_al (bl_al (bl0 _) _) _) _) _) _) hb | exact bl_tr (bl_dr (bl_al (bl_al (bl_al (bl_al (bl_al (bl0 _) _) _) _) _) _)) hb | exact bl_tr (bl_al (bl_al (bl_al (bl_al (bl_al (bl_al (bl0 _) _) _) _) _) _) _) hb | exact bl_tr (bl_dr (bl_al (bl_al (bl_al (bl_al (bl_al (bl_al (bl0 _) _) _) _) _) _) _)) hb | exact bl_tr (bl_dr (bl0 _)) hb
      replace hA := bl_tr hA hk
      clear hb hk
      go_wp2
      go_ret
      exact ⟨rfl, hA⟩
    · have hj : i < 0 ∨ W * H ≤ i := by
        have h1 := mayB_iff.1 hm
        have h2 : ¬ (1 ≤ W ∧ W ≤ 256 ∧ 1 ≤ H ∧ H ≤ 256 ∧ 0 ≤ i ∧ i < W * H) := by simpa [atB] using ht
        omega
      obtain ⟨h1, h2, h3, h4⟩ := mayB_iff.1 hm
      obtain ⟨m1, m2⟩ : 0 ≤ W * H ∧ W * H ≤ 65536 := ⟨Int.mul_nonneg (by omega) (by omega), by have a : W * H ≤ 256 * H := Int.mul_le_mul_of_nonneg_right h2 (by omega); omega⟩
      by_cases hl : i < 0
      all_goals
        go_wp2_with fail
        refine (at_no _ _ _ _ ht).mono ?_
        rintro e v1 ⟨rfl, hb⟩
        have hk : Below wz.heap.size wz v1 := by first | exact hb | exact bl_tr (bl_al (bl0 _) _) hb | exact bl_tr (bl_dr (bl_al (bl0 _) _)) hb | exact bl_tr (bl_al (bl_al (bl0 _) _) _) hb | exact bl_tr (bl_dr (bl_al (bl_al (bl0 _) _) _)) hb | exact bl_tr (bl_al (bl_al (bl_al (bl0 _) _) _) _) hb | exact bl_tr (bl_dr (bl_al (bl_al (bl_al (bl0 _) _) _) _)) hb | exact bl_tr (bl_al (bl_al (bl_al (bl_al (bl0 _) _) _) _) _) hb | exact bl_tr (bl_dr (bl_al (bl_al (bl_al (bl_al (bl0 _) _) _) _) _)) hb | exact bl_tr (bl_al (bl_al (bl_al (bl_al (bl_al (bl0 _) _) _) _) _) _) hb | exact bl_tr (bl_dr (bl_al (bl_al (bl_al (bl_al (bl_al (bl0 _) _) _) _) _) _)) hb | exact bl_tr (bl_al (bl_al (bl_al (bl_al (bl_al (bl_al (bl0 _) _) _) _) _) _) _) hb | exact bl_tr (bl_dr (bl_al (bl_al (bl_al (bl_al (bl_al (bl_al (bl0 _) _) _) _) _) _) _)) hb | exact bl_tr (bl_dr (bl0 _)) hb
        replace hA := bl_tr hA hk
        replace s0 := cell_later hk s0
        replace s1 := cell_later hk s1
        clear hb hk
        have zs0 := blk_lt s0
        have zs1 := blk_lt s1
        go_wp2_with fail
        refine (may_any _ _ _).mono ?_
        rintro e v2 ⟨rfl, hb⟩
        have hk : Below v1.heap.size v1 v2 := by first | exact hb | exact bl_tr (bl_al (bl0 _) _) hb | exact bl_tr (bl_dr (bl_al (bl0 _) _)) hb | exact bl_tr (bl_al (bl_al (bl0 _) _) _) hb | exact bl_tr (bl_dr (bl_al (bl_al (bl0 _) _) _)) hb | exact bl_tr (bl_al (bl_al (bl_al (bl0 _) _) _) _) hb | exact bl_tr (bl_dr (bl_al (bl_al (bl_al (bl0 _) _) _) _)) hb | exact bl_tr (bl_al (bl_al (bl_al (bl_al (bl0 _) _) _) _) _) hb | exact bl_tr (bl_dr (bl_al (bl_al (bl_al (bl_al (bl0 _) _) _) _) _)) hb | exact bl_tr (bl_al (bl_al (bl_al (bl_al (bl_al (bl0 _) _) _) _) _) _) hb | exact bl_tr (bl_dr (bl_al (bl_al (bl_al (bl_al (bl_al (bl0 _) _) _) _) _) _)) hb | exact bl_tr (bl_al (bl_al (bl_al (bl_al (bl_al (bl_al (bl0 _) _) _) _) _) _) _) hb | exact bl_tr (bl_dr (bl_al (bl_al (bl_al (bl_al (bl_al (bl_al (bl0 _) _) _) _) _) _) _)) hb | exact bl_tr (bl_dr (bl0 _)) hb
        replace hA := bl_tr hA hk
        replace s0 := cell_later hk s0
        replace s1 := cell_later hk s1
        clear hb hk
        have zs0 := blk_lt s0
        have zs1 := blk_lt s1
        go_wp2_with fail
        refine (awake_any _ (hs.below (by first | exact hA | exact (bl_al hA _) | exact (bl_dr (bl_al hA _)) | exact (bl_al (bl_al hA _) _) | exact (bl_dr (bl_al (bl_al hA _) _)) | exact (bl_al (bl_al (bl_al hA _) _) _) | exact (bl_dr (bl_al (bl_al (bl_al hA _) _) _)) | exact (bl_al (bl_al (bl_al (bl_al hA _) _) _) _) | exact (bl_dr (bl_al (bl_al (bl_al (bl_al hA _) _) _) _)) | exact (bl_al (bl_al (bl_al (bl_al (bl_al hA _) _) _) _) _) | exact (bl_dr (bl_al (bl_al (bl_al (bl_al (bl_al hA _) _) _) _) _)) | exact (bl_al (bl_al (bl_al (bl_al (bl_al (bl_al hA _) _) _) _) _) _) | exact (bl_dr (bl_al (bl_al (bl_al (bl_al (bl_al (bl_al hA _) _) _) _) _) _)) | exact (bl_dr hA)))).mono ?_
        rintro e v3 ⟨rfl, hb⟩
        have hk : Below v2.heap.size v2 v3 := by first | exact hb | exact bl_tr (bl_al (bl0 _) _) hb | exact bl_tr (bl_dr (bl_al (bl0 _) _)) hb | exact bl_tr (bl_al (bl_al (bl0 _) _) _) hb | exact bl_tr (bl_dr (bl_al (bl_al (bl0 _) _) _)) hb | exact bl_tr (bl_al (bl_al (bl_al (bl0 _) _) _) _) hb | exact bl_tr (bl_dr (bl_al (bl_al (bl_al (bl0 _) _) _) _)) hb | exact bl_tr (bl_al (bl_al (bl_al (bl_al (bl0 _) _) _) _) _) hb | exact bl_tr (bl_dr (bl_al (bl_al (bl_al (bl_al (bl0 _) _) _) _) _)) hb | exact bl_tr (bl_al (bl_al (bl_al (bl_al (bl_al (bl0 _) _) _) _) _) _) hb | exact bl_tr (bl_dr (bl_al (bl_al (bl_al (bl_al (bl_al (bl0 _) _) _) _) _) _)) hb | exact bl_tr (bl_al (bl_al (bl_al (bl_al (bl_al (bl_al (bl0 _) _) _) _) _) _) _) hb | exact bl_tr (bl_dr (bl_al (bl_al (bl_al (bl_al (bl_al (bl_al (bl0 _) _) _) _) _) _) _)) hb | exact bl_tr (bl_dr (bl0 _)) hb
        replace hA := bl_tr hA hk
        clear hb hk
        go_wp2
        go_ret
        exact ⟨ret_bool (by simp; try omega), hA⟩
  · obtain ⟨hin, hN⟩ := in_of_at ht
    obtain ⟨P, hP⟩ : ∃ P, i % W = P := ⟨_, rfl⟩
    obtain ⟨Q, hQ⟩ : ∃ Q, i / W = Q := ⟨_, rfl⟩
    rw [hP, hQ] at hin
    rw [hP, hQ] at hN
    have HP := Lib.hid hP
    have HQ := Lib.hid hQ
    have HN := Lib.hid hN
    clear hP hQ hN
    go_wp2_with fail
    refine (at_any' _ _ _ _ _ _ ht HP.out HQ.out).mono ?_
    rintro e v1 ⟨rfl, hb⟩
    have hk : Below wz.heap.size wz v1 := by first | exact hb | exact bl_tr (bl_al (bl0 _) _) hb | exact bl_tr (bl_dr (bl_al (bl0 _) _)) hb | exact bl_tr (bl_al (bl_al (bl0 _) _) _) hb | exact bl_tr (bl_dr (bl_al (bl_al (bl0 _) _) _)) hb | exact bl_tr (bl_al (bl_al (bl_al (bl0 _) _) _) _) hb | exact bl_tr (bl_dr (bl_al (bl_al (bl_al (bl0 _) _) _) _)) hb | exact bl_tr (bl_al (bl_al (bl_al (bl_al (bl0 _) _) _) _) _) hb | exact bl_tr (bl_dr (bl_al (bl_al (bl_al (bl_al (bl0 _) _) _) _) _)) hb | exact bl_tr (bl_al (bl_al (bl_al (bl_al (bl_al (bl0 _) _) _) _) _) _) hb | exact bl_tr (bl_dr (bl_al (bl_al (bl_al (bl_al (bl_al (bl0 _) _) _) _) _) _)) hb | exact bl_tr (bl_al (bl_al (bl_al (bl_al (bl_al (bl_al (bl0 _) _) _) _) _) _) _) hb | exact bl_tr (bl_dr (bl_al (bl_al (bl_al (bl_al (bl_al (bl_al (bl0 _) _) _) _) _) _) _)) hb | exact bl_tr (bl_dr (bl0 _)) hb
    replace hA := bl_tr hA hk
    replace s0 := cell_later hk s0
    replace s1 := cell_later hk s1
    clear hb hk
    have zs0 := blk_lt s0
    have zs1 := blk_lt s1
    go_wp2_with fail
    refine (index_to _ _ _ _ _ _ hin HN.out).mono ?_
    rintro e v2 ⟨rfl, hb⟩
    have hk : Below v1.heap.size v1 v2 := by first | exact hb | exact bl_tr (bl_al (bl0 _) _) hb | exact bl_tr (bl_dr (bl_al (bl0 _) _)) hb | exact bl_tr (bl_al (bl_al (bl0 _) _) _) hb | exact bl_tr (bl_dr (bl_al (bl_al (bl0 _) _) _)) hb | exact bl_tr (bl_al (bl_al (bl_al (bl0 _) _) _) _) hb | exact bl_tr (bl_dr (bl_al (bl_al (bl_al (bl0 _) _) _) _)) hb | exact bl_tr (bl_al (bl_al (bl_al (bl_al (bl0 _) _) _) _) _) hb | exact bl_tr (bl_dr (bl_al (bl_al (bl_al (bl_al (bl0 _) _) _) _) _)) hb | exact bl_tr (bl_al (bl_al (bl_al (bl_al (bl_al (bl0 _) _) _) _) _) _) hb | exact bl_tr (bl_dr (bl_al (bl_al (bl_al (bl_al (bl_al (bl0 _) _) _) _) _) _)) hb | exact bl_tr (bl_al (bl_al (bl_al (bl_al (bl_al (bl_al (bl0 _) _) _) _) _) _) _) hb | exact bl_tr (bl_dr (bl_al (bl_al (bl_al (bl_al (bl_al (bl_al (bl0 _) _) _) _) _) _) _)) hb | exact bl_tr (bl_dr (bl0 _)) hb
    replace hA := bl_tr hA hk
    replace s0 := cell_later hk s0
    replace s1 := cell_later hk s1
    have c0 := cell_later hb (v := .int .i64 P) (a := ⟨v1.heap.size, 0, none⟩) (by simp [go_sem])
    have c1 := cell_later hb (v := .int .i64 Q) (a := ⟨v1.heap.size, 1, none⟩) (by simp [go_sem])
    clear hb hk
    have zs0 := blk_lt s0
    have zs1 := blk_lt s1
    have zc0 := blk_lt c0
    have zc1 := blk_lt c1
    go_wp2_with fail
    refine (in_any _ _ _ _ _).mono ?_
    rintro e v3 ⟨rfl, hb⟩
    have hk : Below v2.heap.size v2 v3 := by first | exact hb | exact bl_tr (bl_al (bl0 _) _) hb | exact bl_tr (bl_dr (bl_al (bl0 _) _)) hb | exact bl_tr (bl_al (bl_al (bl0 _) _) _) hb | exact bl_tr (bl_dr (bl_al (bl_al (bl0 _) _) _)) hb | exact bl_tr (bl_al (bl_al (bl_al (bl0 _) _) _) _) hb | exact bl_tr (bl_dr (bl_al (bl_al (bl_al (bl0 _) _) _) _)) hb | exact bl_tr (bl_al (bl_al (bl_al (bl_al (bl0 _) _) _) _) _) hb | exact bl_tr (bl_dr (bl_al (bl_al (bl_al (bl_al (bl0 _) _) _) _) _)) hb | exact bl_tr (bl_al (bl_al (bl_al (bl_al (bl_al (bl0 _) _) _) _) _) _) hb | exact bl_tr (bl_dr (bl_al (bl_al (bl_al (bl_al (bl_al (bl0 _) _) _) _) _) _)) hb | exact bl_tr (bl_al (bl_al (bl_al (bl_al (bl_al (bl_al (bl0 _) _) _) _) _) _) _) hb | exact bl_tr (bl_dr (bl_al (bl_al (bl_al (bl_al (bl_al (bl_al (bl0 _) _) _) _) _) _) _)) hb | exact bl_tr (bl_dr (bl0 _)) hb
    replace hA := bl_tr hA hk
    replace s0 := cell_later hk s0
    replace s1 := cell_later hk s1
    replace c0 := cell_later hk c0
    replace c1 := cell_later hk c1
    clear hb hk
    have zs0 := blk_lt s0
    have zs1 := blk_lt s1
    have zc0 := blk_lt c0
    have zc1 := blk_lt c1
    go_wp2_with fail
    refine (awake_any _ (hs.below (by first | exact hA | exact (bl_al hA _) | exact (bl_dr (bl_al hA _)) | exact (bl_al (bl_al hA _) _) | exact (bl_dr (bl_al (bl_al hA _) _)) | exact (bl_al (bl_al (bl_al hA _) _) _) | exact (bl_dr (bl_al (bl_al (bl_al hA _) _) _)) | exact (bl_al (bl_al (bl_al (bl_al hA _) _) _) _) | exact (bl_dr (bl_al (bl_al (bl_al (bl_al hA _) _) _) _)) | exact (bl_al (bl_al (bl_al (bl_al (bl_al hA _) _) _) _) _) | exact (bl_dr (bl_al (bl_al (bl_al (bl_al (bl_al hA _) _) _) _) _)) | exact (bl_al (bl_al (bl_al (bl_al (bl_al (bl_al hA _) _) _) _) _) _) | exact (bl_dr (bl_al (bl_al (bl_al (bl_al (bl_al (bl_al hA _) _) _) _) _) _)) | exact (bl_dr hA)))).mono ?_
    rintro e v4 ⟨rfl, hb⟩
    have hk : Below v3.heap.size v3 v4 := by first | exact hb | exact bl_tr (bl_al (bl0 _) _) hb | exact bl_tr (bl_dr (bl_al (bl0 _) _)) hb | exact bl_tr (bl_al (bl_al (bl0 _) _) _) hb | exact bl_tr (bl_dr (bl_al (bl_al (bl0 _) _) _)) hb | exact bl_tr (bl_al (bl_al (bl_al (bl0 _) _) _) _) hb | exact bl_tr (bl_dr (bl_al (bl_al (bl_al (bl0 _) _) _) _)) hb | exact bl_tr (bl_al (bl_al (bl_al (bl_al (bl0 _) _) _) _) _) hb | exact bl_tr (bl_dr (bl_al (bl_al (bl_al (bl_al (bl0 _) _) _) _) _)) hb | exact bl_tr (bl_al (bl_al (bl_al (bl_al (bl_al (bl0 _) _) _) _) _) _) hb | exact bl_tr (bl_dr (bl_al (bl_al (bl_al (bl_al (bl_al (bl0 _) _) _) _) _) _)) hb | exact bl_tr (bl_al (bl_al (bl_al (bl_al (bl_al (bl_al (bl0 _) _) _) _) _) _) _) hb | exact bl_tr (bl_dr (bl_al (bl_al (bl_al (bl_al (bl_al (bl_al (bl0 _) _) _) _) _) _) _)) hb | exact bl_tr (bl_dr (bl0 _)) hb
    replace hA := bl_tr hA hk
    clear hb hk
    go_wp2
    go_ret
    exact ⟨rfl, hA⟩

theorem lonce_any (W H X Y U V i : Int) (w : World) (hs : Stp w) : Calls
    Tryd.prog 7 #[.agg #[.int .i64 W, .int .i64 H], .agg #[.int .i64 X, .int .i64 Y, .int .i64 U, .int .i64 V], .int .i64 i] w fun e w' => e = .returned (.bool true) ∧ Below w.heap.size w w' := by
  cases hi : inB W H X Y
  · exact once_out W H X Y U V i w hs hi
  cases hj : inB W H U V
  · exact once_one W H X Y U V i w hs hi hj _ rfl
  by_cases hl : Y < V
  · exact once_lower W H X Y U V i w hs hi hj _ _ rfl rfl hl (once_lt hi hj rfl rfl hl)
  by_cases hx : X = U
  · subst hx
    by_cases hy : Y = V
    · subst hy
      exact once_same W H X Y i w hs hi _ rfl
    · exact once_under W H X Y V i w hs hi hj _ _ rfl rfl hl (once_ne hi hj rfl rfl (by simp [hy])) (by simpa using hy)
  · exact once_side W H X Y U V i w hs hi hj _ _ rfl rfl hl (once_ne hi hj rfl rfl (by simp [hx])) (by simpa using hx)
end Go.Proofs.YtdacoeehhpnkbaaDoor
