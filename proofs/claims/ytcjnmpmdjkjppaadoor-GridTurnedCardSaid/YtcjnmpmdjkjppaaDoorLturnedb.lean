/- GridTurned: its walk, of two fields of one size. -/
import Derived.Test.YtcjnmpmdjkjppaaDoorLturned
namespace Go.Proofs.YtcjnmpmdjkjppaaDoor
open Go.RowKit

theorem turnTo_grow (X : Int) (xs ys : List Int) (k j : Nat) : turnTo X xs ys k <+: turnTo X xs ys (k + j) := by
  induction j with
  | zero => exact List.prefix_rfl
  | succ j ih => exact ih.trans (by rw [← Nat.add_assoc, turnTo]; exact List.prefix_append _ _)
theorem turnTo_at {X : Int} {xs ys : List Int} {k : Nat} (h1 : k < xs.length) (h2 : k < ys.length) (e : xs[k] ≠ ys[k]) :
    ∃ hn : (turnTo X xs ys k).length < (turnF X xs ys).length, (turnF X xs ys)[(turnTo X xs ys k).length] = ((k : Int) % X, (k : Int) / X) := by
  have h := turnTo_other (X := X) h1 h2 e
  have hp : turnTo X xs ys (k + 1) <+: turnF X xs ys := by
    have := turnTo_grow X xs ys (k + 1) (xs.length - (k + 1))
    rw [show k + 1 + (xs.length - (k + 1)) = xs.length by omega] at this
    exact this
  obtain ⟨t, ht⟩ := hp
  rw [h] at ht
  refine ⟨by rw [← ht]; simp, ?_⟩
  simp [← ht]

set_option maxRecDepth 100000 in
set_option maxHeartbeats 4000000 in
theorem turned_c4 (X Y : Int) (a b : Option Addr) (c d : Nat) (xs ys : List Int) (w : World) (hr : RowH w a xs) (hr2 : RowH w b ys) (hS : Sits w) (h1 : smallB X Y xs.length = true) (h2 : smallB X Y ys.length = true) (hx : chkF X Y xs.length = 0) (hy : chkF X Y ys.length = 0) :
    Calls Tryd.prog 4 #[.agg #[.int .i64 X, .int .i64 Y, .slice a xs.length c], .agg #[.int .i64 X, .int .i64 Y, .slice b ys.length d]] w fun e w' => e = .returned (.bool true) ∧ Below w.heap.size w w' := by
  have hlx : xs.length ≤ 600 := by
    have h := h1
    unfold smallB at h
    simp at h
    omega
  have hly : ys.length ≤ 600 := by
    have h := h2
    unfold smallB at h
    simp at h
    omega
  have HS1 := Lib.hid h1
  have HS2 := Lib.hid h2
  obtain ⟨sv, hsv⟩ : ∃ sv, sameF X Y xs X Y ys = sv := ⟨_, rfl⟩
  have HSV := Lib.hid hsv
  have hbs := bsame sv
  clear h1 h2 hsv
  have hA := bl0 w
  obtain ⟨hm, hn, hn1, hn2⟩ := chk_ok hx
  obtain ⟨_, hn3, _, _⟩ := chk_ok hy
  have hlen : xs.length = ys.length := by omega
  have HX := Lib.hid hx
  have HY := Lib.hid hy
  have HL := Lib.hid hlen
  have hmx := (mayB_iff.1 hm).1
  have hx0 : (X == 0) = false := by rw [beq_eq_false_iff_ne]; omega
  clear hx hy hn hn3 hlen hm
  go_enter Tryd.func4, Tryd.ntmps4
  go_wp2_with fail
  refine (small_any _ _ _ _ _ _).mono ?_
  rintro e w1 ⟨rfl, hb⟩
  have hk : Below w.heap.size w w1 := by first | exact hb | exact bl_tr (bl_al (bl0 _) _) hb | exact bl_tr (bl_dr (bl_al (bl0 _) _)) hb | exact bl_tr (bl_al (bl_al (bl0 _) _) _) hb | exact bl_tr (bl_dr (bl_al (bl_al (bl0 _) _) _)) hb | exact bl_tr (bl_al (bl_al (bl_al (bl0 _) _) _) _) hb | exact bl_tr (bl_dr (bl_al (bl_al (bl_al (bl0 _) _) _) _)) hb | exact bl_tr (bl_al (bl_al (bl_al (bl_al (bl0 _) _) _) _) _) hb | exact bl_tr (bl_dr (bl_al (bl_al (bl_al (bl_al (bl0 _) _) _) _) _)) hb | exact bl_tr (bl_al (bl_al (bl_al (bl_al (bl_al (bl0 _) _) _) _) _) _) hb | exact bl_tr (bl_dr (bl_al (bl_al (bl_al (bl_al (bl_al (bl0 _) _) _) _) _) _)) hb | exact bl_tr (bl_al (bl_al (bl_al (bl_al (bl_al (bl_al (bl0 _) _) _) _) _) _) _) hb | exact bl_tr (bl_dr (bl_al (bl_al (bl_al (bl_al (bl_al (bl_al (bl0 _) _) _) _) _) _) _)) hb | exact bl_tr (bl_dr (bl0 _)) hb
  replace hA := bl_tr hA hk
  have a0 := cell_later hb (v := .int .i64 X) (a := ⟨w.heap.size, 0, none⟩) (by simp [go_sem])
  have a1 := cell_later hb (v := .int .i64 Y) (a := ⟨w.heap.size, 1, none⟩) (by simp [go_sem])
  have a2 := cell_later hb (v := .slice a xs.length c) (a := ⟨w.heap.size, 2, none⟩) (by simp [go_sem])
  have b0 := cell_later hb (v := .int .i64 X) (a := ⟨w.heap.size + 1, 0, none⟩) (by simp [go_sem])
  have b1 := cell_later hb (v := .int .i64 Y) (a := ⟨w.heap.size + 1, 1, none⟩) (by simp [go_sem])
  have b2 := cell_later hb (v := .slice b ys.length d) (a := ⟨w.heap.size + 1, 2, none⟩) (by simp [go_sem])
  clear hb hk
  have za0 := blk_lt a0
  have za1 := blk_lt a1
  have za2 := blk_lt a2
  have zb0 := blk_lt b0
  have zb1 := blk_lt b1
  have zb2 := blk_lt b2
  rw [HS1.out]
  go_wp2_with fail
  refine (small_any _ _ _ _ _ _).mono ?_
  rintro e w2 ⟨rfl, hb⟩
  have hk : Below w1.heap.size w1 w2 := by first | exact hb | exact bl_tr (bl_al (bl0 _) _) hb | exact bl_tr (bl_dr (bl_al (bl0 _) _)) hb | exact bl_tr (bl_al (bl_al (bl0 _) _) _) hb | exact bl_tr (bl_dr (bl_al (bl_al (bl0 _) _) _)) hb | exact bl_tr (bl_al (bl_al (bl_al (bl0 _) _) _) _) hb | exact bl_tr (bl_dr (bl_al (bl_al (bl_al (bl0 _) _) _) _)) hb | exact bl_tr (bl_al (bl_al (bl_al (bl_al (bl0 _) _) _) _) _) hb | exact bl_tr (bl_dr (bl_al (bl_al (bl_al (bl_al (bl0 _) _) _) _) _)) hb | exact bl_tr (bl_al (bl_al (bl_al (bl_al (bl_al (bl0 _) _) _) _) _) _) hb | exact bl_tr (bl_dr (bl_al (bl_al (bl_al (bl_al (bl_al (bl0 _) _) _) _) _) _)) hb | exact bl_tr (bl_al (bl_al (bl_al (bl_al (bl_al (bl_al (bl0 _) _) _) _) _) _) _) hb | exact bl_tr (bl_dr (bl_al (bl_al (bl_al (bl_al (bl_al (bl_al (bl0 _) _) _) _) _) _) _)) hb | exact bl_tr (bl_dr (bl0 _)) hb
  replace hA := bl_tr hA hk
  replace a0 := cell_later hk a0
  replace a1 := cell_later hk a1
  replace a2 := cell_later hk a2
  replace b0 := cell_later hk b0
  replace b1 := cell_later hk b1
  replace b2 := cell_later hk b2
  clear hb hk
  have za0 := blk_lt a0
  have za1 := blk_lt a1
  have za2 := blk_lt a2
  have zb0 := blk_lt b0
  have zb1 := blk_lt b1
  have zb2 := blk_lt b2
  rw [HS2.out]
  go_wp2_with fail
  refine (turned_yes X Y a b c d xs ys _ (hr.below hA) (hr2.below hA) HX.out HY.out).mono ?_
  rintro e w3 ⟨tv, tcap, rfl, hrow, hb⟩
  have hk : Below w2.heap.size w2 w3 := by first | exact hb | exact bl_tr (bl_al (bl0 _) _) hb | exact bl_tr (bl_dr (bl_al (bl0 _) _)) hb | exact bl_tr (bl_al (bl_al (bl0 _) _) _) hb | exact bl_tr (bl_dr (bl_al (bl_al (bl0 _) _) _)) hb | exact bl_tr (bl_al (bl_al (bl_al (bl0 _) _) _) _) hb | exact bl_tr (bl_dr (bl_al (bl_al (bl_al (bl0 _) _) _) _)) hb | exact bl_tr (bl_al (bl_al (bl_al (bl_al (bl0 _) _) _) _) _) hb | exact bl_tr (bl_dr (bl_al (bl_al (bl_al (bl_al (bl0 _) _) _) _) _)) hb | exact bl_tr (bl_al (bl_al (bl_al (bl_al (bl_al (bl0 _) _) _) _) _) _) hb | exact bl_tr (bl_dr (bl_al (bl_al (bl_al (bl_al (bl_al (bl0 _) _) _) _) _) _)) hb | exact bl_tr (bl_al (bl_al (bl_al (bl_al (bl_al (bl_al (bl0 _) _) _) _) _) _) _) hb | exact bl_tr (bl_dr (bl_al (bl_al (bl_al (bl_al (bl_al (bl_al (bl0 _) _) _) _) _) _) _)) hb | exact bl_tr (bl_dr (bl0 _)) hb
  replace hA := bl_tr hA hk
  replace a0 := cell_later hk a0
  replace a1 := cell_later hk a1
  replace a2 := cell_later hk a2
  replace b0 := cell_later hk b0
  replace b1 := cell_later hk b1
  replace b2 := cell_later hk b2
  clear hb hk
  have za0 := blk_lt a0
  have za1 := blk_lt a1
  have za2 := blk_lt a2
  have zb0 := blk_lt b0
  have zb1 := blk_lt b1
  have zb2 := blk_lt b2
  have hr3 := hr.below hA
  have hq3 := hr2.below hA
  go_wp2_with fail
  have hB := bl_dr (bl0 w3)
  go_region_held3 (fun W => W.cell? ⟨w.heap.size, 0, none⟩ = some (.int .i64 X) ∧ W.cell? ⟨w.heap.size, 1, none⟩ = some (.int .i64 Y) ∧ W.cell? ⟨w.heap.size, 2, none⟩ = some (.slice a xs.length c) ∧ W.cell? ⟨w.heap.size + 1, 0, none⟩ = some (.int .i64 X) ∧ W.cell? ⟨w.heap.size + 1, 1, none⟩ = some (.int .i64 Y) ∧ W.cell? ⟨w.heap.size + 1, 2, none⟩ = some (.slice b ys.length d))
    (exact ⟨cell_later hB a0, cell_later hB a1, cell_later hB a2, cell_later hB b0, cell_later hB b1, cell_later hB b2⟩)
    (first
      | (go_at_call 21; refine (same_any X Y X Y a b c d xs ys _ (hr3.below hB) (hq3.below hB) (by omega)).mono ?_; rintro e W2 ⟨rfl, hb⟩; rw [HSV.out]; replace hB := bl_tr hB hb; clear hb)
      | (go_at_call 22; refine (rsame_any X Y X Y a b c d xs ys _ (hr3.below hB) (hq3.below hB) (by omega)).mono ?_; rintro e W2 ⟨rfl, hb⟩; rw [HSV.out]; replace hB := bl_tr hB hb; clear hb))
  all_goals
    replace hA := bl_tr hA hB
    replace a0 := cell_later hB a0
    replace a1 := cell_later hB a1
    replace a2 := cell_later hB a2
    replace b0 := cell_later hB b0
    replace b1 := cell_later hB b1
    replace b2 := cell_later hB b2
    have za0 := blk_lt a0
    have zb0 := blk_lt b0
    replace hrow := hrow.below hB
    clear hB hr3 hq3
    go_wp2_with fail
    refine (rcheck_any _ _ _ _ _ _).mono ?_
    rintro e w5 ⟨rfl, hb⟩
    have hk : Below W2.heap.size W2 w5 := by first | exact hb | exact bl_tr (bl_al (bl0 _) _) hb | exact bl_tr (bl_dr (bl_al (bl0 _) _)) hb | exact bl_tr (bl_al (bl_al (bl0 _) _) _) hb | exact bl_tr (bl_dr (bl_al (bl_al (bl0 _) _) _)) hb | exact bl_tr (bl_al (bl_al (bl_al (bl0 _) _) _) _) hb | exact bl_tr (bl_dr (bl_al (bl_al (bl_al (bl0 _) _) _) _)) hb | exact bl_tr (bl_al (bl_al (bl_al (bl_al (bl0 _) _) _) _) _) hb | exact bl_tr (bl_dr (bl_al (bl_al (bl_al (bl_al (bl0 _) _) _) _) _)) hb | exact bl_tr (bl_al (bl_al (bl_al (bl_al (bl_al (bl0 _) _) _) _) _) _) hb | exact bl_tr (bl_dr (bl_al (bl_al (bl_al (bl_al (bl_al (bl0 _) _) _) _) _) _)) hb | exact bl_tr (bl_al (bl_al (bl_al (bl_al (bl_al (bl_al (bl0 _) _) _) _) _) _) _) hb | exact bl_tr (bl_dr (bl_al (bl_al (bl_al (bl_al (bl_al (bl_al (bl0 _) _) _) _) _) _) _)) hb | exact bl_tr (bl_dr (bl0 _)) hb
    replace hA := bl_tr hA hk
    replace hrow := hrow.below hk
    replace a0 := cell_later hk a0
    replace a1 := cell_later hk a1
    replace a2 := cell_later hk a2
    replace b0 := cell_later hk b0
    replace b1 := cell_later hk b1
    replace b2 := cell_later hk b2
    clear hb hk
    have za0 := blk_lt a0
    have za1 := blk_lt a1
    have za2 := blk_lt a2
    have zb0 := blk_lt b0
    have zb1 := blk_lt b1
    have zb2 := blk_lt b2
    rw [HX.out]
    go_wp2_with fail
    refine (rcheck_any _ _ _ _ _ _).mono ?_
    rintro e w6 ⟨rfl, hb⟩
    have hk : Below w5.heap.size w5 w6 := by first | exact hb | exact bl_tr (bl_al (bl0 _) _) hb | exact bl_tr (bl_dr (bl_al (bl0 _) _)) hb | exact bl_tr (bl_al (bl_al (bl0 _) _) _) hb | exact bl_tr (bl_dr (bl_al (bl_al (bl0 _) _) _)) hb | exact bl_tr (bl_al (bl_al (bl_al (bl0 _) _) _) _) hb | exact bl_tr (bl_dr (bl_al (bl_al (bl_al (bl0 _) _) _) _)) hb | exact bl_tr (bl_al (bl_al (bl_al (bl_al (bl0 _) _) _) _) _) hb | exact bl_tr (bl_dr (bl_al (bl_al (bl_al (bl_al (bl0 _) _) _) _) _)) hb | exact bl_tr (bl_al (bl_al (bl_al (bl_al (bl_al (bl0 _) _) _) _) _) _) hb | exact bl_tr (bl_dr (bl_al (bl_al (bl_al (bl_al (bl_al (bl0 _) _) _) _) _) _)) hb | exact bl_tr (bl_al (bl_al (bl_al (bl_al (bl_al (bl_al (bl0 _) _) _) _) _) _) _) hb | exact bl_tr (bl_dr (bl_al (bl_al (bl_al (bl_al (bl_al (bl_al (bl0 _) _) _) _) _) _) _)) hb | exact bl_tr (bl_dr (bl0 _)) hb
    replace hA := bl_tr hA hk
    replace hrow := hrow.below hk
    replace a0 := cell_later hk a0
    replace a1 := cell_later hk a1
    replace a2 := cell_later hk a2
    replace b0 := cell_later hk b0
    replace b1 := cell_later hk b1
    replace b2 := cell_later hk b2
    clear hb hk
    have za0 := blk_lt a0
    have za1 := blk_lt a1
    have za2 := blk_lt a2
    have zb0 := blk_lt b0
    have zb1 := blk_lt b1
    have zb2 := blk_lt b2
    rw [HY.out]
    have hr6 := hr.below hA
    have hq6 := hr2.below hA
    have hrow6 := hrow
    clear hrow
    go_wp2
    go_loopw [8, 9] (fun n i wr => ∃ k : Nat, k ≤ xs.length ∧ i = .int .i64 k ∧ n = .int .i64 (turnTo X xs ys k).length ∧ Below w6.heap.size w6 wr) (fun _ i _ => xs.length - (intOf i).toNat)
    case atStart => exact ⟨0, Nat.zero_le _, rfl, rfl, bl0 _⟩
    case round =>
      obtain ⟨k, hk, rfl, rfl, hBk⟩ := hrel
      replace a0 := cell_later hBk a0
      replace a2 := cell_later hBk a2
      replace b2 := cell_later hBk b2
      by_cases hlt : k < xs.length
      · have hlt2 : (k : Int) < (xs.length : Int) := by omega
        have hk0 : (0 : Int) ≤ (k : Int) := by omega
        have hlty : k < ys.length := by rw [← HL.out]; exact hlt
        have hlty2 : (k : Int) < (ys.length : Int) := by omega
        obtain ⟨gb, go, rfl, q⟩ := hr6.cell hlt
        obtain ⟨gb2, go2, rfl, q2⟩ := hq6.cell hlty
        replace q := cell_later hBk q
        replace q2 := cell_later hBk q2
        clear a1 b0 b1
        by_cases he : xs[k] = ys[k]
        · have HS := Lib.hid (turnTo_same (X := X) hlt hlty he)
          have he2 : (xs[k] != ys[k]) = false := by rw [bne_eq_false_iff_eq]; exact he
          clear he
          generalize xs[k] = x at *
          generalize ys[k] = y at *
          go_wp2
          go_quiet (fail)
          go_wp2
          go_roundw
          case rel => exact ⟨k + 1, by omega, by go_num, by rw [HS.out], bl_tr hBk (bl_drn _ _)⟩
          case measure => simp [intOf]; omega
        · have HS := Lib.hid (turnTo_other (X := X) hlt hlty he)
          have he2 : (xs[k] != ys[k]) = true := by rw [bne_iff_ne]; exact he
          obtain ⟨hnl, hat⟩ := turnTo_at hlt hlty he
          obtain ⟨gc, gco, rfl, p0, p1⟩ := hrow6.cell hnl
          rw [hat] at p0 p1
          replace p0 := cell_later hBk p0
          replace p1 := cell_later hBk p1
          have hnl2 : ((turnTo X xs ys k).length : Int) < ((turnF X xs ys).length : Int) := by omega
          have hbd := turnTo_len X xs ys k
          clear he hat
          generalize xs[k] = x at *
          generalize ys[k] = y at *
          generalize hgm : (turnTo X xs ys k).length = m at *
          have HGM := Lib.hid hgm
          clear hgm
          generalize (turnF X xs ys).length = tl at *
          go_wp2
          go_quiet (fail)
          obtain ⟨W4, hW4⟩ : ∃ W4, wr.drewN nq = W4 := ⟨_, rfl⟩
          have hA4 : Below wr.heap.size wr W4 := by rw [← hW4]; exact bl_drn wr nq
          rw [hW4]
          clear hW4
          replace a0 := cell_later hA4 a0
          replace p0 := cell_later hA4 p0
          replace p1 := cell_later hA4 p1
          clear q q2 a2 b2
          go_wp2
          have hx1 : X ≠ 0 := by omega
          have hx2 : (X == 0) = false := by rw [beq_eq_false_iff_ne]; omega
          have htm : (k : Int).tmod X = (k : Int) % X := Int.tmod_eq_emod_of_nonneg hk0
          have hq1 : 0 ≤ (k : Int) / X := Int.ediv_nonneg hk0 (by omega)
          have hq2 : (k : Int) / X ≤ k := Int.ediv_le_self _ hk0
          have hwr : IntKind.i64.wrap ((k : Int) / X) = (k : Int) / X := by rw [IntKind.wrap_i64]; omega
          have hd : decide ((tl : Int) ≤ (m : Int)) = false := decide_eq_false (by omega)
          go_quiet (fail)
          have hA6 := bl_tr hA4 (bl_drn W4 nq)
          have hB6 := bl_tr hBk hA6
          clear htm hwr hq1 hq2 hd hA4 hA6 hx1 hx2
          have HS2' := HS.out
          go_wp2
          go_roundw
          case rel => exact ⟨k + 1, by omega, by go_num, by rw [HS2', List.length_append, HGM.out]; rfl, hB6⟩
          case measure => simp [intOf]; omega
      · obtain rfl : k = xs.length := by omega
        have hge : (xs.length : Int) ≤ (xs.length : Int) := Int.le_refl _
        have hfin : (((turnTo X xs ys xs.length).length : Int) == ((turnF X xs ys).length : Int)) = true := by rw [beq_iff_eq]; rfl
        replace hA := bl_tr hA hBk
        go_wp2_with fail
        refine (awake_any _ (hS.later hA)).mono ?_
        rintro e w7 ⟨rfl, hb⟩
        have hk : Below wr.heap.size wr w7 := by first | exact hb | exact bl_tr (bl_al (bl0 _) _) hb | exact bl_tr (bl_dr (bl_al (bl0 _) _)) hb | exact bl_tr (bl_al (bl_al (bl0 _) _) _) hb | exact bl_tr (bl_dr (bl_al (bl_al (bl0 _) _) _)) hb | exact bl_tr (bl_al (bl_al (bl_al (bl0 _) _) _) _) hb | exact bl_tr (bl_dr (bl_al (bl_al (bl_al (bl0 _) _) _) _)) hb | exact bl_tr (bl_al (bl_al (bl_al (bl_al (bl0 _) _) _) _) _) hb | exact bl_tr (bl_dr (bl_al (bl_al (bl_al (bl_al (bl0 _) _) _) _) _)) hb | exact bl_tr (bl_al (bl_al (bl_al (bl_al (bl_al (bl0 _) _) _) _) _) _) hb | exact bl_tr (bl_dr (bl_al (bl_al (bl_al (bl_al (bl_al (bl0 _) _) _) _) _) _)) hb | exact bl_tr (bl_al (bl_al (bl_al (bl_al (bl_al (bl_al (bl0 _) _) _) _) _) _) _) hb | exact bl_tr (bl_dr (bl_al (bl_al (bl_al (bl_al (bl_al (bl_al (bl0 _) _) _) _) _) _) _)) hb | exact bl_tr (bl_dr (bl0 _)) hb
        replace hA := bl_tr hA hk
        clear hb hk
        go_wp2
        go_ret
        exact ⟨rfl, hA⟩
end Go.Proofs.YtcjnmpmdjkjppaaDoor
