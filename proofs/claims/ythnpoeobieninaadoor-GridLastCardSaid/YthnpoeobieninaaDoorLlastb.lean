/- GridLast: its walk, of two fields of one size. -/
import Derived.Test.YthnpoeobieninaaDoorLlast
import Derived.Test.YthnpoeobieninaaDoorOh
namespace Go.Proofs.YthnpoeobieninaaDoor
open Go.RowKit

theorem cell_back (j : Nat) (X : Int) : (j : Int) / X * X + (j : Int) % X = j := by
  have h := Int.mul_ediv_add_emod (j : Int) X
  rw [Int.mul_comm] at h
  exact h

set_option maxRecDepth 100000 in
set_option maxHeartbeats 8000000 in
theorem last_yes (X Y x y n : Int) (a b : Option Addr) (c d : Nat) (xs ys : List Int) (w : World) (hr : RowH w a xs) (hr2 : RowH w b ys) (hin : AllH xs) (hin2 : AllH ys) (hS : Sits w) (h1 : smallB X Y xs.length = true) (h2 : smallB X Y ys.length = true) (hx : chkF X Y xs.length = 0) (hy : chkF X Y ys.length = 0) :
    Calls Tryd.prog 7 #[.agg #[.int .i64 X, .int .i64 Y, .slice a xs.length c], .agg #[.int .i64 X, .int .i64 Y, .slice b ys.length d], .agg #[.int .i64 x, .int .i64 y, .int .i64 n]] w fun e w' => e = .returned (.bool true) ∧ Below w.heap.size w w' := by
  have hlx : xs.length ≤ 600 := by
    have h := h1
    unfold smallB at h
    simp at h
    omega
  have HS1 := Lib.hid h1
  have HS2 := Lib.hid h2
  clear h1 h2
  have hA := bl0 w
  obtain ⟨hm, hn, hn1, hn2⟩ := chk_ok hx
  obtain ⟨_, hn3, _, _⟩ := chk_ok hy
  have hlen : xs.length = ys.length := by omega
  have HX := Lib.hid hx
  have HY := Lib.hid hy
  have HL := Lib.hid hlen
  have HM := Lib.hid hm
  have HN := Lib.hid hn
  have htl : (turnF X xs ys).length ≤ 600 := Nat.le_trans (turnTo_len X xs ys xs.length) hlx
  clear hx hy hn hn3 hlen hm
  go_enter Tryd.func7, Tryd.ntmps7
  go_wp2_with fail
  refine (small_any _ _ _ _ _ _).mono ?_
  rintro e w1 ⟨rfl, hb⟩
  have hk : Below w.heap.size w w1 := by first | exact hb | exact bl_tr (bl_al (bl0 _) _) hb | exact bl_tr (bl_dr (bl_al (bl0 _) _)) hb | exact bl_tr (bl_al (bl_al (bl0 _) _) _) hb | exact bl_tr (bl_dr (bl_al (bl_al (bl0 _) _) _)) hb | exact bl_tr (bl_al (bl_al (bl_al (bl0 _) _) _) _) hb | exact bl_tr (bl_dr (bl_al (bl_al (bl_al (bl0 _) _) _) _)) hb | exact bl_tr (bl_al (bl_al (bl_al (bl_al (bl0 _) _) _) _) _) hb | exact bl_tr (bl_dr (bl_al (bl_al (bl_al (bl_al (bl0 _) _) _) _) _)) hb | exact bl_tr (bl_al (bl_al (bl_al (bl_al (bl_al (bl0 _) _) _) _) _) _) hb | exact bl_tr (bl_dr (bl_al (bl_al (bl_al (bl_al (bl_al (bl0 _) _) _) _) _) _)) hb | exact bl_tr (bl_al (bl_al (bl_al (bl_al (bl_al (bl_al (bl0 _) _) _) _) _) _) _) hb | exact bl_tr (bl_dr (bl_al (bl_al (bl_al (bl_al (bl_al (bl_al (bl0 _) _) _) _) _) _) _)) hb | exact bl_tr (bl_dr (bl0 _)) hb
  replace hA := bl_tr hA hk
  have a0 := cell_later hb (v := .int .i64 X) (a := ⟨w.heap.size, 0, none⟩) (by simp [go_sem])
  have a1 := cell_later hb (v := .int .i64 Y) (a := ⟨w.heap.size, 1, none⟩) (by simp [go_sem])
  have a2 := cell_later hb (v := .slice a xs.length c) (a := ⟨w.heap.size, 2, none⟩) (by simp [go_sem])
  have b0 := cell_later hb (v := .int .i64 X) (a := ⟨w.heap.size + 1, 0, none⟩) (by simp [go_sem])
  have b1 := cell_later hb (v := .int .i64 Y) (a := ⟨w.heap.size + 1, 1, none⟩) (by simp [go_sem])
  have b2 := cell_later hb (v := .slice b ys.length d) (a := ⟨w.heap.size + 1, 2, none⟩) (by simp [go_sem])
  have e0 := cell_later hb (v := .int .i64 x) (a := ⟨w.heap.size + 1 + 1, 0, none⟩) (by simp [go_sem])
  have e1 := cell_later hb (v := .int .i64 y) (a := ⟨w.heap.size + 1 + 1, 1, none⟩) (by simp [go_sem])
  have e2 := cell_later hb (v := .int .i64 n) (a := ⟨w.heap.size + 1 + 1, 2, none⟩) (by simp [go_sem])
  clear hb hk
  have za0 := blk_lt a0
  have za1 := blk_lt a1
  have za2 := blk_lt a2
  have zb0 := blk_lt b0
  have zb1 := blk_lt b1
  have zb2 := blk_lt b2
  have ze0 := blk_lt e0
  have ze1 := blk_lt e1
  have ze2 := blk_lt e2
  rw [HS1.out]
  go_wp2_with fail
  refine (small_any _ _ _ _ _ _).mono ?_
  rintro e w2 ⟨rfl, hb⟩
  have hk : Below w1.heap.size w1 w2 := by first | exact hb | exact bl_tr (bl_al (bl0 _) _) hb | exact bl_tr (bl_dr (bl_al (bl0 _) _)) hb | exact bl_tr (bl_al (bl_al (bl0 _) _) _) hb | exact bl_tr (bl_dr (bl_al (bl_al (bl0 _) _) _)) hb | exact bl_tr (bl_al (bl_al (bl_al (bl0 _) _) _) _) hb | exact bl_tr (bl_dr (bl_al (bl_al (bl_al (bl0 _) _) _) _)) hb | exact bl_tr (bl_al (bl_al (bl_al (bl_al (bl0 _) _) _) _) _) hb | exact bl_tr (bl_dr (bl_al (bl_al (bl_al (bl_al (bl0 _) _) _) _) _)) hb | exact bl_tr (bl_al (bl_al (bl_al (bl_al (bl_al (bl0 _) _) _) _) _) _) hb | exact bl_tr (bl_dr (bl_al (bl_al (bl_al (bl_al (bl_al (bl0 _) _) _) _) _) _)) hb | exact bl_tr (bl_al (bl_al (bl_al (bl_al (bl_al (bl_al (bl0 _) _) _) _) _) _) _) hb | exact bl_tr (bl_dr (bl_al (bl_al (bl_al (bl_al (bl_al (bl_al (bl0 _) _) _) _) _) _) _)) hb | exact bl_tr (bl_dr (bl0 _)) hb
  replace hA := bl_tr hA hk
  replace a0 := cell_later hk a0
  replace a1 := cell_later hk a1
  replace a2 := cell_later hk a2
  replace b0 := cell_later hk b0
  replace b1 := cell_later hk b1
  replace b2 := cell_later hk b2
  replace e0 := cell_later hk e0
  replace e1 := cell_later hk e1
  replace e2 := cell_later hk e2
  clear hb hk
  have za0 := blk_lt a0
  have za1 := blk_lt a1
  have za2 := blk_lt a2
  have zb0 := blk_lt b0
  have zb1 := blk_lt b1
  have zb2 := blk_lt b2
  have ze0 := blk_lt e0
  have ze1 := blk_lt e1
  have ze2 := blk_lt e2
  rw [HS2.out]
  go_wp2_with fail
  refine (turned_yes X Y a b c d xs ys _ (hr.below hA) (hr2.below hA) HX.out HY.out).mono ?_
  rintro e w3 ⟨tv, tcap, rfl, hrow, hb⟩
  have hk : Below w2.heap.size w2 w3 := by first | exact hb | exact bl_tr (bl_al (bl0 _) _) hb | exact bl_tr (bl_dr (bl_al (bl0 _) _)) hb | exact bl_tr (bl_al (bl_al (bl0 _) _) _) hb | exact bl_tr (bl_dr (bl_al (bl_al (bl0 _) _) _)) hb | exact bl_tr (bl_al (bl_al (bl_al (bl0 _) _) _) _) hb | exact bl_tr (bl_dr (bl_al (bl_al (bl_al (bl0 _) _) _) _)) hb | exact bl_tr (bl_al (bl_al (bl_al (bl_al (bl0 _) _) _) _) _) hb | exact bl_tr (bl_dr (bl_al (bl_al (bl_al (bl_al (bl0 _) _) _) _) _)) hb | exact bl_tr (bl_al (bl_al (bl_al (bl_al (bl_al (bl0 _) _) _) _) _) _) hb | exact bl_tr (bl_dr (bl_al (bl_al (bl_al (bl_al (bl_al (bl0 _) _) _) _) _) _)) hb | exact bl_tr (bl_al (bl_al (bl_al (bl_al (bl_al (bl_al (bl0 _) _) _) _) _) _) _) hb | exact bl_tr (bl_dr (bl_al (bl_al (bl_al (bl_al (bl_al (bl_al (bl0 _) _) _) _) _) _) _)) hb | exact bl_tr (bl_dr (bl0 _)) hb
  replace hA := bl_tr hA hk
  replace a0 := cell_later hk a0
  replace a1 := cell_later hk a1
  replace a2 := cell_later hk a2
  replace b0 := cell_later hk b0
  replace b1 := cell_later hk b1
  replace b2 := cell_later hk b2
  replace e0 := cell_later hk e0
  replace e1 := cell_later hk e1
  replace e2 := cell_later hk e2
  clear hb hk
  have za0 := blk_lt a0
  have za1 := blk_lt a1
  have za2 := blk_lt a2
  have zb0 := blk_lt b0
  have zb1 := blk_lt b1
  have zb2 := blk_lt b2
  have ze0 := blk_lt e0
  have ze1 := blk_lt e1
  have ze2 := blk_lt e2
  have hrow3 := hrow
  go_wp2_with fail
  refine (new_yes X Y a c xs _ (hr.below hA) HX.out).mono ?_
  rintro e w4 ⟨g, h, cap, rfl, hg, hb⟩
  have hk : Below w3.heap.size w3 w4 := by first | exact hb | exact bl_tr (bl_al (bl0 _) _) hb | exact bl_tr (bl_dr (bl_al (bl0 _) _)) hb | exact bl_tr (bl_al (bl_al (bl0 _) _) _) hb | exact bl_tr (bl_dr (bl_al (bl_al (bl0 _) _) _)) hb | exact bl_tr (bl_al (bl_al (bl_al (bl0 _) _) _) _) hb | exact bl_tr (bl_dr (bl_al (bl_al (bl_al (bl0 _) _) _) _)) hb | exact bl_tr (bl_al (bl_al (bl_al (bl_al (bl0 _) _) _) _) _) hb | exact bl_tr (bl_dr (bl_al (bl_al (bl_al (bl_al (bl0 _) _) _) _) _)) hb | exact bl_tr (bl_al (bl_al (bl_al (bl_al (bl_al (bl0 _) _) _) _) _) _) hb | exact bl_tr (bl_dr (bl_al (bl_al (bl_al (bl_al (bl_al (bl0 _) _) _) _) _) _)) hb | exact bl_tr (bl_al (bl_al (bl_al (bl_al (bl_al (bl_al (bl0 _) _) _) _) _) _) _) hb | exact bl_tr (bl_dr (bl_al (bl_al (bl_al (bl_al (bl_al (bl_al (bl0 _) _) _) _) _) _) _)) hb | exact bl_tr (bl_dr (bl0 _)) hb
  replace hA := bl_tr hA hk
  replace hrow := hrow.below hk
  replace a0 := cell_later hk a0
  replace a1 := cell_later hk a1
  replace a2 := cell_later hk a2
  replace b0 := cell_later hk b0
  replace b1 := cell_later hk b1
  replace b2 := cell_later hk b2
  replace e0 := cell_later hk e0
  replace e1 := cell_later hk e1
  replace e2 := cell_later hk e2
  clear hb hk
  have za0 := blk_lt a0
  have za1 := blk_lt a1
  have za2 := blk_lt a2
  have zb0 := blk_lt b0
  have zb1 := blk_lt b1
  have zb2 := blk_lt b2
  have ze0 := blk_lt e0
  have ze1 := blk_lt e1
  have ze2 := blk_lt e2
  have hgg := hg.1
  have hgh := hg.lt.2.1
  have ze := blk_lt e0
  have zb := blk_lt b0
  have za := blk_lt a0
  have HG := Lib.hid hg
  have HA := Lib.hid hA
  clear hg
  go_wp2
  go_loopw [11, 12, 13] (fun i _ _ wr => ∃ k : Nat, k ≤ (turnF X xs ys).length ∧ i = .int .i64 k ∧ GridAt wr w3.heap.size g h cap X Y (mixT ys xs ((ixTo xs ys xs.length).take k)) k ∧ Kept2 g h w4 wr) (fun i _ _ _ => (turnF X xs ys).length - (intOf i).toNat)
  case atStart => exact ⟨0, Nat.zero_le _, rfl, HG.out, Kept2.of_below (bl0 _)⟩
  case round =>
    obtain ⟨k, hk, rfl, hgr, hKp⟩ := hrel
    have b0' := hKp.cell b0 (by omega) (by omega)
    have b1' := hKp.cell b1 (by omega) (by omega)
    have b2' := hKp.cell b2 (by omega) (by omega)
    have hAr : Below w.heap.size w wr := hA.trans (hKp.below hA.size (by omega) (by omega))
    have hq := hr2.below hAr
    by_cases hlt : k < (turnF X xs ys).length
    · have hlt2 : (k : Int) < ((turnF X xs ys).length : Int) := by omega
      have hk0 : (0 : Int) ≤ (k : Int) := by omega
      obtain ⟨j, hj1, hj2, hj3, hat, hne, hnext⟩ := next_ix (X := X) HL.out hlt
      obtain ⟨gt, got, rfl, p0, p1⟩ := hrow.cell hlt
      rw [hat] at p0 p1
      obtain ⟨gt', got', hge, p3, _⟩ := hrow3.cell hlt
      cases hge
      have hgt := blk_lt p3
      have p0' := hKp.cell p0 (by omega) (by omega)
      have p1' := hKp.cell p1 (by omega) (by omega)
      obtain ⟨gb, gbo, rfl, q⟩ := hq.cell hj2
      obtain ⟨gb', gbo', hbe, q0⟩ := hr2.cell hj2
      cases hbe
      have hgb := blk_lt q0
      clear q0
      have hbk := cell_back j X
      have hinb : inB X Y ((j : Int) % X) ((j : Int) / X) = true := by
        obtain ⟨m1, m2, m3, m4⟩ := mayB_iff.1 HM.out
        have hNN := HN.out
        have hlt3 : (j : Int) < Y * X := by rw [Int.mul_comm]; omega
        exact inB_iff.2 ⟨m1, m2, m3, m4, Int.emod_nonneg _ (by omega), Int.emod_lt_of_pos _ (by omega), Int.ediv_nonneg (by omega) (by omega), Int.ediv_lt_of_lt_mul (by omega) hlt3⟩
      have hy0 := (hin2.at hj2).1
      have hy1 := (hin2.at hj2).2
      have hz := (mixT_in hin2 ((ixTo xs ys xs.length).take k) xs hin).at hj1
      have hwy : IntKind.i64.wrap ys[j] = ys[j] := by rw [IntKind.wrap_i64]; omega
      have hjd : (j : Int) < (ys.length : Int) := by omega
      have hj0 : (0 : Int) ≤ (j : Int) := by omega
      have HQ := Lib.hid hq
      have HNX := Lib.hid hnext
      have HNE := Lib.hid hne
      clear hq hnext hne a0 a1 a2 b0 b1 b2 e0 e1 e2 hat p0 p1 p3
      go_wp2_with fail
      have hB := bl_dr (bl0 wr)
      go_region_held3 (fun W => W.cell? ⟨w.heap.size + 1, 0, none⟩ = some (.int .i64 X) ∧ W.cell? ⟨w.heap.size + 1, 1, none⟩ = some (.int .i64 Y) ∧ W.cell? ⟨gt, got + k * 2, none⟩ = some (.int .i64 ((j : Int) % X)) ∧ W.cell? ⟨gt, got + k * 2 + 1, none⟩ = some (.int .i64 ((j : Int) / X)))
        (exact ⟨cell_later hB b0', cell_later hB b1', cell_later hB p0', cell_later hB p1'⟩)
        (first
          | (go_at_call 25; refine (index_yes _ _ _ _ _ hinb).mono ?_; rintro e W2 ⟨rfl, hb⟩; rw [hbk]; replace hB := bl_tr hB hb; clear hb))
      all_goals
        replace b2' := cell_later hB b2'
        replace p0' := cell_later hB p0'
        replace p1' := cell_later hB p1'
        replace q := cell_later hB q
        replace hgr := hgr.below hB
        replace hKp := hKp.trans (Kept2.of_below hB)
        clear hB b0' b1' hAr hrow hrow3
        generalize ys[j] = yj at *
        go_wp2_with fail
        have hB := bl_dr (bl0 W2)
        go_region_held3 (fun W => W.cell? ⟨w.heap.size + 1, 2, none⟩ = some (.slice (some ⟨gb, gbo, none⟩) ys.length d) ∧ W.cell? ⟨gb, gbo + j, none⟩ = some (.int .u16 yj) ∧ W.cell? ⟨gt, got + k * 2, none⟩ = some (.int .i64 ((j : Int) % X)) ∧ W.cell? ⟨gt, got + k * 2 + 1, none⟩ = some (.int .i64 ((j : Int) / X)))
          (first
            | exact ⟨cell_later hB b2', cell_later hB q, cell_later hB p0', cell_later hB p1'⟩
            | exact ⟨hkk.cell (cell_later hB b2') (by omega) (by omega), hkk.cell (cell_later hB q) (by omega) (by omega), hkk.cell (cell_later hB p0') (by omega) (by omega), hkk.cell (cell_later hB p1') (by omega) (by omega)⟩)
          (first
            | (go_at_call 13; refine (edit_yes _ g h cap X Y _ _ yj _ _ _ (hgr.below hB) hy0 hy1 hinb j hbk hj1 hz hk0 (by omega)).mono ?_; rintro e W3 ⟨rfl, hg3, hkk⟩))
        all_goals
          rw [if_neg HNE.out, ← HNX.out] at hg3
          have HG3 := Lib.hid hg3
          have HKP := Lib.hid ((hKp.trans (Kept2.of_below hB)).trans hkk)
          clear hg3 hkk hKp hB hgr HNE HNX
          go_wp2
          go_roundw
          case rel => exact ⟨k + 1, by omega, by go_num, by rw [Int.natCast_add]; exact HG3.out, HKP.out⟩
          case measure => simp [intOf]; omega
    · obtain rfl : k = (turnF X xs ys).length := by omega
      have hge : ((turnF X xs ys).length : Int) ≤ ((turnF X xs ys).length : Int) := Int.le_refl _
      have hle : (ixTo xs ys xs.length).length = (turnF X xs ys).length := by
        have h := congrArg List.length (turnTo_ix X xs ys xs.length)
        rw [List.length_map] at h
        exact h.symm
      rw [← hle, List.take_length, mixT_all HL.out, hle] at hgr
      have hyn : ys ≠ [] := by
        rintro rfl
        have := HL.out
        simp at this
        subst this
        simp at hn1
      have hly : ys.length ≤ 600 := by rw [← HL.out]; exact hlx
      have a0' := hKp.cell a0 (by omega) (by omega)
      have a1' := hKp.cell a1 (by omega) (by omega)
      have a2' := hKp.cell a2 (by omega) (by omega)
      have e0' := hKp.cell e0 (by omega) (by omega)
      have e1' := hKp.cell e1 (by omega) (by omega)
      have e2' := hKp.cell e2 (by omega) (by omega)
      have hgz0 : g < wr.heap.size ∧ h < wr.heap.size := ⟨hgr.lt.1, hgr.lt.2.2⟩
      have hwz0 : w.heap.size + 3 ≤ wr.heap.size := by have := blk_lt e0'; omega
      replace hA := hAr
      have hr' := hr.below hAr
      clear a0 a1 a2 b0 b1 b2 e0 e1 e2 hrow hrow3 hle hKp hAr
      go_wp2_with fail
      refine (field_any _ g h cap X Y ys _ _ hgr hyn (by omega)).mono ?_
      rintro e w5 ⟨h2, cap2, rfl, hown, hb⟩
      have hk : Below wr.heap.size wr w5 := by first | exact hb | exact bl_tr (bl_al (bl0 _) _) hb | exact bl_tr (bl_dr (bl_al (bl0 _) _)) hb | exact bl_tr (bl_al (bl_al (bl0 _) _) _) hb | exact bl_tr (bl_dr (bl_al (bl_al (bl0 _) _) _)) hb | exact bl_tr (bl_al (bl_al (bl_al (bl0 _) _) _) _) hb | exact bl_tr (bl_dr (bl_al (bl_al (bl_al (bl0 _) _) _) _)) hb | exact bl_tr (bl_al (bl_al (bl_al (bl_al (bl0 _) _) _) _) _) hb | exact bl_tr (bl_dr (bl_al (bl_al (bl_al (bl_al (bl0 _) _) _) _) _)) hb | exact bl_tr (bl_al (bl_al (bl_al (bl_al (bl_al (bl0 _) _) _) _) _) _) hb | exact bl_tr (bl_dr (bl_al (bl_al (bl_al (bl_al (bl_al (bl0 _) _) _) _) _) _)) hb | exact bl_tr (bl_al (bl_al (bl_al (bl_al (bl_al (bl_al (bl0 _) _) _) _) _) _) _) hb | exact bl_tr (bl_dr (bl_al (bl_al (bl_al (bl_al (bl_al (bl_al (bl0 _) _) _) _) _) _) _)) hb | exact bl_tr (bl_dr (bl0 _)) hb
      replace hA := bl_tr hA hk
      replace hgr := hgr.below hk
      replace hr' := hr'.below hk
      replace hq := hq.below hk
      replace a0' := cell_later hk a0'
      replace a1' := cell_later hk a1'
      replace a2' := cell_later hk a2'
      replace b0' := cell_later hk b0'
      replace b1' := cell_later hk b1'
      replace b2' := cell_later hk b2'
      replace e0' := cell_later hk e0'
      replace e1' := cell_later hk e1'
      replace e2' := cell_later hk e2'
      clear hb hk
      have za0' := blk_lt a0'
      have za1' := blk_lt a1'
      have za2' := blk_lt a2'
      have zb0' := blk_lt b0'
      have zb1' := blk_lt b1'
      have zb2' := blk_lt b2'
      have ze0' := blk_lt e0'
      have ze1' := blk_lt e1'
      have ze2' := blk_lt e2'
      have hlt5 := hown.lt h2 rfl
      have hgl2 := hgr.lt
      obtain ⟨B2, hB2⟩ : ∃ B2, wr.heap.size = B2 := ⟨_, rfl⟩
      have hlr := HG.out.lt
      have hgz : g < B2 ∧ h < B2 := by rw [← hB2]; exact hgz0
      have hwz : w.heap.size + 3 ≤ B2 := by rw [← hB2]; exact hwz0
      rw [hB2] at hown
      go_wp2_with fail
      refine (same_yes X Y _ _ _ _ ys ys _ ((row_of hown).below (bl_al (bl0 _) _)) (hq.below (bl_al (bl0 _) _)) (by omega)).mono ?_
      rintro e w6 ⟨rfl, hb⟩
      have hk : Below w5.heap.size w5 w6 := by first | exact hb | exact bl_tr (bl_al (bl0 _) _) hb | exact bl_tr (bl_dr (bl_al (bl0 _) _)) hb | exact bl_tr (bl_al (bl_al (bl0 _) _) _) hb | exact bl_tr (bl_dr (bl_al (bl_al (bl0 _) _) _)) hb | exact bl_tr (bl_al (bl_al (bl_al (bl0 _) _) _) _) hb | exact bl_tr (bl_dr (bl_al (bl_al (bl_al (bl0 _) _) _) _)) hb | exact bl_tr (bl_al (bl_al (bl_al (bl_al (bl0 _) _) _) _) _) hb | exact bl_tr (bl_dr (bl_al (bl_al (bl_al (bl_al (bl0 _) _) _) _) _)) hb | exact bl_tr (bl_al (bl_al (bl_al (bl_al (bl_al (bl0 _) _) _) _) _) _) hb | exact bl_tr (bl_dr (bl_al (bl_al (bl_al (bl_al (bl_al (bl0 _) _) _) _) _) _)) hb | exact bl_tr (bl_al (bl_al (bl_al (bl_al (bl_al (bl_al (bl0 _) _) _) _) _) _) _) hb | exact bl_tr (bl_dr (bl_al (bl_al (bl_al (bl_al (bl_al (bl_al (bl0 _) _) _) _) _) _) _)) hb | exact bl_tr (bl_dr (bl0 _)) hb
      replace hA := bl_tr hA hk
      replace hgr := hgr.below hk
      replace hr' := hr'.below hk
      replace hq := hq.below hk
      replace a0' := cell_later hk a0'
      replace a1' := cell_later hk a1'
      replace a2' := cell_later hk a2'
      replace b0' := cell_later hk b0'
      replace b1' := cell_later hk b1'
      replace b2' := cell_later hk b2'
      replace e0' := cell_later hk e0'
      replace e1' := cell_later hk e1'
      replace e2' := cell_later hk e2'
      replace hown := own_later hown hk
      have t0 := cell_later hb (v := .int .i64 X) (a := ⟨w5.heap.size, 0, none⟩) (by simp [go_sem])
      have t1 := cell_later hb (v := .int .i64 Y) (a := ⟨w5.heap.size, 1, none⟩) (by simp [go_sem])
      have t2 := cell_later hb (v := .slice (some ⟨h2, 0, none⟩) ys.length cap2) (a := ⟨w5.heap.size, 2, none⟩) (by simp [go_sem])
      clear hb hk
      have za0' := blk_lt a0'
      have za1' := blk_lt a1'
      have za2' := blk_lt a2'
      have zb0' := blk_lt b0'
      have zb1' := blk_lt b1'
      have zb2' := blk_lt b2'
      have ze0' := blk_lt e0'
      have ze1' := blk_lt e1'
      have ze2' := blk_lt e2'
      have zt0 := blk_lt t0
      have zt1 := blk_lt t1
      have zt2 := blk_lt t2
      rw [show decide (ys = ys) = true from decide_eq_true rfl]
      obtain ⟨sv, hsv⟩ : ∃ sv, decide (xs = ys) = sv := ⟨_, rfl⟩
      have heq : (((turnF X xs ys).length : Int) == 0) = sv := by
        rw [← hsv]
        have hh := turnF_nil (X := X) HL.out
        by_cases he : xs = ys
        · rw [decide_eq_true he, hh.2 he]
          rfl
        · rw [decide_eq_false he, beq_eq_false_iff_ne]
          intro e
          exact he (hh.1 (by omega))
      have HSV := Lib.hid hsv
      have hbs := bsame sv
      have hbi := bne_self_eq_false ((turnF X xs ys).length : Int)
      clear hsv
      go_wp2_with fail
      refine (edits_any _ g h cap X Y _ _ _ hgr).mono ?_
      rintro e w7 ⟨rfl, rfl⟩
      go_wp2_with fail
      refine (same_yes X Y _ _ _ _ xs ys _ hr' hq (by omega)).mono ?_
      rintro e w8 ⟨rfl, hb⟩
      have hk : Below w7.heap.size w7 w8 := by first | exact hb | exact bl_tr (bl_al (bl0 _) _) hb | exact bl_tr (bl_dr (bl_al (bl0 _) _)) hb | exact bl_tr (bl_al (bl_al (bl0 _) _) _) hb | exact bl_tr (bl_dr (bl_al (bl_al (bl0 _) _) _)) hb | exact bl_tr (bl_al (bl_al (bl_al (bl0 _) _) _) _) hb | exact bl_tr (bl_dr (bl_al (bl_al (bl_al (bl0 _) _) _) _)) hb | exact bl_tr (bl_al (bl_al (bl_al (bl_al (bl0 _) _) _) _) _) hb | exact bl_tr (bl_dr (bl_al (bl_al (bl_al (bl_al (bl0 _) _) _) _) _)) hb | exact bl_tr (bl_al (bl_al (bl_al (bl_al (bl_al (bl0 _) _) _) _) _) _) hb | exact bl_tr (bl_dr (bl_al (bl_al (bl_al (bl_al (bl_al (bl0 _) _) _) _) _) _)) hb | exact bl_tr (bl_al (bl_al (bl_al (bl_al (bl_al (bl_al (bl0 _) _) _) _) _) _) _) hb | exact bl_tr (bl_dr (bl_al (bl_al (bl_al (bl_al (bl_al (bl_al (bl0 _) _) _) _) _) _) _)) hb | exact bl_tr (bl_dr (bl0 _)) hb
      replace hA := bl_tr hA hk
      replace hgr := hgr.below hk
      replace hr' := hr'.below hk
      replace hq := hq.below hk
      replace a0' := cell_later hk a0'
      replace a1' := cell_later hk a1'
      replace a2' := cell_later hk a2'
      replace b0' := cell_later hk b0'
      replace b1' := cell_later hk b1'
      replace b2' := cell_later hk b2'
      replace e0' := cell_later hk e0'
      replace e1' := cell_later hk e1'
      replace e2' := cell_later hk e2'
      replace hown := own_later hown hk
      replace t0 := cell_later hk t0
      replace t1 := cell_later hk t1
      replace t2 := cell_later hk t2
      clear hb hk
      have za0' := blk_lt a0'
      have za1' := blk_lt a1'
      have za2' := blk_lt a2'
      have zb0' := blk_lt b0'
      have zb1' := blk_lt b1'
      have zb2' := blk_lt b2'
      have ze0' := blk_lt e0'
      have ze1' := blk_lt e1'
      have ze2' := blk_lt e2'
      have zt0 := blk_lt t0
      have zt1 := blk_lt t1
      have zt2 := blk_lt t2
      rw [HSV.out]
      have HA8 := Lib.hid hA
      have HGR := Lib.hid hgr
      have HOW := Lib.hid hown
      have zt := blk_lt t2
      clear hgr hown
      go_wp2
      go_loopw [15] (fun i wx => ∃ k : Nat, ∃ zs2 : List Int, k ≤ ys.length ∧ zs2.length = ys.length ∧ i = .int .i64 k ∧ wx.ownsRow B2 38 1 (.slice (some ⟨h2, 0, none⟩) ys.length cap2) ys.length (cellsH zs2) ∧ Kept2 h2 h2 w8 wx) (fun i _ => ys.length - (intOf i).toNat)
      case atStart => exact ⟨0, ys, Nat.zero_le _, rfl, rfl, HOW.out, Kept2.of_below (bl0 _)⟩
      case round =>
        obtain ⟨k, zs2, hk2, hz2, rfl, hown, hKp⟩ := hrel
        have t2' := hKp.cell t2 (by omega) (by omega)
        by_cases hlt2 : k < ys.length
        · have hlt3 : (k : Int) < (ys.length : Int) := by omega
          have hk0 : (0 : Int) ≤ (k : Int) := by omega
          obtain ⟨z, hz⟩ : ∃ z, (cellsH zs2)[k]? = some (.int .u16 z) := ⟨zs2[k], by simp [cellsH, hz2, hlt2]⟩
          have q := hown.cellAt k (by omega)
          rw [hz] at q
          have hf := hown.frozenAt k
          obtain ⟨hst, _⟩ := hown.stored k (.int .u16 77)
          rw [show (cellsH zs2).set k (.int .u16 77) = cellsH (zs2.set k 77) by simp [cellsH, List.map_set]] at hst
          have HST := Lib.hid hst
          have HKK := Lib.hid (hKp.trans (Kept2.st (g := h2) (h := h2) (o := k) (.int .u16 77)))
          clear hst hown hKp hz t2
          go_wp2
          go_roundw
          case rel => exact ⟨k + 1, zs2.set k 77, by omega, by rw [List.length_set]; exact hz2, by go_num, HST.out, HKK.out⟩
          case measure => simp [intOf]; omega
        · obtain rfl : k = ys.length := by omega
          have hge2 : (ys.length : Int) ≤ (ys.length : Int) := Int.le_refl _
          have hgr := HGR.out.kept2 hKp (by omega) (by omega) (by omega) (by omega)
          have hA9 : Below w.heap.size w wr := HA8.out.trans (hKp.below HA8.out.size (by omega) (by omega))
          have hq9 := hr2.below hA9
          replace b0' := hKp.cell b0' (by omega) (by omega)
          replace b1' := hKp.cell b1' (by omega) (by omega)
          replace b2' := hKp.cell b2' (by omega) (by omega)
          replace e0' := hKp.cell e0' (by omega) (by omega)
          replace e1' := hKp.cell e1' (by omega) (by omega)
          replace e2' := hKp.cell e2' (by omega) (by omega)
          clear hge hown hKp hq hr' a0' a1' a2' t0 t1
          go_wp2_with fail
          have hB := bl_dr (bl0 wr)
          go_region_held3 (fun W => W.cell? ⟨w.heap.size + 1, 0, none⟩ = some (.int .i64 X) ∧ W.cell? ⟨w.heap.size + 1, 1, none⟩ = some (.int .i64 Y) ∧ W.cell? ⟨w.heap.size + 1, 2, none⟩ = some (.slice b ys.length d))
            (exact ⟨cell_later hB b0', cell_later hB b1', cell_later hB b2'⟩)
            (first
              | (go_at_call 16; refine (field_any _ g h cap X Y ys _ _ (hgr.below hB) hyn (by omega)).mono ?_; rintro e W2 ⟨h3, cap3, rfl, hown3, hb⟩; replace hB := bl_tr hB hb; clear hb)
              | (go_at_call 23; refine (same_yes X Y (some ⟨h3, 0, none⟩) b cap3 d ys ys _ (row_of hown3) (hq9.below hB) (by omega)).mono ?_; rintro e W3 ⟨rfl, hb⟩; rw [show decide (ys = ys) = true from decide_eq_true rfl]; replace hB := bl_tr hB hb; clear hb))
          all_goals
            replace hA9 := bl_tr hA9 hB
            replace b0' := cell_later hB b0'
            replace b1' := cell_later hB b1'
            replace b2' := cell_later hB b2'
            replace e0' := cell_later hB e0'
            replace e1' := cell_later hB e1'
            replace e2' := cell_later hB e2'
            replace hgr := hgr.below hB
            clear hB hown3 hq9 t2'
            go_wp2_with fail
            refine (edit_all _ g h cap X Y x y n ys _ _ hgr hin2 HY.out (by omega) (by omega)).mono ?_
            rintro e W4 ⟨r, q, zs2, k2, rfl, hzl, hT, hgr4, hk4⟩
            replace b0' := hk4.cell b0' (by omega) (by omega)
            replace b1' := hk4.cell b1' (by omega) (by omega)
            replace b2' := hk4.cell b2' (by omega) (by omega)
            replace e0' := hk4.cell e0' (by omega) (by omega)
            replace e1' := hk4.cell e1' (by omega) (by omega)
            have hA10 : Below w.heap.size w W4 := hA9.trans (hk4.below hA9.size (by omega) (by omega))
            have hq10 := hr2.below hA10
            have hz0 : zs2 ≠ [] := by
              intro e
              rw [e] at hzl
              exact hyn (List.eq_nil_of_length_eq_zero hzl.symm)
            have HZ := Lib.hid (show chkF X Y zs2.length = 0 by rw [hzl]; exact HY.out)
            have HT := Lib.hid hT
            have hz1 : zs2.length ≤ 1048576 := by omega
            clear hk4 e2' hgr hT hzl
            go_wp2_with fail
            have hB := bl_dr (bl0 W4)
            go_region_held3 (fun W => W.cell? ⟨w.heap.size + 1, 0, none⟩ = some (.int .i64 X) ∧ W.cell? ⟨w.heap.size + 1, 1, none⟩ = some (.int .i64 Y) ∧ W.cell? ⟨w.heap.size + 1, 2, none⟩ = some (.slice b ys.length d))
              (exact ⟨cell_later hB b0', cell_later hB b1', cell_later hB b2'⟩)
              (first
                | (go_at_call 16; refine (field_any _ g h cap X Y zs2 _ _ (hgr4.below hB) hz0 hz1).mono ?_; rintro e W5 ⟨h4, cap4, rfl, hown4, hb⟩; replace hB := bl_tr hB hb; clear hb)
                | (go_at_call 24; refine (turned_yes X Y b (some ⟨h4, 0, none⟩) d cap4 ys zs2 _ (hq10.below hB) (row_of hown4) HY.out HZ.out).mono ?_; rintro e W6 ⟨tv2, tcap2, rfl, hrow2, hb⟩; replace hB := bl_tr hB hb; clear hb))
            all_goals
              have hA11 := bl_tr hA10 hB
              replace e0' := cell_later hB e0'
              replace e1' := cell_later hB e1'
              clear hB b0' b1' b2' hown4 hq10 hgr4 hA10 hA9
              rcases HT.out with hT | ⟨hT, rfl⟩
              · rw [hT, List.length_nil]
                clear hrow2
                go_wp2_with fail
                have hB2 := bl_dr (bl0 W6)
                refine (wpIn_wide (n := 11)).1 ?_
                refine ordS_begin (S := (fun _ => True)) (by kernel_rfl) trivial (fun hH => ?_)
                first
                  | (refine' ordS_take (i := 0) (oi := { dst := some 146, op := Op.move (Operand.tmp 10), type := 33, pos := _, after := #[], guard := none }) (v := _) rfl (by kernel_rfl) (by kernel_rfl) (by kernel_rfl) (by kernel_rfl) (fun _ _ _ h => h) (by assumption) (Or.inl ⟨by rfl, ?hy1⟩) (fun _ => rfl) ?rest1
                     case hy1 => (intro w hSw; (try dsimp only at hSw); go_simp; try with_reducible rfl))
                  | (refine ordS_take (i := 0) (oi := { dst := some 146, op := Op.move (Operand.tmp 10), type := 33, pos := _, after := #[], guard := none }) (v := undef) rfl (by kernel_rfl) (by kernel_rfl) (by kernel_rfl) (by kernel_rfl) (fun _ _ _ h => h) (by assumption) (Or.inr ⟨by rfl, rfl⟩) (fun _ => rfl) ?_)
                try simp only [Act.put, List.setIfInBounds_toArray, List.set_cons_zero, List.set_cons_succ]
                first
                  | (refine' ordS_take (i := 1) (oi := { dst := some 147, op := Op.binOp BinOp.eql 33 (Operand.tmp 146) (Operand.const (Value.int IntKind.i64 0)) 33, type := 4, pos := _, after := #[{ on := 0, ground := Ground.data }], guard := none }) (v := _) rfl (by kernel_rfl) (by kernel_rfl) (by kernel_rfl) (by kernel_rfl) (fun _ _ _ h => h) (by assumption) (Or.inl ⟨by rfl, ?hy2⟩) (fun _ => rfl) ?rest2
                     case hy2 => (intro w hSw; (try dsimp only at hSw); go_simp; try with_reducible rfl))
                  | (refine ordS_take (i := 1) (oi := { dst := some 147, op := Op.binOp BinOp.eql 33 (Operand.tmp 146) (Operand.const (Value.int IntKind.i64 0)) 33, type := 4, pos := _, after := #[{ on := 0, ground := Ground.data }], guard := none }) (v := undef) rfl (by kernel_rfl) (by kernel_rfl) (by kernel_rfl) (by kernel_rfl) (fun _ _ _ h => h) (by assumption) (Or.inr ⟨by rfl, rfl⟩) (fun _ => rfl) ?_)
                try simp only [Act.put, List.setIfInBounds_toArray, List.set_cons_zero, List.set_cons_succ]
                first
                  | (refine' ordS_take (i := 2) (oi := { dst := some 148, op := Op.move (Operand.tmp 147), type := 4, pos := _, after := #[{ on := 1, ground := Ground.data }], guard := none }) (v := _) rfl (by kernel_rfl) (by kernel_rfl) (by kernel_rfl) (by kernel_rfl) (fun _ _ _ h => h) (by assumption) (Or.inl ⟨by rfl, ?hy3⟩) (fun _ => rfl) ?rest3
                     case hy3 => (intro w hSw; (try dsimp only at hSw); go_simp; try with_reducible rfl))
                  | (refine ordS_take (i := 2) (oi := { dst := some 148, op := Op.move (Operand.tmp 147), type := 4, pos := _, after := #[{ on := 1, ground := Ground.data }], guard := none }) (v := undef) rfl (by kernel_rfl) (by kernel_rfl) (by kernel_rfl) (by kernel_rfl) (fun _ _ _ h => h) (by assumption) (Or.inr ⟨by rfl, rfl⟩) (fun _ => rfl) ?_)
                try simp only [Act.put, List.setIfInBounds_toArray, List.set_cons_zero, List.set_cons_succ]
                first
                  | (refine' ordS_take (i := 3) (oi := { dst := some 149, op := Op.move (Operand.tmp 18), type := 56, pos := _, after := #[{ on := 2, ground := Ground.guard }], guard := some (2, true) }) (v := _) rfl (by kernel_rfl) (by kernel_rfl) (by kernel_rfl) (by kernel_rfl) (fun _ _ _ h => h) (by assumption) (Or.inl ⟨by rfl, ?hy4⟩) (fun _ => rfl) ?rest4
                     case hy4 => (intro w hSw; (try dsimp only at hSw); go_simp; try with_reducible rfl))
                  | (refine ordS_take (i := 3) (oi := { dst := some 149, op := Op.move (Operand.tmp 18), type := 56, pos := _, after := #[{ on := 2, ground := Ground.guard }], guard := some (2, true) }) (v := undef) rfl (by kernel_rfl) (by kernel_rfl) (by kernel_rfl) (by kernel_rfl) (fun _ _ _ h => h) (by assumption) (Or.inr ⟨by rfl, rfl⟩) (fun _ => rfl) ?_)
                try simp only [Act.put, List.setIfInBounds_toArray, List.set_cons_zero, List.set_cons_succ]
                first
                  | (refine' ordS_take (i := 4) (oi := { dst := some 150, op := Op.call { callee := Callee.builtin Builtin.len, args := #[Operand.tmp 149], argTypes := #[56] }, type := 3, pos := _, after := #[{ on := 3, ground := Ground.data }, { on := 2, ground := Ground.guard }], guard := some (2, true) }) (v := _) rfl (by kernel_rfl) (by kernel_rfl) (by kernel_rfl) (by kernel_rfl) (fun _ _ _ h => h) (by assumption) (Or.inl ⟨by rfl, ?hy5⟩) (fun _ => rfl) ?rest5
                     case hy5 => (intro w hSw; (try dsimp only at hSw); go_simp; try with_reducible rfl))
                  | (refine ordS_take (i := 4) (oi := { dst := some 150, op := Op.call { callee := Callee.builtin Builtin.len, args := #[Operand.tmp 149], argTypes := #[56] }, type := 3, pos := _, after := #[{ on := 3, ground := Ground.data }, { on := 2, ground := Ground.guard }], guard := some (2, true) }) (v := undef) rfl (by kernel_rfl) (by kernel_rfl) (by kernel_rfl) (by kernel_rfl) (fun _ _ _ h => h) (by assumption) (Or.inr ⟨by rfl, rfl⟩) (fun _ => rfl) ?_)
                try simp only [Act.put, List.setIfInBounds_toArray, List.set_cons_zero, List.set_cons_succ]
                first
                  | (refine' ordS_take (i := 5) (oi := { dst := some 151, op := Op.binOp BinOp.leq 3 (Operand.tmp 150) (Operand.const (Value.int IntKind.i64 1)) 3, type := 4, pos := _, after := #[{ on := 4, ground := Ground.data }, { on := 2, ground := Ground.guard }], guard := some (2, true) }) (v := _) rfl (by kernel_rfl) (by kernel_rfl) (by kernel_rfl) (by kernel_rfl) (fun _ _ _ h => h) (by assumption) (Or.inl ⟨by rfl, ?hy6⟩) (fun _ => rfl) ?rest6
                     case hy6 => (intro w hSw; (try dsimp only at hSw); go_simp; try with_reducible rfl))
                  | (refine ordS_take (i := 5) (oi := { dst := some 151, op := Op.binOp BinOp.leq 3 (Operand.tmp 150) (Operand.const (Value.int IntKind.i64 1)) 3, type := 4, pos := _, after := #[{ on := 4, ground := Ground.data }, { on := 2, ground := Ground.guard }], guard := some (2, true) }) (v := undef) rfl (by kernel_rfl) (by kernel_rfl) (by kernel_rfl) (by kernel_rfl) (fun _ _ _ h => h) (by assumption) (Or.inr ⟨by rfl, rfl⟩) (fun _ => rfl) ?_)
                try simp only [Act.put, List.setIfInBounds_toArray, List.set_cons_zero, List.set_cons_succ]
                first
                  | (refine' ordS_take (i := 6) (oi := { dst := some 152, op := Op.pick (Operand.tmp 148) (Operand.tmp 151) (Operand.const (Value.bool false)), type := 4, pos := _, after := #[{ on := 2, ground := Ground.data }, { on := 5, ground := Ground.data }], guard := none }) (v := _) rfl (by kernel_rfl) (by kernel_rfl) (by kernel_rfl) (by kernel_rfl) (fun _ _ _ h => h) (by assumption) (Or.inl ⟨by rfl, ?hy7⟩) (fun _ => rfl) ?rest7
                     case hy7 => (intro w hSw; (try dsimp only at hSw); go_simp; try with_reducible rfl))
                  | (refine ordS_take (i := 6) (oi := { dst := some 152, op := Op.pick (Operand.tmp 148) (Operand.tmp 151) (Operand.const (Value.bool false)), type := 4, pos := _, after := #[{ on := 2, ground := Ground.data }, { on := 5, ground := Ground.data }], guard := none }) (v := undef) rfl (by kernel_rfl) (by kernel_rfl) (by kernel_rfl) (by kernel_rfl) (fun _ _ _ h => h) (by assumption) (Or.inr ⟨by rfl, rfl⟩) (fun _ => rfl) ?_)
                try simp only [Act.put, List.setIfInBounds_toArray, List.set_cons_zero, List.set_cons_succ]
                first
                  | (refine' ordS_take (i := 7) (oi := { dst := some 153, op := Op.move (Operand.tmp 152), type := 4, pos := _, after := #[{ on := 6, ground := Ground.data }, { on := 2, ground := Ground.chain }], guard := none }) (v := _) rfl (by kernel_rfl) (by kernel_rfl) (by kernel_rfl) (by kernel_rfl) (fun _ _ _ h => h) (by assumption) (Or.inl ⟨by rfl, ?hy8⟩) (fun _ => rfl) ?rest8
                     case hy8 => (intro w hSw; (try dsimp only at hSw); go_simp; try with_reducible rfl))
                  | (refine ordS_take (i := 7) (oi := { dst := some 153, op := Op.move (Operand.tmp 152), type := 4, pos := _, after := #[{ on := 6, ground := Ground.data }, { on := 2, ground := Ground.chain }], guard := none }) (v := undef) rfl (by kernel_rfl) (by kernel_rfl) (by kernel_rfl) (by kernel_rfl) (fun _ _ _ h => h) (by assumption) (Or.inr ⟨by rfl, rfl⟩) (fun _ => rfl) ?_)
                try simp only [Act.put, List.setIfInBounds_toArray, List.set_cons_zero, List.set_cons_succ]
                first
                  | (refine' ordS_take (i := 8) (oi := { dst := some 154, op := Op.move (Operand.tmp 18), type := 56, pos := _, after := #[{ on := 7, ground := Ground.guard }], guard := some (7, true) }) (v := _) rfl (by kernel_rfl) (by kernel_rfl) (by kernel_rfl) (by kernel_rfl) (fun _ _ _ h => h) (by assumption) (Or.inl ⟨by rfl, ?hy9⟩) (fun _ => rfl) ?rest9
                     case hy9 => (intro w hSw; (try dsimp only at hSw); go_simp; try with_reducible rfl))
                  | (refine ordS_take (i := 8) (oi := { dst := some 154, op := Op.move (Operand.tmp 18), type := 56, pos := _, after := #[{ on := 7, ground := Ground.guard }], guard := some (7, true) }) (v := undef) rfl (by kernel_rfl) (by kernel_rfl) (by kernel_rfl) (by kernel_rfl) (fun _ _ _ h => h) (by assumption) (Or.inr ⟨by rfl, rfl⟩) (fun _ => rfl) ?_)
                try simp only [Act.put, List.setIfInBounds_toArray, List.set_cons_zero, List.set_cons_succ]
                first
                  | (refine' ordS_take (i := 9) (oi := { dst := some 155, op := Op.call { callee := Callee.builtin Builtin.len, args := #[Operand.tmp 154], argTypes := #[56] }, type := 3, pos := _, after := #[{ on := 8, ground := Ground.data }, { on := 7, ground := Ground.guard }], guard := some (7, true) }) (v := _) rfl (by kernel_rfl) (by kernel_rfl) (by kernel_rfl) (by kernel_rfl) (fun _ _ _ h => h) (by assumption) (Or.inl ⟨by rfl, ?hy10⟩) (fun _ => rfl) ?rest10
                     case hy10 => (intro w hSw; (try dsimp only at hSw); go_simp; try with_reducible rfl))
                  | (refine ordS_take (i := 9) (oi := { dst := some 155, op := Op.call { callee := Callee.builtin Builtin.len, args := #[Operand.tmp 154], argTypes := #[56] }, type := 3, pos := _, after := #[{ on := 8, ground := Ground.data }, { on := 7, ground := Ground.guard }], guard := some (7, true) }) (v := undef) rfl (by kernel_rfl) (by kernel_rfl) (by kernel_rfl) (by kernel_rfl) (fun _ _ _ h => h) (by assumption) (Or.inr ⟨by rfl, rfl⟩) (fun _ => rfl) ?_)
                try simp only [Act.put, List.setIfInBounds_toArray, List.set_cons_zero, List.set_cons_succ]
                first
                  | (refine' ordS_take (i := 10) (oi := { dst := some 156, op := Op.binOp BinOp.eql 3 (Operand.tmp 155) (Operand.const (Value.int IntKind.i64 0)) 3, type := 4, pos := _, after := #[{ on := 9, ground := Ground.data }, { on := 7, ground := Ground.guard }], guard := some (7, true) }) (v := _) rfl (by kernel_rfl) (by kernel_rfl) (by kernel_rfl) (by kernel_rfl) (fun _ _ _ h => h) (by assumption) (Or.inl ⟨by rfl, ?hy11⟩) (fun _ => rfl) ?rest11
                     case hy11 => (intro w hSw; (try dsimp only at hSw); go_simp; try with_reducible rfl))
                  | (refine ordS_take (i := 10) (oi := { dst := some 156, op := Op.binOp BinOp.eql 3 (Operand.tmp 155) (Operand.const (Value.int IntKind.i64 0)) 3, type := 4, pos := _, after := #[{ on := 9, ground := Ground.data }, { on := 7, ground := Ground.guard }], guard := some (7, true) }) (v := undef) rfl (by kernel_rfl) (by kernel_rfl) (by kernel_rfl) (by kernel_rfl) (fun _ _ _ h => h) (by assumption) (Or.inr ⟨by rfl, rfl⟩) (fun _ => rfl) ?_)
                try simp only [Act.put, List.setIfInBounds_toArray, List.set_cons_zero, List.set_cons_succ]
                first
                  | (refine' ordS_take (i := 11) (oi := { dst := some 157, op := Op.move (Operand.tmp 156), type := 4, pos := _, after := #[{ on := 10, ground := Ground.data }, { on := 7, ground := Ground.chain }, { on := 7, ground := Ground.guard }], guard := some (7, true) }) (v := _) rfl (by kernel_rfl) (by kernel_rfl) (by kernel_rfl) (by kernel_rfl) (fun _ _ _ h => h) (by assumption) (Or.inl ⟨by rfl, ?hy12⟩) (fun _ => rfl) ?rest12
                     case hy12 => (intro w hSw; (try dsimp only at hSw); go_simp; try with_reducible rfl))
                  | (refine ordS_take (i := 11) (oi := { dst := some 157, op := Op.move (Operand.tmp 156), type := 4, pos := _, after := #[{ on := 10, ground := Ground.data }, { on := 7, ground := Ground.chain }, { on := 7, ground := Ground.guard }], guard := some (7, true) }) (v := undef) rfl (by kernel_rfl) (by kernel_rfl) (by kernel_rfl) (by kernel_rfl) (fun _ _ _ h => h) (by assumption) (Or.inr ⟨by rfl, rfl⟩) (fun _ => rfl) ?_)
                try simp only [Act.put, List.setIfInBounds_toArray, List.set_cons_zero, List.set_cons_succ]
                first
                  | (refine' ordS_take (i := 12) (oi := { dst := some 158, op := Op.move (Operand.tmp 17), type := 33, pos := _, after := #[{ on := 11, ground := Ground.guard }], guard := some (11, false) }) (v := _) rfl (by kernel_rfl) (by kernel_rfl) (by kernel_rfl) (by kernel_rfl) (fun _ _ _ h => h) (by assumption) (Or.inl ⟨by rfl, ?hy13⟩) (fun _ => rfl) ?rest13
                     case hy13 => (intro w hSw; (try dsimp only at hSw); go_simp; try with_reducible rfl))
                  | (refine ordS_take (i := 12) (oi := { dst := some 158, op := Op.move (Operand.tmp 17), type := 33, pos := _, after := #[{ on := 11, ground := Ground.guard }], guard := some (11, false) }) (v := undef) rfl (by kernel_rfl) (by kernel_rfl) (by kernel_rfl) (by kernel_rfl) (fun _ _ _ h => h) (by assumption) (Or.inr ⟨by rfl, rfl⟩) (fun _ => rfl) ?_)
                try simp only [Act.put, List.setIfInBounds_toArray, List.set_cons_zero, List.set_cons_succ]
                first
                  | (refine' ordS_take (i := 13) (oi := { dst := some 159, op := Op.binOp BinOp.eql 33 (Operand.tmp 158) (Operand.const (Value.int IntKind.i64 0)) 33, type := 4, pos := _, after := #[{ on := 12, ground := Ground.data }, { on := 11, ground := Ground.guard }], guard := some (11, false) }) (v := _) rfl (by kernel_rfl) (by kernel_rfl) (by kernel_rfl) (by kernel_rfl) (fun _ _ _ h => h) (by assumption) (Or.inl ⟨by rfl, ?hy14⟩) (fun _ => rfl) ?rest14
                     case hy14 => (intro w hSw; (try dsimp only at hSw); go_simp; try with_reducible rfl))
                  | (refine ordS_take (i := 13) (oi := { dst := some 159, op := Op.binOp BinOp.eql 33 (Operand.tmp 158) (Operand.const (Value.int IntKind.i64 0)) 33, type := 4, pos := _, after := #[{ on := 12, ground := Ground.data }, { on := 11, ground := Ground.guard }], guard := some (11, false) }) (v := undef) rfl (by kernel_rfl) (by kernel_rfl) (by kernel_rfl) (by kernel_rfl) (fun _ _ _ h => h) (by assumption) (Or.inr ⟨by rfl, rfl⟩) (fun _ => rfl) ?_)
                try simp only [Act.put, List.setIfInBounds_toArray, List.set_cons_zero, List.set_cons_succ]
                first
                  | (refine' ordS_take (i := 14) (oi := { dst := some 160, op := Op.move (Operand.tmp 159), type := 4, pos := _, after := #[{ on := 13, ground := Ground.data }, { on := 11, ground := Ground.chain }, { on := 11, ground := Ground.guard }], guard := some (11, false) }) (v := _) rfl (by kernel_rfl) (by kernel_rfl) (by kernel_rfl) (by kernel_rfl) (fun _ _ _ h => h) (by assumption) (Or.inl ⟨by rfl, ?hy15⟩) (fun _ => rfl) ?rest15
                     case hy15 => (intro w hSw; (try dsimp only at hSw); go_simp; try with_reducible rfl))
                  | (refine ordS_take (i := 14) (oi := { dst := some 160, op := Op.move (Operand.tmp 159), type := 4, pos := _, after := #[{ on := 13, ground := Ground.data }, { on := 11, ground := Ground.chain }, { on := 11, ground := Ground.guard }], guard := some (11, false) }) (v := undef) rfl (by kernel_rfl) (by kernel_rfl) (by kernel_rfl) (by kernel_rfl) (fun _ _ _ h => h) (by assumption) (Or.inr ⟨by rfl, rfl⟩) (fun _ => rfl) ?_)
                try simp only [Act.put, List.setIfInBounds_toArray, List.set_cons_zero, List.set_cons_succ]
                first
                  | (refine' ordS_take (i := 15) (oi := { dst := some 161, op := Op.move (Operand.tmp 18), type := 56, pos := _, after := #[{ on := 14, ground := Ground.guard }], guard := some (14, true) }) (v := _) rfl (by kernel_rfl) (by kernel_rfl) (by kernel_rfl) (by kernel_rfl) (fun _ _ _ h => h) (by assumption) (Or.inl ⟨by rfl, ?hy16⟩) (fun _ => rfl) ?rest16
                     case hy16 => (intro w hSw; (try dsimp only at hSw); go_simp; try with_reducible rfl))
                  | (refine ordS_take (i := 15) (oi := { dst := some 161, op := Op.move (Operand.tmp 18), type := 56, pos := _, after := #[{ on := 14, ground := Ground.guard }], guard := some (14, true) }) (v := undef) rfl (by kernel_rfl) (by kernel_rfl) (by kernel_rfl) (by kernel_rfl) (fun _ _ _ h => h) (by assumption) (Or.inr ⟨by rfl, rfl⟩) (fun _ => rfl) ?_)
                try simp only [Act.put, List.setIfInBounds_toArray, List.set_cons_zero, List.set_cons_succ]
                first
                  | (refine' ordS_take (i := 16) (oi := { dst := some 162, op := Op.indexAddr 56 (Operand.tmp 161) (Operand.const (Value.int IntKind.i64 0)), type := 0, pos := _, after := #[{ on := 15, ground := Ground.data }, { on := 14, ground := Ground.guard }], guard := some (14, true) }) (v := _) rfl (by kernel_rfl) (by kernel_rfl) (by kernel_rfl) (by kernel_rfl) (fun _ _ _ h => h) (by assumption) (Or.inl ⟨by rfl, ?hy17⟩) (fun _ => rfl) ?rest17
                     case hy17 => (intro w hSw; (try dsimp only at hSw); go_simp; try with_reducible rfl))
                  | (refine ordS_take (i := 16) (oi := { dst := some 162, op := Op.indexAddr 56 (Operand.tmp 161) (Operand.const (Value.int IntKind.i64 0)), type := 0, pos := _, after := #[{ on := 15, ground := Ground.data }, { on := 14, ground := Ground.guard }], guard := some (14, true) }) (v := undef) rfl (by kernel_rfl) (by kernel_rfl) (by kernel_rfl) (by kernel_rfl) (fun _ _ _ h => h) (by assumption) (Or.inr ⟨by rfl, rfl⟩) (fun _ => rfl) ?_)
                try simp only [Act.put, List.setIfInBounds_toArray, List.set_cons_zero, List.set_cons_succ]
                first
                  | (refine' ordS_take (i := 17) (oi := { dst := some 163, op := Op.load 29 (Operand.tmp 162), type := 29, pos := _, after := #[{ on := 16, ground := Ground.data }, { on := 14, ground := Ground.guard }], guard := some (14, true) }) (v := _) rfl (by kernel_rfl) (by kernel_rfl) (by kernel_rfl) (by kernel_rfl) (fun _ _ _ h => h) (by assumption) (Or.inl ⟨by rfl, ?hy18⟩) (fun _ => rfl) ?rest18
                     case hy18 => (intro w hSw; (try dsimp only at hSw); go_simp; try with_reducible rfl))
                  | (refine ordS_take (i := 17) (oi := { dst := some 163, op := Op.load 29 (Operand.tmp 162), type := 29, pos := _, after := #[{ on := 16, ground := Ground.data }, { on := 14, ground := Ground.guard }], guard := some (14, true) }) (v := undef) rfl (by kernel_rfl) (by kernel_rfl) (by kernel_rfl) (by kernel_rfl) (fun _ _ _ h => h) (by assumption) (Or.inr ⟨by rfl, rfl⟩) (fun _ => rfl) ?_)
                try simp only [Act.put, List.setIfInBounds_toArray, List.set_cons_zero, List.set_cons_succ]
                first
                  | (refine' ordS_take (i := 18) (oi := { dst := some 164, op := Op.fieldAddr 42 (Operand.tmp 5) 0, type := 0, pos := _, after := #[{ on := 14, ground := Ground.guard }], guard := some (14, true) }) (v := _) rfl (by kernel_rfl) (by kernel_rfl) (by kernel_rfl) (by kernel_rfl) (fun _ _ _ h => h) (by assumption) (Or.inl ⟨by rfl, ?hy19⟩) (fun _ => rfl) ?rest19
                     case hy19 => (intro w hSw; (try dsimp only at hSw); go_simp; try with_reducible rfl))
                  | (refine ordS_take (i := 18) (oi := { dst := some 164, op := Op.fieldAddr 42 (Operand.tmp 5) 0, type := 0, pos := _, after := #[{ on := 14, ground := Ground.guard }], guard := some (14, true) }) (v := undef) rfl (by kernel_rfl) (by kernel_rfl) (by kernel_rfl) (by kernel_rfl) (fun _ _ _ h => h) (by assumption) (Or.inr ⟨by rfl, rfl⟩) (fun _ => rfl) ?_)
                try simp only [Act.put, List.setIfInBounds_toArray, List.set_cons_zero, List.set_cons_succ]
                first
                  | (refine' ordS_take (i := 19) (oi := { dst := some 165, op := Op.load 29 (Operand.tmp 164), type := 29, pos := _, after := #[{ on := 18, ground := Ground.data }, { on := 14, ground := Ground.guard }], guard := some (14, true) }) (v := _) rfl (by kernel_rfl) (by kernel_rfl) (by kernel_rfl) (by kernel_rfl) (fun _ _ _ h => h) (by assumption) (Or.inl ⟨by rfl, ?hy20⟩) (fun _ => rfl) ?rest20
                     case hy20 => (intro w hSw; (try dsimp only at hSw); go_simp; try with_reducible rfl))
                  | (refine ordS_take (i := 19) (oi := { dst := some 165, op := Op.load 29 (Operand.tmp 164), type := 29, pos := _, after := #[{ on := 18, ground := Ground.data }, { on := 14, ground := Ground.guard }], guard := some (14, true) }) (v := undef) rfl (by kernel_rfl) (by kernel_rfl) (by kernel_rfl) (by kernel_rfl) (fun _ _ _ h => h) (by assumption) (Or.inr ⟨by rfl, rfl⟩) (fun _ => rfl) ?_)
                try simp only [Act.put, List.setIfInBounds_toArray, List.set_cons_zero, List.set_cons_succ]
                first
                  | (refine' ordS_take (i := 20) (oi := { dst := some 166, op := Op.binOp BinOp.eql 29 (Operand.tmp 163) (Operand.tmp 165) 29, type := 4, pos := _, after := #[{ on := 17, ground := Ground.data }, { on := 19, ground := Ground.data }, { on := 14, ground := Ground.guard }], guard := some (14, true) }) (v := _) rfl (by kernel_rfl) (by kernel_rfl) (by kernel_rfl) (by kernel_rfl) (fun _ _ _ h => h) (by assumption) (Or.inl ⟨by rfl, ?hy21⟩) (fun _ => rfl) ?rest21
                     case hy21 => (intro w hSw; (try dsimp only at hSw); go_simp; try with_reducible rfl))
                  | (refine ordS_take (i := 20) (oi := { dst := some 166, op := Op.binOp BinOp.eql 29 (Operand.tmp 163) (Operand.tmp 165) 29, type := 4, pos := _, after := #[{ on := 17, ground := Ground.data }, { on := 19, ground := Ground.data }, { on := 14, ground := Ground.guard }], guard := some (14, true) }) (v := undef) rfl (by kernel_rfl) (by kernel_rfl) (by kernel_rfl) (by kernel_rfl) (fun _ _ _ h => h) (by assumption) (Or.inr ⟨by rfl, rfl⟩) (fun _ => rfl) ?_)
                try simp only [Act.put, List.setIfInBounds_toArray, List.set_cons_zero, List.set_cons_succ]
                first
                  | (refine' ordS_take (i := 21) (oi := { dst := some 167, op := Op.pick (Operand.tmp 160) (Operand.tmp 166) (Operand.const (Value.bool false)), type := 4, pos := _, after := #[{ on := 14, ground := Ground.data }, { on := 20, ground := Ground.data }, { on := 11, ground := Ground.guard }], guard := some (11, false) }) (v := _) rfl (by kernel_rfl) (by kernel_rfl) (by kernel_rfl) (by kernel_rfl) (fun _ _ _ h => h) (by assumption) (Or.inl ⟨by rfl, ?hy22⟩) (fun _ => rfl) ?rest22
                     case hy22 => (intro w hSw; (try dsimp only at hSw); go_simp; try with_reducible rfl))
                  | (refine ordS_take (i := 21) (oi := { dst := some 167, op := Op.pick (Operand.tmp 160) (Operand.tmp 166) (Operand.const (Value.bool false)), type := 4, pos := _, after := #[{ on := 14, ground := Ground.data }, { on := 20, ground := Ground.data }, { on := 11, ground := Ground.guard }], guard := some (11, false) }) (v := undef) rfl (by kernel_rfl) (by kernel_rfl) (by kernel_rfl) (by kernel_rfl) (fun _ _ _ h => h) (by assumption) (Or.inr ⟨by rfl, rfl⟩) (fun _ => rfl) ?_)
                try simp only [Act.put, List.setIfInBounds_toArray, List.set_cons_zero, List.set_cons_succ]
                first
                  | (refine' ordS_take (i := 22) (oi := { dst := some 168, op := Op.pick (Operand.tmp 157) (Operand.const (Value.bool true)) (Operand.tmp 167), type := 4, pos := _, after := #[{ on := 11, ground := Ground.data }, { on := 21, ground := Ground.data }, { on := 7, ground := Ground.guard }], guard := some (7, true) }) (v := _) rfl (by kernel_rfl) (by kernel_rfl) (by kernel_rfl) (by kernel_rfl) (fun _ _ _ h => h) (by assumption) (Or.inl ⟨by rfl, ?hy23⟩) (fun _ => rfl) ?rest23
                     case hy23 => (intro w hSw; (try dsimp only at hSw); go_simp; try with_reducible rfl))
                  | (refine ordS_take (i := 22) (oi := { dst := some 168, op := Op.pick (Operand.tmp 157) (Operand.const (Value.bool true)) (Operand.tmp 167), type := 4, pos := _, after := #[{ on := 11, ground := Ground.data }, { on := 21, ground := Ground.data }, { on := 7, ground := Ground.guard }], guard := some (7, true) }) (v := undef) rfl (by kernel_rfl) (by kernel_rfl) (by kernel_rfl) (by kernel_rfl) (fun _ _ _ h => h) (by assumption) (Or.inr ⟨by rfl, rfl⟩) (fun _ => rfl) ?_)
                try simp only [Act.put, List.setIfInBounds_toArray, List.set_cons_zero, List.set_cons_succ]
                first
                  | (refine' ordS_take (i := 23) (oi := { dst := some 169, op := Op.pick (Operand.tmp 153) (Operand.tmp 168) (Operand.const (Value.bool false)), type := 4, pos := _, after := #[{ on := 7, ground := Ground.data }, { on := 22, ground := Ground.data }], guard := none }) (v := _) rfl (by kernel_rfl) (by kernel_rfl) (by kernel_rfl) (by kernel_rfl) (fun _ _ _ h => h) (by assumption) (Or.inl ⟨by rfl, ?hy24⟩) (fun _ => rfl) ?rest24
                     case hy24 => (intro w hSw; (try dsimp only at hSw); go_simp; try with_reducible rfl))
                  | (refine ordS_take (i := 23) (oi := { dst := some 169, op := Op.pick (Operand.tmp 153) (Operand.tmp 168) (Operand.const (Value.bool false)), type := 4, pos := _, after := #[{ on := 7, ground := Ground.data }, { on := 22, ground := Ground.data }], guard := none }) (v := undef) rfl (by kernel_rfl) (by kernel_rfl) (by kernel_rfl) (by kernel_rfl) (fun _ _ _ h => h) (by assumption) (Or.inr ⟨by rfl, rfl⟩) (fun _ => rfl) ?_)
                try simp only [Act.put, List.setIfInBounds_toArray, List.set_cons_zero, List.set_cons_succ]
                first
                  | (refine' ordS_take (i := 24) (oi := { dst := some 170, op := Op.move (Operand.tmp 169), type := 4, pos := _, after := #[{ on := 23, ground := Ground.data }, { on := 14, ground := Ground.chain }], guard := none }) (v := _) rfl (by kernel_rfl) (by kernel_rfl) (by kernel_rfl) (by kernel_rfl) (fun _ _ _ h => h) (by assumption) (Or.inl ⟨by rfl, ?hy25⟩) (fun _ => rfl) ?rest25
                     case hy25 => (intro w hSw; (try dsimp only at hSw); go_simp; try with_reducible rfl))
                  | (refine ordS_take (i := 24) (oi := { dst := some 170, op := Op.move (Operand.tmp 169), type := 4, pos := _, after := #[{ on := 23, ground := Ground.data }, { on := 14, ground := Ground.chain }], guard := none }) (v := undef) rfl (by kernel_rfl) (by kernel_rfl) (by kernel_rfl) (by kernel_rfl) (fun _ _ _ h => h) (by assumption) (Or.inr ⟨by rfl, rfl⟩) (fun _ => rfl) ?_)
                try simp only [Act.put, List.setIfInBounds_toArray, List.set_cons_zero, List.set_cons_succ]
                refine ordS_one (i := 25) (o := { dst := some 171, op := Op.call { callee := Callee.value (Operand.func 9), args := #[], argTypes := #[] }, type := 4, pos := _, after := #[{ on := 24, ground := Ground.chain }, { on := 24, ground := Ground.guard }], guard := some (24, true) }) (by kernel_rfl) rfl (by rfl) (fun K hK => ?_)
                go_simp
                refine ⟨trivial, (callsIn_wide.2 (awake_any _ (hS.later (bl_tr hA11 hB2)))).mono ?_⟩
                rintro e W7 ⟨rfl, hb⟩
                have hF := bl_tr (bl_tr hA11 hB2) hb
                have hS9 : (fun _ : World => True) W7 := trivial
                refine hK _ _ hS9 ?_
                clear hK K
                try simp only [Act.put, List.setIfInBounds_toArray, List.set_cons_zero, List.set_cons_succ]
                first
                  | (refine' ordS_take (i := 26) (oi := { dst := some 172, op := Op.pick (Operand.tmp 170) (Operand.tmp 171) (Operand.const (Value.bool false)), type := 4, pos := _, after := #[{ on := 24, ground := Ground.data }, { on := 25, ground := Ground.data }], guard := none }) (v := _) rfl (by kernel_rfl) (by kernel_rfl) (by kernel_rfl) (by kernel_rfl) (fun _ _ _ h => h) (by assumption) (Or.inl ⟨by rfl, ?hy26⟩) (fun _ => rfl) ?rest26
                     case hy26 => (intro w hSw; (try dsimp only at hSw); go_simp; try with_reducible rfl))
                  | (refine ordS_take (i := 26) (oi := { dst := some 172, op := Op.pick (Operand.tmp 170) (Operand.tmp 171) (Operand.const (Value.bool false)), type := 4, pos := _, after := #[{ on := 24, ground := Ground.data }, { on := 25, ground := Ground.data }], guard := none }) (v := undef) rfl (by kernel_rfl) (by kernel_rfl) (by kernel_rfl) (by kernel_rfl) (fun _ _ _ h => h) (by assumption) (Or.inr ⟨by rfl, rfl⟩) (fun _ => rfl) ?_)
                try simp only [Act.put, List.setIfInBounds_toArray, List.set_cons_zero, List.set_cons_succ]
                first
                  | (refine' ordS_take (i := 27) (oi := { dst := some 6, op := Op.assign (Operand.tmp 172), type := 4, pos := _, after := #[{ on := 26, ground := Ground.data }, { on := 25, ground := Ground.chain }, { on := 0, ground := Ground.phase }, { on := 1, ground := Ground.phase }, { on := 2, ground := Ground.phase }, { on := 3, ground := Ground.phase }, { on := 4, ground := Ground.phase }, { on := 5, ground := Ground.phase }, { on := 6, ground := Ground.phase }, { on := 7, ground := Ground.phase }, { on := 8, ground := Ground.phase }, { on := 9, ground := Ground.phase }, { on := 10, ground := Ground.phase }, { on := 11, ground := Ground.phase }, { on := 12, ground := Ground.phase }, { on := 13, ground := Ground.phase }, { on := 14, ground := Ground.phase }, { on := 15, ground := Ground.phase }, { on := 16, ground := Ground.phase }, { on := 17, ground := Ground.phase }, { on := 18, ground := Ground.phase }, { on := 19, ground := Ground.phase }, { on := 20, ground := Ground.phase }, { on := 21, ground := Ground.phase }, { on := 22, ground := Ground.phase }, { on := 23, ground := Ground.phase }, { on := 24, ground := Ground.phase }, { on := 25, ground := Ground.phase }, { on := 26, ground := Ground.phase }], guard := none }) (v := _) rfl (by kernel_rfl) (by kernel_rfl) (by kernel_rfl) (by kernel_rfl) (fun _ _ _ h => h) (by assumption) (Or.inl ⟨by rfl, ?hy27⟩) (fun _ => rfl) ?rest27
                     case hy27 => (intro w hSw; (try dsimp only at hSw); go_simp; try with_reducible rfl))
                  | (refine ordS_take (i := 27) (oi := { dst := some 6, op := Op.assign (Operand.tmp 172), type := 4, pos := _, after := #[{ on := 26, ground := Ground.data }, { on := 25, ground := Ground.chain }, { on := 0, ground := Ground.phase }, { on := 1, ground := Ground.phase }, { on := 2, ground := Ground.phase }, { on := 3, ground := Ground.phase }, { on := 4, ground := Ground.phase }, { on := 5, ground := Ground.phase }, { on := 6, ground := Ground.phase }, { on := 7, ground := Ground.phase }, { on := 8, ground := Ground.phase }, { on := 9, ground := Ground.phase }, { on := 10, ground := Ground.phase }, { on := 11, ground := Ground.phase }, { on := 12, ground := Ground.phase }, { on := 13, ground := Ground.phase }, { on := 14, ground := Ground.phase }, { on := 15, ground := Ground.phase }, { on := 16, ground := Ground.phase }, { on := 17, ground := Ground.phase }, { on := 18, ground := Ground.phase }, { on := 19, ground := Ground.phase }, { on := 20, ground := Ground.phase }, { on := 21, ground := Ground.phase }, { on := 22, ground := Ground.phase }, { on := 23, ground := Ground.phase }, { on := 24, ground := Ground.phase }, { on := 25, ground := Ground.phase }, { on := 26, ground := Ground.phase }], guard := none }) (v := undef) rfl (by kernel_rfl) (by kernel_rfl) (by kernel_rfl) (by kernel_rfl) (fun _ _ _ h => h) (by assumption) (Or.inr ⟨by rfl, rfl⟩) (fun _ => rfl) ?_)
                try simp only [Act.put, List.setIfInBounds_toArray, List.set_cons_zero, List.set_cons_succ]
                refine ordS_done (by kernel_rfl) ?_
                clear hA11 hB2 e0' e1'
                go_wp2
                go_ret
                exact ⟨rfl, hF⟩
              · rw [hT]
                rw [hT] at hrow2
                obtain ⟨gq, gqo, rfl, p0, p1⟩ := hrow2.cell (k := 0) (by simp)
                simp only [List.getElem_cons_zero, Nat.zero_mul, Nat.add_zero] at p0 p1
                go_wp2_with fail
                have hB2 := bl_dr (bl0 W6)
                go_region_held3 (fun W => W.cell? ⟨w.heap.size + 1 + 1, 0, none⟩ = some (.int .i64 x) ∧ W.cell? ⟨w.heap.size + 1 + 1, 1, none⟩ = some (.int .i64 y) ∧ W.cell? ⟨gq, gqo, none⟩ = some (.int .i64 x) ∧ W.cell? ⟨gq, gqo + 1, none⟩ = some (.int .i64 y))
                  (exact ⟨cell_later hB2 e0', cell_later hB2 e1', cell_later hB2 p0, cell_later hB2 p1⟩)
                  (first
                    | (go_at_call 9; refine (awake_any _ (hS.later (bl_tr hA11 hB2))).mono ?_; rintro e W7 ⟨rfl, hb⟩; replace hB2 := bl_tr hB2 hb; clear hb))
                all_goals
                  have hF := bl_tr hA11 hB2
                  clear hA11 hB2 e0' e1'
                  go_wp2
                  go_ret
                  exact ⟨rfl, hF⟩
end Go.Proofs.YthnpoeobieninaaDoor
