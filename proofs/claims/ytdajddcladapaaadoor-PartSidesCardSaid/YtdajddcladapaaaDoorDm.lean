/- Parts: rows of pairs compared; the chapter's examples. -/
import Derived.Test.YtdajddcladapaaaDoorDl
namespace Go.Proofs.YtdajddcladapaaaDoor
open Go.RowKit

def sameQ (a b : IC × IC) : Bool := decide (a.1.1 = b.1.1 ∧ a.1.2 = b.1.2 ∧ a.2.1 = b.2.1 ∧ a.2.2 = b.2.2)
theorem sameQ_iff {a b : IC × IC} : sameQ a b = true ↔ a = b := by
  unfold sameQ
  rw [decide_eq_true_eq]
  constructor
  · rintro ⟨h1, h2, h3, h4⟩
    exact Prod.ext (Prod.ext h1 h2) (Prod.ext h3 h4)
  · rintro rfl
    exact ⟨rfl, rfl, rfl, rfl⟩
set_option maxHeartbeats 2000000 in
theorem pairs_any (a a2 : Option Addr) (cap cap2 : Nat) (xs ys : List (IC × IC)) (w : World) (hr : RowPP w a xs) (hr2 : RowPP w a2 ys) (hl : xs.length ≤ 1048576) :
    Calls Tryd.prog 22 #[.slice a xs.length cap, .slice a2 ys.length cap2] w fun e w' => e = .returned (.bool (decide (xs = ys))) ∧ Below w.heap.size w w' := by
  have hl2 : (xs.length : Int) ≤ 1048576 := by omega
  by_cases he : xs.length = ys.length
  · have h1 : ((xs.length : Int) != (ys.length : Int)) = false := by rw [bne_eq_false_iff_eq]; omega
    have HE := Lib.hid he
    clear he
    have hA0 := bl0 w
    go_enter Tryd.func22, Tryd.ntmps22
    go_wp2
    go_loopw [5] (fun i wr => ∃ k : Nat, k ≤ xs.length ∧ i = .int .i64 k ∧ xs.take k = ys.take k ∧ Below w.heap.size w wr) (fun i _ => xs.length - (intOf i).toNat)
    case atStart => exact ⟨0, Nat.zero_le _, rfl, rfl, hA0⟩
    case round =>
      obtain ⟨k, hk, rfl, ht, hB⟩ := hrel
      have HT := Lib.hid ht
      clear hA0 ht
      by_cases hlt : k < xs.length
      · have hlt2 : (k : Int) < (xs.length : Int) := by omega
        have hk0 : (0 : Int) ≤ (k : Int) := by omega
        have hlty : k < ys.length := by rw [← HE.out]; exact hlt
        obtain ⟨gb, go, rfl, ⟨q0, q1⟩, q2, q3⟩ := hr.cell hlt
        obtain ⟨gb2, go2, rfl, ⟨r0, r1⟩, r2, r3⟩ := hr2.cell hlty
        replace q0 := cell_later hB q0; replace q1 := cell_later hB q1; replace q2 := cell_later hB q2; replace q3 := cell_later hB q3
        replace r0 := cell_later hB r0; replace r1 := cell_later hB r1; replace r2 := cell_later hB r2; replace r3 := cell_later hB r3
        have hlty2 : (k : Int) < (ys.length : Int) := by omega
        have heq := fun w => eql_pp xs[k].1.1 xs[k].1.2 xs[k].2.1 xs[k].2.2 ys[k].1.1 ys[k].1.2 ys[k].2.1 ys[k].2.2 w
        obtain ⟨t, ht⟩ : ∃ t, sameQ xs[k] ys[k] = t := ⟨_, rfl⟩
        have hiff := sameQ_iff (a := xs[k]) (b := ys[k])
        have hd : decide (xs[k].1.1 = ys[k].1.1 ∧ xs[k].1.2 = ys[k].1.2 ∧ xs[k].2.1 = ys[k].2.1 ∧ xs[k].2.2 = ys[k].2.2) = t := ht
        rw [ht] at hiff
        rw [hd] at heq
        clear hr hr2 ht hd
        cases t
        · have HS := Lib.hid (not_sameN hlt hlty (fun e => absurd (hiff.2 e) (by decide)))
          clear hiff
          generalize xs[k] = x at *
          generalize ys[k] = y at *
          go_wp2
          go_quiet (fail)
          go_wp2
          go_ret
          exact ⟨ret_bool (by simp [HS.out]), bl_tr hB (bl_drn _ _)⟩
        · have HS := Lib.hid (take_sameN hlt hlty HT.out (hiff.1 rfl))
          clear hiff
          generalize xs[k] = x at *
          generalize ys[k] = y at *
          go_wp2
          go_quiet (fail)
          go_wp2
          go_roundw
          case rel => exact ⟨k + 1, by omega, by go_num, HS.out, bl_tr hB (bl_drn _ _)⟩
          case measure => simp [intOf]; omega
      · have hge : (xs.length : Int) ≤ (k : Int) := by omega
        have HS := Lib.hid (take_allN (by omega) HE.out HT.out)
        go_wp2
        go_ret
        exact ⟨ret_bool (by simp [HS.out]), hB⟩
  · have h1 : ((xs.length : Int) != (ys.length : Int)) = true := by rw [bne_iff_ne]; omega
    have HE := Lib.hid (show xs ≠ ys from fun e => he (by rw [e]))
    clear he
    go_enter Tryd.func22, Tryd.ntmps22
    go_wp2
    go_ret
    exact ⟨ret_bool (by simp [HE.out]), bl0 _⟩

theorem rowN_new3 (w : World) (a b c : Int) (t : TypeId) : RowN (w.alloc (.cells #[.int .i64 a, .int .i64 b, .int .i64 c] t)) (some ⟨w.heap.size, 0, none⟩) [a, b, c] := by
  refine .inr ⟨w.heap.size, 0, rfl, fun i z hz => ?_⟩
  match i, hz with
  | 0, hz => simp at hz; subst hz; simp [go_sem]
  | 1, hz => simp at hz; subst hz; simp [go_sem]
  | 2, hz => simp at hz; subst hz; simp [go_sem]
theorem rowPP_new2 (w : World) (a b : IC × IC) (t : TypeId) : RowPP (w.alloc (.cells #[.int .i64 a.1.1, .int .i64 a.1.2, .int .i64 a.2.1, .int .i64 a.2.2, .int .i64 b.1.1, .int .i64 b.1.2, .int .i64 b.2.1, .int .i64 b.2.2] t)) (some ⟨w.heap.size, 0, none⟩) [a, b] := by
  refine .inr ⟨w.heap.size, 0, rfl, fun i z hz => ?_⟩
  match i, hz with
  | 0, hz => simp at hz; subst hz; simp [go_sem]
  | 1, hz => simp at hz; subst hz; simp [go_sem]

set_option maxRecDepth 100000 in
set_option maxHeartbeats 4000000 in
theorem awake11 (w : World) (hs : Stp w) :
    Calls Tryd.prog 15 #[] w fun e w' => e = .returned (.bool true) ∧ Below w.heap.size w w' := by
  have hA := bl0 w
  have H1 := Lib.hid (fun w => new_p 5 3 2 w)
  rw [show newV 5 3 2 5 = 5 by decide, show newV 5 3 2 3 = 3 by decide, show newV 5 3 2 2 = 2 by decide, show newX 5 3 2 = 0 by decide] at H1
  have H2 := Lib.hid (fun w => of_p 5 3 2 (4, 2) w)
  rw [show ofV 5 3 2 (4, 2) = 5 by decide, show ofX 5 3 2 (4, 2) = 0 by decide] at H2
  have H3 := Lib.hid (fun w => tbox_p 5 3 2 5 w)
  rw [show boxV 5 3 2 5 (bxX 2 (plcP 5 2 5)) = 4 by decide, show boxV 5 3 2 5 (bxY 2 (plcP 5 2 5)) = 2 by decide, show boxV 5 3 2 5 (bxW 5 2 (plcP 5 2 5)) = 1 by decide, show boxV 5 3 2 5 (bxH 3 2 (plcP 5 2 5)) = 1 by decide, show plcX 5 3 2 5 = 0 by decide] at H3
  have H4 := Lib.hid (fun w hs => beside_p 5 3 2 1 w hs)
  rw [show plcX 5 3 2 1 = 0 by decide, show besL 5 3 2 1 = [2, 4, 0] by decide] at H4
  have H5 := Lib.hid (fun w hs => border_p 5 3 2 0 1 w hs)
  rw [show brdX 5 3 2 0 1 = 0 by decide, show brdP 5 3 2 0 1 = [((1, 0), (2, 0)), ((1, 1), (2, 1))] by decide] at H5
  have H6 := Lib.hid (fun w => count_p 5 3 2 w)
  rw [show cntV 5 3 2 = 6 by decide] at H6
  have H7 := Lib.hid (fun (a a2 : Option Addr) (c c2 : Nat) w (h1 : RowN w a [2, 4, 0]) (h2 : RowN w a2 [2, 4, 0]) => ints_any a a2 c c2 [2, 4, 0] [2, 4, 0] w h1 h2 (by decide))
  have H8 := Lib.hid (fun (a a2 : Option Addr) (c c2 : Nat) w (h1 : RowPP w a [((1, 0), (2, 0)), ((1, 1), (2, 1))]) (h2 : RowPP w a2 [((1, 0), (2, 0)), ((1, 1), (2, 1))]) => pairs_any a a2 c c2 [((1, 0), (2, 0)), ((1, 1), (2, 1))] [((1, 0), (2, 0)), ((1, 1), (2, 1))] w h1 h2 (by decide))
  have heq := fun w => eql_box 4 2 1 1 4 2 1 1 w
  rw [show decide ((4 : Int) = 4 ∧ (2 : Int) = 2 ∧ (1 : Int) = 1 ∧ (1 : Int) = 1) = true by decide] at heq
  simp only [List.length_cons, List.length_nil, Nat.reduceAdd, decide_true] at H7 H8
  unfold BesR at H4
  unfold BorR at H5
  simp only [List.length_cons, List.length_nil, Nat.reduceAdd] at H4 H5
  go_enter Tryd.func15, Tryd.ntmps15
  go_wp2_with fail
  refine (H1.out _).mono ?_
  rintro e w1 ⟨rfl, hb⟩
  have hk : Below w.heap.size w w1 := by first | exact hb | exact bl_tr (bl_al (bl0 _) _) hb | exact bl_tr (bl_dr (bl_al (bl0 _) _)) hb | exact bl_tr (bl_al (bl_al (bl0 _) _) _) hb | exact bl_tr (bl_dr (bl_al (bl_al (bl0 _) _) _)) hb | exact bl_tr (bl_al (bl_al (bl_al (bl0 _) _) _) _) hb | exact bl_tr (bl_dr (bl_al (bl_al (bl_al (bl0 _) _) _) _)) hb | exact bl_tr (bl_al (bl_al (bl_al (bl_al (bl0 _) _) _) _) _) hb | exact bl_tr (bl_dr (bl_al (bl_al (bl_al (bl_al (bl0 _) _) _) _) _)) hb | exact bl_tr (bl_al (bl_al (bl_al (bl_al (bl_al (bl0 _) _) _) _) _) _) hb | exact bl_tr (bl_dr (bl_al (bl_al (bl_al (bl_al (bl_al (bl0 _) _) _) _) _) _)) hb | exact bl_tr (bl_al (bl_al (bl_al (bl_al (bl_al (bl_al (bl0 _) _) _) _) _) _) _) hb | exact bl_tr (bl_dr (bl_al (bl_al (bl_al (bl_al (bl_al (bl_al (bl0 _) _) _) _) _) _) _)) hb | exact bl_tr (bl_dr (bl0 _)) hb
  replace hA := bl_tr hA hk
  clear hb hk
  go_wp2_with fail
  refine (H2.out _).mono ?_
  rintro e w2 ⟨rfl, hb⟩
  have hk : Below w1.heap.size w1 w2 := by first | exact hb | exact bl_tr (bl_al (bl0 _) _) hb | exact bl_tr (bl_dr (bl_al (bl0 _) _)) hb | exact bl_tr (bl_al (bl_al (bl0 _) _) _) hb | exact bl_tr (bl_dr (bl_al (bl_al (bl0 _) _) _)) hb | exact bl_tr (bl_al (bl_al (bl_al (bl0 _) _) _) _) hb | exact bl_tr (bl_dr (bl_al (bl_al (bl_al (bl0 _) _) _) _)) hb | exact bl_tr (bl_al (bl_al (bl_al (bl_al (bl0 _) _) _) _) _) hb | exact bl_tr (bl_dr (bl_al (bl_al (bl_al (bl_al (bl0 _) _) _) _) _)) hb | exact bl_tr (bl_al (bl_al (bl_al (bl_al (bl_al (bl0 _) _) _) _) _) _) hb | exact bl_tr (bl_dr (bl_al (bl_al (bl_al (bl_al (bl_al (bl0 _) _) _) _) _) _)) hb | exact bl_tr (bl_al (bl_al (bl_al (bl_al (bl_al (bl_al (bl0 _) _) _) _) _) _) _) hb | exact bl_tr (bl_dr (bl_al (bl_al (bl_al (bl_al (bl_al (bl_al (bl0 _) _) _) _) _) _) _)) hb | exact bl_tr (bl_dr (bl0 _)) hb
  replace hA := bl_tr hA hk
  have p0 := cell_later hb (v := .int .i64 5) (a := ⟨w1.heap.size, 0, none⟩) (by simp [go_sem])
  have p1 := cell_later hb (v := .int .i64 3) (a := ⟨w1.heap.size, 1, none⟩) (by simp [go_sem])
  have p2 := cell_later hb (v := .int .i64 2) (a := ⟨w1.heap.size, 2, none⟩) (by simp [go_sem])
  clear hb hk
  have zp0 := blk_lt p0
  have zp1 := blk_lt p1
  have zp2 := blk_lt p2
  go_wp2_with fail
  refine (H3.out _).mono ?_
  rintro e w3 ⟨rfl, hb⟩
  have hk : Below w2.heap.size w2 w3 := by first | exact hb | exact bl_tr (bl_al (bl0 _) _) hb | exact bl_tr (bl_dr (bl_al (bl0 _) _)) hb | exact bl_tr (bl_al (bl_al (bl0 _) _) _) hb | exact bl_tr (bl_dr (bl_al (bl_al (bl0 _) _) _)) hb | exact bl_tr (bl_al (bl_al (bl_al (bl0 _) _) _) _) hb | exact bl_tr (bl_dr (bl_al (bl_al (bl_al (bl0 _) _) _) _)) hb | exact bl_tr (bl_al (bl_al (bl_al (bl_al (bl0 _) _) _) _) _) hb | exact bl_tr (bl_dr (bl_al (bl_al (bl_al (bl_al (bl0 _) _) _) _) _)) hb | exact bl_tr (bl_al (bl_al (bl_al (bl_al (bl_al (bl0 _) _) _) _) _) _) hb | exact bl_tr (bl_dr (bl_al (bl_al (bl_al (bl_al (bl_al (bl0 _) _) _) _) _) _)) hb | exact bl_tr (bl_al (bl_al (bl_al (bl_al (bl_al (bl_al (bl0 _) _) _) _) _) _) _) hb | exact bl_tr (bl_dr (bl_al (bl_al (bl_al (bl_al (bl_al (bl_al (bl0 _) _) _) _) _) _) _)) hb | exact bl_tr (bl_dr (bl0 _)) hb
  replace hA := bl_tr hA hk
  replace p0 := cell_later hk p0
  replace p1 := cell_later hk p1
  replace p2 := cell_later hk p2
  clear hb hk
  have zp0 := blk_lt p0
  have zp1 := blk_lt p1
  have zp2 := blk_lt p2
  go_wp2_with fail
  refine (H4.out _ (hs.below (by first | exact hA | exact (bl_al hA _) | exact (bl_dr (bl_al hA _)) | exact (bl_al (bl_al hA _) _) | exact (bl_dr (bl_al (bl_al hA _) _)) | exact (bl_al (bl_al (bl_al hA _) _) _) | exact (bl_dr (bl_al (bl_al (bl_al hA _) _) _)) | exact (bl_al (bl_al (bl_al (bl_al hA _) _) _) _) | exact (bl_dr (bl_al (bl_al (bl_al (bl_al hA _) _) _) _)) | exact (bl_al (bl_al (bl_al (bl_al (bl_al hA _) _) _) _) _) | exact (bl_dr (bl_al (bl_al (bl_al (bl_al (bl_al hA _) _) _) _) _)) | exact (bl_al (bl_al (bl_al (bl_al (bl_al (bl_al hA _) _) _) _) _) _) | exact (bl_dr (bl_al (bl_al (bl_al (bl_al (bl_al (bl_al hA _) _) _) _) _) _)) | exact (bl_dr hA)))).mono ?_
  rintro e w4 ⟨va, vc, rfl, hrow, hb⟩
  have hk : Below w3.heap.size w3 w4 := by first | exact hb | exact bl_tr (bl_al (bl0 _) _) hb | exact bl_tr (bl_dr (bl_al (bl0 _) _)) hb | exact bl_tr (bl_al (bl_al (bl0 _) _) _) hb | exact bl_tr (bl_dr (bl_al (bl_al (bl0 _) _) _)) hb | exact bl_tr (bl_al (bl_al (bl_al (bl0 _) _) _) _) hb | exact bl_tr (bl_dr (bl_al (bl_al (bl_al (bl0 _) _) _) _)) hb | exact bl_tr (bl_al (bl_al (bl_al (bl_al (bl0 _) _) _) _) _) hb | exact bl_tr (bl_dr (bl_al (bl_al (bl_al (bl_al (bl0 _) _) _) _) _)) hb | exact bl_tr (bl_al (bl_al (bl_al (bl_al (bl_al (bl0 _) _) _) _) _) _) hb | exact bl_tr (bl_dr (bl_al (bl_al (bl_al (bl_al (bl_al (bl0 _) _) _) _) _) _)) hb | exact bl_tr (bl_al (bl_al (bl_al (bl_al (bl_al (bl_al (bl0 _) _) _) _) _) _) _) hb | exact bl_tr (bl_dr (bl_al (bl_al (bl_al (bl_al (bl_al (bl_al (bl0 _) _) _) _) _) _) _)) hb | exact bl_tr (bl_dr (bl0 _)) hb
  replace hA := bl_tr hA hk
  replace p0 := cell_later hk p0
  replace p1 := cell_later hk p1
  replace p2 := cell_later hk p2
  have b0 := cell_later hb (v := .int .i64 4) (a := ⟨w3.heap.size, 0, none⟩) (by simp [go_sem])
  have b1 := cell_later hb (v := .int .i64 2) (a := ⟨w3.heap.size, 1, none⟩) (by simp [go_sem])
  have b2 := cell_later hb (v := .int .i64 1) (a := ⟨w3.heap.size, 2, none⟩) (by simp [go_sem])
  have b3 := cell_later hb (v := .int .i64 1) (a := ⟨w3.heap.size, 3, none⟩) (by simp [go_sem])
  clear hb hk
  have zp0 := blk_lt p0
  have zp1 := blk_lt p1
  have zp2 := blk_lt p2
  have zb0 := blk_lt b0
  have zb1 := blk_lt b1
  have zb2 := blk_lt b2
  have zb3 := blk_lt b3
  go_wp2_with fail
  refine (H5.out _ (hs.below (by first | exact hA | exact (bl_al hA _) | exact (bl_dr (bl_al hA _)) | exact (bl_al (bl_al hA _) _) | exact (bl_dr (bl_al (bl_al hA _) _)) | exact (bl_al (bl_al (bl_al hA _) _) _) | exact (bl_dr (bl_al (bl_al (bl_al hA _) _) _)) | exact (bl_al (bl_al (bl_al (bl_al hA _) _) _) _) | exact (bl_dr (bl_al (bl_al (bl_al (bl_al hA _) _) _) _)) | exact (bl_al (bl_al (bl_al (bl_al (bl_al hA _) _) _) _) _) | exact (bl_dr (bl_al (bl_al (bl_al (bl_al (bl_al hA _) _) _) _) _)) | exact (bl_al (bl_al (bl_al (bl_al (bl_al (bl_al hA _) _) _) _) _) _) | exact (bl_dr (bl_al (bl_al (bl_al (bl_al (bl_al (bl_al hA _) _) _) _) _) _)) | exact (bl_dr hA)))).mono ?_
  rintro e w5 ⟨ua, uc, rfl, hrow2, hb⟩
  have hk : Below w4.heap.size w4 w5 := by first | exact hb | exact bl_tr (bl_al (bl0 _) _) hb | exact bl_tr (bl_dr (bl_al (bl0 _) _)) hb | exact bl_tr (bl_al (bl_al (bl0 _) _) _) hb | exact bl_tr (bl_dr (bl_al (bl_al (bl0 _) _) _)) hb | exact bl_tr (bl_al (bl_al (bl_al (bl0 _) _) _) _) hb | exact bl_tr (bl_dr (bl_al (bl_al (bl_al (bl0 _) _) _) _)) hb | exact bl_tr (bl_al (bl_al (bl_al (bl_al (bl0 _) _) _) _) _) hb | exact bl_tr (bl_dr (bl_al (bl_al (bl_al (bl_al (bl0 _) _) _) _) _)) hb | exact bl_tr (bl_al (bl_al (bl_al (bl_al (bl_al (bl0 _) _) _) _) _) _) hb | exact bl_tr (bl_dr (bl_al (bl_al (bl_al (bl_al (bl_al (bl0 _) _) _) _) _) _)) hb | exact bl_tr (bl_al (bl_al (bl_al (bl_al (bl_al (bl_al (bl0 _) _) _) _) _) _) _) hb | exact bl_tr (bl_dr (bl_al (bl_al (bl_al (bl_al (bl_al (bl_al (bl0 _) _) _) _) _) _) _)) hb | exact bl_tr (bl_dr (bl0 _)) hb
  replace hA := bl_tr hA hk
  replace hrow := hrow.below hk
  replace p0 := cell_later hk p0
  replace p1 := cell_later hk p1
  replace p2 := cell_later hk p2
  replace b0 := cell_later hk b0
  replace b1 := cell_later hk b1
  replace b2 := cell_later hk b2
  replace b3 := cell_later hk b3
  clear hb hk
  have zp0 := blk_lt p0
  have zp1 := blk_lt p1
  have zp2 := blk_lt p2
  have zb0 := blk_lt b0
  have zb1 := blk_lt b1
  have zb2 := blk_lt b2
  have zb3 := blk_lt b3
  go_wp2_with fail
  refine (H6.out _).mono ?_
  rintro e w6 ⟨rfl, hb⟩
  have hk : Below w5.heap.size w5 w6 := by first | exact hb | exact bl_tr (bl_al (bl0 _) _) hb | exact bl_tr (bl_dr (bl_al (bl0 _) _)) hb | exact bl_tr (bl_al (bl_al (bl0 _) _) _) hb | exact bl_tr (bl_dr (bl_al (bl_al (bl0 _) _) _)) hb | exact bl_tr (bl_al (bl_al (bl_al (bl0 _) _) _) _) hb | exact bl_tr (bl_dr (bl_al (bl_al (bl_al (bl0 _) _) _) _)) hb | exact bl_tr (bl_al (bl_al (bl_al (bl_al (bl0 _) _) _) _) _) hb | exact bl_tr (bl_dr (bl_al (bl_al (bl_al (bl_al (bl0 _) _) _) _) _)) hb | exact bl_tr (bl_al (bl_al (bl_al (bl_al (bl_al (bl0 _) _) _) _) _) _) hb | exact bl_tr (bl_dr (bl_al (bl_al (bl_al (bl_al (bl_al (bl0 _) _) _) _) _) _)) hb | exact bl_tr (bl_al (bl_al (bl_al (bl_al (bl_al (bl_al (bl0 _) _) _) _) _) _) _) hb | exact bl_tr (bl_dr (bl_al (bl_al (bl_al (bl_al (bl_al (bl_al (bl0 _) _) _) _) _) _) _)) hb | exact bl_tr (bl_dr (bl0 _)) hb
  replace hA := bl_tr hA hk
  replace hrow := hrow.below hk
  replace hrow2 := hrow2.below hk
  replace b0 := cell_later hk b0
  replace b1 := cell_later hk b1
  replace b2 := cell_later hk b2
  replace b3 := cell_later hk b3
  clear hb hk
  have zb0 := blk_lt b0
  have zb1 := blk_lt b1
  have zb2 := blk_lt b2
  have zb3 := blk_lt b3
  go_wp2_with fail
  refine (H7.out _ _ _ _ _ (hrow.below (bl_al (bl0 _) _)) (rowN_new3 _ _ _ _ _)).mono ?_
  rintro e w7 ⟨rfl, hb⟩
  have hk : Below w6.heap.size w6 w7 := bl_tr (bl_al (bl0 _) _) hb
  replace hA := bl_tr hA hk
  replace hrow2 := hrow2.below hk
  clear hb hk
  go_wp2_with fail
  refine (H8.out _ _ _ _ _ (hrow2.below (bl_al (bl0 _) _)) (rowPP_new2 _ ((1, 0), (2, 0)) ((1, 1), (2, 1)) _)).mono ?_
  rintro e w8 ⟨rfl, hb⟩
  have hA8 := bl_tr (bl_al hA _) hb
  go_wp2
  go_ret
  exact ⟨rfl, hA8⟩
end Go.Proofs.YtdajddcladapaaaDoor
