/- PartBoxes: the law's walk. -/
import Derived.Test.YtdajddcladapaaaDoorDs
import Derived.Test.YtdajddcladapaaaDoorLpwhole
namespace Go.Proofs.YtdajddcladapaaaDoor
open Go.RowKit

set_option maxRecDepth 100000 in
set_option maxHeartbeats 8000000 in
theorem pboxes_walk (W H S id : Int) (c : IC) (w : World) (hc : w64 c.1 ∧ w64 c.2) (hs : Stp w) :
    Calls Tryd.prog 4 #[.agg #[.int .i64 W, .int .i64 H, .int .i64 S], .int .i64 id, .agg #[.int .i64 c.1, .int .i64 c.2]] w fun e w' => e = .returned (.bool true) ∧ Below w.heap.size w w' := by
  have hA := bl0 w
  have H0 := Lib.hid (fun w => small11 W H S w)
  cases hsm : smallP W H S
  · rw [hsm] at H0
    clear hsm
    go_enter Tryd.func4, Tryd.ntmps4
    go_wp2_with fail
    refine (H0.out _).mono ?_
    rintro e w1 ⟨rfl, hb⟩
    have hk : Below w.heap.size w w1 := by first | exact hb | exact bl_tr (bl_al (bl0 _) _) hb | exact bl_tr (bl_dr (bl_al (bl0 _) _)) hb | exact bl_tr (bl_al (bl_al (bl0 _) _) _) hb | exact bl_tr (bl_dr (bl_al (bl_al (bl0 _) _) _)) hb | exact bl_tr (bl_al (bl_al (bl_al (bl0 _) _) _) _) hb | exact bl_tr (bl_dr (bl_al (bl_al (bl_al (bl0 _) _) _) _)) hb | exact bl_tr (bl_al (bl_al (bl_al (bl_al (bl0 _) _) _) _) _) hb | exact bl_tr (bl_dr (bl_al (bl_al (bl_al (bl_al (bl0 _) _) _) _) _)) hb | exact bl_tr (bl_al (bl_al (bl_al (bl_al (bl_al (bl0 _) _) _) _) _) _) hb | exact bl_tr (bl_dr (bl_al (bl_al (bl_al (bl_al (bl_al (bl0 _) _) _) _) _) _)) hb | exact bl_tr (bl_al (bl_al (bl_al (bl_al (bl_al (bl_al (bl0 _) _) _) _) _) _) _) hb | exact bl_tr (bl_dr (bl_al (bl_al (bl_al (bl_al (bl_al (bl_al (bl0 _) _) _) _) _) _) _)) hb | exact bl_tr (bl_dr (bl0 _)) hb
    replace hA := bl_tr hA hk
    clear hb hk
    go_wp2_with fail
    refine (awake11 _ (hs.below (by first | exact hA | exact (bl_al hA _) | exact (bl_dr (bl_al hA _)) | exact (bl_al (bl_al hA _) _) | exact (bl_dr (bl_al (bl_al hA _) _)) | exact (bl_al (bl_al (bl_al hA _) _) _) | exact (bl_dr (bl_al (bl_al (bl_al hA _) _) _)) | exact (bl_al (bl_al (bl_al (bl_al hA _) _) _) _) | exact (bl_dr (bl_al (bl_al (bl_al (bl_al hA _) _) _) _)) | exact (bl_al (bl_al (bl_al (bl_al (bl_al hA _) _) _) _) _) | exact (bl_dr (bl_al (bl_al (bl_al (bl_al (bl_al hA _) _) _) _) _)) | exact (bl_al (bl_al (bl_al (bl_al (bl_al (bl_al hA _) _) _) _) _) _) | exact (bl_dr (bl_al (bl_al (bl_al (bl_al (bl_al (bl_al hA _) _) _) _) _) _)) | exact (bl_dr hA)))).mono ?_
    rintro e w2 ⟨rfl, hb⟩
    have hk : Below w1.heap.size w1 w2 := by first | exact hb | exact bl_tr (bl_al (bl0 _) _) hb | exact bl_tr (bl_dr (bl_al (bl0 _) _)) hb | exact bl_tr (bl_al (bl_al (bl0 _) _) _) hb | exact bl_tr (bl_dr (bl_al (bl_al (bl0 _) _) _)) hb | exact bl_tr (bl_al (bl_al (bl_al (bl0 _) _) _) _) hb | exact bl_tr (bl_dr (bl_al (bl_al (bl_al (bl0 _) _) _) _)) hb | exact bl_tr (bl_al (bl_al (bl_al (bl_al (bl0 _) _) _) _) _) hb | exact bl_tr (bl_dr (bl_al (bl_al (bl_al (bl_al (bl0 _) _) _) _) _)) hb | exact bl_tr (bl_al (bl_al (bl_al (bl_al (bl_al (bl0 _) _) _) _) _) _) hb | exact bl_tr (bl_dr (bl_al (bl_al (bl_al (bl_al (bl_al (bl0 _) _) _) _) _) _)) hb | exact bl_tr (bl_al (bl_al (bl_al (bl_al (bl_al (bl_al (bl0 _) _) _) _) _) _) _) hb | exact bl_tr (bl_dr (bl_al (bl_al (bl_al (bl_al (bl_al (bl_al (bl0 _) _) _) _) _) _) _)) hb | exact bl_tr (bl_dr (bl0 _)) hb
    replace hA := bl_tr hA hk
    clear hb hk
    go_wp2
    go_ret
    exact ⟨rfl, hA⟩
  · rw [hsm] at H0
    obtain ⟨hr, h400⟩ := smallP_iff.1 hsm
    obtain ⟨hn, n1, n2⟩ := cntN_eq hr
    have e2 : cntV W H S = (cntN W H S : Int) := by unfold cntV; rw [if_pos hr, hn]
    have H6 := Lib.hid (fun w => count_p W H S w)
    rw [e2] at H6
    have H1 := Lib.hid (fun w => boxes11 W H S w hr)
    unfold BxsR at H1
    rw [boxL_len] at H1
    have H2 := Lib.hid (fun w => tbox_p W H S id w)
    have H3 := Lib.hid (fun w => of_p W H S c w)
    have H4 := Lib.hid (fun a cap w (h : RowPP w a (boxL W H S)) => of11 W H S a cap c w hr hc h)
    have HLN := Lib.hid (boxL_len W H S)
    have HZ := Lib.hid (fun k (h : k < (boxL W H S).length) => boxL_at h)
    have hxo : ofX W H S c = if onB W H c = true then 0 else 10 := by unfold ofX; rw [if_pos hr]
    have hvo : ofV W H S c = if onB W H c = true then ofP W S c else 0 := by
      unfold ofV; rw [hxo]
      by_cases h : onB W H c = true
      · rw [if_pos h, if_pos rfl, if_pos h]
      · rw [if_neg h, if_neg (by decide), if_neg h]
    have hro : ofR W H S c = if onB W H c = true then ofP W S c else -1 := rfl
    have hob : onB W H c = true → 0 ≤ ofP W S c := fun h => (of_bd hr h).1
    have hxi : plcX W H S id = if 0 ≤ id ∧ id < cntN W H S then 0 else 10 := by unfold plcX; rw [if_pos hr, hn]
    have heq0 := fun w => eql_box 0 0 0 0 0 0 0 0 w
    simp only [and_self, decide_true] at heq0
    obtain ⟨n, hnn⟩ : ∃ n, cntN W H S = n := ⟨_, rfl⟩
    rw [hnn] at H6 H1 H4 HLN hxi hn
    obtain ⟨t, ht⟩ : ∃ t, onB W H c = t := ⟨_, rfl⟩
    rw [ht] at hxo hvo hro hob
    obtain ⟨ox, hox⟩ : ∃ ox, ofX W H S c = ox := ⟨_, rfl⟩
    obtain ⟨ov, hov⟩ : ∃ ov, ofV W H S c = ov := ⟨_, rfl⟩
    obtain ⟨rv, hrv⟩ : ∃ rv, ofR W H S c = rv := ⟨_, rfl⟩
    obtain ⟨pv, hpv⟩ : ∃ pv, ofP W S c = pv := ⟨_, rfl⟩
    rw [hox] at H3 hxo
    rw [hov] at H3 hvo
    rw [hrv] at H4 hro
    rw [hpv] at hvo hro hob
    have HXO := Lib.hid hxo; have HVO := Lib.hid hvo; have HRO := Lib.hid hro; have HOB := Lib.hid hob
    by_cases hid : 0 ≤ id ∧ id < n
    · obtain ⟨k, rfl⟩ : ∃ k : Nat, id = k := ⟨id.toNat, by omega⟩
      rw [if_pos hid] at hxi
      have hb : ∀ j, boxV W H S k j = j := fun j => by unfold boxV; rw [if_pos hxi]
      rw [hxi, hb, hb, hb, hb] at H2
      have hk : k < n := by omega
      have hk0 : ¬ (k : Int) < 0 := by omega
      have hk00 : (0 : Int) ≤ (k : Int) := by omega
      have hk2 : (k : Int) < (n : Int) := by omega
      have hk1 : ¬ (n : Int) ≤ (k : Int) := by omega
      have heq := fun w => eql_box (bxF W H S k).1.1 (bxF W H S k).1.2 (bxF W H S k).2.1 (bxF W H S k).2.2 (bxF W H S k).1.1 (bxF W H S k).1.2 (bxF W H S k).2.1 (bxF W H S k).2.2 w
      simp only [and_self, decide_true] at heq
      have H2' := Lib.hid (show ∀ w, Calls Tryd.prog 11 #[.agg #[.int .i64 W, .int .i64 H, .int .i64 S], .int .i64 k] w fun e w' => e = .returned (.tuple #[.agg #[.int .i64 (bxF W H S k).1.1, .int .i64 (bxF W H S k).1.2, .int .i64 (bxF W H S k).2.1, .int .i64 (bxF W H S k).2.2], .int .i64 0]) ∧ Below w.heap.size w w' from fun w => H2.out w)
      have HZK := Lib.hid (fun (h : k < (boxL W H S).length) => HZ.out k h)
      generalize bxF W H S k = z at *
      clear H2 hxi hb hid hxo hvo hro hob hox hov hrv hpv hnn ht e2 hn n1 n2 hsm h400 hr hc
      go_enter Tryd.func4, Tryd.ntmps4
      go_wp2_with fail
      refine (H0.out _).mono ?_
      rintro e w1 ⟨rfl, hb⟩
      have hk : Below w.heap.size w w1 := by first | exact hb | exact bl_tr (bl_al (bl0 _) _) hb | exact bl_tr (bl_dr (bl_al (bl0 _) _)) hb | exact bl_tr (bl_al (bl_al (bl0 _) _) _) hb | exact bl_tr (bl_dr (bl_al (bl_al (bl0 _) _) _)) hb | exact bl_tr (bl_al (bl_al (bl_al (bl0 _) _) _) _) hb | exact bl_tr (bl_dr (bl_al (bl_al (bl_al (bl0 _) _) _) _)) hb | exact bl_tr (bl_al (bl_al (bl_al (bl_al (bl0 _) _) _) _) _) hb | exact bl_tr (bl_dr (bl_al (bl_al (bl_al (bl_al (bl0 _) _) _) _) _)) hb | exact bl_tr (bl_al (bl_al (bl_al (bl_al (bl_al (bl0 _) _) _) _) _) _) hb | exact bl_tr (bl_dr (bl_al (bl_al (bl_al (bl_al (bl_al (bl0 _) _) _) _) _) _)) hb | exact bl_tr (bl_al (bl_al (bl_al (bl_al (bl_al (bl_al (bl0 _) _) _) _) _) _) _) hb | exact bl_tr (bl_dr (bl_al (bl_al (bl_al (bl_al (bl_al (bl_al (bl0 _) _) _) _) _) _) _)) hb | exact bl_tr (bl_dr (bl0 _)) hb
      replace hA := bl_tr hA hk
      have p0 := cell_later hb (v := .int .i64 W) (a := ⟨w.heap.size, 0, none⟩) (by simp [go_sem])
      have p1 := cell_later hb (v := .int .i64 H) (a := ⟨w.heap.size, 1, none⟩) (by simp [go_sem])
      have p2 := cell_later hb (v := .int .i64 S) (a := ⟨w.heap.size, 2, none⟩) (by simp [go_sem])
      have c0 := cell_later hb (v := .int .i64 c.1) (a := ⟨w.heap.size + 1, 0, none⟩) (by simp [go_sem])
      have c1 := cell_later hb (v := .int .i64 c.2) (a := ⟨w.heap.size + 1, 1, none⟩) (by simp [go_sem])
      clear hb hk
      have zp0 := blk_lt p0
      have zp1 := blk_lt p1
      have zp2 := blk_lt p2
      have zc0 := blk_lt c0
      have zc1 := blk_lt c1
      go_wp2_with fail
      refine (H1.out _).mono ?_
      rintro e w2 ⟨va, vc, rfl, hrow, hb⟩
      have hk : Below w1.heap.size w1 w2 := by first | exact hb | exact bl_tr (bl_al (bl0 _) _) hb | exact bl_tr (bl_dr (bl_al (bl0 _) _)) hb | exact bl_tr (bl_al (bl_al (bl0 _) _) _) hb | exact bl_tr (bl_dr (bl_al (bl_al (bl0 _) _) _)) hb | exact bl_tr (bl_al (bl_al (bl_al (bl0 _) _) _) _) hb | exact bl_tr (bl_dr (bl_al (bl_al (bl_al (bl0 _) _) _) _)) hb | exact bl_tr (bl_al (bl_al (bl_al (bl_al (bl0 _) _) _) _) _) hb | exact bl_tr (bl_dr (bl_al (bl_al (bl_al (bl_al (bl0 _) _) _) _) _)) hb | exact bl_tr (bl_al (bl_al (bl_al (bl_al (bl_al (bl0 _) _) _) _) _) _) hb | exact bl_tr (bl_dr (bl_al (bl_al (bl_al (bl_al (bl_al (bl0 _) _) _) _) _) _)) hb | exact bl_tr (bl_al (bl_al (bl_al (bl_al (bl_al (bl_al (bl0 _) _) _) _) _) _) _) hb | exact bl_tr (bl_dr (bl_al (bl_al (bl_al (bl_al (bl_al (bl_al (bl0 _) _) _) _) _) _) _)) hb | exact bl_tr (bl_dr (bl0 _)) hb
      replace hA := bl_tr hA hk
      replace p0 := cell_later hk p0
      replace p1 := cell_later hk p1
      replace p2 := cell_later hk p2
      replace c0 := cell_later hk c0
      replace c1 := cell_later hk c1
      clear hb hk
      have zp0 := blk_lt p0
      have zp1 := blk_lt p1
      have zp2 := blk_lt p2
      have zc0 := blk_lt c0
      have zc1 := blk_lt c1
      go_wp2_with fail
      refine (H2'.out _).mono ?_
      rintro e w3 ⟨rfl, hb⟩
      have hk : Below w2.heap.size w2 w3 := by first | exact hb | exact bl_tr (bl_al (bl0 _) _) hb | exact bl_tr (bl_dr (bl_al (bl0 _) _)) hb | exact bl_tr (bl_al (bl_al (bl0 _) _) _) hb | exact bl_tr (bl_dr (bl_al (bl_al (bl0 _) _) _)) hb | exact bl_tr (bl_al (bl_al (bl_al (bl0 _) _) _) _) hb | exact bl_tr (bl_dr (bl_al (bl_al (bl_al (bl0 _) _) _) _)) hb | exact bl_tr (bl_al (bl_al (bl_al (bl_al (bl0 _) _) _) _) _) hb | exact bl_tr (bl_dr (bl_al (bl_al (bl_al (bl_al (bl0 _) _) _) _) _)) hb | exact bl_tr (bl_al (bl_al (bl_al (bl_al (bl_al (bl0 _) _) _) _) _) _) hb | exact bl_tr (bl_dr (bl_al (bl_al (bl_al (bl_al (bl_al (bl0 _) _) _) _) _) _)) hb | exact bl_tr (bl_al (bl_al (bl_al (bl_al (bl_al (bl_al (bl0 _) _) _) _) _) _) _) hb | exact bl_tr (bl_dr (bl_al (bl_al (bl_al (bl_al (bl_al (bl_al (bl0 _) _) _) _) _) _) _)) hb | exact bl_tr (bl_dr (bl0 _)) hb
      replace hA := bl_tr hA hk
      replace hrow := hrow.below hk
      replace p0 := cell_later hk p0
      replace p1 := cell_later hk p1
      replace p2 := cell_later hk p2
      replace c0 := cell_later hk c0
      replace c1 := cell_later hk c1
      clear hb hk
      have zp0 := blk_lt p0
      have zp1 := blk_lt p1
      have zp2 := blk_lt p2
      have zc0 := blk_lt c0
      have zc1 := blk_lt c1
      go_wp2_with fail
      refine (H3.out _).mono ?_
      rintro e w4 ⟨rfl, hb⟩
      have hk : Below w3.heap.size w3 w4 := by first | exact hb | exact bl_tr (bl_al (bl0 _) _) hb | exact bl_tr (bl_dr (bl_al (bl0 _) _)) hb | exact bl_tr (bl_al (bl_al (bl0 _) _) _) hb | exact bl_tr (bl_dr (bl_al (bl_al (bl0 _) _) _)) hb | exact bl_tr (bl_al (bl_al (bl_al (bl0 _) _) _) _) hb | exact bl_tr (bl_dr (bl_al (bl_al (bl_al (bl0 _) _) _) _)) hb | exact bl_tr (bl_al (bl_al (bl_al (bl_al (bl0 _) _) _) _) _) hb | exact bl_tr (bl_dr (bl_al (bl_al (bl_al (bl_al (bl0 _) _) _) _) _)) hb | exact bl_tr (bl_al (bl_al (bl_al (bl_al (bl_al (bl0 _) _) _) _) _) _) hb | exact bl_tr (bl_dr (bl_al (bl_al (bl_al (bl_al (bl_al (bl0 _) _) _) _) _) _)) hb | exact bl_tr (bl_al (bl_al (bl_al (bl_al (bl_al (bl_al (bl0 _) _) _) _) _) _) _) hb | exact bl_tr (bl_dr (bl_al (bl_al (bl_al (bl_al (bl_al (bl_al (bl0 _) _) _) _) _) _) _)) hb | exact bl_tr (bl_dr (bl0 _)) hb
      replace hA := bl_tr hA hk
      replace hrow := hrow.below hk
      replace p0 := cell_later hk p0
      replace p1 := cell_later hk p1
      replace p2 := cell_later hk p2
      replace c0 := cell_later hk c0
      replace c1 := cell_later hk c1
      have b0 := cell_later hb (v := .int .i64 z.1.1) (a := ⟨w3.heap.size, 0, none⟩) (by simp [go_sem])
      have b1 := cell_later hb (v := .int .i64 z.1.2) (a := ⟨w3.heap.size, 1, none⟩) (by simp [go_sem])
      have b2 := cell_later hb (v := .int .i64 z.2.1) (a := ⟨w3.heap.size, 2, none⟩) (by simp [go_sem])
      have b3 := cell_later hb (v := .int .i64 z.2.2) (a := ⟨w3.heap.size, 3, none⟩) (by simp [go_sem])
      clear hb hk
      have zp0 := blk_lt p0
      have zp1 := blk_lt p1
      have zp2 := blk_lt p2
      have zc0 := blk_lt c0
      have zc1 := blk_lt c1
      have zb0 := blk_lt b0
      have zb1 := blk_lt b1
      have zb2 := blk_lt b2
      have zb3 := blk_lt b3
      go_wp2_with fail
      refine (H6.out _).mono ?_
      rintro e w5 ⟨rfl, hb⟩
      have hk : Below w4.heap.size w4 w5 := by first | exact hb | exact bl_tr (bl_al (bl0 _) _) hb | exact bl_tr (bl_dr (bl_al (bl0 _) _)) hb | exact bl_tr (bl_al (bl_al (bl0 _) _) _) hb | exact bl_tr (bl_dr (bl_al (bl_al (bl0 _) _) _)) hb | exact bl_tr (bl_al (bl_al (bl_al (bl0 _) _) _) _) hb | exact bl_tr (bl_dr (bl_al (bl_al (bl_al (bl0 _) _) _) _)) hb | exact bl_tr (bl_al (bl_al (bl_al (bl_al (bl0 _) _) _) _) _) hb | exact bl_tr (bl_dr (bl_al (bl_al (bl_al (bl_al (bl0 _) _) _) _) _)) hb | exact bl_tr (bl_al (bl_al (bl_al (bl_al (bl_al (bl0 _) _) _) _) _) _) hb | exact bl_tr (bl_dr (bl_al (bl_al (bl_al (bl_al (bl_al (bl0 _) _) _) _) _) _)) hb | exact bl_tr (bl_al (bl_al (bl_al (bl_al (bl_al (bl_al (bl0 _) _) _) _) _) _) _) hb | exact bl_tr (bl_dr (bl_al (bl_al (bl_al (bl_al (bl_al (bl_al (bl0 _) _) _) _) _) _) _)) hb | exact bl_tr (bl_dr (bl0 _)) hb
      replace hA := bl_tr hA hk
      replace hrow := hrow.below hk
      replace p0 := cell_later hk p0
      replace p1 := cell_later hk p1
      replace p2 := cell_later hk p2
      replace c0 := cell_later hk c0
      replace c1 := cell_later hk c1
      replace b0 := cell_later hk b0
      replace b1 := cell_later hk b1
      replace b2 := cell_later hk b2
      replace b3 := cell_later hk b3
      clear hb hk
      have zp0 := blk_lt p0
      have zp1 := blk_lt p1
      have zp2 := blk_lt p2
      have zc0 := blk_lt c0
      have zc1 := blk_lt c1
      have zb0 := blk_lt b0
      have zb1 := blk_lt b1
      have zb2 := blk_lt b2
      have zb3 := blk_lt b3
      obtain ⟨gb, go, rfl, ⟨q0, q1⟩, q2, q3⟩ := hrow.cell (k := k) (by rw [HLN.out]; exact hk)
      rw [HZK.out] at q0 q1 q2 q3
      have zp := blk_lt p0
      have zc := blk_lt c0
      have zb := blk_lt b0
      have hrow2 := hrow
      clear hrow HZK
      go_wp2
      go_quiet (fail)
      obtain ⟨w6, hw6⟩ : ∃ w6, w5.drewN nq = w6 := ⟨_, rfl⟩
      have hk6 : Below w5.heap.size w5 w6 := by rw [← hw6]; exact bl_drn w5 nq
      rw [hw6]
      clear hw6
      replace hA := bl_tr hA hk6
      replace c0 := cell_later hk6 c0; replace c1 := cell_later hk6 c1
      replace hrow2 := hrow2.below hk6
      have zc6 := blk_lt c0
      clear hk6 q0 q1 q2 q3 b0 b1 b2 b3 p0 p1 p2
      go_wp2_with fail
      refine (H4.out _ _ _ hrow2).mono ?_
      rintro e w7 ⟨rfl, hb⟩
      have hk : Below w6.heap.size w6 w7 := by first | exact hb | exact bl_tr (bl_al (bl0 _) _) hb | exact bl_tr (bl_dr (bl_al (bl0 _) _)) hb | exact bl_tr (bl_al (bl_al (bl0 _) _) _) hb | exact bl_tr (bl_dr (bl_al (bl_al (bl0 _) _) _)) hb | exact bl_tr (bl_al (bl_al (bl_al (bl0 _) _) _) _) hb | exact bl_tr (bl_dr (bl_al (bl_al (bl_al (bl0 _) _) _) _)) hb | exact bl_tr (bl_al (bl_al (bl_al (bl_al (bl0 _) _) _) _) _) hb | exact bl_tr (bl_dr (bl_al (bl_al (bl_al (bl_al (bl0 _) _) _) _) _)) hb | exact bl_tr (bl_al (bl_al (bl_al (bl_al (bl_al (bl0 _) _) _) _) _) _) hb | exact bl_tr (bl_dr (bl_al (bl_al (bl_al (bl_al (bl_al (bl0 _) _) _) _) _) _)) hb | exact bl_tr (bl_al (bl_al (bl_al (bl_al (bl_al (bl_al (bl0 _) _) _) _) _) _) _) hb | exact bl_tr (bl_dr (bl_al (bl_al (bl_al (bl_al (bl_al (bl_al (bl0 _) _) _) _) _) _) _)) hb | exact bl_tr (bl_dr (bl0 _)) hb
      replace hA := bl_tr hA hk
      replace c0 := cell_later hk c0
      clear hb hk
      have zc0 := blk_lt c0
      have hxo := HXO.out; have hvo := HVO.out; have hro := HRO.out
      cases t
      · rw [if_neg (by decide)] at hxo hvo hro
        subst hxo hvo hro
        go_wp2_with fail
        refine (awake11 _ (hs.below (by first | exact hA | exact (bl_al hA _) | exact (bl_dr (bl_al hA _)) | exact (bl_al (bl_al hA _) _) | exact (bl_dr (bl_al (bl_al hA _) _)) | exact (bl_al (bl_al (bl_al hA _) _) _) | exact (bl_dr (bl_al (bl_al (bl_al hA _) _) _)) | exact (bl_al (bl_al (bl_al (bl_al hA _) _) _) _) | exact (bl_dr (bl_al (bl_al (bl_al (bl_al hA _) _) _) _)) | exact (bl_al (bl_al (bl_al (bl_al (bl_al hA _) _) _) _) _) | exact (bl_dr (bl_al (bl_al (bl_al (bl_al (bl_al hA _) _) _) _) _)) | exact (bl_al (bl_al (bl_al (bl_al (bl_al (bl_al hA _) _) _) _) _) _) | exact (bl_dr (bl_al (bl_al (bl_al (bl_al (bl_al (bl_al hA _) _) _) _) _) _)) | exact (bl_dr hA)))).mono ?_
        rintro e w8 ⟨rfl, hb⟩
        have hk : Below w7.heap.size w7 w8 := by first | exact hb | exact bl_tr (bl_al (bl0 _) _) hb | exact bl_tr (bl_dr (bl_al (bl0 _) _)) hb | exact bl_tr (bl_al (bl_al (bl0 _) _) _) hb | exact bl_tr (bl_dr (bl_al (bl_al (bl0 _) _) _)) hb | exact bl_tr (bl_al (bl_al (bl_al (bl0 _) _) _) _) hb | exact bl_tr (bl_dr (bl_al (bl_al (bl_al (bl0 _) _) _) _)) hb | exact bl_tr (bl_al (bl_al (bl_al (bl_al (bl0 _) _) _) _) _) hb | exact bl_tr (bl_dr (bl_al (bl_al (bl_al (bl_al (bl0 _) _) _) _) _)) hb | exact bl_tr (bl_al (bl_al (bl_al (bl_al (bl_al (bl0 _) _) _) _) _) _) hb | exact bl_tr (bl_dr (bl_al (bl_al (bl_al (bl_al (bl_al (bl0 _) _) _) _) _) _)) hb | exact bl_tr (bl_al (bl_al (bl_al (bl_al (bl_al (bl_al (bl0 _) _) _) _) _) _) _) hb | exact bl_tr (bl_dr (bl_al (bl_al (bl_al (bl_al (bl_al (bl_al (bl0 _) _) _) _) _) _) _)) hb | exact bl_tr (bl_dr (bl0 _)) hb
        replace hA := bl_tr hA hk
        clear hb hk
        go_wp2
        go_ret
        exact ⟨rfl, hA⟩
      · rw [if_pos rfl] at hxo hvo hro
        have h0 := HOB.out (by trivial)
        subst hxo hvo hro
        have hlt0 : ¬ rv < 0 := by omega
        go_wp2_with fail
        refine (awake11 _ (hs.below (by first | exact hA | exact (bl_al hA _) | exact (bl_dr (bl_al hA _)) | exact (bl_al (bl_al hA _) _) | exact (bl_dr (bl_al (bl_al hA _) _)) | exact (bl_al (bl_al (bl_al hA _) _) _) | exact (bl_dr (bl_al (bl_al (bl_al hA _) _) _)) | exact (bl_al (bl_al (bl_al (bl_al hA _) _) _) _) | exact (bl_dr (bl_al (bl_al (bl_al (bl_al hA _) _) _) _)) | exact (bl_al (bl_al (bl_al (bl_al (bl_al hA _) _) _) _) _) | exact (bl_dr (bl_al (bl_al (bl_al (bl_al (bl_al hA _) _) _) _) _)) | exact (bl_al (bl_al (bl_al (bl_al (bl_al (bl_al hA _) _) _) _) _) _) | exact (bl_dr (bl_al (bl_al (bl_al (bl_al (bl_al (bl_al hA _) _) _) _) _) _)) | exact (bl_dr hA)))).mono ?_
        rintro e w8 ⟨rfl, hb⟩
        have hk : Below w7.heap.size w7 w8 := by first | exact hb | exact bl_tr (bl_al (bl0 _) _) hb | exact bl_tr (bl_dr (bl_al (bl0 _) _)) hb | exact bl_tr (bl_al (bl_al (bl0 _) _) _) hb | exact bl_tr (bl_dr (bl_al (bl_al (bl0 _) _) _)) hb | exact bl_tr (bl_al (bl_al (bl_al (bl0 _) _) _) _) hb | exact bl_tr (bl_dr (bl_al (bl_al (bl_al (bl0 _) _) _) _)) hb | exact bl_tr (bl_al (bl_al (bl_al (bl_al (bl0 _) _) _) _) _) hb | exact bl_tr (bl_dr (bl_al (bl_al (bl_al (bl_al (bl0 _) _) _) _) _)) hb | exact bl_tr (bl_al (bl_al (bl_al (bl_al (bl_al (bl0 _) _) _) _) _) _) hb | exact bl_tr (bl_dr (bl_al (bl_al (bl_al (bl_al (bl_al (bl0 _) _) _) _) _) _)) hb | exact bl_tr (bl_al (bl_al (bl_al (bl_al (bl_al (bl_al (bl0 _) _) _) _) _) _) _) hb | exact bl_tr (bl_dr (bl_al (bl_al (bl_al (bl_al (bl_al (bl_al (bl0 _) _) _) _) _) _) _)) hb | exact bl_tr (bl_dr (bl0 _)) hb
        replace hA := bl_tr hA hk
        clear hb hk
        go_wp2
        go_ret
        exact ⟨rfl, hA⟩
    · rw [if_neg hid] at hxi
      have hb : ∀ j, boxV W H S id j = 0 := fun j => by unfold boxV; rw [if_neg (by rw [hxi]; decide)]
      rw [hxi, hb, hb, hb, hb] at H2
      have hcs : id < 0 ∨ ¬ id < 0 := by omega
      have hn16 : (n : Int) ≤ 16384 := by rw [hn]; exact n2
      clear hxi hb hxo hvo hro hob hox hov hrv hpv hnn ht e2 hn n1 n2 hsm h400 hr hc HZ
      rcases hcs with hcs | hcs
      · have hge : (id < 0) := hcs
        clear hid
        go_enter Tryd.func4, Tryd.ntmps4
        go_wp2_with fail
        refine (H0.out _).mono ?_
        rintro e w1 ⟨rfl, hb⟩
        have hk : Below w.heap.size w w1 := by first | exact hb | exact bl_tr (bl_al (bl0 _) _) hb | exact bl_tr (bl_dr (bl_al (bl0 _) _)) hb | exact bl_tr (bl_al (bl_al (bl0 _) _) _) hb | exact bl_tr (bl_dr (bl_al (bl_al (bl0 _) _) _)) hb | exact bl_tr (bl_al (bl_al (bl_al (bl0 _) _) _) _) hb | exact bl_tr (bl_dr (bl_al (bl_al (bl_al (bl0 _) _) _) _)) hb | exact bl_tr (bl_al (bl_al (bl_al (bl_al (bl0 _) _) _) _) _) hb | exact bl_tr (bl_dr (bl_al (bl_al (bl_al (bl_al (bl0 _) _) _) _) _)) hb | exact bl_tr (bl_al (bl_al (bl_al (bl_al (bl_al (bl0 _) _) _) _) _) _) hb | exact bl_tr (bl_dr (bl_al (bl_al (bl_al (bl_al (bl_al (bl0 _) _) _) _) _) _)) hb | exact bl_tr (bl_al (bl_al (bl_al (bl_al (bl_al (bl_al (bl0 _) _) _) _) _) _) _) hb | exact bl_tr (bl_dr (bl_al (bl_al (bl_al (bl_al (bl_al (bl_al (bl0 _) _) _) _) _) _) _)) hb | exact bl_tr (bl_dr (bl0 _)) hb
        replace hA := bl_tr hA hk
        have p0 := cell_later hb (v := .int .i64 W) (a := ⟨w.heap.size, 0, none⟩) (by simp [go_sem])
        have p1 := cell_later hb (v := .int .i64 H) (a := ⟨w.heap.size, 1, none⟩) (by simp [go_sem])
        have p2 := cell_later hb (v := .int .i64 S) (a := ⟨w.heap.size, 2, none⟩) (by simp [go_sem])
        have c0 := cell_later hb (v := .int .i64 c.1) (a := ⟨w.heap.size + 1, 0, none⟩) (by simp [go_sem])
        have c1 := cell_later hb (v := .int .i64 c.2) (a := ⟨w.heap.size + 1, 1, none⟩) (by simp [go_sem])
        clear hb hk
        have zp0 := blk_lt p0
        have zp1 := blk_lt p1
        have zp2 := blk_lt p2
        have zc0 := blk_lt c0
        have zc1 := blk_lt c1
        go_wp2_with fail
        refine (H1.out _).mono ?_
        rintro e w2 ⟨va, vc, rfl, hrow2, hb⟩
        have hk : Below w1.heap.size w1 w2 := by first | exact hb | exact bl_tr (bl_al (bl0 _) _) hb | exact bl_tr (bl_dr (bl_al (bl0 _) _)) hb | exact bl_tr (bl_al (bl_al (bl0 _) _) _) hb | exact bl_tr (bl_dr (bl_al (bl_al (bl0 _) _) _)) hb | exact bl_tr (bl_al (bl_al (bl_al (bl0 _) _) _) _) hb | exact bl_tr (bl_dr (bl_al (bl_al (bl_al (bl0 _) _) _) _)) hb | exact bl_tr (bl_al (bl_al (bl_al (bl_al (bl0 _) _) _) _) _) hb | exact bl_tr (bl_dr (bl_al (bl_al (bl_al (bl_al (bl0 _) _) _) _) _)) hb | exact bl_tr (bl_al (bl_al (bl_al (bl_al (bl_al (bl0 _) _) _) _) _) _) hb | exact bl_tr (bl_dr (bl_al (bl_al (bl_al (bl_al (bl_al (bl0 _) _) _) _) _) _)) hb | exact bl_tr (bl_al (bl_al (bl_al (bl_al (bl_al (bl_al (bl0 _) _) _) _) _) _) _) hb | exact bl_tr (bl_dr (bl_al (bl_al (bl_al (bl_al (bl_al (bl_al (bl0 _) _) _) _) _) _) _)) hb | exact bl_tr (bl_dr (bl0 _)) hb
        replace hA := bl_tr hA hk
        replace p0 := cell_later hk p0
        replace p1 := cell_later hk p1
        replace p2 := cell_later hk p2
        replace c0 := cell_later hk c0
        replace c1 := cell_later hk c1
        clear hb hk
        have zp0 := blk_lt p0
        have zp1 := blk_lt p1
        have zp2 := blk_lt p2
        have zc0 := blk_lt c0
        have zc1 := blk_lt c1
        go_wp2_with fail
        refine (H2.out _).mono ?_
        rintro e w3 ⟨rfl, hb⟩
        have hk : Below w2.heap.size w2 w3 := by first | exact hb | exact bl_tr (bl_al (bl0 _) _) hb | exact bl_tr (bl_dr (bl_al (bl0 _) _)) hb | exact bl_tr (bl_al (bl_al (bl0 _) _) _) hb | exact bl_tr (bl_dr (bl_al (bl_al (bl0 _) _) _)) hb | exact bl_tr (bl_al (bl_al (bl_al (bl0 _) _) _) _) hb | exact bl_tr (bl_dr (bl_al (bl_al (bl_al (bl0 _) _) _) _)) hb | exact bl_tr (bl_al (bl_al (bl_al (bl_al (bl0 _) _) _) _) _) hb | exact bl_tr (bl_dr (bl_al (bl_al (bl_al (bl_al (bl0 _) _) _) _) _)) hb | exact bl_tr (bl_al (bl_al (bl_al (bl_al (bl_al (bl0 _) _) _) _) _) _) hb | exact bl_tr (bl_dr (bl_al (bl_al (bl_al (bl_al (bl_al (bl0 _) _) _) _) _) _)) hb | exact bl_tr (bl_al (bl_al (bl_al (bl_al (bl_al (bl_al (bl0 _) _) _) _) _) _) _) hb | exact bl_tr (bl_dr (bl_al (bl_al (bl_al (bl_al (bl_al (bl_al (bl0 _) _) _) _) _) _) _)) hb | exact bl_tr (bl_dr (bl0 _)) hb
        replace hA := bl_tr hA hk
        replace hrow2 := hrow2.below hk
        replace p0 := cell_later hk p0
        replace p1 := cell_later hk p1
        replace p2 := cell_later hk p2
        replace c0 := cell_later hk c0
        replace c1 := cell_later hk c1
        clear hb hk
        have zp0 := blk_lt p0
        have zp1 := blk_lt p1
        have zp2 := blk_lt p2
        have zc0 := blk_lt c0
        have zc1 := blk_lt c1
        go_wp2_with fail
        refine (H3.out _).mono ?_
        rintro e w4 ⟨rfl, hb⟩
        have hk : Below w3.heap.size w3 w4 := by first | exact hb | exact bl_tr (bl_al (bl0 _) _) hb | exact bl_tr (bl_dr (bl_al (bl0 _) _)) hb | exact bl_tr (bl_al (bl_al (bl0 _) _) _) hb | exact bl_tr (bl_dr (bl_al (bl_al (bl0 _) _) _)) hb | exact bl_tr (bl_al (bl_al (bl_al (bl0 _) _) _) _) hb | exact bl_tr (bl_dr (bl_al (bl_al (bl_al (bl0 _) _) _) _)) hb | exact bl_tr (bl_al (bl_al (bl_al (bl_al (bl0 _) _) _) _) _) hb | exact bl_tr (bl_dr (bl_al (bl_al (bl_al (bl_al (bl0 _) _) _) _) _)) hb | exact bl_tr (bl_al (bl_al (bl_al (bl_al (bl_al (bl0 _) _) _) _) _) _) hb | exact bl_tr (bl_dr (bl_al (bl_al (bl_al (bl_al (bl_al (bl0 _) _) _) _) _) _)) hb | exact bl_tr (bl_al (bl_al (bl_al (bl_al (bl_al (bl_al (bl0 _) _) _) _) _) _) _) hb | exact bl_tr (bl_dr (bl_al (bl_al (bl_al (bl_al (bl_al (bl_al (bl0 _) _) _) _) _) _) _)) hb | exact bl_tr (bl_dr (bl0 _)) hb
        replace hA := bl_tr hA hk
        replace hrow2 := hrow2.below hk
        replace p0 := cell_later hk p0
        replace p1 := cell_later hk p1
        replace p2 := cell_later hk p2
        replace c0 := cell_later hk c0
        replace c1 := cell_later hk c1
        have b0 := cell_later hb (v := .int .i64 0) (a := ⟨w3.heap.size, 0, none⟩) (by simp [go_sem])
        have b1 := cell_later hb (v := .int .i64 0) (a := ⟨w3.heap.size, 1, none⟩) (by simp [go_sem])
        have b2 := cell_later hb (v := .int .i64 0) (a := ⟨w3.heap.size, 2, none⟩) (by simp [go_sem])
        have b3 := cell_later hb (v := .int .i64 0) (a := ⟨w3.heap.size, 3, none⟩) (by simp [go_sem])
        clear hb hk
        have zp0 := blk_lt p0
        have zp1 := blk_lt p1
        have zp2 := blk_lt p2
        have zc0 := blk_lt c0
        have zc1 := blk_lt c1
        have zb0 := blk_lt b0
        have zb1 := blk_lt b1
        have zb2 := blk_lt b2
        have zb3 := blk_lt b3
        go_wp2_with fail
        refine (H6.out _).mono ?_
        rintro e w6 ⟨rfl, hb⟩
        have hk : Below w4.heap.size w4 w6 := by first | exact hb | exact bl_tr (bl_al (bl0 _) _) hb | exact bl_tr (bl_dr (bl_al (bl0 _) _)) hb | exact bl_tr (bl_al (bl_al (bl0 _) _) _) hb | exact bl_tr (bl_dr (bl_al (bl_al (bl0 _) _) _)) hb | exact bl_tr (bl_al (bl_al (bl_al (bl0 _) _) _) _) hb | exact bl_tr (bl_dr (bl_al (bl_al (bl_al (bl0 _) _) _) _)) hb | exact bl_tr (bl_al (bl_al (bl_al (bl_al (bl0 _) _) _) _) _) hb | exact bl_tr (bl_dr (bl_al (bl_al (bl_al (bl_al (bl0 _) _) _) _) _)) hb | exact bl_tr (bl_al (bl_al (bl_al (bl_al (bl_al (bl0 _) _) _) _) _) _) hb | exact bl_tr (bl_dr (bl_al (bl_al (bl_al (bl_al (bl_al (bl0 _) _) _) _) _) _)) hb | exact bl_tr (bl_al (bl_al (bl_al (bl_al (bl_al (bl_al (bl0 _) _) _) _) _) _) _) hb | exact bl_tr (bl_dr (bl_al (bl_al (bl_al (bl_al (bl_al (bl_al (bl0 _) _) _) _) _) _) _)) hb | exact bl_tr (bl_dr (bl0 _)) hb
        replace hA := bl_tr hA hk
        replace hrow2 := hrow2.below hk
        replace p0 := cell_later hk p0
        replace p1 := cell_later hk p1
        replace p2 := cell_later hk p2
        replace c0 := cell_later hk c0
        replace c1 := cell_later hk c1
        replace b0 := cell_later hk b0
        replace b1 := cell_later hk b1
        replace b2 := cell_later hk b2
        replace b3 := cell_later hk b3
        clear hb hk
        have zp0 := blk_lt p0
        have zp1 := blk_lt p1
        have zp2 := blk_lt p2
        have zc0 := blk_lt c0
        have zc1 := blk_lt c1
        have zb0 := blk_lt b0
        have zb1 := blk_lt b1
        have zb2 := blk_lt b2
        have zb3 := blk_lt b3
        go_wp2_with fail
        refine (H4.out _ _ _ hrow2).mono ?_
        rintro e w7 ⟨rfl, hb⟩
        have hk : Below w6.heap.size w6 w7 := by first | exact hb | exact bl_tr (bl_al (bl0 _) _) hb | exact bl_tr (bl_dr (bl_al (bl0 _) _)) hb | exact bl_tr (bl_al (bl_al (bl0 _) _) _) hb | exact bl_tr (bl_dr (bl_al (bl_al (bl0 _) _) _)) hb | exact bl_tr (bl_al (bl_al (bl_al (bl0 _) _) _) _) hb | exact bl_tr (bl_dr (bl_al (bl_al (bl_al (bl0 _) _) _) _)) hb | exact bl_tr (bl_al (bl_al (bl_al (bl_al (bl0 _) _) _) _) _) hb | exact bl_tr (bl_dr (bl_al (bl_al (bl_al (bl_al (bl0 _) _) _) _) _)) hb | exact bl_tr (bl_al (bl_al (bl_al (bl_al (bl_al (bl0 _) _) _) _) _) _) hb | exact bl_tr (bl_dr (bl_al (bl_al (bl_al (bl_al (bl_al (bl0 _) _) _) _) _) _)) hb | exact bl_tr (bl_al (bl_al (bl_al (bl_al (bl_al (bl_al (bl0 _) _) _) _) _) _) _) hb | exact bl_tr (bl_dr (bl_al (bl_al (bl_al (bl_al (bl_al (bl_al (bl0 _) _) _) _) _) _) _)) hb | exact bl_tr (bl_dr (bl0 _)) hb
        replace hA := bl_tr hA hk
        replace c0 := cell_later hk c0
        clear hb hk
        have zc0 := blk_lt c0
        have hxo := HXO.out; have hvo := HVO.out; have hro := HRO.out
        cases t
        · rw [if_neg (by decide)] at hxo hvo hro
          subst hxo hvo hro
          go_wp2_with fail
          refine (awake11 _ (hs.below (by first | exact hA | exact (bl_al hA _) | exact (bl_dr (bl_al hA _)) | exact (bl_al (bl_al hA _) _) | exact (bl_dr (bl_al (bl_al hA _) _)) | exact (bl_al (bl_al (bl_al hA _) _) _) | exact (bl_dr (bl_al (bl_al (bl_al hA _) _) _)) | exact (bl_al (bl_al (bl_al (bl_al hA _) _) _) _) | exact (bl_dr (bl_al (bl_al (bl_al (bl_al hA _) _) _) _)) | exact (bl_al (bl_al (bl_al (bl_al (bl_al hA _) _) _) _) _) | exact (bl_dr (bl_al (bl_al (bl_al (bl_al (bl_al hA _) _) _) _) _)) | exact (bl_al (bl_al (bl_al (bl_al (bl_al (bl_al hA _) _) _) _) _) _) | exact (bl_dr (bl_al (bl_al (bl_al (bl_al (bl_al (bl_al hA _) _) _) _) _) _)) | exact (bl_dr hA)))).mono ?_
          rintro e w8 ⟨rfl, hb⟩
          have hk : Below w7.heap.size w7 w8 := by first | exact hb | exact bl_tr (bl_al (bl0 _) _) hb | exact bl_tr (bl_dr (bl_al (bl0 _) _)) hb | exact bl_tr (bl_al (bl_al (bl0 _) _) _) hb | exact bl_tr (bl_dr (bl_al (bl_al (bl0 _) _) _)) hb | exact bl_tr (bl_al (bl_al (bl_al (bl0 _) _) _) _) hb | exact bl_tr (bl_dr (bl_al (bl_al (bl_al (bl0 _) _) _) _)) hb | exact bl_tr (bl_al (bl_al (bl_al (bl_al (bl0 _) _) _) _) _) hb | exact bl_tr (bl_dr (bl_al (bl_al (bl_al (bl_al (bl0 _) _) _) _) _)) hb | exact bl_tr (bl_al (bl_al (bl_al (bl_al (bl_al (bl0 _) _) _) _) _) _) hb | exact bl_tr (bl_dr (bl_al (bl_al (bl_al (bl_al (bl_al (bl0 _) _) _) _) _) _)) hb | exact bl_tr (bl_al (bl_al (bl_al (bl_al (bl_al (bl_al (bl0 _) _) _) _) _) _) _) hb | exact bl_tr (bl_dr (bl_al (bl_al (bl_al (bl_al (bl_al (bl_al (bl0 _) _) _) _) _) _) _)) hb | exact bl_tr (bl_dr (bl0 _)) hb
          replace hA := bl_tr hA hk
          clear hb hk
          go_wp2
          go_ret
          exact ⟨rfl, hA⟩
        · rw [if_pos rfl] at hxo hvo hro
          have h0 := HOB.out (by trivial)
          subst hxo hvo hro
          have hlt0 : ¬ rv < 0 := by omega
          go_wp2_with fail
          refine (awake11 _ (hs.below (by first | exact hA | exact (bl_al hA _) | exact (bl_dr (bl_al hA _)) | exact (bl_al (bl_al hA _) _) | exact (bl_dr (bl_al (bl_al hA _) _)) | exact (bl_al (bl_al (bl_al hA _) _) _) | exact (bl_dr (bl_al (bl_al (bl_al hA _) _) _)) | exact (bl_al (bl_al (bl_al (bl_al hA _) _) _) _) | exact (bl_dr (bl_al (bl_al (bl_al (bl_al hA _) _) _) _)) | exact (bl_al (bl_al (bl_al (bl_al (bl_al hA _) _) _) _) _) | exact (bl_dr (bl_al (bl_al (bl_al (bl_al (bl_al hA _) _) _) _) _)) | exact (bl_al (bl_al (bl_al (bl_al (bl_al (bl_al hA _) _) _) _) _) _) | exact (bl_dr (bl_al (bl_al (bl_al (bl_al (bl_al (bl_al hA _) _) _) _) _) _)) | exact (bl_dr hA)))).mono ?_
          rintro e w8 ⟨rfl, hb⟩
          have hk : Below w7.heap.size w7 w8 := by first | exact hb | exact bl_tr (bl_al (bl0 _) _) hb | exact bl_tr (bl_dr (bl_al (bl0 _) _)) hb | exact bl_tr (bl_al (bl_al (bl0 _) _) _) hb | exact bl_tr (bl_dr (bl_al (bl_al (bl0 _) _) _)) hb | exact bl_tr (bl_al (bl_al (bl_al (bl0 _) _) _) _) hb | exact bl_tr (bl_dr (bl_al (bl_al (bl_al (bl0 _) _) _) _)) hb | exact bl_tr (bl_al (bl_al (bl_al (bl_al (bl0 _) _) _) _) _) hb | exact bl_tr (bl_dr (bl_al (bl_al (bl_al (bl_al (bl0 _) _) _) _) _)) hb | exact bl_tr (bl_al (bl_al (bl_al (bl_al (bl_al (bl0 _) _) _) _) _) _) hb | exact bl_tr (bl_dr (bl_al (bl_al (bl_al (bl_al (bl_al (bl0 _) _) _) _) _) _)) hb | exact bl_tr (bl_al (bl_al (bl_al (bl_al (bl_al (bl_al (bl0 _) _) _) _) _) _) _) hb | exact bl_tr (bl_dr (bl_al (bl_al (bl_al (bl_al (bl_al (bl_al (bl0 _) _) _) _) _) _) _)) hb | exact bl_tr (bl_dr (bl0 _)) hb
          replace hA := bl_tr hA hk
          clear hb hk
          go_wp2
          go_ret
          exact ⟨rfl, hA⟩
      · have hge : (n : Int) ≤ id := by omega
        have hid0 : 0 ≤ id := by omega
        clear hid
        go_enter Tryd.func4, Tryd.ntmps4
        go_wp2_with fail
        refine (H0.out _).mono ?_
        rintro e w1 ⟨rfl, hb⟩
        have hk : Below w.heap.size w w1 := by first | exact hb | exact bl_tr (bl_al (bl0 _) _) hb | exact bl_tr (bl_dr (bl_al (bl0 _) _)) hb | exact bl_tr (bl_al (bl_al (bl0 _) _) _) hb | exact bl_tr (bl_dr (bl_al (bl_al (bl0 _) _) _)) hb | exact bl_tr (bl_al (bl_al (bl_al (bl0 _) _) _) _) hb | exact bl_tr (bl_dr (bl_al (bl_al (bl_al (bl0 _) _) _) _)) hb | exact bl_tr (bl_al (bl_al (bl_al (bl_al (bl0 _) _) _) _) _) hb | exact bl_tr (bl_dr (bl_al (bl_al (bl_al (bl_al (bl0 _) _) _) _) _)) hb | exact bl_tr (bl_al (bl_al (bl_al (bl_al (bl_al (bl0 _) _) _) _) _) _) hb | exact bl_tr (bl_dr (bl_al (bl_al (bl_al (bl_al (bl_al (bl0 _) _) _) _) _) _)) hb | exact bl_tr (bl_al (bl_al (bl_al (bl_al (bl_al (bl_al (bl0 _) _) _) _) _) _) _) hb | exact bl_tr (bl_dr (bl_al (bl_al (bl_al (bl_al (bl_al (bl_al (bl0 _) _) _) _) _) _) _)) hb | exact bl_tr (bl_dr (bl0 _)) hb
        replace hA := bl_tr hA hk
        have p0 := cell_later hb (v := .int .i64 W) (a := ⟨w.heap.size, 0, none⟩) (by simp [go_sem])
        have p1 := cell_later hb (v := .int .i64 H) (a := ⟨w.heap.size, 1, none⟩) (by simp [go_sem])
        have p2 := cell_later hb (v := .int .i64 S) (a := ⟨w.heap.size, 2, none⟩) (by simp [go_sem])
        have c0 := cell_later hb (v := .int .i64 c.1) (a := ⟨w.heap.size + 1, 0, none⟩) (by simp [go_sem])
        have c1 := cell_later hb (v := .int .i64 c.2) (a := ⟨w.heap.size + 1, 1, none⟩) (by simp [go_sem])
        clear hb hk
        have zp0 := blk_lt p0
        have zp1 := blk_lt p1
        have zp2 := blk_lt p2
        have zc0 := blk_lt c0
        have zc1 := blk_lt c1
        go_wp2_with fail
        refine (H1.out _).mono ?_
        rintro e w2 ⟨va, vc, rfl, hrow2, hb⟩
        have hk : Below w1.heap.size w1 w2 := by first | exact hb | exact bl_tr (bl_al (bl0 _) _) hb | exact bl_tr (bl_dr (bl_al (bl0 _) _)) hb | exact bl_tr (bl_al (bl_al (bl0 _) _) _) hb | exact bl_tr (bl_dr (bl_al (bl_al (bl0 _) _) _)) hb | exact bl_tr (bl_al (bl_al (bl_al (bl0 _) _) _) _) hb | exact bl_tr (bl_dr (bl_al (bl_al (bl_al (bl0 _) _) _) _)) hb | exact bl_tr (bl_al (bl_al (bl_al (bl_al (bl0 _) _) _) _) _) hb | exact bl_tr (bl_dr (bl_al (bl_al (bl_al (bl_al (bl0 _) _) _) _) _)) hb | exact bl_tr (bl_al (bl_al (bl_al (bl_al (bl_al (bl0 _) _) _) _) _) _) hb | exact bl_tr (bl_dr (bl_al (bl_al (bl_al (bl_al (bl_al (bl0 _) _) _) _) _) _)) hb | exact bl_tr (bl_al (bl_al (bl_al (bl_al (bl_al (bl_al (bl0 _) _) _) _) _) _) _) hb | exact bl_tr (bl_dr (bl_al (bl_al (bl_al (bl_al (bl_al (bl_al (bl0 _) _) _) _) _) _) _)) hb | exact bl_tr (bl_dr (bl0 _)) hb
        replace hA := bl_tr hA hk
        replace p0 := cell_later hk p0
        replace p1 := cell_later hk p1
        replace p2 := cell_later hk p2
        replace c0 := cell_later hk c0
        replace c1 := cell_later hk c1
        clear hb hk
        have zp0 := blk_lt p0
        have zp1 := blk_lt p1
        have zp2 := blk_lt p2
        have zc0 := blk_lt c0
        have zc1 := blk_lt c1
        go_wp2_with fail
        refine (H2.out _).mono ?_
        rintro e w3 ⟨rfl, hb⟩
        have hk : Below w2.heap.size w2 w3 := by first | exact hb | exact bl_tr (bl_al (bl0 _) _) hb | exact bl_tr (bl_dr (bl_al (bl0 _) _)) hb | exact bl_tr (bl_al (bl_al (bl0 _) _) _) hb | exact bl_tr (bl_dr (bl_al (bl_al (bl0 _) _) _)) hb | exact bl_tr (bl_al (bl_al (bl_al (bl0 _) _) _) _) hb | exact bl_tr (bl_dr (bl_al (bl_al (bl_al (bl0 _) _) _) _)) hb | exact bl_tr (bl_al (bl_al (bl_al (bl_al (bl0 _) _) _) _) _) hb | exact bl_tr (bl_dr (bl_al (bl_al (bl_al (bl_al (bl0 _) _) _) _) _)) hb | exact bl_tr (bl_al (bl_al (bl_al (bl_al (bl_al (bl0 _) _) _) _) _) _) hb | exact bl_tr (bl_dr (bl_al (bl_al (bl_al (bl_al (bl_al (bl0 _) _) _) _) _) _)) hb | exact bl_tr (bl_al (bl_al (bl_al (bl_al (bl_al (bl_al (bl0 _) _) _) _) _) _) _) hb | exact bl_tr (bl_dr (bl_al (bl_al (bl_al (bl_al (bl_al (bl_al (bl0 _) _) _) _) _) _) _)) hb | exact bl_tr (bl_dr (bl0 _)) hb
        replace hA := bl_tr hA hk
        replace hrow2 := hrow2.below hk
        replace p0 := cell_later hk p0
        replace p1 := cell_later hk p1
        replace p2 := cell_later hk p2
        replace c0 := cell_later hk c0
        replace c1 := cell_later hk c1
        clear hb hk
        have zp0 := blk_lt p0
        have zp1 := blk_lt p1
        have zp2 := blk_lt p2
        have zc0 := blk_lt c0
        have zc1 := blk_lt c1
        go_wp2_with fail
        refine (H3.out _).mono ?_
        rintro e w4 ⟨rfl, hb⟩
        have hk : Below w3.heap.size w3 w4 := by first | exact hb | exact bl_tr (bl_al (bl0 _) _) hb | exact bl_tr (bl_dr (bl_al (bl0 _) _)) hb | exact bl_tr (bl_al (bl_al (bl0 _) _) _) hb | exact bl_tr (bl_dr (bl_al (bl_al (bl0 _) _) _)) hb | exact bl_tr (bl_al (bl_al (bl_al (bl0 _) _) _) _) hb | exact bl_tr (bl_dr (bl_al (bl_al (bl_al (bl0 _) _) _) _)) hb | exact bl_tr (bl_al (bl_al (bl_al (bl_al (bl0 _) _) _) _) _) hb | exact bl_tr (bl_dr (bl_al (bl_al (bl_al (bl_al (bl0 _) _) _) _) _)) hb | exact bl_tr (bl_al (bl_al (bl_al (bl_al (bl_al (bl0 _) _) _) _) _) _) hb | exact bl_tr (bl_dr (bl_al (bl_al (bl_al (bl_al (bl_al (bl0 _) _) _) _) _) _)) hb | exact bl_tr (bl_al (bl_al (bl_al (bl_al (bl_al (bl_al (bl0 _) _) _) _) _) _) _) hb | exact bl_tr (bl_dr (bl_al (bl_al (bl_al (bl_al (bl_al (bl_al (bl0 _) _) _) _) _) _) _)) hb | exact bl_tr (bl_dr (bl0 _)) hb
        replace hA := bl_tr hA hk
        replace hrow2 := hrow2.below hk
        replace p0 := cell_later hk p0
        replace p1 := cell_later hk p1
        replace p2 := cell_later hk p2
        replace c0 := cell_later hk c0
        replace c1 := cell_later hk c1
        have b0 := cell_later hb (v := .int .i64 0) (a := ⟨w3.heap.size, 0, none⟩) (by simp [go_sem])
        have b1 := cell_later hb (v := .int .i64 0) (a := ⟨w3.heap.size, 1, none⟩) (by simp [go_sem])
        have b2 := cell_later hb (v := .int .i64 0) (a := ⟨w3.heap.size, 2, none⟩) (by simp [go_sem])
        have b3 := cell_later hb (v := .int .i64 0) (a := ⟨w3.heap.size, 3, none⟩) (by simp [go_sem])
        clear hb hk
        have zp0 := blk_lt p0
        have zp1 := blk_lt p1
        have zp2 := blk_lt p2
        have zc0 := blk_lt c0
        have zc1 := blk_lt c1
        have zb0 := blk_lt b0
        have zb1 := blk_lt b1
        have zb2 := blk_lt b2
        have zb3 := blk_lt b3
        go_wp2_with fail
        refine (H6.out _).mono ?_
        rintro e w6 ⟨rfl, hb⟩
        have hk : Below w4.heap.size w4 w6 := by first | exact hb | exact bl_tr (bl_al (bl0 _) _) hb | exact bl_tr (bl_dr (bl_al (bl0 _) _)) hb | exact bl_tr (bl_al (bl_al (bl0 _) _) _) hb | exact bl_tr (bl_dr (bl_al (bl_al (bl0 _) _) _)) hb | exact bl_tr (bl_al (bl_al (bl_al (bl0 _) _) _) _) hb | exact bl_tr (bl_dr (bl_al (bl_al (bl_al (bl0 _) _) _) _)) hb | exact bl_tr (bl_al (bl_al (bl_al (bl_al (bl0 _) _) _) _) _) hb | exact bl_tr (bl_dr (bl_al (bl_al (bl_al (bl_al (bl0 _) _) _) _) _)) hb | exact bl_tr (bl_al (bl_al (bl_al (bl_al (bl_al (bl0 _) _) _) _) _) _) hb | exact bl_tr (bl_dr (bl_al (bl_al (bl_al (bl_al (bl_al (bl0 _) _) _) _) _) _)) hb | exact bl_tr (bl_al (bl_al (bl_al (bl_al (bl_al (bl_al (bl0 _) _) _) _) _) _) _) hb | exact bl_tr (bl_dr (bl_al (bl_al (bl_al (bl_al (bl_al (bl_al (bl0 _) _) _) _) _) _) _)) hb | exact bl_tr (bl_dr (bl0 _)) hb
        replace hA := bl_tr hA hk
        replace hrow2 := hrow2.below hk
        replace p0 := cell_later hk p0
        replace p1 := cell_later hk p1
        replace p2 := cell_later hk p2
        replace c0 := cell_later hk c0
        replace c1 := cell_later hk c1
        replace b0 := cell_later hk b0
        replace b1 := cell_later hk b1
        replace b2 := cell_later hk b2
        replace b3 := cell_later hk b3
        clear hb hk
        have zp0 := blk_lt p0
        have zp1 := blk_lt p1
        have zp2 := blk_lt p2
        have zc0 := blk_lt c0
        have zc1 := blk_lt c1
        have zb0 := blk_lt b0
        have zb1 := blk_lt b1
        have zb2 := blk_lt b2
        have zb3 := blk_lt b3
        go_wp2_with fail
        refine (H4.out _ _ _ hrow2).mono ?_
        rintro e w7 ⟨rfl, hb⟩
        have hk : Below w6.heap.size w6 w7 := by first | exact hb | exact bl_tr (bl_al (bl0 _) _) hb | exact bl_tr (bl_dr (bl_al (bl0 _) _)) hb | exact bl_tr (bl_al (bl_al (bl0 _) _) _) hb | exact bl_tr (bl_dr (bl_al (bl_al (bl0 _) _) _)) hb | exact bl_tr (bl_al (bl_al (bl_al (bl0 _) _) _) _) hb | exact bl_tr (bl_dr (bl_al (bl_al (bl_al (bl0 _) _) _) _)) hb | exact bl_tr (bl_al (bl_al (bl_al (bl_al (bl0 _) _) _) _) _) hb | exact bl_tr (bl_dr (bl_al (bl_al (bl_al (bl_al (bl0 _) _) _) _) _)) hb | exact bl_tr (bl_al (bl_al (bl_al (bl_al (bl_al (bl0 _) _) _) _) _) _) hb | exact bl_tr (bl_dr (bl_al (bl_al (bl_al (bl_al (bl_al (bl0 _) _) _) _) _) _)) hb | exact bl_tr (bl_al (bl_al (bl_al (bl_al (bl_al (bl_al (bl0 _) _) _) _) _) _) _) hb | exact bl_tr (bl_dr (bl_al (bl_al (bl_al (bl_al (bl_al (bl_al (bl0 _) _) _) _) _) _) _)) hb | exact bl_tr (bl_dr (bl0 _)) hb
        replace hA := bl_tr hA hk
        replace c0 := cell_later hk c0
        clear hb hk
        have zc0 := blk_lt c0
        have hxo := HXO.out; have hvo := HVO.out; have hro := HRO.out
        cases t
        · rw [if_neg (by decide)] at hxo hvo hro
          subst hxo hvo hro
          go_wp2_with fail
          refine (awake11 _ (hs.below (by first | exact hA | exact (bl_al hA _) | exact (bl_dr (bl_al hA _)) | exact (bl_al (bl_al hA _) _) | exact (bl_dr (bl_al (bl_al hA _) _)) | exact (bl_al (bl_al (bl_al hA _) _) _) | exact (bl_dr (bl_al (bl_al (bl_al hA _) _) _)) | exact (bl_al (bl_al (bl_al (bl_al hA _) _) _) _) | exact (bl_dr (bl_al (bl_al (bl_al (bl_al hA _) _) _) _)) | exact (bl_al (bl_al (bl_al (bl_al (bl_al hA _) _) _) _) _) | exact (bl_dr (bl_al (bl_al (bl_al (bl_al (bl_al hA _) _) _) _) _)) | exact (bl_al (bl_al (bl_al (bl_al (bl_al (bl_al hA _) _) _) _) _) _) | exact (bl_dr (bl_al (bl_al (bl_al (bl_al (bl_al (bl_al hA _) _) _) _) _) _)) | exact (bl_dr hA)))).mono ?_
          rintro e w8 ⟨rfl, hb⟩
          have hk : Below w7.heap.size w7 w8 := by first | exact hb | exact bl_tr (bl_al (bl0 _) _) hb | exact bl_tr (bl_dr (bl_al (bl0 _) _)) hb | exact bl_tr (bl_al (bl_al (bl0 _) _) _) hb | exact bl_tr (bl_dr (bl_al (bl_al (bl0 _) _) _)) hb | exact bl_tr (bl_al (bl_al (bl_al (bl0 _) _) _) _) hb | exact bl_tr (bl_dr (bl_al (bl_al (bl_al (bl0 _) _) _) _)) hb | exact bl_tr (bl_al (bl_al (bl_al (bl_al (bl0 _) _) _) _) _) hb | exact bl_tr (bl_dr (bl_al (bl_al (bl_al (bl_al (bl0 _) _) _) _) _)) hb | exact bl_tr (bl_al (bl_al (bl_al (bl_al (bl_al (bl0 _) _) _) _) _) _) hb | exact bl_tr (bl_dr (bl_al (bl_al (bl_al (bl_al (bl_al (bl0 _) _) _) _) _) _)) hb | exact bl_tr (bl_al (bl_al (bl_al (bl_al (bl_al (bl_al (bl0 _) _) _) _) _) _) _) hb | exact bl_tr (bl_dr (bl_al (bl_al (bl_al (bl_al (bl_al (bl_al (bl0 _) _) _) _) _) _) _)) hb | exact bl_tr (bl_dr (bl0 _)) hb
          replace hA := bl_tr hA hk
          clear hb hk
          go_wp2
          go_ret
          exact ⟨rfl, hA⟩
        · rw [if_pos rfl] at hxo hvo hro
          have h0 := HOB.out (by trivial)
          subst hxo hvo hro
          have hlt0 : ¬ rv < 0 := by omega
          go_wp2_with fail
          refine (awake11 _ (hs.below (by first | exact hA | exact (bl_al hA _) | exact (bl_dr (bl_al hA _)) | exact (bl_al (bl_al hA _) _) | exact (bl_dr (bl_al (bl_al hA _) _)) | exact (bl_al (bl_al (bl_al hA _) _) _) | exact (bl_dr (bl_al (bl_al (bl_al hA _) _) _)) | exact (bl_al (bl_al (bl_al (bl_al hA _) _) _) _) | exact (bl_dr (bl_al (bl_al (bl_al (bl_al hA _) _) _) _)) | exact (bl_al (bl_al (bl_al (bl_al (bl_al hA _) _) _) _) _) | exact (bl_dr (bl_al (bl_al (bl_al (bl_al (bl_al hA _) _) _) _) _)) | exact (bl_al (bl_al (bl_al (bl_al (bl_al (bl_al hA _) _) _) _) _) _) | exact (bl_dr (bl_al (bl_al (bl_al (bl_al (bl_al (bl_al hA _) _) _) _) _) _)) | exact (bl_dr hA)))).mono ?_
          rintro e w8 ⟨rfl, hb⟩
          have hk : Below w7.heap.size w7 w8 := by first | exact hb | exact bl_tr (bl_al (bl0 _) _) hb | exact bl_tr (bl_dr (bl_al (bl0 _) _)) hb | exact bl_tr (bl_al (bl_al (bl0 _) _) _) hb | exact bl_tr (bl_dr (bl_al (bl_al (bl0 _) _) _)) hb | exact bl_tr (bl_al (bl_al (bl_al (bl0 _) _) _) _) hb | exact bl_tr (bl_dr (bl_al (bl_al (bl_al (bl0 _) _) _) _)) hb | exact bl_tr (bl_al (bl_al (bl_al (bl_al (bl0 _) _) _) _) _) hb | exact bl_tr (bl_dr (bl_al (bl_al (bl_al (bl_al (bl0 _) _) _) _) _)) hb | exact bl_tr (bl_al (bl_al (bl_al (bl_al (bl_al (bl0 _) _) _) _) _) _) hb | exact bl_tr (bl_dr (bl_al (bl_al (bl_al (bl_al (bl_al (bl0 _) _) _) _) _) _)) hb | exact bl_tr (bl_al (bl_al (bl_al (bl_al (bl_al (bl_al (bl0 _) _) _) _) _) _) _) hb | exact bl_tr (bl_dr (bl_al (bl_al (bl_al (bl_al (bl_al (bl_al (bl0 _) _) _) _) _) _) _)) hb | exact bl_tr (bl_dr (bl0 _)) hb
          replace hA := bl_tr hA hk
          clear hb hk
          go_wp2
          go_ret
          exact ⟨rfl, hA⟩
end Go.Proofs.YtdajddcladapaaaDoor
