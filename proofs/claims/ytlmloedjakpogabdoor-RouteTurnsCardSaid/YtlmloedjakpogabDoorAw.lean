/- RouteTurns: its walk. -/
import Derived.Test.YtlmloedjakpogabDoorAv
namespace Go.Proofs.YtlmloedjakpogabDoor
open Go.RowKit

set_option maxRecDepth 100000 in
set_option maxHeartbeats 8000000 in
theorem rturns_walk (A B : Int) (a b : Option Addr) (cap cap2 : Nat) (zs : List Int) (l : List IC) (w : World) (hs : Stp w) (hr : RowH w a zs) (hin : AllH zs) (hrc : RowC w b l) :
    Calls Tryd.prog 7 #[.agg #[.int .i64 A, .int .i64 B, .slice a zs.length cap], .slice b l.length cap2] w fun e w' => e = .returned (.bool true) ∧ Below w.heap.size w w' := by
  have hA := bl0 w
  obtain ⟨i0, hi, hz0, hz1, hz2⟩ := info_parts Tryd.infoCell
  cases hsm : smR zs.length l.length
  · have HSM := Lib.hid hsm
    clear hsm
    go_enter Tryd.func7, Tryd.ntmps7
    go_wp2_with fail
    refine (small_any _ _ _ _ _ _ _ _ _).mono ?_
    rintro e w1 ⟨rfl, hb⟩
    have hk : Below w.heap.size w w1 := by first | exact hb | exact bl_tr (bl_al (bl0 _) _) hb | exact bl_tr (bl_dr (bl_al (bl0 _) _)) hb | exact bl_tr (bl_al (bl_al (bl0 _) _) _) hb | exact bl_tr (bl_dr (bl_al (bl_al (bl0 _) _) _)) hb | exact bl_tr (bl_al (bl_al (bl_al (bl0 _) _) _) _) hb | exact bl_tr (bl_dr (bl_al (bl_al (bl_al (bl0 _) _) _) _)) hb | exact bl_tr (bl_al (bl_al (bl_al (bl_al (bl0 _) _) _) _) _) hb | exact bl_tr (bl_dr (bl_al (bl_al (bl_al (bl_al (bl0 _) _) _) _) _)) hb | exact bl_tr (bl_al (bl_al (bl_al (bl_al (bl_al (bl0 _) _) _) _) _) _) hb | exact bl_tr (bl_dr (bl_al (bl_al (bl_al (bl_al (bl_al (bl0 _) _) _) _) _) _)) hb | exact bl_tr (bl_al (bl_al (bl_al (bl_al (bl_al (bl_al (bl0 _) _) _) _) _) _) _) hb | exact bl_tr (bl_dr (bl_al (bl_al (bl_al (bl_al (bl_al (bl_al (bl0 _) _) _) _) _) _) _)) hb | exact bl_tr (bl_dr (bl0 _)) hb
    replace hA := bl_tr hA hk
    clear hb hk
    rw [HSM.out]
    go_wp2_with fail
    refine (awake_any _ (hs.below hA)).mono ?_
    rintro e w2 ⟨rfl, hb⟩
    have hk : Below w1.heap.size w1 w2 := by first | exact hb | exact bl_tr (bl_al (bl0 _) _) hb | exact bl_tr (bl_dr (bl_al (bl0 _) _)) hb | exact bl_tr (bl_al (bl_al (bl0 _) _) _) hb | exact bl_tr (bl_dr (bl_al (bl_al (bl0 _) _) _)) hb | exact bl_tr (bl_al (bl_al (bl_al (bl0 _) _) _) _) hb | exact bl_tr (bl_dr (bl_al (bl_al (bl_al (bl0 _) _) _) _)) hb | exact bl_tr (bl_al (bl_al (bl_al (bl_al (bl0 _) _) _) _) _) hb | exact bl_tr (bl_dr (bl_al (bl_al (bl_al (bl_al (bl0 _) _) _) _) _)) hb | exact bl_tr (bl_al (bl_al (bl_al (bl_al (bl_al (bl0 _) _) _) _) _) _) hb | exact bl_tr (bl_dr (bl_al (bl_al (bl_al (bl_al (bl_al (bl0 _) _) _) _) _) _)) hb | exact bl_tr (bl_al (bl_al (bl_al (bl_al (bl_al (bl_al (bl0 _) _) _) _) _) _) _) hb | exact bl_tr (bl_dr (bl_al (bl_al (bl_al (bl_al (bl_al (bl_al (bl0 _) _) _) _) _) _) _)) hb | exact bl_tr (bl_dr (bl0 _)) hb
    replace hA := bl_tr hA hk
    clear hb hk
    go_wp2
    go_ret
    exact ⟨rfl, hA⟩
  have hl : l.length ≤ 200 := by
    unfold smR at hsm
    rw [Bool.and_eq_true, decide_eq_true_eq, decide_eq_true_eq] at hsm
    omega
  have HSM := Lib.hid hsm
  clear hsm
  have hco := fun W h1 h2 h3 => cost_path A B a b cap cap2 zs l W h1 hin h2 h3 (by omega)
  have hcr := fun (x : Option Addr) (cp : Nat) W h1 h2 h3 => cost_path A B a x cap cp zs l.reverse W h1 hin h2 h3 (by rw [List.length_reverse]; omega)
  have hiff := pathE_rev (A := A) (B := B) (zs := zs) (l := l)
  have hpos := @pathE_ok A B zs l
  have hcp : costP A B zs l = if pathE A B zs l (chkF A B zs.length) = 0 then costS A zs l.tail else 0 := rfl
  have hcp2 : costP A B zs l.reverse = if pathE A B zs l.reverse (chkF A B zs.length) = 0 then costS A zs l.reverse.tail else 0 := rfl
  generalize pathE A B zs l (chkF A B zs.length) = P at *
  generalize pathE A B zs l.reverse (chkF A B zs.length) = P2 at *
  generalize costP A B zs l = C at *
  generalize costP A B zs l.reverse = C2 at *
  have HCO := Lib.hid hco; have HCR := Lib.hid hcr; have HI := Lib.hid hiff; have HP := Lib.hid hpos; have HC1 := Lib.hid hcp; have HC2 := Lib.hid hcp2
  clear hco hcr hiff hpos hcp hcp2
  have hrat : ∀ m, m + 1 ≤ l.length → l.reverse.take (l.length - m) = l.reverse.take (l.length - (m + 1)) ++ [cK l m] := fun m hm => by
    have h := cK_snoc (l := l.reverse) (k := l.length - (m + 1)) (by rw [List.length_reverse]; omega)
    rw [rev_at (by omega), show l.length - 1 - (l.length - (m + 1)) = m by omega, show l.length - (m + 1) + 1 = l.length - m by omega] at h
    exact h
  have hrl : l.reverse.length = l.length := List.length_reverse
  generalize hrv : l.reverse = r at *
  have HRV := Lib.hid hrv; have HRL := Lib.hid hrl; have HRAT := Lib.hid hrat
  clear hrv hrl hrat
  have e0 : IntKind.i64.wrap ((l.length : Int) - 1) = (l.length : Int) - 1 := IntWalk.i64_in _ (by omega)
  go_enter Tryd.func7, Tryd.ntmps7
  go_wp2_with fail
  refine (small_any _ _ _ _ _ _ _ _ _).mono ?_
  rintro e w1 ⟨rfl, hb⟩
  have hk : Below w.heap.size w w1 := by first | exact hb | exact bl_tr (bl_al (bl0 _) _) hb | exact bl_tr (bl_dr (bl_al (bl0 _) _)) hb | exact bl_tr (bl_al (bl_al (bl0 _) _) _) hb | exact bl_tr (bl_dr (bl_al (bl_al (bl0 _) _) _)) hb | exact bl_tr (bl_al (bl_al (bl_al (bl0 _) _) _) _) hb | exact bl_tr (bl_dr (bl_al (bl_al (bl_al (bl0 _) _) _) _)) hb | exact bl_tr (bl_al (bl_al (bl_al (bl_al (bl0 _) _) _) _) _) hb | exact bl_tr (bl_dr (bl_al (bl_al (bl_al (bl_al (bl0 _) _) _) _) _)) hb | exact bl_tr (bl_al (bl_al (bl_al (bl_al (bl_al (bl0 _) _) _) _) _) _) hb | exact bl_tr (bl_dr (bl_al (bl_al (bl_al (bl_al (bl_al (bl0 _) _) _) _) _) _)) hb | exact bl_tr (bl_al (bl_al (bl_al (bl_al (bl_al (bl_al (bl0 _) _) _) _) _) _) _) hb | exact bl_tr (bl_dr (bl_al (bl_al (bl_al (bl_al (bl_al (bl_al (bl0 _) _) _) _) _) _) _)) hb | exact bl_tr (bl_dr (bl0 _)) hb
  replace hA := bl_tr hA hk
  have f0 := cell_later hb (v := .int .i64 A) (a := ⟨w.heap.size, 0, none⟩) (by simp [go_sem])
  have f1 := cell_later hb (v := .int .i64 B) (a := ⟨w.heap.size, 1, none⟩) (by simp [go_sem])
  have f2 := cell_later hb (v := .slice a zs.length cap) (a := ⟨w.heap.size, 2, none⟩) (by simp [go_sem])
  clear hb hk
  have zf0 := blk_lt f0
  have zf1 := blk_lt f1
  have zf2 := blk_lt f2
  rw [HSM.out]
  go_wp2_with fail
  refine (HCO.out _ (hr.below hA) (hrc.below hA) (hs.below hA)).mono ?_
  rintro e w2 ⟨rfl, hb⟩
  have hk : Below w1.heap.size w1 w2 := by first | exact hb | exact bl_tr (bl_al (bl0 _) _) hb | exact bl_tr (bl_dr (bl_al (bl0 _) _)) hb | exact bl_tr (bl_al (bl_al (bl0 _) _) _) hb | exact bl_tr (bl_dr (bl_al (bl_al (bl0 _) _) _)) hb | exact bl_tr (bl_al (bl_al (bl_al (bl0 _) _) _) _) hb | exact bl_tr (bl_dr (bl_al (bl_al (bl_al (bl0 _) _) _) _)) hb | exact bl_tr (bl_al (bl_al (bl_al (bl_al (bl0 _) _) _) _) _) hb | exact bl_tr (bl_dr (bl_al (bl_al (bl_al (bl_al (bl0 _) _) _) _) _)) hb | exact bl_tr (bl_al (bl_al (bl_al (bl_al (bl_al (bl0 _) _) _) _) _) _) hb | exact bl_tr (bl_dr (bl_al (bl_al (bl_al (bl_al (bl_al (bl0 _) _) _) _) _) _)) hb | exact bl_tr (bl_al (bl_al (bl_al (bl_al (bl_al (bl_al (bl0 _) _) _) _) _) _) _) hb | exact bl_tr (bl_dr (bl_al (bl_al (bl_al (bl_al (bl_al (bl_al (bl0 _) _) _) _) _) _) _)) hb | exact bl_tr (bl_dr (bl0 _)) hb
  replace hA := bl_tr hA hk
  replace f0 := cell_later hk f0
  replace f1 := cell_later hk f1
  replace f2 := cell_later hk f2
  clear hb hk
  have zf0 := blk_lt f0
  have zf1 := blk_lt f1
  have zf2 := blk_lt f2
  obtain ⟨w3, hw3⟩ : ∃ w3, w2.alloc (.cells #[] 37) = w3 := ⟨_, rfl⟩
  have hb3 : Below w2.heap.size w2 w3 := by rw [← hw3]; exact bl_al (bl0 _) _
  have hown : w3.ownsRow (w.heap.size + 1) 37 2 (.slice (some ⟨w2.heap.size, 0, none⟩) 0 0) (r.take (l.length - l.length)).length (flatC (r.take (l.length - l.length))) := by
    rw [Nat.sub_self]
    exact ⟨rfl, .inr ⟨w2.heap.size, 0, #[], rfl, by omega, by rw [← hw3]; exact heap_alloc_new _ _, Nat.le_refl _, Nat.zero_le _, rfl, rfl⟩⟩
  have HW := Lib.hid hw3
  clear hw3
  replace f0 := cell_later hb3 f0; replace f1 := cell_later hb3 f1; replace f2 := cell_later hb3 f2
  replace hA := bl_tr hA hb3
  clear hb3 zf0 zf1 zf2
  go_wp2
  rw [HW.out]
  go_loopw [7, 8] (fun v i wr => ∃ j : Nat, j ≤ l.length ∧ i = .int .i64 ((j : Int) - 1) ∧ wr.ownsRow (w.heap.size + 1) 37 2 v (r.take (l.length - j)).length (flatC (r.take (l.length - j))) ∧ Below w.heap.size w wr ∧ wr.cell? ⟨w.heap.size, 0, none⟩ = some (.int .i64 A) ∧ wr.cell? ⟨w.heap.size, 1, none⟩ = some (.int .i64 B) ∧ wr.cell? ⟨w.heap.size, 2, none⟩ = some (.slice a zs.length cap)) (fun _ i _ => (intOf i + 1).toNat)
  case atStart => exact ⟨l.length, Nat.le_refl _, rfl, hown, hA, f0, f1, f2⟩
  case round =>
    clear hown hA f0 f1 f2
    obtain ⟨j, hj, rfl, hown, hA, f0, f1, f2⟩ := hrel
    by_cases h0 : j = 0
    case neg =>
      obtain ⟨m, rfl⟩ : ∃ m, j = m + 1 := ⟨j - 1, by omega⟩
      rw [show ((m + 1 : Nat) : Int) - 1 = (m : Int) by omega]
      have hm0 : (0 : Int) ≤ (m : Int) := by omega
      have hm1 : (m : Int) < (l.length : Int) := by omega
      have e1 : IntKind.i64.wrap ((m : Int) - 1) = (m : Int) - 1 := IntWalk.i64_in _ (by omega)
      obtain ⟨gb, go, hbb, q0, q1⟩ := (hrc.below hA).two (k := m) (by omega)
      have hsn := HRAT.out m hj
      have hll : (r.take (l.length - (m + 1))).length ≤ 200 := by rw [List.length_take]; omega
      generalize r.take (l.length - (m + 1)) = R at *
      generalize cK l m = c at *
      have HSN := Lib.hid hsn
      have hz := hA.size
      clear hsn h0
      subst hbb
      go_wp2_with (at_builtin; refine wpList_append_own _ rfl _ _ 27 rfl (w.heap.size + 1) 37 i0 (.agg #[.int .i64 0, .int .i64 0]) 2 16 Tryd.underlying27 hi hz0 hz1 hz2 rfl (by decide) _ _ _ rfl (hown.alloc _) ⟨wr.heap.size, 0, none⟩ 1 1 [.int .i64 c.1, .int .i64 c.2] rfl rfl ?c1 ?c2 ?c3 ?c4 ?c5 ?_)
      case c1 => exact cell_two_new _ _ _ _
      case c2 => intro u hu; simp at hu; rcases hu with rfl | rfl <;> rfl
      case c3 => unfold maxLen; omega
      case c4 => omega
      case c5 => (have := blk_lt f0; first | (simp; omega) | omega)
      intro v' w5 hown' hgrow _
      have hne : some w.heap.size ≠ Value.ownBlock u7 := fun e => by have := (hown.lt _ e.symm).1; omega
      have hB3 : Below w.heap.size w w5 := (bl_al hA _).grown hgrow (by simp; omega) (fun j hj => by have := (hown.lt j hj).1; omega)
      have hown5 : w5.ownsRow (w.heap.size + 1) 37 2 v' (r.take (l.length - m)).length (flatC (r.take (l.length - m))) := by
        rw [HSN.out, flatC_snoc, List.length_append]
        exact hown'
      have s0 := hgrow.cell (cell_later (bl_al (bl0 _) _) f0) hne
      have s1 := hgrow.cell (cell_later (bl_al (bl0 _) _) f1) hne
      have s2 := hgrow.cell (cell_later (bl_al (bl0 _) _) f2) hne
      clear hgrow hown hown' f0 f1 f2 q0 q1 hA hne
      go_wp2
      go_roundw
      case rel => exact ⟨m, by omega, rfl, hown5, hB3, s0, s1, s2⟩
      case measure => simp [intOf]
    case pos =>
      subst h0
      rw [Nat.sub_zero, List.take_of_length_le (by rw [HRL.out]; exact Nat.le_refl _)] at hown
      obtain ⟨ab, cb, rfl, rb, _⟩ := own_rowC hown
      have hneg : ¬ (0 : Int) ≤ ((0 : Nat) : Int) - 1 := by omega
      clear hown
      go_wp2_with fail
      refine (HCR.out ab cb _ (hr.below hA) rb (hs.below hA)).mono ?_
      rintro e w4 ⟨rfl, hb⟩
      have hk : Below wr.heap.size wr w4 := by first | exact hb | exact bl_tr (bl_al (bl0 _) _) hb | exact bl_tr (bl_dr (bl_al (bl0 _) _)) hb | exact bl_tr (bl_al (bl_al (bl0 _) _) _) hb | exact bl_tr (bl_dr (bl_al (bl_al (bl0 _) _) _)) hb | exact bl_tr (bl_al (bl_al (bl_al (bl0 _) _) _) _) hb | exact bl_tr (bl_dr (bl_al (bl_al (bl_al (bl0 _) _) _) _)) hb | exact bl_tr (bl_al (bl_al (bl_al (bl_al (bl0 _) _) _) _) _) hb | exact bl_tr (bl_dr (bl_al (bl_al (bl_al (bl_al (bl0 _) _) _) _) _)) hb | exact bl_tr (bl_al (bl_al (bl_al (bl_al (bl_al (bl0 _) _) _) _) _) _) hb | exact bl_tr (bl_dr (bl_al (bl_al (bl_al (bl_al (bl_al (bl0 _) _) _) _) _) _)) hb | exact bl_tr (bl_al (bl_al (bl_al (bl_al (bl_al (bl_al (bl0 _) _) _) _) _) _) _) hb | exact bl_tr (bl_dr (bl_al (bl_al (bl_al (bl_al (bl_al (bl_al (bl0 _) _) _) _) _) _) _)) hb | exact bl_tr (bl_dr (bl0 _)) hb
      replace hA := bl_tr hA hk
      replace rb := rb.below hk
      replace f0 := cell_later hk f0
      replace f1 := cell_later hk f1
      replace f2 := cell_later hk f2
      clear hb hk
      have zf0 := blk_lt f0
      have zf1 := blk_lt f1
      have zf2 := blk_lt f2
      by_cases hP : P = 0
      case neg =>
        have hP2 : P2 ≠ 0 := fun h => hP (HI.out.2 h)
        have k1 : (P != 0) = true := by rw [bne_iff_ne]; exact hP
        have k2 : (P2 != 0) = true := by rw [bne_iff_ne]; exact hP2
        have hc2 := HC2.out
        rw [if_neg hP2] at hc2
        rw [hc2]
        clear hP hP2 hc2
        go_wp2_with fail
        refine (awake_any _ (hs.below hA)).mono ?_
        rintro e w5 ⟨rfl, hb⟩
        have hk : Below w4.heap.size w4 w5 := by first | exact hb | exact bl_tr (bl_al (bl0 _) _) hb | exact bl_tr (bl_dr (bl_al (bl0 _) _)) hb | exact bl_tr (bl_al (bl_al (bl0 _) _) _) hb | exact bl_tr (bl_dr (bl_al (bl_al (bl0 _) _) _)) hb | exact bl_tr (bl_al (bl_al (bl_al (bl0 _) _) _) _) hb | exact bl_tr (bl_dr (bl_al (bl_al (bl_al (bl0 _) _) _) _)) hb | exact bl_tr (bl_al (bl_al (bl_al (bl_al (bl0 _) _) _) _) _) hb | exact bl_tr (bl_dr (bl_al (bl_al (bl_al (bl_al (bl0 _) _) _) _) _)) hb | exact bl_tr (bl_al (bl_al (bl_al (bl_al (bl_al (bl0 _) _) _) _) _) _) hb | exact bl_tr (bl_dr (bl_al (bl_al (bl_al (bl_al (bl_al (bl0 _) _) _) _) _) _)) hb | exact bl_tr (bl_al (bl_al (bl_al (bl_al (bl_al (bl_al (bl0 _) _) _) _) _) _) _) hb | exact bl_tr (bl_dr (bl_al (bl_al (bl_al (bl_al (bl_al (bl_al (bl0 _) _) _) _) _) _) _)) hb | exact bl_tr (bl_dr (bl0 _)) hb
        replace hA := bl_tr hA hk
        clear hb hk
        go_wp2
        go_ret
        exact ⟨rfl, hA⟩
      case pos =>
        obtain ⟨hchk, hne, hok⟩ := HP.out hP
        have hpath := (isPath_iff hne).1 hok
        have hrev := hpath.rev
        rw [HRV.out] at hrev
        have hP2 := HI.out.1 hP
        have hc1 := HC1.out
        have hc2 := HC2.out
        rw [if_pos hP] at hc1
        rw [if_pos hP2] at hc2
        rw [hc2]
        have hturn := cost_turn (A := A) (zs := zs) hne
        rw [HRV.out, ← hc1] at hturn
        have hzn := chk_area hchk
        obtain ⟨j0, hj0, hjl0, hjz0⟩ := costAt_at (hpath.on 0 hpath.pos) hzn
        obtain ⟨j1, hj1, hjl1, hjz1⟩ := costAt_at (hpath.on (l.length - 1) (by have := hpath.pos; omega)) hzn
        have hz0 := costAt_in (A := A) hin (cK l 0)
        have hz1' := costAt_in (A := A) hin (cK l (l.length - 1))
        have hin0 := inB_iff.1 (hpath.on 0 hpath.pos)
        have hin1 := inB_iff.1 (hpath.on (l.length - 1) (by have := hpath.pos; omega))
        obtain ⟨n0, n1⟩ := mul_bd hin0.2.2.2.2.2.2.1 (by omega) hin0.1 hin0.2.1
        obtain ⟨n2, n3⟩ := mul_bd hin1.2.2.2.2.2.2.1 (by omega) hin1.1 hin1.2.1
        have hcs := costS_in (A := A) hin l.tail
        have hcs2 := costS_in (A := A) hin r.tail
        rw [List.length_tail] at hcs hcs2
        rw [HRL.out] at hcs2
        rw [← hc1] at hcs
        have hmv := fun W h h' => moves_path b cap2 l W h h' (by omega)
        rw [hpath.movE, hpath.movR] at hmv
        have hmw := fun (x : Option Addr) (cp : Nat) W h h' => moves_path x cp r W h h' (by rw [HRL.out]; omega)
        rw [hrev.movE, hrev.movR] at hmw
        have hM1 : (movL l).length = l.length - 1 := movL_len
        have hM2 : (movL r).length = (movL l).length := by rw [movL_len, movL_len, HRL.out]
        have hopp : ∀ q (h : q < (movL l).length), (0 ≤ (movL l)[q] ∧ (movL l)[q] ≤ 3) ∧ ∀ j (h2 : j < (movL r).length), j = (movL l).length - 1 - q → (movL r)[j] = oppI ((movL l)[q]) := by
          intro q hq
          have hg : ∀ (m : List IC) j (h : j < (movL m).length), (movL m)[j] = (movL m).getD j 0 := fun m j h => by
            rw [List.getD_eq_getElem?_getD, List.getElem?_eq_getElem h]; rfl
          refine ⟨?_, fun j h2 hj => ?_⟩
          · have := movL_in hpath.bes _ (List.getElem_mem hq)
            have h3 := movL_at (l := l) (k := q) (by omega)
            rw [← hg l q hq] at h3
            have := bes_in (cK l q) (cK l (q + 1))
            have := hpath.bes q (by omega)
            rw [h3]
            omega
          · rw [hg r j h2, hg l q hq, hj, hM1, ← HRV.out]
            exact rev_movL hpath (by omega)
        have hLp := hpath.pos
        have HLAST := Lib.hid (show ∀ W, RowC W b l → ∃ gb go : Nat, b = some ⟨gb, go, none⟩ ∧ W.cell? ⟨gb, go, none⟩ = some (.int .i64 (cK l 0).1) ∧ W.cell? ⟨gb, go + 1, none⟩ = some (.int .i64 (cK l 0).2) ∧ W.cell? ⟨gb, go + (l.length - 1) * 2, none⟩ = some (.int .i64 (cK l (l.length - 1)).1) ∧ W.cell? ⟨gb, go + (l.length - 1) * 2 + 1, none⟩ = some (.int .i64 (cK l (l.length - 1)).2) from fun W h => by
          obtain ⟨gb, go, e, q0, q1⟩ := h.two (k := 0) (by omega)
          obtain ⟨gb', go', e', q2, q3⟩ := h.two (k := l.length - 1) (by omega)
          rw [e] at e'
          cases e'
          simp only [Nat.zero_mul, Nat.add_zero] at q0 q1
          exact ⟨gb, go, e, q0, q1, q2, q3⟩)
        generalize movL l = R1 at *
        generalize movL r = R2 at *
        generalize cK l 0 = c0 at *
        generalize cK l (l.length - 1) = c1 at *
        generalize costAt A zs c0 = v0 at *
        generalize costAt A zs c1 = v1 at *
        generalize costS A zs r.tail = S2 at *
        have k3 : ((R1.length : Int) != (R2.length : Int)) = false := by rw [bne_eq_false_iff_eq]; omega
        have k4 : ¬ (l.length : Int) < 1 := by omega
        have k5 : (C + v0 == S2 + v1) = true := by rw [beq_iff_eq]; exact hturn
        have e1 : IntKind.u64.wrap v0 = v0 := by rw [IntKind.wrap_u64]; omega
        have e2 : IntKind.u64.wrap v1 = v1 := by rw [IntKind.wrap_u64]; omega
        have e3 : IntKind.u64.wrap (C + v0) = C + v0 := by rw [IntKind.wrap_u64]; omega
        have e4 : IntKind.u64.wrap (S2 + v1) = S2 + v1 := by rw [IntKind.wrap_u64]; omega
        have e5 : IntKind.i64.wrap (c0.2 * A) = c0.2 * A := IntWalk.i64_in _ (by omega)
        have e6 : IntKind.i64.wrap (c1.2 * A) = c1.2 * A := IntWalk.i64_in _ (by omega)
        have e7 : IntKind.i64.wrap (j0 : Int) = j0 := IntWalk.i64_in _ (by omega)
        have e8 : IntKind.i64.wrap (j1 : Int) = j1 := IntWalk.i64_in _ (by omega)
        have HJ0 := Lib.hid hj0; have HJ1 := Lib.hid hj1; have HZ0 := Lib.hid hjz0; have HZ1 := Lib.hid hjz1
        have HMV := Lib.hid hmv; have HMW := Lib.hid hmw; have HM2 := Lib.hid hM2; have HOPP := Lib.hid hopp
        have HR1 := Lib.hid (show R1.length ≤ 200 by omega)
        have HLP := Lib.hid hLp
        have t0 : (j0 : Int) < (zs.length : Int) := by omega
        have t1 : (j1 : Int) < (zs.length : Int) := by omega
        have t2 : (0 : Int) ≤ (j0 : Int) := by omega
        have t3 : (0 : Int) ≤ (j1 : Int) := by omega
        subst hP hP2
        clear hc1 hc2 hchk hok hpath hrev hturn hzn hj0 hj1 hjz0 hjz1 hz0 hz1' hin0 hin1 n0 n1 n2 n3 hcs hcs2 hmv hmw hM1 hM2 hopp hne
        go_wp2_with fail
        refine (HMV.out _ (hrc.below hA) (hs.below hA)).mono ?_
        rintro e w5 ⟨v5, rfl, o5, hb⟩
        have hk : Below w4.heap.size w4 w5 := by first | exact hb | exact bl_tr (bl_al (bl0 _) _) hb | exact bl_tr (bl_dr (bl_al (bl0 _) _)) hb | exact bl_tr (bl_al (bl_al (bl0 _) _) _) hb | exact bl_tr (bl_dr (bl_al (bl_al (bl0 _) _) _)) hb | exact bl_tr (bl_al (bl_al (bl_al (bl0 _) _) _) _) hb | exact bl_tr (bl_dr (bl_al (bl_al (bl_al (bl0 _) _) _) _)) hb | exact bl_tr (bl_al (bl_al (bl_al (bl_al (bl0 _) _) _) _) _) hb | exact bl_tr (bl_dr (bl_al (bl_al (bl_al (bl_al (bl0 _) _) _) _) _)) hb | exact bl_tr (bl_al (bl_al (bl_al (bl_al (bl_al (bl0 _) _) _) _) _) _) hb | exact bl_tr (bl_dr (bl_al (bl_al (bl_al (bl_al (bl_al (bl0 _) _) _) _) _) _)) hb | exact bl_tr (bl_al (bl_al (bl_al (bl_al (bl_al (bl_al (bl0 _) _) _) _) _) _) _) hb | exact bl_tr (bl_dr (bl_al (bl_al (bl_al (bl_al (bl_al (bl_al (bl0 _) _) _) _) _) _) _)) hb | exact bl_tr (bl_dr (bl0 _)) hb
        replace hA := bl_tr hA hk
        replace rb := rb.below hk
        replace f0 := cell_later hk f0
        replace f1 := cell_later hk f1
        replace f2 := cell_later hk f2
        clear hb hk
        have zf0 := blk_lt f0
        have zf1 := blk_lt f1
        have zf2 := blk_lt f2
        obtain ⟨a5, c5, rfl, r5, _⟩ := rowB_of_own o5
        clear o5
        go_wp2_with fail
        refine (HMW.out ab cb _ rb (hs.below hA)).mono ?_
        rintro e w6 ⟨v6, rfl, o6, hb⟩
        have hk : Below w5.heap.size w5 w6 := by first | exact hb | exact bl_tr (bl_al (bl0 _) _) hb | exact bl_tr (bl_dr (bl_al (bl0 _) _)) hb | exact bl_tr (bl_al (bl_al (bl0 _) _) _) hb | exact bl_tr (bl_dr (bl_al (bl_al (bl0 _) _) _)) hb | exact bl_tr (bl_al (bl_al (bl_al (bl0 _) _) _) _) hb | exact bl_tr (bl_dr (bl_al (bl_al (bl_al (bl0 _) _) _) _)) hb | exact bl_tr (bl_al (bl_al (bl_al (bl_al (bl0 _) _) _) _) _) hb | exact bl_tr (bl_dr (bl_al (bl_al (bl_al (bl_al (bl0 _) _) _) _) _)) hb | exact bl_tr (bl_al (bl_al (bl_al (bl_al (bl_al (bl0 _) _) _) _) _) _) hb | exact bl_tr (bl_dr (bl_al (bl_al (bl_al (bl_al (bl_al (bl0 _) _) _) _) _) _)) hb | exact bl_tr (bl_al (bl_al (bl_al (bl_al (bl_al (bl_al (bl0 _) _) _) _) _) _) _) hb | exact bl_tr (bl_dr (bl_al (bl_al (bl_al (bl_al (bl_al (bl_al (bl0 _) _) _) _) _) _) _)) hb | exact bl_tr (bl_dr (bl0 _)) hb
        replace hA := bl_tr hA hk
        replace r5 := r5.below hk
        replace f0 := cell_later hk f0
        replace f1 := cell_later hk f1
        replace f2 := cell_later hk f2
        clear hb hk
        have zf0 := blk_lt f0
        have zf1 := blk_lt f1
        have zf2 := blk_lt f2
        obtain ⟨a6, c6, rfl, r6, _⟩ := rowB_of_own o6
        clear o6 rb
        go_wp2
        go_loopw [15] (fun i wr => ∃ q : Nat, q ≤ R1.length ∧ i = .int .i64 q ∧ Below w6.heap.size w6 wr) (fun i _ => R1.length - (intOf i).toNat)
        case atStart => exact ⟨0, Nat.zero_le _, rfl, bl0 w6⟩
        case round =>
          obtain ⟨q, hq, rfl, hQ⟩ := hrel
          by_cases hlt : q < R1.length
          · have hlt2 : (q : Int) < (R1.length : Int) := by omega
            have hq0 : (0 : Int) ≤ (q : Int) := by omega
            obtain ⟨⟨hd0, hd3⟩, hop⟩ := HOPP.out q hlt
            obtain ⟨j, hj⟩ : ∃ j, R1.length - 1 - q = j := ⟨_, rfl⟩
            have hjl : j < R2.length := by rw [HM2.out]; omega
            have hop2 := hop j hjl hj.symm
            obtain ⟨g5, o5, ha5, q5⟩ := (r5.below hQ).cell hlt
            obtain ⟨g6, o6, ha6, q6⟩ := (r6.below hQ).cell hjl
            rw [hop2] at q6
            have hrl := HR1.out
            have hm2 := HM2.out
            have u1 : IntKind.i64.wrap ((R2.length : Int) - 1) = (R2.length : Int) - 1 := IntWalk.i64_in _ (by omega)
            have u2 : IntKind.i64.wrap ((R2.length : Int) - 1 - (q : Int)) = (j : Int) := by
              rw [show (R2.length : Int) - 1 - (q : Int) = j by omega]
              exact IntWalk.i64_in _ (by omega)
            have u3 : (0 : Int) ≤ (j : Int) := by omega
            have u4 : (j : Int) < (R2.length : Int) := by omega
            subst ha5 ha6
            generalize R1[q] = d at *
            have HQ := Lib.hid hQ
            have HLT := Lib.hid hlt
            clear hop hop2 hm2 hj hjl hQ
            obtain rfl | rfl | rfl | rfl : d = 0 ∨ d = 1 ∨ d = 2 ∨ d = 3 := by omega
            all_goals
              simp only [oppI] at q6
              clear hd0 hd3
              go_wp2
              go_quiet (fail)
              go_wp2
              go_roundw
              case rel => (have := HLT.out; have := HR1.out; exact ⟨q + 1, by omega, by go_num, bl_tr HQ.out (bl_drn _ _)⟩)
              case measure => (have := HLT.out; have := HR1.out; simp [intOf]; omega)
          · obtain rfl : q = R1.length := by omega
            have hge : ¬ (R1.length : Int) < (R1.length : Int) := by omega
            replace f0 := cell_later hQ f0; replace f1 := cell_later hQ f1; replace f2 := cell_later hQ f2
            replace hA := bl_tr hA hQ
            obtain ⟨gb, go, hbb, q0, q1, q2, q3⟩ := HLAST.out _ (hrc.below hA)
            subst hbb
            clear hQ r5 r6
            go_wp2
            have g1 : IntKind.i64.wrap ((l.length : Int) - 1) = ((l.length - 1 : Nat) : Int) := by rw [e0]; have := HLP.out; omega
            have g2 : (0 : Int) < (l.length : Int) := by have := HLP.out; omega
            have g3 : 0 < l.length := HLP.out
            have g4 : l.length - 1 < l.length := by have := HLP.out; omega
            have g5 : (((l.length - 1 : Nat)) : Int) < (l.length : Int) := by omega
            have hk1 := bl0 wr
            have hrz := hr.below hA
            clear e0
            have HS := Lib.hid (show ∀ W', Below wr.heap.size wr W' → W'.cell? ⟨w.heap.size, 0, none⟩ = some (.int .i64 A) ∧ W'.cell? ⟨gb, go, none⟩ = some (.int .i64 c0.1) ∧ W'.cell? ⟨gb, go + 1, none⟩ = some (.int .i64 c0.2) from fun W' h => ⟨cell_later h f0, cell_later h q0, cell_later h q1⟩)
            have HT := Lib.hid (show ∀ W', Below wr.heap.size wr W' → W'.cell? ⟨w.heap.size, 0, none⟩ = some (.int .i64 A) ∧ W'.cell? ⟨gb, go + (l.length - 1) * 2, none⟩ = some (.int .i64 c1.1) ∧ W'.cell? ⟨gb, go + (l.length - 1) * 2 + 1, none⟩ = some (.int .i64 c1.2) from fun W' h => ⟨cell_later h f0, cell_later h q2, cell_later h q3⟩)
            have hj0 := HJ0.out
            have hj1 := HJ1.out
            go_region_held3 (fun W' => W'.cell? ⟨w.heap.size, 0, none⟩ = some (.int .i64 A) ∧ W'.cell? ⟨gb, go, none⟩ = some (.int .i64 c0.1) ∧ W'.cell? ⟨gb, go + 1, none⟩ = some (.int .i64 c0.2))
              (exact HS.out _ (bl_dr hk1)) (fail)
            replace hk1 := bl_dr hk1
            go_upto_region 24 with fail
            go_region_held3 (fun W' => W'.cell? ⟨w.heap.size, 0, none⟩ = some (.int .i64 A) ∧ W'.cell? ⟨gb, go + (l.length - 1) * 2, none⟩ = some (.int .i64 c1.1) ∧ W'.cell? ⟨gb, go + (l.length - 1) * 2 + 1, none⟩ = some (.int .i64 c1.2))
              (exact HT.out _ (bl_dr hk1)) (fail)
            replace hk1 := bl_dr hk1
            replace f0 := cell_later hk1 f0; replace f2 := cell_later hk1 f2
            have hA9 := bl_tr hA hk1
            have hr9 := hr.below hA9
            obtain ⟨gz, oz, ez, y0⟩ := hr9.cell hjl0
            obtain ⟨gz', oz', ez', y1⟩ := hr9.cell hjl1
            rw [HZ0.out] at y0
            rw [HZ1.out] at y1
            subst ez
            cases ez'
            clear q0 q1 q2 q3 hj0 hj1 HS HT hr9 hk1
            generalize hwd : wr.drew.drew = wd at *
            have HWD := Lib.hid hwd
            clear hwd
            go_upto_region 27 with fail
            have hk1 := bl0 wd
            have HS := Lib.hid (show ∀ W', Below wd.heap.size wd W' → W'.cell? ⟨w.heap.size, 2, none⟩ = some (.slice (some ⟨gz, oz, none⟩) zs.length cap) ∧ W'.cell? ⟨gz, oz + j0, none⟩ = some (.int .u16 v0) ∧ W'.cell? ⟨gz, oz + j1, none⟩ = some (.int .u16 v1) from fun W' h => ⟨cell_later h f2, cell_later h y0, cell_later h y1⟩)
            go_region_held3 (fun W' => W'.cell? ⟨w.heap.size, 2, none⟩ = some (.slice (some ⟨gz, oz, none⟩) zs.length cap) ∧ W'.cell? ⟨gz, oz + j0, none⟩ = some (.int .u16 v0) ∧ W'.cell? ⟨gz, oz + j1, none⟩ = some (.int .u16 v1))
              (first | exact HS.out _ hk1 | exact HS.out _ (bl_dr hk1))
              ((go_at_call 9; (with_reducible refine (awake_any _ (hs.below (bl_tr hA9 (bl_dr hk1)))).mono ?_); rintro e wz ⟨rfl, hb⟩; replace hk1 := bl_tr (bl_dr hk1) hb; clear hb))
            go_wp2
            go_ret
            exact ⟨rfl, bl_tr hA9 hk1⟩
end Go.Proofs.YtlmloedjakpogabDoor
