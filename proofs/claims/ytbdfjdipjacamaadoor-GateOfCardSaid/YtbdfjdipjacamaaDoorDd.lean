/- Parts: contracts of what tells no rows. -/
import Derived.Test.YtbdfjdipjacamaaDoorDc
import Derived.Lib.Hide
import Derived.IntWalk
namespace Go.Proofs.YtbdfjdipjacamaaDoor
open Go.RowKit

set_option maxHeartbeats 1600000 in
theorem right_p (W H S : Int) (w : World) :
    Calls Tryd.prog 99 #[.agg #[.int .i64 W, .int .i64 H, .int .i64 S]] w fun e w' => e = .returned (.bool (rightP W H S)) ∧ Below w.heap.size w w' := by
  have hA := bl0 w
  cases hm : mayB W H
  · have e : rightP W H S = false := by unfold rightP; rw [hm]; rfl
    rw [e]
    clear e
    go_enter Tryd.func99, Tryd.ntmps99
    go_wp2_with fail
    refine (may_any _ _ _).mono ?_
    rintro e w1 ⟨rfl, hb⟩
    have hk : Below w.heap.size w w1 := by first | exact hb | exact bl_tr (bl_al (bl0 _) _) hb | exact bl_tr (bl_dr (bl_al (bl0 _) _)) hb | exact bl_tr (bl_al (bl_al (bl0 _) _) _) hb | exact bl_tr (bl_dr (bl_al (bl_al (bl0 _) _) _)) hb | exact bl_tr (bl_al (bl_al (bl_al (bl0 _) _) _) _) hb | exact bl_tr (bl_dr (bl_al (bl_al (bl_al (bl0 _) _) _) _)) hb | exact bl_tr (bl_al (bl_al (bl_al (bl_al (bl0 _) _) _) _) _) hb | exact bl_tr (bl_dr (bl_al (bl_al (bl_al (bl_al (bl0 _) _) _) _) _)) hb | exact bl_tr (bl_al (bl_al (bl_al (bl_al (bl_al (bl0 _) _) _) _) _) _) hb | exact bl_tr (bl_dr (bl_al (bl_al (bl_al (bl_al (bl_al (bl0 _) _) _) _) _) _)) hb | exact bl_tr (bl_al (bl_al (bl_al (bl_al (bl_al (bl_al (bl0 _) _) _) _) _) _) _) hb | exact bl_tr (bl_dr (bl_al (bl_al (bl_al (bl_al (bl_al (bl_al (bl0 _) _) _) _) _) _) _)) hb | exact bl_tr (bl_dr (bl0 _)) hb
    replace hA := bl_tr hA hk
    have f0 := cell_later hb (v := .int .i64 W) (a := ⟨w.heap.size, 0, none⟩) (by simp [go_sem])
    have f1 := cell_later hb (v := .int .i64 H) (a := ⟨w.heap.size, 1, none⟩) (by simp [go_sem])
    have f2 := cell_later hb (v := .int .i64 S) (a := ⟨w.heap.size, 2, none⟩) (by simp [go_sem])
    clear hb hk
    have zf0 := blk_lt f0
    have zf1 := blk_lt f1
    have zf2 := blk_lt f2
    rw [hm]
    go_wp2
    go_ret
    exact ⟨rfl, hA⟩
  · have e : rightP W H S = decide (2 ≤ S ∧ S ≤ 16) := by unfold rightP; rw [hm]; rfl
    obtain ⟨t, ht⟩ : ∃ t, decide (2 ≤ S ∧ S ≤ 16) = t := ⟨_, rfl⟩
    rw [e, ht]
    have hiff : t = true ↔ 2 ≤ S ∧ S ≤ 16 := by rw [← ht, decide_eq_true_eq]
    have HIFF := Lib.hid hiff
    clear e ht hiff
    by_cases h2 : 2 ≤ S
    · by_cases h16 : S ≤ 16
      · obtain rfl : t = true := HIFF.out.2 ⟨h2, h16⟩
        go_enter Tryd.func99, Tryd.ntmps99
        go_wp2_with fail
        refine (may_any _ _ _).mono ?_
        rintro e w1 ⟨rfl, hb⟩
        have hk : Below w.heap.size w w1 := by first | exact hb | exact bl_tr (bl_al (bl0 _) _) hb | exact bl_tr (bl_dr (bl_al (bl0 _) _)) hb | exact bl_tr (bl_al (bl_al (bl0 _) _) _) hb | exact bl_tr (bl_dr (bl_al (bl_al (bl0 _) _) _)) hb | exact bl_tr (bl_al (bl_al (bl_al (bl0 _) _) _) _) hb | exact bl_tr (bl_dr (bl_al (bl_al (bl_al (bl0 _) _) _) _)) hb | exact bl_tr (bl_al (bl_al (bl_al (bl_al (bl0 _) _) _) _) _) hb | exact bl_tr (bl_dr (bl_al (bl_al (bl_al (bl_al (bl0 _) _) _) _) _)) hb | exact bl_tr (bl_al (bl_al (bl_al (bl_al (bl_al (bl0 _) _) _) _) _) _) hb | exact bl_tr (bl_dr (bl_al (bl_al (bl_al (bl_al (bl_al (bl0 _) _) _) _) _) _)) hb | exact bl_tr (bl_al (bl_al (bl_al (bl_al (bl_al (bl_al (bl0 _) _) _) _) _) _) _) hb | exact bl_tr (bl_dr (bl_al (bl_al (bl_al (bl_al (bl_al (bl_al (bl0 _) _) _) _) _) _) _)) hb | exact bl_tr (bl_dr (bl0 _)) hb
        replace hA := bl_tr hA hk
        have f0 := cell_later hb (v := .int .i64 W) (a := ⟨w.heap.size, 0, none⟩) (by simp [go_sem])
        have f1 := cell_later hb (v := .int .i64 H) (a := ⟨w.heap.size, 1, none⟩) (by simp [go_sem])
        have f2 := cell_later hb (v := .int .i64 S) (a := ⟨w.heap.size, 2, none⟩) (by simp [go_sem])
        clear hb hk
        have zf0 := blk_lt f0
        have zf1 := blk_lt f1
        have zf2 := blk_lt f2
        rw [hm]
        go_wp2
        go_ret
        exact ⟨rfl, hA⟩
      · obtain rfl : t = false := by cases t; rfl; exact absurd (HIFF.out.1 rfl).2 h16
        have d16 : decide (S ≤ 16) = false := decide_eq_false h16
        go_enter Tryd.func99, Tryd.ntmps99
        go_wp2_with fail
        refine (may_any _ _ _).mono ?_
        rintro e w1 ⟨rfl, hb⟩
        have hk : Below w.heap.size w w1 := by first | exact hb | exact bl_tr (bl_al (bl0 _) _) hb | exact bl_tr (bl_dr (bl_al (bl0 _) _)) hb | exact bl_tr (bl_al (bl_al (bl0 _) _) _) hb | exact bl_tr (bl_dr (bl_al (bl_al (bl0 _) _) _)) hb | exact bl_tr (bl_al (bl_al (bl_al (bl0 _) _) _) _) hb | exact bl_tr (bl_dr (bl_al (bl_al (bl_al (bl0 _) _) _) _)) hb | exact bl_tr (bl_al (bl_al (bl_al (bl_al (bl0 _) _) _) _) _) hb | exact bl_tr (bl_dr (bl_al (bl_al (bl_al (bl_al (bl0 _) _) _) _) _)) hb | exact bl_tr (bl_al (bl_al (bl_al (bl_al (bl_al (bl0 _) _) _) _) _) _) hb | exact bl_tr (bl_dr (bl_al (bl_al (bl_al (bl_al (bl_al (bl0 _) _) _) _) _) _)) hb | exact bl_tr (bl_al (bl_al (bl_al (bl_al (bl_al (bl_al (bl0 _) _) _) _) _) _) _) hb | exact bl_tr (bl_dr (bl_al (bl_al (bl_al (bl_al (bl_al (bl_al (bl0 _) _) _) _) _) _) _)) hb | exact bl_tr (bl_dr (bl0 _)) hb
        replace hA := bl_tr hA hk
        have f0 := cell_later hb (v := .int .i64 W) (a := ⟨w.heap.size, 0, none⟩) (by simp [go_sem])
        have f1 := cell_later hb (v := .int .i64 H) (a := ⟨w.heap.size, 1, none⟩) (by simp [go_sem])
        have f2 := cell_later hb (v := .int .i64 S) (a := ⟨w.heap.size, 2, none⟩) (by simp [go_sem])
        clear hb hk
        have zf0 := blk_lt f0
        have zf1 := blk_lt f1
        have zf2 := blk_lt f2
        rw [hm]
        go_wp2
        go_ret
        exact ⟨rfl, hA⟩
    · obtain rfl : t = false := by cases t; rfl; exact absurd (HIFF.out.1 rfl).1 h2
      go_enter Tryd.func99, Tryd.ntmps99
      go_wp2_with fail
      refine (may_any _ _ _).mono ?_
      rintro e w1 ⟨rfl, hb⟩
      have hk : Below w.heap.size w w1 := by first | exact hb | exact bl_tr (bl_al (bl0 _) _) hb | exact bl_tr (bl_dr (bl_al (bl0 _) _)) hb | exact bl_tr (bl_al (bl_al (bl0 _) _) _) hb | exact bl_tr (bl_dr (bl_al (bl_al (bl0 _) _) _)) hb | exact bl_tr (bl_al (bl_al (bl_al (bl0 _) _) _) _) hb | exact bl_tr (bl_dr (bl_al (bl_al (bl_al (bl0 _) _) _) _)) hb | exact bl_tr (bl_al (bl_al (bl_al (bl_al (bl0 _) _) _) _) _) hb | exact bl_tr (bl_dr (bl_al (bl_al (bl_al (bl_al (bl0 _) _) _) _) _)) hb | exact bl_tr (bl_al (bl_al (bl_al (bl_al (bl_al (bl0 _) _) _) _) _) _) hb | exact bl_tr (bl_dr (bl_al (bl_al (bl_al (bl_al (bl_al (bl0 _) _) _) _) _) _)) hb | exact bl_tr (bl_al (bl_al (bl_al (bl_al (bl_al (bl_al (bl0 _) _) _) _) _) _) _) hb | exact bl_tr (bl_dr (bl_al (bl_al (bl_al (bl_al (bl_al (bl_al (bl0 _) _) _) _) _) _) _)) hb | exact bl_tr (bl_dr (bl0 _)) hb
      replace hA := bl_tr hA hk
      have f0 := cell_later hb (v := .int .i64 W) (a := ⟨w.heap.size, 0, none⟩) (by simp [go_sem])
      have f1 := cell_later hb (v := .int .i64 H) (a := ⟨w.heap.size, 1, none⟩) (by simp [go_sem])
      have f2 := cell_later hb (v := .int .i64 S) (a := ⟨w.heap.size, 2, none⟩) (by simp [go_sem])
      clear hb hk
      have zf0 := blk_lt f0
      have zf1 := blk_lt f1
      have zf2 := blk_lt f2
      rw [hm]
      go_wp2
      go_ret
      exact ⟨rfl, hA⟩

set_option maxHeartbeats 1600000 in
theorem rright11 (W H S : Int) (w : World) :
    Calls Tryd.prog 65 #[.agg #[.int .i64 W, .int .i64 H], .int .i64 S] w fun e w' => e = .returned (.bool (rightP W H S)) ∧ Below w.heap.size w w' := by
  obtain ⟨t, ht⟩ : ∃ t, rightP W H S = t := ⟨_, rfl⟩
  have hiff : t = true ↔ (1 ≤ W ∧ W ≤ 256 ∧ 1 ≤ H ∧ H ≤ 256) ∧ 2 ≤ S ∧ S ≤ 16 := by rw [← ht, rightP_iff]
  rw [ht]
  have HIFF := Lib.hid hiff
  clear ht hiff
  go_enter Tryd.func65, Tryd.ntmps65
  go_wp2
  all_goals
    go_ret
    have hiff := HIFF.out
    exact ⟨ret_bool (by rw [Bool.eq_iff_iff, hiff]; simp; try omega), bl_al (bl0 _) _⟩

set_option maxHeartbeats 1600000 in
theorem lie_p (W H S : Int) (w : World) (hr : rightP W H S = true) :
    Calls Tryd.prog 100 #[.agg #[.int .i64 W, .int .i64 H, .int .i64 S]] w fun e w' => e = .returned (.agg #[.int .i64 (lieN W S), .int .i64 (lieN H S)]) ∧ Below w.heap.size w w' := by
  obtain ⟨⟨a1, a2, a3, a4⟩, a5, a6⟩ := rightP_iff.1 hr
  have hz : (S == 0) = false := by simp; omega
  have k1 : (W + S - 1).tdiv S = lieN W S := Int.tdiv_eq_ediv_of_nonneg (by omega)
  have k2 : (H + S - 1).tdiv S = lieN H S := Int.tdiv_eq_ediv_of_nonneg (by omega)
  obtain ⟨u, hu⟩ : ∃ u, lieN W S = u := ⟨_, rfl⟩
  obtain ⟨v, hv⟩ : ∃ v, lieN H S = v := ⟨_, rfl⟩
  obtain ⟨b1, b2, b3, b4⟩ := lie_bd a1 a2 a5 a6
  obtain ⟨c1, c2, c3, c4⟩ := lie_bd a3 a4 a5 a6
  have q1 : W + S - 1 = W + S - 1 := rfl
  have w1 : IntKind.i64.wrap (W + S) = W + S := IntWalk.i64_in _ (by omega)
  have w2 : IntKind.i64.wrap (W + S - 1) = W + S - 1 := IntWalk.i64_in _ (by omega)
  have w3 : IntKind.i64.wrap (H + S) = H + S := IntWalk.i64_in _ (by omega)
  have w4 : IntKind.i64.wrap (H + S - 1) = H + S - 1 := IntWalk.i64_in _ (by omega)
  rw [hu] at k1 b1 b2
  rw [hv] at k2 c1 c2
  rw [hu, hv]
  have w5 : IntKind.i64.wrap u = u := IntWalk.i64_in _ (by omega)
  have w6 : IntKind.i64.wrap v = v := IntWalk.i64_in _ (by omega)
  clear hu hv b3 b4 c3 c4 q1 hr
  go_enter Tryd.func100, Tryd.ntmps100
  go_wp2
  go_region
  all_goals go_wp2
  refine bodyPost_ret (v := .agg #[.int .i64 u, .int .i64 v]) (by simp [results, Tryd.results100, go_sem]) rfl ⟨rfl, ?_⟩
  exact bl_dr (bl_al (bl_al (bl0 _) _) _)

theorem lie_at_yes {W H S id : Int} (hr : rightP W H S = true) (h0 : 0 ≤ id) (h1 : id < lieN W S * lieN H S) : atB (lieN W S) (lieN H S) id = true := by
  obtain ⟨⟨a1, a2, a3, a4⟩, a5, a6⟩ := rightP_iff.1 hr
  obtain ⟨b1, b2, b3, b4⟩ := lie_bd a1 a2 a5 a6
  obtain ⟨c1, c2, c3, c4⟩ := lie_bd a3 a4 a5 a6
  rw [atB_iff]
  exact ⟨b1, by omega, c1, by omega, h0, h1⟩
theorem lie_at_no {W H S id : Int} (h : id < 0 ∨ lieN W S * lieN H S ≤ id) : atB (lieN W S) (lieN H S) id = false := by
  cases hh : atB (lieN W S) (lieN H S) id
  · rfl
  · have := atB_iff.1 hh; omega

/-- Where a cluster lies: the error. -/
def plcX (W H S id : Int) : Int := if rightP W H S = true then (if 0 ≤ id ∧ id < lieN W S * lieN H S then 0 else 10) else 1
def plcV (W H S id : Int) : IC := if plcX W H S id = 0 then plcP W S id else (0, 0)
theorem plcX_yes {W H S id : Int} : plcX W H S id = 0 ↔ rightP W H S = true ∧ 0 ≤ id ∧ id < lieN W S * lieN H S := by
  unfold plcX
  by_cases hr : rightP W H S = true
  · rw [if_pos hr]
    by_cases h : 0 ≤ id ∧ id < lieN W S * lieN H S
    · rw [if_pos h]; simp [hr, h]
    · rw [if_neg h]; simp [hr]; omega
  · rw [if_neg hr]; simp [hr]
theorem lie_wide {W H S : Int} (hr : rightP W H S = true) : 1 ≤ lieN W S ∧ lieN W S ≤ 256 ∧ 1 ≤ lieN H S ∧ lieN H S ≤ 256 := by
  obtain ⟨⟨a1, a2, a3, a4⟩, a5, a6⟩ := rightP_iff.1 hr
  obtain ⟨b1, b2, b3, b4⟩ := lie_bd a1 a2 a5 a6
  obtain ⟨c1, c2, c3, c4⟩ := lie_bd a3 a4 a5 a6
  omega

set_option maxHeartbeats 1600000 in
theorem place_p (W H S id : Int) (w : World) :
    Calls Tryd.prog 101 #[.agg #[.int .i64 W, .int .i64 H, .int .i64 S], .int .i64 id] w fun e w' => e = .returned (.tuple #[.agg #[.int .i64 (plcV W H S id).1, .int .i64 (plcV W H S id).2], .int .i64 (plcX W H S id)]) ∧ Below w.heap.size w w' := by
  have hA := bl0 w
  cases hr : rightP W H S
  · have e1 : plcX W H S id = 1 := by unfold plcX; rw [if_neg (by rw [hr]; decide)]
    have e2 : plcV W H S id = (0, 0) := by unfold plcV; rw [if_neg (by rw [e1]; decide)]
    rw [e1, e2]
    clear e1 e2
    go_enter Tryd.func101, Tryd.ntmps101
    go_wp2_with fail
    refine (right_p _ _ _ _).mono ?_
    rintro e w1 ⟨rfl, hb⟩
    have hk : Below w.heap.size w w1 := by first | exact hb | exact bl_tr (bl_al (bl0 _) _) hb | exact bl_tr (bl_dr (bl_al (bl0 _) _)) hb | exact bl_tr (bl_al (bl_al (bl0 _) _) _) hb | exact bl_tr (bl_dr (bl_al (bl_al (bl0 _) _) _)) hb | exact bl_tr (bl_al (bl_al (bl_al (bl0 _) _) _) _) hb | exact bl_tr (bl_dr (bl_al (bl_al (bl_al (bl0 _) _) _) _)) hb | exact bl_tr (bl_al (bl_al (bl_al (bl_al (bl0 _) _) _) _) _) hb | exact bl_tr (bl_dr (bl_al (bl_al (bl_al (bl_al (bl0 _) _) _) _) _)) hb | exact bl_tr (bl_al (bl_al (bl_al (bl_al (bl_al (bl0 _) _) _) _) _) _) hb | exact bl_tr (bl_dr (bl_al (bl_al (bl_al (bl_al (bl_al (bl0 _) _) _) _) _) _)) hb | exact bl_tr (bl_al (bl_al (bl_al (bl_al (bl_al (bl_al (bl0 _) _) _) _) _) _) _) hb | exact bl_tr (bl_dr (bl_al (bl_al (bl_al (bl_al (bl_al (bl_al (bl0 _) _) _) _) _) _) _)) hb | exact bl_tr (bl_dr (bl0 _)) hb
    replace hA := bl_tr hA hk
    have q0 := cell_later hb (v := .int .i64 0) (a := ⟨w.heap.size + 1, 0, none⟩) (by simp [go_sem])
    have q1 := cell_later hb (v := .int .i64 0) (a := ⟨w.heap.size + 1, 1, none⟩) (by simp [go_sem])
    have u0 : w1.frozen? ⟨w.heap.size + 1, 0, none⟩ = false := (hb.frozen (p := ⟨w.heap.size + 1, 0, none⟩) (by simp <;> omega)).trans (by simp [go_sem])
    have u1 : w1.frozen? ⟨w.heap.size + 1, 1, none⟩ = false := (hb.frozen (p := ⟨w.heap.size + 1, 1, none⟩) (by simp <;> omega)).trans (by simp [go_sem])
    clear hb hk
    have zq0 := blk_lt q0
    have zq1 := blk_lt q1
    rw [hr]
    go_wp2
    refine bodyPost_ret (v := .tuple #[.agg #[.int .i64 0, .int .i64 0], .int .i64 1]) (by simp [results, Tryd.results101, go_sem, q0, q1]) rfl ⟨rfl, ?_⟩
    exact bl_st (bl_st hA (by omega) _) (by omega) _
  · by_cases hi : 0 ≤ id ∧ id < lieN W S * lieN H S
    · have e1 : plcX W H S id = 0 := plcX_yes.2 ⟨hr, hi⟩
      have e2 : plcV W H S id = plcP W S id := by unfold plcV; rw [if_pos e1]
      rw [e1, e2]
      have hat := lie_at_yes hr hi.1 hi.2
      have HC := Lib.hid (fun w => at_yes _ _ _ w hat)
      obtain ⟨p, hp⟩ : ∃ p, plcP W S id = p := ⟨_, rfl⟩
      have hp1 : id % lieN W S = p.1 := by rw [← hp]; rfl
      have hp2 : id / lieN W S = p.2 := by rw [← hp]; rfl
      rw [hp1, hp2] at HC
      rw [hp]
      have HR := Lib.hid hr
      clear e1 e2 hat hp hp1 hp2 hi
      go_enter Tryd.func101, Tryd.ntmps101
      go_wp2_with fail
      refine (right_p _ _ _ _).mono ?_
      rintro e w1 ⟨rfl, hb⟩
      have hk : Below w.heap.size w w1 := by first | exact hb | exact bl_tr (bl_al (bl0 _) _) hb | exact bl_tr (bl_dr (bl_al (bl0 _) _)) hb | exact bl_tr (bl_al (bl_al (bl0 _) _) _) hb | exact bl_tr (bl_dr (bl_al (bl_al (bl0 _) _) _)) hb | exact bl_tr (bl_al (bl_al (bl_al (bl0 _) _) _) _) hb | exact bl_tr (bl_dr (bl_al (bl_al (bl_al (bl0 _) _) _) _)) hb | exact bl_tr (bl_al (bl_al (bl_al (bl_al (bl0 _) _) _) _) _) hb | exact bl_tr (bl_dr (bl_al (bl_al (bl_al (bl_al (bl0 _) _) _) _) _)) hb | exact bl_tr (bl_al (bl_al (bl_al (bl_al (bl_al (bl0 _) _) _) _) _) _) hb | exact bl_tr (bl_dr (bl_al (bl_al (bl_al (bl_al (bl_al (bl0 _) _) _) _) _) _)) hb | exact bl_tr (bl_al (bl_al (bl_al (bl_al (bl_al (bl_al (bl0 _) _) _) _) _) _) _) hb | exact bl_tr (bl_dr (bl_al (bl_al (bl_al (bl_al (bl_al (bl_al (bl0 _) _) _) _) _) _) _)) hb | exact bl_tr (bl_dr (bl0 _)) hb
      replace hA := bl_tr hA hk
      have f0 := cell_later hb (v := .int .i64 W) (a := ⟨w.heap.size, 0, none⟩) (by simp [go_sem])
      have f1 := cell_later hb (v := .int .i64 H) (a := ⟨w.heap.size, 1, none⟩) (by simp [go_sem])
      have f2 := cell_later hb (v := .int .i64 S) (a := ⟨w.heap.size, 2, none⟩) (by simp [go_sem])
      have q0 := cell_later hb (v := .int .i64 0) (a := ⟨w.heap.size + 1, 0, none⟩) (by simp [go_sem])
      have q1 := cell_later hb (v := .int .i64 0) (a := ⟨w.heap.size + 1, 1, none⟩) (by simp [go_sem])
      have u0 : w1.frozen? ⟨w.heap.size + 1, 0, none⟩ = false := (hb.frozen (p := ⟨w.heap.size + 1, 0, none⟩) (by simp <;> omega)).trans (by simp [go_sem])
      have u1 : w1.frozen? ⟨w.heap.size + 1, 1, none⟩ = false := (hb.frozen (p := ⟨w.heap.size + 1, 1, none⟩) (by simp <;> omega)).trans (by simp [go_sem])
      clear hb hk
      have zf0 := blk_lt f0
      have zf1 := blk_lt f1
      have zf2 := blk_lt f2
      have zq0 := blk_lt q0
      have zq1 := blk_lt q1
      rw [hr]
      clear hr
      go_wp2_with fail
      refine (lie_p _ _ _ _ HR.out).mono ?_
      rintro e w2 ⟨rfl, hb⟩
      have hk : Below w1.heap.size w1 w2 := by first | exact hb | exact bl_tr (bl_al (bl0 _) _) hb | exact bl_tr (bl_dr (bl_al (bl0 _) _)) hb | exact bl_tr (bl_al (bl_al (bl0 _) _) _) hb | exact bl_tr (bl_dr (bl_al (bl_al (bl0 _) _) _)) hb | exact bl_tr (bl_al (bl_al (bl_al (bl0 _) _) _) _) hb | exact bl_tr (bl_dr (bl_al (bl_al (bl_al (bl0 _) _) _) _)) hb | exact bl_tr (bl_al (bl_al (bl_al (bl_al (bl0 _) _) _) _) _) hb | exact bl_tr (bl_dr (bl_al (bl_al (bl_al (bl_al (bl0 _) _) _) _) _)) hb | exact bl_tr (bl_al (bl_al (bl_al (bl_al (bl_al (bl0 _) _) _) _) _) _) hb | exact bl_tr (bl_dr (bl_al (bl_al (bl_al (bl_al (bl_al (bl0 _) _) _) _) _) _)) hb | exact bl_tr (bl_al (bl_al (bl_al (bl_al (bl_al (bl_al (bl0 _) _) _) _) _) _) _) hb | exact bl_tr (bl_dr (bl_al (bl_al (bl_al (bl_al (bl_al (bl_al (bl0 _) _) _) _) _) _) _)) hb | exact bl_tr (bl_dr (bl0 _)) hb
      replace hA := bl_tr hA hk
      replace u0 := frozen_later hk q0 u0
      replace u1 := frozen_later hk q1 u1
      replace q0 := cell_later hk q0
      replace q1 := cell_later hk q1
      clear hb hk
      have zq0 := blk_lt q0
      have zq1 := blk_lt q1
      go_wp2_with fail
      refine (HC.out _).mono ?_
      rintro e w3 ⟨rfl, hb⟩
      have hk : Below w2.heap.size w2 w3 := by first | exact hb | exact bl_tr (bl_al (bl0 _) _) hb | exact bl_tr (bl_dr (bl_al (bl0 _) _)) hb | exact bl_tr (bl_al (bl_al (bl0 _) _) _) hb | exact bl_tr (bl_dr (bl_al (bl_al (bl0 _) _) _)) hb | exact bl_tr (bl_al (bl_al (bl_al (bl0 _) _) _) _) hb | exact bl_tr (bl_dr (bl_al (bl_al (bl_al (bl0 _) _) _) _)) hb | exact bl_tr (bl_al (bl_al (bl_al (bl_al (bl0 _) _) _) _) _) hb | exact bl_tr (bl_dr (bl_al (bl_al (bl_al (bl_al (bl0 _) _) _) _) _)) hb | exact bl_tr (bl_al (bl_al (bl_al (bl_al (bl_al (bl0 _) _) _) _) _) _) hb | exact bl_tr (bl_dr (bl_al (bl_al (bl_al (bl_al (bl_al (bl0 _) _) _) _) _) _)) hb | exact bl_tr (bl_al (bl_al (bl_al (bl_al (bl_al (bl_al (bl0 _) _) _) _) _) _) _) hb | exact bl_tr (bl_dr (bl_al (bl_al (bl_al (bl_al (bl_al (bl_al (bl0 _) _) _) _) _) _) _)) hb | exact bl_tr (bl_dr (bl0 _)) hb
      replace hA := bl_tr hA hk
      replace u0 := frozen_later hk q0 u0
      replace u1 := frozen_later hk q1 u1
      replace q0 := cell_later hk q0
      replace q1 := cell_later hk q1
      clear hb hk
      have zq0 := blk_lt q0
      have zq1 := blk_lt q1
      go_wp2
      refine bodyPost_ret (v := .tuple #[.agg #[.int .i64 p.1, .int .i64 p.2], .int .i64 0]) (by simp [results, Tryd.results101, go_sem, q0, q1]) rfl ⟨rfl, ?_⟩
      exact bl_st (bl_st hA (by omega) _) (by omega) _
    · have e1 : plcX W H S id = 10 := by unfold plcX; rw [if_pos hr, if_neg hi]
      have e2 : plcV W H S id = (0, 0) := by unfold plcV; rw [if_neg (by rw [e1]; decide)]
      rw [e1, e2]
      have hat := lie_at_no (W := W) (H := H) (S := S) (id := id) (by omega)
      have HC := Lib.hid (fun w => at_no _ _ _ w hat)
      have HR := Lib.hid hr
      clear e1 e2 hat hi
      go_enter Tryd.func101, Tryd.ntmps101
      go_wp2_with fail
      refine (right_p _ _ _ _).mono ?_
      rintro e w1 ⟨rfl, hb⟩
      have hk : Below w.heap.size w w1 := by first | exact hb | exact bl_tr (bl_al (bl0 _) _) hb | exact bl_tr (bl_dr (bl_al (bl0 _) _)) hb | exact bl_tr (bl_al (bl_al (bl0 _) _) _) hb | exact bl_tr (bl_dr (bl_al (bl_al (bl0 _) _) _)) hb | exact bl_tr (bl_al (bl_al (bl_al (bl0 _) _) _) _) hb | exact bl_tr (bl_dr (bl_al (bl_al (bl_al (bl0 _) _) _) _)) hb | exact bl_tr (bl_al (bl_al (bl_al (bl_al (bl0 _) _) _) _) _) hb | exact bl_tr (bl_dr (bl_al (bl_al (bl_al (bl_al (bl0 _) _) _) _) _)) hb | exact bl_tr (bl_al (bl_al (bl_al (bl_al (bl_al (bl0 _) _) _) _) _) _) hb | exact bl_tr (bl_dr (bl_al (bl_al (bl_al (bl_al (bl_al (bl0 _) _) _) _) _) _)) hb | exact bl_tr (bl_al (bl_al (bl_al (bl_al (bl_al (bl_al (bl0 _) _) _) _) _) _) _) hb | exact bl_tr (bl_dr (bl_al (bl_al (bl_al (bl_al (bl_al (bl_al (bl0 _) _) _) _) _) _) _)) hb | exact bl_tr (bl_dr (bl0 _)) hb
      replace hA := bl_tr hA hk
      have f0 := cell_later hb (v := .int .i64 W) (a := ⟨w.heap.size, 0, none⟩) (by simp [go_sem])
      have f1 := cell_later hb (v := .int .i64 H) (a := ⟨w.heap.size, 1, none⟩) (by simp [go_sem])
      have f2 := cell_later hb (v := .int .i64 S) (a := ⟨w.heap.size, 2, none⟩) (by simp [go_sem])
      have q0 := cell_later hb (v := .int .i64 0) (a := ⟨w.heap.size + 1, 0, none⟩) (by simp [go_sem])
      have q1 := cell_later hb (v := .int .i64 0) (a := ⟨w.heap.size + 1, 1, none⟩) (by simp [go_sem])
      have u0 : w1.frozen? ⟨w.heap.size + 1, 0, none⟩ = false := (hb.frozen (p := ⟨w.heap.size + 1, 0, none⟩) (by simp <;> omega)).trans (by simp [go_sem])
      have u1 : w1.frozen? ⟨w.heap.size + 1, 1, none⟩ = false := (hb.frozen (p := ⟨w.heap.size + 1, 1, none⟩) (by simp <;> omega)).trans (by simp [go_sem])
      clear hb hk
      have zf0 := blk_lt f0
      have zf1 := blk_lt f1
      have zf2 := blk_lt f2
      have zq0 := blk_lt q0
      have zq1 := blk_lt q1
      rw [hr]
      clear hr
      go_wp2_with fail
      refine (lie_p _ _ _ _ HR.out).mono ?_
      rintro e w2 ⟨rfl, hb⟩
      have hk : Below w1.heap.size w1 w2 := by first | exact hb | exact bl_tr (bl_al (bl0 _) _) hb | exact bl_tr (bl_dr (bl_al (bl0 _) _)) hb | exact bl_tr (bl_al (bl_al (bl0 _) _) _) hb | exact bl_tr (bl_dr (bl_al (bl_al (bl0 _) _) _)) hb | exact bl_tr (bl_al (bl_al (bl_al (bl0 _) _) _) _) hb | exact bl_tr (bl_dr (bl_al (bl_al (bl_al (bl0 _) _) _) _)) hb | exact bl_tr (bl_al (bl_al (bl_al (bl_al (bl0 _) _) _) _) _) hb | exact bl_tr (bl_dr (bl_al (bl_al (bl_al (bl_al (bl0 _) _) _) _) _)) hb | exact bl_tr (bl_al (bl_al (bl_al (bl_al (bl_al (bl0 _) _) _) _) _) _) hb | exact bl_tr (bl_dr (bl_al (bl_al (bl_al (bl_al (bl_al (bl0 _) _) _) _) _) _)) hb | exact bl_tr (bl_al (bl_al (bl_al (bl_al (bl_al (bl_al (bl0 _) _) _) _) _) _) _) hb | exact bl_tr (bl_dr (bl_al (bl_al (bl_al (bl_al (bl_al (bl_al (bl0 _) _) _) _) _) _) _)) hb | exact bl_tr (bl_dr (bl0 _)) hb
      replace hA := bl_tr hA hk
      replace u0 := frozen_later hk q0 u0
      replace u1 := frozen_later hk q1 u1
      replace q0 := cell_later hk q0
      replace q1 := cell_later hk q1
      clear hb hk
      have zq0 := blk_lt q0
      have zq1 := blk_lt q1
      go_wp2_with fail
      refine (HC.out _).mono ?_
      rintro e w3 ⟨rfl, hb⟩
      have hk : Below w2.heap.size w2 w3 := by first | exact hb | exact bl_tr (bl_al (bl0 _) _) hb | exact bl_tr (bl_dr (bl_al (bl0 _) _)) hb | exact bl_tr (bl_al (bl_al (bl0 _) _) _) hb | exact bl_tr (bl_dr (bl_al (bl_al (bl0 _) _) _)) hb | exact bl_tr (bl_al (bl_al (bl_al (bl0 _) _) _) _) hb | exact bl_tr (bl_dr (bl_al (bl_al (bl_al (bl0 _) _) _) _)) hb | exact bl_tr (bl_al (bl_al (bl_al (bl_al (bl0 _) _) _) _) _) hb | exact bl_tr (bl_dr (bl_al (bl_al (bl_al (bl_al (bl0 _) _) _) _) _)) hb | exact bl_tr (bl_al (bl_al (bl_al (bl_al (bl_al (bl0 _) _) _) _) _) _) hb | exact bl_tr (bl_dr (bl_al (bl_al (bl_al (bl_al (bl_al (bl0 _) _) _) _) _) _)) hb | exact bl_tr (bl_al (bl_al (bl_al (bl_al (bl_al (bl_al (bl0 _) _) _) _) _) _) _) hb | exact bl_tr (bl_dr (bl_al (bl_al (bl_al (bl_al (bl_al (bl_al (bl0 _) _) _) _) _) _) _)) hb | exact bl_tr (bl_dr (bl0 _)) hb
      replace hA := bl_tr hA hk
      replace u0 := frozen_later hk q0 u0
      replace u1 := frozen_later hk q1 u1
      replace q0 := cell_later hk q0
      replace q1 := cell_later hk q1
      clear hb hk
      have zq0 := blk_lt q0
      have zq1 := blk_lt q1
      go_wp2
      refine bodyPost_ret (v := .tuple #[.agg #[.int .i64 0, .int .i64 0], .int .i64 10]) (by simp [results, Tryd.results101, go_sem, q0, q1]) rfl ⟨rfl, ?_⟩
      exact bl_st (bl_st hA (by omega) _) (by omega) _
end Go.Proofs.YtbdfjdipjacamaaDoor
