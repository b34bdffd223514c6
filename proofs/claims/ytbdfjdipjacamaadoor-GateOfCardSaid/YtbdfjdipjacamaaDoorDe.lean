/- Parts: New, Count, a cluster's box, the cluster of a cell. -/
import Derived.Test.YtbdfjdipjacamaaDoorDd
import Derived.Test.YtbdfjdipjacamaaDoorOh
import Derived.Deep.RegionHeld3
import Derived.Deep.CutRange
namespace Go.Proofs.YtbdfjdipjacamaaDoor
open Go.RowKit

/-- What New tells. -/
def newV (W H S : Int) (k : Int) : Int := if rightP W H S = true then k else 0
def newX (W H S : Int) : Int := if rightP W H S = true then 0 else 10

/-- How many clusters. -/
def cntV (W H S : Int) : Int := if rightP W H S = true then lieN W S * lieN H S else 0
set_option maxHeartbeats 1600000 in
theorem count_p (W H S : Int) (w : World) :
    Calls Tryd.prog 58 #[.agg #[.int .i64 W, .int .i64 H, .int .i64 S]] w fun e w' => e = .returned (.int .i64 (cntV W H S)) ∧ Below w.heap.size w w' := by
  have hA := bl0 w
  cases hr : rightP W H S
  · have e0 : cntV W H S = 0 := by unfold cntV; rw [if_neg (by rw [hr]; decide)]
    rw [e0]
    clear e0
    go_enter Tryd.func58, Tryd.ntmps58
    go_wp2_with fail
    refine (right_p _ _ _ _).mono ?_
    rintro e w1 ⟨rfl, hb⟩
    have hk : Below w.heap.size w w1 := by first | exact hb | exact bl_tr (bl_al (bl0 _) _) hb | exact bl_tr (bl_dr (bl_al (bl0 _) _)) hb | exact bl_tr (bl_al (bl_al (bl0 _) _) _) hb | exact bl_tr (bl_dr (bl_al (bl_al (bl0 _) _) _)) hb | exact bl_tr (bl_al (bl_al (bl_al (bl0 _) _) _) _) hb | exact bl_tr (bl_dr (bl_al (bl_al (bl_al (bl0 _) _) _) _)) hb | exact bl_tr (bl_al (bl_al (bl_al (bl_al (bl0 _) _) _) _) _) hb | exact bl_tr (bl_dr (bl_al (bl_al (bl_al (bl_al (bl0 _) _) _) _) _)) hb | exact bl_tr (bl_al (bl_al (bl_al (bl_al (bl_al (bl0 _) _) _) _) _) _) hb | exact bl_tr (bl_dr (bl_al (bl_al (bl_al (bl_al (bl_al (bl0 _) _) _) _) _) _)) hb | exact bl_tr (bl_al (bl_al (bl_al (bl_al (bl_al (bl_al (bl0 _) _) _) _) _) _) _) hb | exact bl_tr (bl_dr (bl_al (bl_al (bl_al (bl_al (bl_al (bl_al (bl0 _) _) _) _) _) _) _)) hb | exact bl_tr (bl_dr (bl0 _)) hb
    replace hA := bl_tr hA hk
    clear hb hk
    rw [hr]
    go_wp2
    go_ret
    exact ⟨rfl, hA⟩
  · have e0 : cntV W H S = lieN W S * lieN H S := by unfold cntV; rw [if_pos hr]
    rw [e0]
    obtain ⟨_, c1, c2⟩ := cntN_eq hr
    obtain ⟨l1, l2, l3, l4⟩ := lie_wide hr
    have HR := Lib.hid hr
    clear e0
    go_enter Tryd.func58, Tryd.ntmps58
    go_wp2_with fail
    refine (right_p _ _ _ _).mono ?_
    rintro e w1 ⟨rfl, hb⟩
    have hk : Below w.heap.size w w1 := by first | exact hb | exact bl_tr (bl_al (bl0 _) _) hb | exact bl_tr (bl_dr (bl_al (bl0 _) _)) hb | exact bl_tr (bl_al (bl_al (bl0 _) _) _) hb | exact bl_tr (bl_dr (bl_al (bl_al (bl0 _) _) _)) hb | exact bl_tr (bl_al (bl_al (bl_al (bl0 _) _) _) _) hb | exact bl_tr (bl_dr (bl_al (bl_al (bl_al (bl0 _) _) _) _)) hb | exact bl_tr (bl_al (bl_al (bl_al (bl_al (bl0 _) _) _) _) _) hb | exact bl_tr (bl_dr (bl_al (bl_al (bl_al (bl_al (bl0 _) _) _) _) _)) hb | exact bl_tr (bl_al (bl_al (bl_al (bl_al (bl_al (bl0 _) _) _) _) _) _) hb | exact bl_tr (bl_dr (bl_al (bl_al (bl_al (bl_al (bl_al (bl0 _) _) _) _) _) _)) hb | exact bl_tr (bl_al (bl_al (bl_al (bl_al (bl_al (bl_al (bl0 _) _) _) _) _) _) _) hb | exact bl_tr (bl_dr (bl_al (bl_al (bl_al (bl_al (bl_al (bl_al (bl0 _) _) _) _) _) _) _)) hb | exact bl_tr (bl_dr (bl0 _)) hb
    replace hA := bl_tr hA hk
    have f0 := cell_later hb (v := .int .i64 W) (a := ⟨w.heap.size, 0, none⟩) (by simp [go_sem])
    have f1 := cell_later hb (v := .int .i64 H) (a := ⟨w.heap.size, 1, none⟩) (by simp [go_sem])
    have f2 := cell_later hb (v := .int .i64 S) (a := ⟨w.heap.size, 2, none⟩) (by simp [go_sem])
    clear hb hk
    have zf0 := blk_lt f0
    have zf1 := blk_lt f1
    have zf2 := blk_lt f2
    rw [hr]
    clear hr
    go_wp2_with fail
    refine (lie_p _ _ _ _ HR.out).mono ?_
    rintro e w2 ⟨rfl, hb⟩
    have hk : Below w1.heap.size w1 w2 := by first | exact hb | exact bl_tr (bl_al (bl0 _) _) hb | exact bl_tr (bl_dr (bl_al (bl0 _) _)) hb | exact bl_tr (bl_al (bl_al (bl0 _) _) _) hb | exact bl_tr (bl_dr (bl_al (bl_al (bl0 _) _) _)) hb | exact bl_tr (bl_al (bl_al (bl_al (bl0 _) _) _) _) hb | exact bl_tr (bl_dr (bl_al (bl_al (bl_al (bl0 _) _) _) _)) hb | exact bl_tr (bl_al (bl_al (bl_al (bl_al (bl0 _) _) _) _) _) hb | exact bl_tr (bl_dr (bl_al (bl_al (bl_al (bl_al (bl0 _) _) _) _) _)) hb | exact bl_tr (bl_al (bl_al (bl_al (bl_al (bl_al (bl0 _) _) _) _) _) _) hb | exact bl_tr (bl_dr (bl_al (bl_al (bl_al (bl_al (bl_al (bl0 _) _) _) _) _) _)) hb | exact bl_tr (bl_al (bl_al (bl_al (bl_al (bl_al (bl_al (bl0 _) _) _) _) _) _) _) hb | exact bl_tr (bl_dr (bl_al (bl_al (bl_al (bl_al (bl_al (bl_al (bl0 _) _) _) _) _) _) _)) hb | exact bl_tr (bl_dr (bl0 _)) hb
    replace hA := bl_tr hA hk
    clear hb hk
    go_wp2
    go_ret
    exact ⟨rfl, bl_al hA _⟩

set_option maxHeartbeats 3200000 in
theorem box_p (W H S : Int) (p : IC) (w : World) (hr : rightP W H S = true) (h1 : 0 ≤ p.1) (h2 : p.1 < lieN W S) (h3 : 0 ≤ p.2) (h4 : p.2 < lieN H S) :
    Calls Tryd.prog 113 #[.agg #[.int .i64 W, .int .i64 H, .int .i64 S], .agg #[.int .i64 p.1, .int .i64 p.2]] w fun e w' => e = .returned (.agg #[.int .i64 (bxX S p), .int .i64 (bxY S p), .int .i64 (bxW W S p), .int .i64 (bxH H S p)]) ∧ Below w.heap.size w w' := by
  obtain ⟨⟨a1, a2, a3, a4⟩, a5, a6⟩ := rightP_iff.1 hr
  obtain ⟨g1, g2, _, _⟩ := lie_ge a1 a2 a5 a6 h1 h2
  obtain ⟨k1, k2, _, _⟩ := lie_ge a3 a4 a5 a6 h3 h4
  obtain ⟨⟨_, _, _, _⟩, ⟨t5, t6, t7, t8⟩, t9, t10⟩ := bx_bd hr h1 h2 h3 h4
  obtain ⟨x, y⟩ := p
  have e3 : bxW W S (x, y) = min S (W - x * S) := rfl
  have e4 : bxH H S (x, y) = min S (H - y * S) := rfl
  rw [e3, e4, show bxX S (x, y) = x * S from rfl, show bxY S (x, y) = y * S from rfl]
  simp only at g1 g2 k1 k2
  have w1 : IntKind.i64.wrap (x * S) = x * S := IntWalk.i64_in _ (by omega)
  have w2 : IntKind.i64.wrap (y * S) = y * S := IntWalk.i64_in _ (by omega)
  obtain ⟨u, hu⟩ : ∃ u, x * S = u := ⟨_, rfl⟩
  obtain ⟨v, hv⟩ : ∃ v, y * S = v := ⟨_, rfl⟩
  rw [hu] at w1 g1 g2 ⊢
  rw [hv] at w2 k1 k2 ⊢
  have w3 : IntKind.i64.wrap (W - u) = W - u := IntWalk.i64_in _ (by omega)
  have w4 : IntKind.i64.wrap (H - v) = H - v := IntWalk.i64_in _ (by omega)
  obtain ⟨m, hm⟩ : ∃ m, min S (W - u) = m := ⟨_, rfl⟩
  obtain ⟨n, hn⟩ : ∃ n, min S (H - v) = n := ⟨_, rfl⟩
  rw [hm, hn]
  have HM := Lib.hid hm
  have HN := Lib.hid hn
  clear t5 t6 t7 t8 t9 t10 h1 h2 h3 h4 e3 e4 hr hm hn
  go_enter Tryd.func113, Tryd.ntmps113
  go_wp2
  go_region
  all_goals go_wp2
  all_goals
    have hm := HM.out
    have hn := HN.out
    refine bodyPost_ret (v := .agg #[.int .i64 u, .int .i64 v, .int .i64 m, .int .i64 n]) (by simp [results, Tryd.results113, go_sem]; omega) rfl ⟨rfl, ?_⟩
    exact bl_dr (bl_al (bl_al (bl_al (bl0 _) _) _) _)

/-- What Box tells. -/
def boxV (W H S id k : Int) : Int := if plcX W H S id = 0 then k else 0
set_option maxHeartbeats 3200000 in
theorem tbox_p (W H S id : Int) (w : World) :
    Calls Tryd.prog 68 #[.agg #[.int .i64 W, .int .i64 H, .int .i64 S], .int .i64 id] w fun e w' => e = .returned (.tuple #[.agg #[.int .i64 (boxV W H S id (bxX S (plcP W S id))), .int .i64 (boxV W H S id (bxY S (plcP W S id))), .int .i64 (boxV W H S id (bxW W S (plcP W S id))), .int .i64 (boxV W H S id (bxH H S (plcP W S id)))], .int .i64 (plcX W H S id)]) ∧ Below w.heap.size w w' := by
  have hA := bl0 w
  by_cases h0 : plcX W H S id = 0
  · have e1 : ∀ k, boxV W H S id k = k := fun k => by unfold boxV; rw [if_pos h0]
    have e2 : plcV W H S id = plcP W S id := by unfold plcV; rw [if_pos h0]
    obtain ⟨hr, i0, i1⟩ := plcX_yes.1 h0
    obtain ⟨p1, p2, p3, p4, _⟩ := plc_in hr i0 i1
    have HC := Lib.hid (fun w => box_p W H S (plcP W S id) w hr p1 p2 p3 p4)
    have HP := Lib.hid (fun w => place_p W H S id w)
    rw [h0, e2] at HP
    rw [e1, e1, e1, e1, h0]
    clear e1 e2 h0 hr i0 i1 p1 p2 p3 p4
    generalize plcP W S id = p at *
    generalize bxX S p = x at *
    generalize bxY S p = y at *
    generalize bxW W S p = u at *
    generalize bxH H S p = v at *
    go_enter Tryd.func68, Tryd.ntmps68
    go_wp2_with fail
    refine (HP.out _).mono ?_
    rintro e w1 ⟨rfl, hb⟩
    have hk : Below w.heap.size w w1 := by first | exact hb | exact bl_tr (bl_al (bl0 _) _) hb | exact bl_tr (bl_dr (bl_al (bl0 _) _)) hb | exact bl_tr (bl_al (bl_al (bl0 _) _) _) hb | exact bl_tr (bl_dr (bl_al (bl_al (bl0 _) _) _)) hb | exact bl_tr (bl_al (bl_al (bl_al (bl0 _) _) _) _) hb | exact bl_tr (bl_dr (bl_al (bl_al (bl_al (bl0 _) _) _) _)) hb | exact bl_tr (bl_al (bl_al (bl_al (bl_al (bl0 _) _) _) _) _) hb | exact bl_tr (bl_dr (bl_al (bl_al (bl_al (bl_al (bl0 _) _) _) _) _)) hb | exact bl_tr (bl_al (bl_al (bl_al (bl_al (bl_al (bl0 _) _) _) _) _) _) hb | exact bl_tr (bl_dr (bl_al (bl_al (bl_al (bl_al (bl_al (bl0 _) _) _) _) _) _)) hb | exact bl_tr (bl_al (bl_al (bl_al (bl_al (bl_al (bl_al (bl0 _) _) _) _) _) _) _) hb | exact bl_tr (bl_dr (bl_al (bl_al (bl_al (bl_al (bl_al (bl_al (bl0 _) _) _) _) _) _) _)) hb | exact bl_tr (bl_dr (bl0 _)) hb
    replace hA := bl_tr hA hk
    have f0 := cell_later hb (v := .int .i64 W) (a := ⟨w.heap.size, 0, none⟩) (by simp [go_sem])
    have f1 := cell_later hb (v := .int .i64 H) (a := ⟨w.heap.size, 1, none⟩) (by simp [go_sem])
    have f2 := cell_later hb (v := .int .i64 S) (a := ⟨w.heap.size, 2, none⟩) (by simp [go_sem])
    have q0 := cell_later hb (v := .int .i64 0) (a := ⟨w.heap.size + 1, 0, none⟩) (by simp [go_sem])
    have q1 := cell_later hb (v := .int .i64 0) (a := ⟨w.heap.size + 1, 1, none⟩) (by simp [go_sem])
    have q2 := cell_later hb (v := .int .i64 0) (a := ⟨w.heap.size + 1, 2, none⟩) (by simp [go_sem])
    have q3 := cell_later hb (v := .int .i64 0) (a := ⟨w.heap.size + 1, 3, none⟩) (by simp [go_sem])
    have u0 : w1.frozen? ⟨w.heap.size + 1, 0, none⟩ = false := (hb.frozen (p := ⟨w.heap.size + 1, 0, none⟩) (by simp <;> omega)).trans (by simp [go_sem])
    have u1 : w1.frozen? ⟨w.heap.size + 1, 1, none⟩ = false := (hb.frozen (p := ⟨w.heap.size + 1, 1, none⟩) (by simp <;> omega)).trans (by simp [go_sem])
    have u2 : w1.frozen? ⟨w.heap.size + 1, 2, none⟩ = false := (hb.frozen (p := ⟨w.heap.size + 1, 2, none⟩) (by simp <;> omega)).trans (by simp [go_sem])
    have u3 : w1.frozen? ⟨w.heap.size + 1, 3, none⟩ = false := (hb.frozen (p := ⟨w.heap.size + 1, 3, none⟩) (by simp <;> omega)).trans (by simp [go_sem])
    clear hb hk
    have zf0 := blk_lt f0
    have zf1 := blk_lt f1
    have zf2 := blk_lt f2
    have zq0 := blk_lt q0
    have zq1 := blk_lt q1
    have zq2 := blk_lt q2
    have zq3 := blk_lt q3
    go_wp2_with fail
    refine (HC.out _).mono ?_
    rintro e w2 ⟨rfl, hb⟩
    have hk : Below w1.heap.size w1 w2 := by first | exact hb | exact bl_tr (bl_al (bl0 _) _) hb | exact bl_tr (bl_dr (bl_al (bl0 _) _)) hb | exact bl_tr (bl_al (bl_al (bl0 _) _) _) hb | exact bl_tr (bl_dr (bl_al (bl_al (bl0 _) _) _)) hb | exact bl_tr (bl_al (bl_al (bl_al (bl0 _) _) _) _) hb | exact bl_tr (bl_dr (bl_al (bl_al (bl_al (bl0 _) _) _) _)) hb | exact bl_tr (bl_al (bl_al (bl_al (bl_al (bl0 _) _) _) _) _) hb | exact bl_tr (bl_dr (bl_al (bl_al (bl_al (bl_al (bl0 _) _) _) _) _)) hb | exact bl_tr (bl_al (bl_al (bl_al (bl_al (bl_al (bl0 _) _) _) _) _) _) hb | exact bl_tr (bl_dr (bl_al (bl_al (bl_al (bl_al (bl_al (bl0 _) _) _) _) _) _)) hb | exact bl_tr (bl_al (bl_al (bl_al (bl_al (bl_al (bl_al (bl0 _) _) _) _) _) _) _) hb | exact bl_tr (bl_dr (bl_al (bl_al (bl_al (bl_al (bl_al (bl_al (bl0 _) _) _) _) _) _) _)) hb | exact bl_tr (bl_dr (bl0 _)) hb
    replace hA := bl_tr hA hk
    replace u0 := frozen_later hk q0 u0
    replace u1 := frozen_later hk q1 u1
    replace u2 := frozen_later hk q2 u2
    replace u3 := frozen_later hk q3 u3
    replace q0 := cell_later hk q0
    replace q1 := cell_later hk q1
    replace q2 := cell_later hk q2
    replace q3 := cell_later hk q3
    clear hb hk
    have zq0 := blk_lt q0
    have zq1 := blk_lt q1
    have zq2 := blk_lt q2
    have zq3 := blk_lt q3
    go_wp2
    refine bodyPost_ret (v := .tuple #[.agg #[.int .i64 x, .int .i64 y, .int .i64 u, .int .i64 v], .int .i64 0]) (by simp [results, Tryd.results68, go_sem, q0, q1, q2, q3]) rfl ⟨rfl, ?_⟩
    exact bl_st (bl_st (bl_st (bl_st hA (by omega) _) (by omega) _) (by omega) _) (by omega) _
  · have e1 : ∀ k, boxV W H S id k = 0 := fun k => by unfold boxV; rw [if_neg h0]
    have e2 : plcV W H S id = (0, 0) := by unfold plcV; rw [if_neg h0]
    have HP := Lib.hid (fun w => place_p W H S id w)
    rw [e2] at HP
    rw [e1, e1, e1, e1]
    obtain ⟨x, hx⟩ : ∃ x, plcX W H S id = x := ⟨_, rfl⟩
    rw [hx] at HP h0 ⊢
    have h1 : (x != 0) = true := by rw [bne_iff_ne]; exact h0
    clear e1 e2 h0 hx
    go_enter Tryd.func68, Tryd.ntmps68
    go_wp2_with fail
    refine (HP.out _).mono ?_
    rintro e w1 ⟨rfl, hb⟩
    have hk : Below w.heap.size w w1 := by first | exact hb | exact bl_tr (bl_al (bl0 _) _) hb | exact bl_tr (bl_dr (bl_al (bl0 _) _)) hb | exact bl_tr (bl_al (bl_al (bl0 _) _) _) hb | exact bl_tr (bl_dr (bl_al (bl_al (bl0 _) _) _)) hb | exact bl_tr (bl_al (bl_al (bl_al (bl0 _) _) _) _) hb | exact bl_tr (bl_dr (bl_al (bl_al (bl_al (bl0 _) _) _) _)) hb | exact bl_tr (bl_al (bl_al (bl_al (bl_al (bl0 _) _) _) _) _) hb | exact bl_tr (bl_dr (bl_al (bl_al (bl_al (bl_al (bl0 _) _) _) _) _)) hb | exact bl_tr (bl_al (bl_al (bl_al (bl_al (bl_al (bl0 _) _) _) _) _) _) hb | exact bl_tr (bl_dr (bl_al (bl_al (bl_al (bl_al (bl_al (bl0 _) _) _) _) _) _)) hb | exact bl_tr (bl_al (bl_al (bl_al (bl_al (bl_al (bl_al (bl0 _) _) _) _) _) _) _) hb | exact bl_tr (bl_dr (bl_al (bl_al (bl_al (bl_al (bl_al (bl_al (bl0 _) _) _) _) _) _) _)) hb | exact bl_tr (bl_dr (bl0 _)) hb
    replace hA := bl_tr hA hk
    have q0 := cell_later hb (v := .int .i64 0) (a := ⟨w.heap.size + 1, 0, none⟩) (by simp [go_sem])
    have q1 := cell_later hb (v := .int .i64 0) (a := ⟨w.heap.size + 1, 1, none⟩) (by simp [go_sem])
    have q2 := cell_later hb (v := .int .i64 0) (a := ⟨w.heap.size + 1, 2, none⟩) (by simp [go_sem])
    have q3 := cell_later hb (v := .int .i64 0) (a := ⟨w.heap.size + 1, 3, none⟩) (by simp [go_sem])
    have u0 : w1.frozen? ⟨w.heap.size + 1, 0, none⟩ = false := (hb.frozen (p := ⟨w.heap.size + 1, 0, none⟩) (by simp <;> omega)).trans (by simp [go_sem])
    have u1 : w1.frozen? ⟨w.heap.size + 1, 1, none⟩ = false := (hb.frozen (p := ⟨w.heap.size + 1, 1, none⟩) (by simp <;> omega)).trans (by simp [go_sem])
    have u2 : w1.frozen? ⟨w.heap.size + 1, 2, none⟩ = false := (hb.frozen (p := ⟨w.heap.size + 1, 2, none⟩) (by simp <;> omega)).trans (by simp [go_sem])
    have u3 : w1.frozen? ⟨w.heap.size + 1, 3, none⟩ = false := (hb.frozen (p := ⟨w.heap.size + 1, 3, none⟩) (by simp <;> omega)).trans (by simp [go_sem])
    clear hb hk
    have zq0 := blk_lt q0
    have zq1 := blk_lt q1
    have zq2 := blk_lt q2
    have zq3 := blk_lt q3
    go_wp2
    refine bodyPost_ret (v := .tuple #[.agg #[.int .i64 0, .int .i64 0, .int .i64 0, .int .i64 0], .int .i64 x]) (by simp [results, Tryd.results68, go_sem, zq0, q0, q1, q2, q3]) rfl ⟨rfl, ?_⟩
    exact bl_al (bl_st (bl_st (bl_st (bl_st hA (by omega) _) (by omega) _) (by omega) _) (by omega) _) _

/-- What Of tells. -/
def ofX (W H S : Int) (c : IC) : Int := if rightP W H S = true then (if onB W H c = true then 0 else 10) else 1
def ofV (W H S : Int) (c : IC) : Int := if ofX W H S c = 0 then ofP W S c else 0
theorem ofX_yes {W H S : Int} {c : IC} : ofX W H S c = 0 ↔ rightP W H S = true ∧ onB W H c = true := by
  unfold ofX
  by_cases hr : rightP W H S = true
  · rw [if_pos hr]
    by_cases h : onB W H c = true
    · rw [if_pos h]; simp [hr, h]
    · rw [if_neg h]; simp [h]
  · rw [if_neg hr]; simp [hr]
set_option maxRecDepth 100000 in
set_option maxHeartbeats 3200000 in
theorem of_p (W H S : Int) (c : IC) (w : World) :
    Calls Tryd.prog 69 #[.agg #[.int .i64 W, .int .i64 H, .int .i64 S], .agg #[.int .i64 c.1, .int .i64 c.2]] w fun e w' => e = .returned (.tuple #[.int .i64 (ofV W H S c), .int .i64 (ofX W H S c)]) ∧ Below w.heap.size w w' := by
  have hA := bl0 w
  cases hr : rightP W H S
  · have e1 : ofX W H S c = 1 := by unfold ofX; rw [if_neg (by rw [hr]; decide)]
    have e2 : ofV W H S c = 0 := by unfold ofV; rw [if_neg (by rw [e1]; decide)]
    rw [e1, e2]
    clear e1 e2
    go_enter Tryd.func69, Tryd.ntmps69
    go_wp2_with fail
    refine (right_p _ _ _ _).mono ?_
    rintro e w1 ⟨rfl, hb⟩
    have hk : Below w.heap.size w w1 := by first | exact hb | exact bl_tr (bl_al (bl0 _) _) hb | exact bl_tr (bl_dr (bl_al (bl0 _) _)) hb | exact bl_tr (bl_al (bl_al (bl0 _) _) _) hb | exact bl_tr (bl_dr (bl_al (bl_al (bl0 _) _) _)) hb | exact bl_tr (bl_al (bl_al (bl_al (bl0 _) _) _) _) hb | exact bl_tr (bl_dr (bl_al (bl_al (bl_al (bl0 _) _) _) _)) hb | exact bl_tr (bl_al (bl_al (bl_al (bl_al (bl0 _) _) _) _) _) hb | exact bl_tr (bl_dr (bl_al (bl_al (bl_al (bl_al (bl0 _) _) _) _) _)) hb | exact bl_tr (bl_al (bl_al (bl_al (bl_al (bl_al (bl0 _) _) _) _) _) _) hb | exact bl_tr (bl_dr (bl_al (bl_al (bl_al (bl_al (bl_al (bl0 _) _) _) _) _) _)) hb | exact bl_tr (bl_al (bl_al (bl_al (bl_al (bl_al (bl_al (bl0 _) _) _) _) _) _) _) hb | exact bl_tr (bl_dr (bl_al (bl_al (bl_al (bl_al (bl_al (bl_al (bl0 _) _) _) _) _) _) _)) hb | exact bl_tr (bl_dr (bl0 _)) hb
    replace hA := bl_tr hA hk
    clear hb hk
    rw [hr]
    go_wp2
    go_ret2
    exact ⟨rfl, hA⟩
  · cases hc : onB W H c
    · have e1 : ofX W H S c = 10 := by unfold ofX; rw [if_pos hr, if_neg (by rw [hc]; decide)]
      have e2 : ofV W H S c = 0 := by unfold ofV; rw [if_neg (by rw [e1]; decide)]
      rw [e1, e2]
      clear e1 e2
      have HC := Lib.hid (fun w => in_any W H c.1 c.2 w)
      rw [show inB W H c.1 c.2 = false from hc] at HC
      clear hc
      go_enter Tryd.func69, Tryd.ntmps69
      go_wp2_with fail
      refine (right_p _ _ _ _).mono ?_
      rintro e w1 ⟨rfl, hb⟩
      have hk : Below w.heap.size w w1 := by first | exact hb | exact bl_tr (bl_al (bl0 _) _) hb | exact bl_tr (bl_dr (bl_al (bl0 _) _)) hb | exact bl_tr (bl_al (bl_al (bl0 _) _) _) hb | exact bl_tr (bl_dr (bl_al (bl_al (bl0 _) _) _)) hb | exact bl_tr (bl_al (bl_al (bl_al (bl0 _) _) _) _) hb | exact bl_tr (bl_dr (bl_al (bl_al (bl_al (bl0 _) _) _) _)) hb | exact bl_tr (bl_al (bl_al (bl_al (bl_al (bl0 _) _) _) _) _) hb | exact bl_tr (bl_dr (bl_al (bl_al (bl_al (bl_al (bl0 _) _) _) _) _)) hb | exact bl_tr (bl_al (bl_al (bl_al (bl_al (bl_al (bl0 _) _) _) _) _) _) hb | exact bl_tr (bl_dr (bl_al (bl_al (bl_al (bl_al (bl_al (bl0 _) _) _) _) _) _)) hb | exact bl_tr (bl_al (bl_al (bl_al (bl_al (bl_al (bl_al (bl0 _) _) _) _) _) _) _) hb | exact bl_tr (bl_dr (bl_al (bl_al (bl_al (bl_al (bl_al (bl_al (bl0 _) _) _) _) _) _) _)) hb | exact bl_tr (bl_dr (bl0 _)) hb
      replace hA := bl_tr hA hk
      have f0 := cell_later hb (v := .int .i64 W) (a := ⟨w.heap.size, 0, none⟩) (by simp [go_sem])
      have f1 := cell_later hb (v := .int .i64 H) (a := ⟨w.heap.size, 1, none⟩) (by simp [go_sem])
      have f2 := cell_later hb (v := .int .i64 S) (a := ⟨w.heap.size, 2, none⟩) (by simp [go_sem])
      have c0 := cell_later hb (v := .int .i64 c.1) (a := ⟨w.heap.size + 1, 0, none⟩) (by simp [go_sem])
      have c1 := cell_later hb (v := .int .i64 c.2) (a := ⟨w.heap.size + 1, 1, none⟩) (by simp [go_sem])
      clear hb hk
      have zf0 := blk_lt f0
      have zf1 := blk_lt f1
      have zf2 := blk_lt f2
      have zc0 := blk_lt c0
      have zc1 := blk_lt c1
      rw [hr]
      go_wp2_with fail
      refine (HC.out _).mono ?_
      rintro e w2 ⟨rfl, hb⟩
      have hk : Below w1.heap.size w1 w2 := by first | exact hb | exact bl_tr (bl_al (bl0 _) _) hb | exact bl_tr (bl_dr (bl_al (bl0 _) _)) hb | exact bl_tr (bl_al (bl_al (bl0 _) _) _) hb | exact bl_tr (bl_dr (bl_al (bl_al (bl0 _) _) _)) hb | exact bl_tr (bl_al (bl_al (bl_al (bl0 _) _) _) _) hb | exact bl_tr (bl_dr (bl_al (bl_al (bl_al (bl0 _) _) _) _)) hb | exact bl_tr (bl_al (bl_al (bl_al (bl_al (bl0 _) _) _) _) _) hb | exact bl_tr (bl_dr (bl_al (bl_al (bl_al (bl_al (bl0 _) _) _) _) _)) hb | exact bl_tr (bl_al (bl_al (bl_al (bl_al (bl_al (bl0 _) _) _) _) _) _) hb | exact bl_tr (bl_dr (bl_al (bl_al (bl_al (bl_al (bl_al (bl0 _) _) _) _) _) _)) hb | exact bl_tr (bl_al (bl_al (bl_al (bl_al (bl_al (bl_al (bl0 _) _) _) _) _) _) _) hb | exact bl_tr (bl_dr (bl_al (bl_al (bl_al (bl_al (bl_al (bl_al (bl0 _) _) _) _) _) _) _)) hb | exact bl_tr (bl_dr (bl0 _)) hb
      replace hA := bl_tr hA hk
      clear hb hk
      go_wp2
      go_ret2
      exact ⟨rfl, hA⟩
    · have e1 : ofX W H S c = 0 := ofX_yes.2 ⟨hr, hc⟩
      have e2 : ofV W H S c = ofP W S c := by unfold ofV; rw [if_pos e1]
      rw [e1, e2]
      clear e1 e2
      obtain ⟨⟨a1, a2, a3, a4⟩, a5, a6⟩ := rightP_iff.1 hr
      obtain ⟨k1, k2, k3, k4⟩ := cell_plc hr hc
      obtain ⟨l1, l2, l3, l4⟩ := lie_wide hr
      obtain ⟨b1, b2, b3, b4, b5, b6, b7, b8⟩ := inB_iff.1 hc
      have hix : inB (lieN W S) (lieN H S) (c.1 / S) (c.2 / S) = true := inB_iff.2 (by omega)
      have HI := Lib.hid (fun w => index_yes (lieN W S) (lieN H S) (c.1 / S) (c.2 / S) w hix)
      have HL := Lib.hid (fun w => lie_p W H S w hr)
      rw [show c.2 / S * lieN W S + c.1 / S = ofP W S c from rfl] at HI
      have HC := Lib.hid (fun w => in_any W H c.1 c.2 w)
      rw [show inB W H c.1 c.2 = true from hc] at HC
      have hz : (S == 0) = false := by rw [beq_eq_false_iff_ne]; omega
      have hz2 : S ≠ 0 := by omega
      have d1 : c.1.tdiv S = c.1 / S := Int.tdiv_eq_ediv_of_nonneg b5
      have d2 : c.2.tdiv S = c.2 / S := Int.tdiv_eq_ediv_of_nonneg b7
      have w1' : IntKind.i64.wrap (c.1 / S) = c.1 / S := IntWalk.i64_in _ (by omega)
      have w2' : IntKind.i64.wrap (c.2 / S) = c.2 / S := IntWalk.i64_in _ (by omega)
      generalize ofP W S c = o at *
      generalize lieN W S = lw at *
      generalize lieN H S = lh at *
      obtain ⟨x, y⟩ := c
      simp only at *
      obtain ⟨p, hp⟩ : ∃ p, x / S = p := ⟨_, rfl⟩
      obtain ⟨q, hq⟩ : ∃ q, y / S = q := ⟨_, rfl⟩
      rw [hp] at d1 w1' HI
      rw [hq] at d2 w2' HI
      clear hc hix k1 k2 k3 k4 l1 l2 l3 l4
      go_enter Tryd.func69, Tryd.ntmps69
      go_wp2_with fail
      refine (right_p _ _ _ _).mono ?_
      rintro e w1 ⟨rfl, hb⟩
      have hk : Below w.heap.size w w1 := by first | exact hb | exact bl_tr (bl_al (bl0 _) _) hb | exact bl_tr (bl_dr (bl_al (bl0 _) _)) hb | exact bl_tr (bl_al (bl_al (bl0 _) _) _) hb | exact bl_tr (bl_dr (bl_al (bl_al (bl0 _) _) _)) hb | exact bl_tr (bl_al (bl_al (bl_al (bl0 _) _) _) _) hb | exact bl_tr (bl_dr (bl_al (bl_al (bl_al (bl0 _) _) _) _)) hb | exact bl_tr (bl_al (bl_al (bl_al (bl_al (bl0 _) _) _) _) _) hb | exact bl_tr (bl_dr (bl_al (bl_al (bl_al (bl_al (bl0 _) _) _) _) _)) hb | exact bl_tr (bl_al (bl_al (bl_al (bl_al (bl_al (bl0 _) _) _) _) _) _) hb | exact bl_tr (bl_dr (bl_al (bl_al (bl_al (bl_al (bl_al (bl0 _) _) _) _) _) _)) hb | exact bl_tr (bl_al (bl_al (bl_al (bl_al (bl_al (bl_al (bl0 _) _) _) _) _) _) _) hb | exact bl_tr (bl_dr (bl_al (bl_al (bl_al (bl_al (bl_al (bl_al (bl0 _) _) _) _) _) _) _)) hb | exact bl_tr (bl_dr (bl0 _)) hb
      replace hA := bl_tr hA hk
      have f0 := cell_later hb (v := .int .i64 W) (a := ⟨w.heap.size, 0, none⟩) (by simp [go_sem])
      have f1 := cell_later hb (v := .int .i64 H) (a := ⟨w.heap.size, 1, none⟩) (by simp [go_sem])
      have f2 := cell_later hb (v := .int .i64 S) (a := ⟨w.heap.size, 2, none⟩) (by simp [go_sem])
      have c0 := cell_later hb (v := .int .i64 x) (a := ⟨w.heap.size + 1, 0, none⟩) (by simp [go_sem])
      have c1 := cell_later hb (v := .int .i64 y) (a := ⟨w.heap.size + 1, 1, none⟩) (by simp [go_sem])
      clear hb hk
      have zf0 := blk_lt f0
      have zf1 := blk_lt f1
      have zf2 := blk_lt f2
      have zc0 := blk_lt c0
      have zc1 := blk_lt c1
      rw [hr]
      clear hr
      go_wp2_with fail
      refine (HC.out _).mono ?_
      rintro e w2 ⟨rfl, hb⟩
      have hk : Below w1.heap.size w1 w2 := by first | exact hb | exact bl_tr (bl_al (bl0 _) _) hb | exact bl_tr (bl_dr (bl_al (bl0 _) _)) hb | exact bl_tr (bl_al (bl_al (bl0 _) _) _) hb | exact bl_tr (bl_dr (bl_al (bl_al (bl0 _) _) _)) hb | exact bl_tr (bl_al (bl_al (bl_al (bl0 _) _) _) _) hb | exact bl_tr (bl_dr (bl_al (bl_al (bl_al (bl0 _) _) _) _)) hb | exact bl_tr (bl_al (bl_al (bl_al (bl_al (bl0 _) _) _) _) _) hb | exact bl_tr (bl_dr (bl_al (bl_al (bl_al (bl_al (bl0 _) _) _) _) _)) hb | exact bl_tr (bl_al (bl_al (bl_al (bl_al (bl_al (bl0 _) _) _) _) _) _) hb | exact bl_tr (bl_dr (bl_al (bl_al (bl_al (bl_al (bl_al (bl0 _) _) _) _) _) _)) hb | exact bl_tr (bl_al (bl_al (bl_al (bl_al (bl_al (bl_al (bl0 _) _) _) _) _) _) _) hb | exact bl_tr (bl_dr (bl_al (bl_al (bl_al (bl_al (bl_al (bl_al (bl0 _) _) _) _) _) _) _)) hb | exact bl_tr (bl_dr (bl0 _)) hb
      replace hA := bl_tr hA hk
      replace f0 := cell_later hk f0
      replace f1 := cell_later hk f1
      replace f2 := cell_later hk f2
      replace c0 := cell_later hk c0
      replace c1 := cell_later hk c1
      clear hb hk
      have zf0 := blk_lt f0
      have zf1 := blk_lt f1
      have zf2 := blk_lt f2
      have zc0 := blk_lt c0
      have zc1 := blk_lt c1
      go_upto_region 5 with fail
      have hB := bl_dr (bl0 w2)
      go_region_held3 (fun w' => w'.cell? ⟨w.heap.size, 0, none⟩ = some (.int .i64 W) ∧ w'.cell? ⟨w.heap.size, 1, none⟩ = some (.int .i64 H) ∧ w'.cell? ⟨w.heap.size, 2, none⟩ = some (.int .i64 S) ∧ w'.cell? ⟨w.heap.size + 1, 0, none⟩ = some (.int .i64 x) ∧ w'.cell? ⟨w.heap.size + 1, 1, none⟩ = some (.int .i64 y))
        (exact ⟨cell_later hB f0, cell_later hB f1, cell_later hB f2, cell_later hB c0, cell_later hB c1⟩)
        (first
        | (go_at_call 100; (with_reducible refine (HL.out _).mono ?_); rintro e w9 ⟨rfl, hb9⟩; replace hB := bl_tr hB hb9)
        | (go_at_call 94; (with_reducible refine (HI.out _).mono ?_); rintro e w8 ⟨rfl, hb8⟩; replace hB := bl_tr hB hb8))
      all_goals go_wp2
      all_goals go_ret2
      all_goals exact ⟨rfl, bl_tr hA hB⟩
end Go.Proofs.YtbdfjdipjacamaaDoor
