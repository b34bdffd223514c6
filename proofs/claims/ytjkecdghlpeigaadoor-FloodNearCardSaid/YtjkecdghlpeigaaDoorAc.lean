/- Paths: what the maps' calls tell, each by one contract; a cell's cost. -/
import Derived.Test.YtjkecdghlpeigaaDoorAb
import Derived.Test.YtjkecdghlpeigaaDoorVf
import Derived.Test.YtjkecdghlpeigaaDoorWr
import Derived.Test.YtjkecdghlpeigaaDoorQ1
import Derived.Deep.RegionHeld3
namespace Go.Proofs.YtjkecdghlpeigaaDoor
open Go.RowKit

/-- What Dir tells. -/
def dirX (p q : IC) : Int := if (plB p && plB q) = true then (if besI p q = -1 then 1 else 0) else 10
def dirV (p q : IC) : Int := if dirX p q = 0 then besI p q else 0
theorem dir_any (p q : IC) (w : World) (hs : Stp w) :
    Calls Tryd.prog 56 #[.agg #[.int .i64 p.1, .int .i64 p.2], .agg #[.int .i64 q.1, .int .i64 q.2]] w fun e w' => e = .returned (.tuple #[.int .i64 (dirV p q), .int .i64 (dirX p q)]) ∧ Below w.heap.size w w' := by
  cases h : (plB p && plB q)
  · have h1 : dirX p q = 10 := by unfold dirX; rw [if_neg (by rw [h]; decide)]
    have h2 : dirV p q = 0 := by unfold dirV; rw [if_neg (by rw [h1]; decide)]
    rw [h1, h2]
    exact dir_no _ _ _ _ w h
  · obtain ⟨ha, hb⟩ := Bool.and_eq_true_iff.1 h
    have h1 : dirX p q = dirE (q.1 - p.1) (q.2 - p.2) := by unfold dirX; rw [if_pos h]; rfl
    have h2 : dirV p q = dirN (q.1 - p.1) (q.2 - p.2) := by
      unfold dirV dirN
      rw [h1]
      unfold dirE besI
      by_cases e : dirI (q.1 - p.1) (q.2 - p.2) = -1
      · rw [if_pos e, if_pos e, if_neg (by decide)]
      · rw [if_neg e, if_neg e, if_pos rfl]
    rw [h1, h2]
    exact dir_yes _ _ _ _ w hs ha hb
/-- What Step tells. -/
def stpX (A B : Int) (c : IC) (d : Int) : Int := if 0 ≤ d ∧ d < 4 then (if (onB A B c && onB A B (stepI c d)) = true then 0 else 10) else 1
def stpV (A B : Int) (c : IC) (d : Int) : IC := if stpX A B c d = 0 then stepI c d else (0, 0)
theorem step_any (A B : Int) (c : IC) (d : Int) (w : World) (hs : Stp w) :
    Calls Tryd.prog 82 #[.agg #[.int .i64 A, .int .i64 B], .agg #[.int .i64 c.1, .int .i64 c.2], .int .i64 d] w fun e w' => e = .returned (.tuple #[.agg #[.int .i64 (stpV A B c d).1, .int .i64 (stpV A B c d).2], .int .i64 (stpX A B c d)]) ∧ Below w.heap.size w w' := by
  by_cases hd : 0 ≤ d ∧ d < 4
  · cases h1 : onB A B c
    · have e1 : stpX A B c d = 10 := by unfold stpX; rw [if_pos hd, if_neg (by rw [h1]; simp)]
      have e2 : stpV A B c d = (0, 0) := by unfold stpV; rw [if_neg (by rw [e1]; decide)]
      rw [e1, e2]
      exact step_off _ _ _ _ _ w hd.1 hd.2 h1
    · cases h2 : onB A B (stepI c d)
      · have e1 : stpX A B c d = 10 := by unfold stpX; rw [if_pos hd, if_neg (by rw [h1, h2]; simp)]
        have e2 : stpV A B c d = (0, 0) := by unfold stpV; rw [if_neg (by rw [e1]; decide)]
        rw [e1, e2]
        exact step_out _ _ _ _ _ w hs hd.1 hd.2 h1 h2
      · have e1 : stpX A B c d = 0 := by unfold stpX; rw [if_pos hd, if_pos (by rw [h1, h2]; rfl)]
        have e2 : stpV A B c d = stepI c d := by unfold stpV; rw [if_pos e1]
        rw [e1, e2]
        exact step_yes _ _ _ _ _ w hs hd.1 hd.2 h1 h2
  · have e1 : stpX A B c d = 1 := by unfold stpX; rw [if_neg hd]
    have e2 : stpV A B c d = (0, 0) := by unfold stpV; rw [if_neg (by rw [e1]; decide)]
    rw [e1, e2]
    exact step_arg _ _ _ _ _ w (by omega)
theorem walk_self (c : IC) (w : World) :
    Calls Tryd.prog 97 #[.agg #[.int .i64 c.1, .int .i64 c.2], .agg #[.int .i64 c.1, .int .i64 c.2]] w fun e w' => e = .returned (.tuple #[.int .i64 0, .int .i64 (if plB c = true then 0 else 10)]) ∧ Below w.heap.size w w' := by
  cases h : plB c
  · exact walk_no _ _ _ _ w (by rw [show plainB c.1 c.2 = false from h]; rfl)
  · have := walk_yes c.1 c.2 c.1 c.2 w h h
    rw [show apartI c.1 c.1 + apartI c.2 c.2 = 0 by unfold apartI; omega] at this
    exact this
theorem costAt_at {A B : Int} {zs : List Int} {c : IC} (hi : onB A B c = true) (hn : (zs.length : Int) = A * B) : ∃ j : Nat, c.2 * A + c.1 = j ∧ ∃ h : j < zs.length, zs[j] = costAt A zs c := by
  obtain ⟨h1, h2, h3, h4, h5, h6, h7, h8⟩ := inB_iff.1 hi
  obtain ⟨m1, m2⟩ := mul_bd h7 (by omega) h1 h2
  have e : (c.2 + 1) * A ≤ B * A := Int.mul_le_mul_of_nonneg_right (by omega) (by omega)
  rw [Int.add_mul, Int.one_mul, Int.mul_comm B A] at e
  refine ⟨(c.2 * A + c.1).toNat, by omega, by omega, ?_⟩
  unfold costAt
  rw [List.getD_eq_getElem?_getD, List.getElem?_eq_getElem (by omega)]
  rfl
set_option maxRecDepth 100000 in
set_option maxHeartbeats 2000000 in
theorem rcost_any (A B : Int) (a : Option Addr) (cap : Nat) (zs : List Int) (c : IC) (w : World) (hr : RowH w a zs) (hn : (zs.length : Int) = A * B) :
    Calls Tryd.prog 55 #[.agg #[.int .i64 A, .int .i64 B, .slice a zs.length cap], .agg #[.int .i64 c.1, .int .i64 c.2]] w fun e w' => e = .returned (.tuple #[.int .u16 (valC A B zs c), .int .i64 (errC A B zs c)]) ∧ Below w.heap.size w w' := by
  have hA := bl0 w
  cases hi : onB A B c
  · have e1 : errC A B zs c = 10 := by unfold errC; rw [if_neg (by rw [hi]; decide)]
    have e2 : valC A B zs c = 0 := by unfold valC; rw [if_neg (by rw [e1]; decide)]
    rw [e1, e2]
    go_enter Tryd.func55, Tryd.ntmps55
    go_wp2_with fail
    refine (index_no _ _ _ _ _ hi).mono ?_
    rintro e w1 ⟨rfl, hb⟩
    have hk : Below w.heap.size w w1 := by first | exact hb | exact bl_tr (bl_al (bl0 _) _) hb | exact bl_tr (bl_dr (bl_al (bl0 _) _)) hb | exact bl_tr (bl_al (bl_al (bl0 _) _) _) hb | exact bl_tr (bl_dr (bl_al (bl_al (bl0 _) _) _)) hb | exact bl_tr (bl_al (bl_al (bl_al (bl0 _) _) _) _) hb | exact bl_tr (bl_dr (bl_al (bl_al (bl_al (bl0 _) _) _) _)) hb | exact bl_tr (bl_al (bl_al (bl_al (bl_al (bl0 _) _) _) _) _) hb | exact bl_tr (bl_dr (bl_al (bl_al (bl_al (bl_al (bl0 _) _) _) _) _)) hb | exact bl_tr (bl_al (bl_al (bl_al (bl_al (bl_al (bl0 _) _) _) _) _) _) hb | exact bl_tr (bl_dr (bl_al (bl_al (bl_al (bl_al (bl_al (bl0 _) _) _) _) _) _)) hb | exact bl_tr (bl_al (bl_al (bl_al (bl_al (bl_al (bl_al (bl0 _) _) _) _) _) _) _) hb | exact bl_tr (bl_dr (bl_al (bl_al (bl_al (bl_al (bl_al (bl_al (bl0 _) _) _) _) _) _) _)) hb | exact bl_tr (bl_dr (bl0 _)) hb
    replace hA := bl_tr hA hk
    clear hb hk
    go_wp2
    go_ret2
    exact ⟨rfl, hA⟩
  · obtain ⟨j, hj, hl, hz⟩ := costAt_at hi hn
    have hj0 : (0 : Int) ≤ (j : Int) := by omega
    have hl2 : (j : Int) < (zs.length : Int) := by omega
    have e0 : errC A B zs c = if costAt A zs c = 0 then 21 else 0 := by unfold errC; rw [if_pos hi]
    by_cases h0 : costAt A zs c = 0
    · have e1 : errC A B zs c = 21 := by rw [e0, if_pos h0]
      have e2 : valC A B zs c = 0 := by unfold valC; rw [if_neg (by rw [e1]; decide)]
      rw [e1, e2]
      rw [h0] at hz
      clear e0 e1 e2
      go_enter Tryd.func55, Tryd.ntmps55
      go_wp2_with fail
      refine (index_yes _ _ _ _ _ hi).mono ?_
      rintro e w1 ⟨rfl, hb⟩
      have hk : Below w.heap.size w w1 := by first | exact hb | exact bl_tr (bl_al (bl0 _) _) hb | exact bl_tr (bl_dr (bl_al (bl0 _) _)) hb | exact bl_tr (bl_al (bl_al (bl0 _) _) _) hb | exact bl_tr (bl_dr (bl_al (bl_al (bl0 _) _) _)) hb | exact bl_tr (bl_al (bl_al (bl_al (bl0 _) _) _) _) hb | exact bl_tr (bl_dr (bl_al (bl_al (bl_al (bl0 _) _) _) _)) hb | exact bl_tr (bl_al (bl_al (bl_al (bl_al (bl0 _) _) _) _) _) hb | exact bl_tr (bl_dr (bl_al (bl_al (bl_al (bl_al (bl0 _) _) _) _) _)) hb | exact bl_tr (bl_al (bl_al (bl_al (bl_al (bl_al (bl0 _) _) _) _) _) _) hb | exact bl_tr (bl_dr (bl_al (bl_al (bl_al (bl_al (bl_al (bl0 _) _) _) _) _) _)) hb | exact bl_tr (bl_al (bl_al (bl_al (bl_al (bl_al (bl_al (bl0 _) _) _) _) _) _) _) hb | exact bl_tr (bl_dr (bl_al (bl_al (bl_al (bl_al (bl_al (bl_al (bl0 _) _) _) _) _) _) _)) hb | exact bl_tr (bl_dr (bl0 _)) hb
      replace hA := bl_tr hA hk
      have a0 := cell_later hb (v := .int .i64 A) (a := ⟨w.heap.size, 0, none⟩) (by simp [go_sem])
      have a1 := cell_later hb (v := .int .i64 B) (a := ⟨w.heap.size, 1, none⟩) (by simp [go_sem])
      have a2 := cell_later hb (v := .slice a zs.length cap) (a := ⟨w.heap.size, 2, none⟩) (by simp [go_sem])
      clear hb hk
      have za0 := blk_lt a0
      have za1 := blk_lt a1
      have za2 := blk_lt a2
      rw [hj]
      have hr1 := hr.below hA
      obtain ⟨gb, go, rfl, q⟩ := hr1.cell hl
      rw [hz] at q
      clear hj hi hn hr hr1 hz h0
      go_wp2
      go_ret2
      exact ⟨rfl, hA⟩
    · have e1 : errC A B zs c = 0 := by rw [e0, if_neg h0]
      have e2 : valC A B zs c = costAt A zs c := by unfold valC; rw [if_pos e1]
      rw [e1, e2]
      obtain ⟨z, hzz⟩ : ∃ z, costAt A zs c = z := ⟨_, rfl⟩
      rw [hzz] at hz h0 ⊢
      have h1 : (z == 0) = false := by rw [beq_eq_false_iff_ne]; exact h0
      clear e0 e1 e2 hzz h0
      go_enter Tryd.func55, Tryd.ntmps55
      go_wp2_with fail
      refine (index_yes _ _ _ _ _ hi).mono ?_
      rintro e w1 ⟨rfl, hb⟩
      have hk : Below w.heap.size w w1 := by first | exact hb | exact bl_tr (bl_al (bl0 _) _) hb | exact bl_tr (bl_dr (bl_al (bl0 _) _)) hb | exact bl_tr (bl_al (bl_al (bl0 _) _) _) hb | exact bl_tr (bl_dr (bl_al (bl_al (bl0 _) _) _)) hb | exact bl_tr (bl_al (bl_al (bl_al (bl0 _) _) _) _) hb | exact bl_tr (bl_dr (bl_al (bl_al (bl_al (bl0 _) _) _) _)) hb | exact bl_tr (bl_al (bl_al (bl_al (bl_al (bl0 _) _) _) _) _) hb | exact bl_tr (bl_dr (bl_al (bl_al (bl_al (bl_al (bl0 _) _) _) _) _)) hb | exact bl_tr (bl_al (bl_al (bl_al (bl_al (bl_al (bl0 _) _) _) _) _) _) hb | exact bl_tr (bl_dr (bl_al (bl_al (bl_al (bl_al (bl_al (bl0 _) _) _) _) _) _)) hb | exact bl_tr (bl_al (bl_al (bl_al (bl_al (bl_al (bl_al (bl0 _) _) _) _) _) _) _) hb | exact bl_tr (bl_dr (bl_al (bl_al (bl_al (bl_al (bl_al (bl_al (bl0 _) _) _) _) _) _) _)) hb | exact bl_tr (bl_dr (bl0 _)) hb
      replace hA := bl_tr hA hk
      have a0 := cell_later hb (v := .int .i64 A) (a := ⟨w.heap.size, 0, none⟩) (by simp [go_sem])
      have a1 := cell_later hb (v := .int .i64 B) (a := ⟨w.heap.size, 1, none⟩) (by simp [go_sem])
      have a2 := cell_later hb (v := .slice a zs.length cap) (a := ⟨w.heap.size, 2, none⟩) (by simp [go_sem])
      clear hb hk
      have za0 := blk_lt a0
      have za1 := blk_lt a1
      have za2 := blk_lt a2
      rw [hj]
      have hr1 := hr.below hA
      obtain ⟨gb, go, rfl, q⟩ := hr1.cell hl
      rw [hz] at q
      clear hj hi hn hr hr1 hz
      go_wp2
      go_ret2
      exact ⟨rfl, hA⟩
end Go.Proofs.YtjkecdghlpeigaaDoor
