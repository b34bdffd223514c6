/- RouteMoves: its walk. -/
import Derived.Test.YtlmloedjakpogabDoorAr
namespace Go.Proofs.YtlmloedjakpogabDoor
open Go.RowKit

theorem own_rowC {w : World} {base : Nat} {v : Value} {zs : List IC} (h : w.ownsRow base 37 2 v zs.length (flatC zs)) : ∃ a cap, v = .slice a zs.length cap ∧ RowC w a zs ∧ zs.length ≤ cap := by
  obtain ⟨a, cap, rfl, hr⟩ := rowC_of_own h
  exact ⟨a, cap, rfl, hr, own_cap h⟩
theorem movR_le (l : List IC) : (movR l).length ≤ l.length := by
  unfold movR
  split
  · rw [movL_len]; omega
  · simp
theorem celL_le (A B : Int) (c : IC) (ms : List Int) : (celL A B c ms).length ≤ ms.length + 1 := by
  unfold celL
  split
  · rw [cellsF_len]; omega
  · simp

set_option maxRecDepth 100000 in
set_option maxHeartbeats 4000000 in
theorem rmoves_walk (A B X Y : Int) (b ba : Option Addr) (cap2 bcap : Nat) (l : List IC) (ms : List Int) (w : World) (hs : Stp w) (hrc : RowC w b l) (hm : RowB w ba ms) (hin : AllB ms) :
    Calls Tryd.prog 4 #[.slice b l.length cap2, .agg #[.int .i64 A, .int .i64 B], .agg #[.int .i64 X, .int .i64 Y, .slice ba ms.length bcap]] w fun e w' => e = .returned (.bool true) ∧ Below w.heap.size w w' := by
  have hA := bl0 w
  by_cases h1 : l.length ≤ 200 ∧ ms.length ≤ 200
  · obtain ⟨h1, h2⟩ := h1
    have k1 : ¬ (200 : Int) < (l.length : Int) := by omega
    have k2 : ¬ (200 : Int) < (ms.length : Int) := by omega
    have hmv := fun W h h' => moves_path b cap2 l W h h' (by omega)
    have hmr := fun W h => rmoves9_any b cap2 l W h (by omega)
    have hce := fun W h h' => cells_path A B (X, Y) ba bcap ms W h hin h' (by omega)
    have hcr := fun W h => rcells9_any A B (X, Y) ba bcap ms W h hin (by omega)
    have hl1 := movR_le l
    have hl2 := celL_le A B (X, Y) ms
    generalize movE l = E1 at *
    generalize movR l = R1 at *
    generalize celE A B (X, Y) ms = E2 at *
    generalize celL A B (X, Y) ms = R2 at *
    have p1 := beq_self_eq_true E1
    have p2 := beq_self_eq_true E2
    have HM := Lib.hid hmv; have HR := Lib.hid hmr; have HC := Lib.hid hce; have HD := Lib.hid hcr
    have HL1 := Lib.hid (show R1.length ≤ 1048576 by omega); have HL2 := Lib.hid (show R2.length ≤ 1048576 by omega)
    clear hmv hmr hce hcr hl1 hl2 h1 h2
    go_enter Tryd.func4, Tryd.ntmps4
    have hA1 := bl_al (bl_al (bl0 w) (.cells #[.int .i64 A, .int .i64 B] 23)) (.cells #[.int .i64 X, .int .i64 Y, .slice ba ms.length bcap] 40)
    go_wp2_with fail
    refine (HM.out _ (hrc.below hA1) (hs.below hA1)).mono ?_
    rintro e w1 ⟨v1, rfl, o1, hb⟩
    obtain ⟨a1, c1, rfl, r1, _⟩ := rowB_of_own o1
    have f0 := cell_later hb (v := .int .i64 A) (a := ⟨w.heap.size, 0, none⟩) (by simp [go_sem])
    have f1 := cell_later hb (v := .int .i64 B) (a := ⟨w.heap.size, 1, none⟩) (by simp [go_sem])
    have g0 := cell_later hb (v := .int .i64 X) (a := ⟨w.heap.size + 1, 0, none⟩) (by simp [go_sem])
    have g1 := cell_later hb (v := .int .i64 Y) (a := ⟨w.heap.size + 1, 1, none⟩) (by simp [go_sem])
    have g2 := cell_later hb (v := .slice ba ms.length bcap) (a := ⟨w.heap.size + 1, 2, none⟩) (by simp [go_sem])
    replace hA := bl_tr hA1 hb
    have z0 := blk_lt f0
    have z1 := blk_lt g0
    clear hb hA1 o1
    go_wp2_with fail
    refine (HR.out _ (hrc.below hA)).mono ?_
    rintro e w2 ⟨v2, rfl, o2, hb⟩
    have hk : Below w1.heap.size w1 w2 := by first | exact hb | exact bl_tr (bl_al (bl0 _) _) hb | exact bl_tr (bl_dr (bl_al (bl0 _) _)) hb | exact bl_tr (bl_al (bl_al (bl0 _) _) _) hb | exact bl_tr (bl_dr (bl_al (bl_al (bl0 _) _) _)) hb | exact bl_tr (bl_al (bl_al (bl_al (bl0 _) _) _) _) hb | exact bl_tr (bl_dr (bl_al (bl_al (bl_al (bl0 _) _) _) _)) hb | exact bl_tr (bl_al (bl_al (bl_al (bl_al (bl0 _) _) _) _) _) hb | exact bl_tr (bl_dr (bl_al (bl_al (bl_al (bl_al (bl0 _) _) _) _) _)) hb | exact bl_tr (bl_al (bl_al (bl_al (bl_al (bl_al (bl0 _) _) _) _) _) _) hb | exact bl_tr (bl_dr (bl_al (bl_al (bl_al (bl_al (bl_al (bl0 _) _) _) _) _) _)) hb | exact bl_tr (bl_al (bl_al (bl_al (bl_al (bl_al (bl_al (bl0 _) _) _) _) _) _) _) hb | exact bl_tr (bl_dr (bl_al (bl_al (bl_al (bl_al (bl_al (bl_al (bl0 _) _) _) _) _) _) _)) hb | exact bl_tr (bl_dr (bl0 _)) hb
    replace hA := bl_tr hA hk
    replace r1 := r1.below hk
    replace f0 := cell_later hk f0
    replace f1 := cell_later hk f1
    replace g0 := cell_later hk g0
    replace g1 := cell_later hk g1
    replace g2 := cell_later hk g2
    clear hb hk
    have zf0 := blk_lt f0
    have zf1 := blk_lt f1
    have zg0 := blk_lt g0
    have zg1 := blk_lt g1
    have zg2 := blk_lt g2
    obtain ⟨a2, c2, rfl, r2, _⟩ := rowB_of_own o2
    clear o2
    go_wp2_with fail
    refine (HC.out _ (hm.below hA) (hs.below hA)).mono ?_
    rintro e w3 ⟨v3, rfl, o3, hb⟩
    have hk : Below w2.heap.size w2 w3 := by first | exact hb | exact bl_tr (bl_al (bl0 _) _) hb | exact bl_tr (bl_dr (bl_al (bl0 _) _)) hb | exact bl_tr (bl_al (bl_al (bl0 _) _) _) hb | exact bl_tr (bl_dr (bl_al (bl_al (bl0 _) _) _)) hb | exact bl_tr (bl_al (bl_al (bl_al (bl0 _) _) _) _) hb | exact bl_tr (bl_dr (bl_al (bl_al (bl_al (bl0 _) _) _) _)) hb | exact bl_tr (bl_al (bl_al (bl_al (bl_al (bl0 _) _) _) _) _) hb | exact bl_tr (bl_dr (bl_al (bl_al (bl_al (bl_al (bl0 _) _) _) _) _)) hb | exact bl_tr (bl_al (bl_al (bl_al (bl_al (bl_al (bl0 _) _) _) _) _) _) hb | exact bl_tr (bl_dr (bl_al (bl_al (bl_al (bl_al (bl_al (bl0 _) _) _) _) _) _)) hb | exact bl_tr (bl_al (bl_al (bl_al (bl_al (bl_al (bl_al (bl0 _) _) _) _) _) _) _) hb | exact bl_tr (bl_dr (bl_al (bl_al (bl_al (bl_al (bl_al (bl_al (bl0 _) _) _) _) _) _) _)) hb | exact bl_tr (bl_dr (bl0 _)) hb
    replace hA := bl_tr hA hk
    replace r1 := r1.below hk
    replace r2 := r2.below hk
    replace f0 := cell_later hk f0
    replace f1 := cell_later hk f1
    replace g0 := cell_later hk g0
    replace g1 := cell_later hk g1
    replace g2 := cell_later hk g2
    clear hb hk
    have zf0 := blk_lt f0
    have zf1 := blk_lt f1
    have zg0 := blk_lt g0
    have zg1 := blk_lt g1
    have zg2 := blk_lt g2
    obtain ⟨a3, c3, rfl, r3, _⟩ := own_rowC o3
    clear o3
    go_wp2_with fail
    refine (HD.out _ (hm.below hA)).mono ?_
    rintro e w4 ⟨v4, rfl, o4, hb⟩
    have hk : Below w3.heap.size w3 w4 := by first | exact hb | exact bl_tr (bl_al (bl0 _) _) hb | exact bl_tr (bl_dr (bl_al (bl0 _) _)) hb | exact bl_tr (bl_al (bl_al (bl0 _) _) _) hb | exact bl_tr (bl_dr (bl_al (bl_al (bl0 _) _) _)) hb | exact bl_tr (bl_al (bl_al (bl_al (bl0 _) _) _) _) hb | exact bl_tr (bl_dr (bl_al (bl_al (bl_al (bl0 _) _) _) _)) hb | exact bl_tr (bl_al (bl_al (bl_al (bl_al (bl0 _) _) _) _) _) hb | exact bl_tr (bl_dr (bl_al (bl_al (bl_al (bl_al (bl0 _) _) _) _) _)) hb | exact bl_tr (bl_al (bl_al (bl_al (bl_al (bl_al (bl0 _) _) _) _) _) _) hb | exact bl_tr (bl_dr (bl_al (bl_al (bl_al (bl_al (bl_al (bl0 _) _) _) _) _) _)) hb | exact bl_tr (bl_al (bl_al (bl_al (bl_al (bl_al (bl_al (bl0 _) _) _) _) _) _) _) hb | exact bl_tr (bl_dr (bl_al (bl_al (bl_al (bl_al (bl_al (bl_al (bl0 _) _) _) _) _) _) _)) hb | exact bl_tr (bl_dr (bl0 _)) hb
    replace hA := bl_tr hA hk
    replace r1 := r1.below hk
    replace r2 := r2.below hk
    replace r3 := r3.below hk
    clear hb hk
    obtain ⟨a4, c4, rfl, r4, _⟩ := own_rowC o4
    clear o4 f0 f1 g0 g1 g2 z0 z1
    go_wp2_with fail
    refine (bytes_any a1 a2 c1 c2 R1 R1 _ r1 r2 HL1.out).mono ?_
    rintro e w5 ⟨rfl, hb⟩
    have hk : Below w4.heap.size w4 w5 := by first | exact hb | exact bl_tr (bl_al (bl0 _) _) hb | exact bl_tr (bl_dr (bl_al (bl0 _) _)) hb | exact bl_tr (bl_al (bl_al (bl0 _) _) _) hb | exact bl_tr (bl_dr (bl_al (bl_al (bl0 _) _) _)) hb | exact bl_tr (bl_al (bl_al (bl_al (bl0 _) _) _) _) hb | exact bl_tr (bl_dr (bl_al (bl_al (bl_al (bl0 _) _) _) _)) hb | exact bl_tr (bl_al (bl_al (bl_al (bl_al (bl0 _) _) _) _) _) hb | exact bl_tr (bl_dr (bl_al (bl_al (bl_al (bl_al (bl0 _) _) _) _) _)) hb | exact bl_tr (bl_al (bl_al (bl_al (bl_al (bl_al (bl0 _) _) _) _) _) _) hb | exact bl_tr (bl_dr (bl_al (bl_al (bl_al (bl_al (bl_al (bl0 _) _) _) _) _) _)) hb | exact bl_tr (bl_al (bl_al (bl_al (bl_al (bl_al (bl_al (bl0 _) _) _) _) _) _) _) hb | exact bl_tr (bl_dr (bl_al (bl_al (bl_al (bl_al (bl_al (bl_al (bl0 _) _) _) _) _) _) _)) hb | exact bl_tr (bl_dr (bl0 _)) hb
    replace hA := bl_tr hA hk
    replace r3 := r3.below hk
    replace r4 := r4.below hk
    clear hb hk
    rw [decide_eq_true (rfl : R1 = R1)]
    go_wp2_with fail
    refine (cells_any a3 a4 c3 c4 R2 R2 _ r3 r4 HL2.out).mono ?_
    rintro e w6 ⟨rfl, hb⟩
    have hk : Below w5.heap.size w5 w6 := by first | exact hb | exact bl_tr (bl_al (bl0 _) _) hb | exact bl_tr (bl_dr (bl_al (bl0 _) _)) hb | exact bl_tr (bl_al (bl_al (bl0 _) _) _) hb | exact bl_tr (bl_dr (bl_al (bl_al (bl0 _) _) _)) hb | exact bl_tr (bl_al (bl_al (bl_al (bl0 _) _) _) _) hb | exact bl_tr (bl_dr (bl_al (bl_al (bl_al (bl0 _) _) _) _)) hb | exact bl_tr (bl_al (bl_al (bl_al (bl_al (bl0 _) _) _) _) _) hb | exact bl_tr (bl_dr (bl_al (bl_al (bl_al (bl_al (bl0 _) _) _) _) _)) hb | exact bl_tr (bl_al (bl_al (bl_al (bl_al (bl_al (bl0 _) _) _) _) _) _) hb | exact bl_tr (bl_dr (bl_al (bl_al (bl_al (bl_al (bl_al (bl0 _) _) _) _) _) _)) hb | exact bl_tr (bl_al (bl_al (bl_al (bl_al (bl_al (bl_al (bl0 _) _) _) _) _) _) _) hb | exact bl_tr (bl_dr (bl_al (bl_al (bl_al (bl_al (bl_al (bl_al (bl0 _) _) _) _) _) _) _)) hb | exact bl_tr (bl_dr (bl0 _)) hb
    replace hA := bl_tr hA hk
    clear hb hk
    rw [decide_eq_true (rfl : R2 = R2)]
    go_wp2_with fail
    refine (awake_any _ (hs.below hA)).mono ?_
    rintro e w7 ⟨rfl, hb⟩
    have hk : Below w6.heap.size w6 w7 := by first | exact hb | exact bl_tr (bl_al (bl0 _) _) hb | exact bl_tr (bl_dr (bl_al (bl0 _) _)) hb | exact bl_tr (bl_al (bl_al (bl0 _) _) _) hb | exact bl_tr (bl_dr (bl_al (bl_al (bl0 _) _) _)) hb | exact bl_tr (bl_al (bl_al (bl_al (bl0 _) _) _) _) hb | exact bl_tr (bl_dr (bl_al (bl_al (bl_al (bl0 _) _) _) _)) hb | exact bl_tr (bl_al (bl_al (bl_al (bl_al (bl0 _) _) _) _) _) hb | exact bl_tr (bl_dr (bl_al (bl_al (bl_al (bl_al (bl0 _) _) _) _) _)) hb | exact bl_tr (bl_al (bl_al (bl_al (bl_al (bl_al (bl0 _) _) _) _) _) _) hb | exact bl_tr (bl_dr (bl_al (bl_al (bl_al (bl_al (bl_al (bl0 _) _) _) _) _) _)) hb | exact bl_tr (bl_al (bl_al (bl_al (bl_al (bl_al (bl_al (bl0 _) _) _) _) _) _) _) hb | exact bl_tr (bl_dr (bl_al (bl_al (bl_al (bl_al (bl_al (bl_al (bl0 _) _) _) _) _) _) _)) hb | exact bl_tr (bl_dr (bl0 _)) hb
    replace hA := bl_tr hA hk
    clear hb hk
    go_wp2
    go_ret
    exact ⟨rfl, hA⟩
  · by_cases h2 : l.length ≤ 200
    · have k1 : ¬ (200 : Int) < (l.length : Int) := by omega
      have k2 : (200 : Int) < (ms.length : Int) := by omega
      clear h1 h2
      go_enter Tryd.func4, Tryd.ntmps4
      go_wp2_with fail
      refine (awake_any _ (hs.below (bl_al (bl_al (bl0 w) _) _))).mono ?_
      rintro e w1 ⟨rfl, hb⟩
      have hk : Below w.heap.size w w1 := by first | exact hb | exact bl_tr (bl_al (bl0 _) _) hb | exact bl_tr (bl_dr (bl_al (bl0 _) _)) hb | exact bl_tr (bl_al (bl_al (bl0 _) _) _) hb | exact bl_tr (bl_dr (bl_al (bl_al (bl0 _) _) _)) hb | exact bl_tr (bl_al (bl_al (bl_al (bl0 _) _) _) _) hb | exact bl_tr (bl_dr (bl_al (bl_al (bl_al (bl0 _) _) _) _)) hb | exact bl_tr (bl_al (bl_al (bl_al (bl_al (bl0 _) _) _) _) _) hb | exact bl_tr (bl_dr (bl_al (bl_al (bl_al (bl_al (bl0 _) _) _) _) _)) hb | exact bl_tr (bl_al (bl_al (bl_al (bl_al (bl_al (bl0 _) _) _) _) _) _) hb | exact bl_tr (bl_dr (bl_al (bl_al (bl_al (bl_al (bl_al (bl0 _) _) _) _) _) _)) hb | exact bl_tr (bl_al (bl_al (bl_al (bl_al (bl_al (bl_al (bl0 _) _) _) _) _) _) _) hb | exact bl_tr (bl_dr (bl_al (bl_al (bl_al (bl_al (bl_al (bl_al (bl0 _) _) _) _) _) _) _)) hb | exact bl_tr (bl_dr (bl0 _)) hb
      replace hA := bl_tr hA hk
      clear hb hk
      go_wp2
      go_ret
      exact ⟨rfl, hA⟩
    · have k1 : (200 : Int) < (l.length : Int) := by omega
      clear h1 h2
      go_enter Tryd.func4, Tryd.ntmps4
      go_wp2_with fail
      refine (awake_any _ (hs.below (bl_al (bl_al (bl0 w) _) _))).mono ?_
      rintro e w1 ⟨rfl, hb⟩
      have hk : Below w.heap.size w w1 := by first | exact hb | exact bl_tr (bl_al (bl0 _) _) hb | exact bl_tr (bl_dr (bl_al (bl0 _) _)) hb | exact bl_tr (bl_al (bl_al (bl0 _) _) _) hb | exact bl_tr (bl_dr (bl_al (bl_al (bl0 _) _) _)) hb | exact bl_tr (bl_al (bl_al (bl_al (bl0 _) _) _) _) hb | exact bl_tr (bl_dr (bl_al (bl_al (bl_al (bl0 _) _) _) _)) hb | exact bl_tr (bl_al (bl_al (bl_al (bl_al (bl0 _) _) _) _) _) hb | exact bl_tr (bl_dr (bl_al (bl_al (bl_al (bl_al (bl0 _) _) _) _) _)) hb | exact bl_tr (bl_al (bl_al (bl_al (bl_al (bl_al (bl0 _) _) _) _) _) _) hb | exact bl_tr (bl_dr (bl_al (bl_al (bl_al (bl_al (bl_al (bl0 _) _) _) _) _) _)) hb | exact bl_tr (bl_al (bl_al (bl_al (bl_al (bl_al (bl_al (bl0 _) _) _) _) _) _) _) hb | exact bl_tr (bl_dr (bl_al (bl_al (bl_al (bl_al (bl_al (bl_al (bl0 _) _) _) _) _) _) _)) hb | exact bl_tr (bl_dr (bl0 _)) hb
      replace hA := bl_tr hA hk
      clear hb hk
      go_wp2
      go_ret
      exact ⟨rfl, hA⟩
end Go.Proofs.YtlmloedjakpogabDoor
