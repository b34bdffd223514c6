/- RouteBacks: its walk. -/
import Derived.Test.YtlmloedjakpogabDoorAt
import Derived.Test.YtlmloedjakpogabDoorAp
namespace Go.Proofs.YtlmloedjakpogabDoor
open Go.RowKit


set_option maxRecDepth 100000 in
set_option maxHeartbeats 4000000 in
theorem rbacks_walk (A B X Y : Int) (a b ba : Option Addr) (cap cap2 bcap : Nat) (zs : List Int) (l : List IC) (ms : List Int) (w : World) (hs : Stp w) (hr : RowH w a zs) (hrc : RowC w b l) (hm : RowB w ba ms) (hinm : AllB ms) :
    Calls Tryd.prog 5 #[.agg #[.int .i64 A, .int .i64 B, .slice a zs.length cap], .slice b l.length cap2, .agg #[.int .i64 X, .int .i64 Y, .slice ba ms.length bcap]] w fun e w' => e = .returned (.bool true) ∧ Below w.heap.size w w' := by
  have hA := bl0 w
  cases hsm : smR zs.length l.length
  · have HSM := Lib.hid hsm
    clear hsm
    go_enter Tryd.func5, Tryd.ntmps5
    go_wp2_with fail
    refine (small_any _ _ _ _ _ _ _ _ _).mono ?_
    rintro e w1 ⟨rfl, hb⟩
    have hk : Below w.heap.size w w1 := by first | exact hb | exact bl_tr (bl_al (bl0 _) _) hb | exact bl_tr (bl_dr (bl_al (bl0 _) _)) hb | exact bl_tr (bl_al (bl_al (bl0 _) _) _) hb | exact bl_tr (bl_dr (bl_al (bl_al (bl0 _) _) _)) hb | exact bl_tr (bl_al (bl_al (bl_al (bl0 _) _) _) _) hb | exact bl_tr (bl_dr (bl_al (bl_al (bl_al (bl0 _) _) _) _)) hb | exact bl_tr (bl_al (bl_al (bl_al (bl_al (bl0 _) _) _) _) _) hb | exact bl_tr (bl_dr (bl_al (bl_al (bl_al (bl_al (bl0 _) _) _) _) _)) hb | exact bl_tr (bl_al (bl_al (bl_al (bl_al (bl_al (bl0 _) _) _) _) _) _) hb | exact bl_tr (bl_dr (bl_al (bl_al (bl_al (bl_al (bl_al (bl0 _) _) _) _) _) _)) hb | exact bl_tr (bl_al (bl_al (bl_al (bl_al (bl_al (bl_al (bl0 _) _) _) _) _) _) _) hb | exact bl_tr (bl_dr (bl_al (bl_al (bl_al (bl_al (bl_al (bl_al (bl0 _) _) _) _) _) _) _)) hb | exact bl_tr (bl_dr (bl0 _)) hb
    replace hA := bl_tr hA hk
    clear hb hk
    rw [HSM.out]
    go_wp2_with fail
    refine (awake_any _ (hs.below hA)).mono ?_
    rintro e w2 ⟨rfl, hb⟩
    have hk : Below w1.heap.size w1 w2 := by first | exact hb | exact bl_tr (bl_al (bl0 _) _) hb | exact bl_tr (bl_dr (bl_al (bl0 _) _)) hb | exact bl_tr (bl_al (bl_al (bl0 _) _) _) hb | exact bl_tr (bl_dr (bl_al (bl_al (bl0 _) _) _)) hb | exact bl_tr (bl_al (bl_al (bl_al (bl0 _) _) _) _) hb | exact bl_tr (bl_dr (bl_al (bl_al (bl_al (bl0 _) _) _) _)) hb | exact bl_tr (bl_al (bl_al (bl_al (bl_al (bl0 _) _) _) _) _) hb | exact bl_tr (bl_dr (bl_al (bl_al (bl_al (bl_al (bl0 _) _) _) _) _)) hb | exact bl_tr (bl_al (bl_al (bl_al (bl_al (bl_al (bl0 _) _) _) _) _) _) hb | exact bl_tr (bl_dr (bl_al (bl_al (bl_al (bl_al (bl_al (bl0 _) _) _) _) _) _)) hb | exact bl_tr (bl_al (bl_al (bl_al (bl_al (bl_al (bl_al (bl0 _) _) _) _) _) _) _) hb | exact bl_tr (bl_dr (bl_al (bl_al (bl_al (bl_al (bl_al (bl_al (bl0 _) _) _) _) _) _) _)) hb | exact bl_tr (bl_dr (bl0 _)) hb
    replace hA := bl_tr hA hk
    clear hb hk
    go_wp2
    go_ret
    exact ⟨rfl, hA⟩
  by_cases h2 : ms.length ≤ 200
  case neg =>
    have HSM := Lib.hid hsm
    have k2 : (200 : Int) < (ms.length : Int) := by omega
    clear hsm h2
    go_enter Tryd.func5, Tryd.ntmps5
    go_wp2_with fail
    refine (small_any _ _ _ _ _ _ _ _ _).mono ?_
    rintro e w1 ⟨rfl, hb⟩
    have hk : Below w.heap.size w w1 := by first | exact hb | exact bl_tr (bl_al (bl0 _) _) hb | exact bl_tr (bl_dr (bl_al (bl0 _) _)) hb | exact bl_tr (bl_al (bl_al (bl0 _) _) _) hb | exact bl_tr (bl_dr (bl_al (bl_al (bl0 _) _) _)) hb | exact bl_tr (bl_al (bl_al (bl_al (bl0 _) _) _) _) hb | exact bl_tr (bl_dr (bl_al (bl_al (bl_al (bl0 _) _) _) _)) hb | exact bl_tr (bl_al (bl_al (bl_al (bl_al (bl0 _) _) _) _) _) hb | exact bl_tr (bl_dr (bl_al (bl_al (bl_al (bl_al (bl0 _) _) _) _) _)) hb | exact bl_tr (bl_al (bl_al (bl_al (bl_al (bl_al (bl0 _) _) _) _) _) _) hb | exact bl_tr (bl_dr (bl_al (bl_al (bl_al (bl_al (bl_al (bl0 _) _) _) _) _) _)) hb | exact bl_tr (bl_al (bl_al (bl_al (bl_al (bl_al (bl_al (bl0 _) _) _) _) _) _) _) hb | exact bl_tr (bl_dr (bl_al (bl_al (bl_al (bl_al (bl_al (bl_al (bl0 _) _) _) _) _) _) _)) hb | exact bl_tr (bl_dr (bl0 _)) hb
    replace hA := bl_tr hA hk
    have g2 := cell_later hb (v := .slice ba ms.length bcap) (a := ⟨w.heap.size + 1, 2, none⟩) (by simp [go_sem])
    clear hb hk
    have zg2 := blk_lt g2
    rw [HSM.out]
    go_wp2_with fail
    refine (awake_any _ (hs.below hA)).mono ?_
    rintro e w2 ⟨rfl, hb⟩
    have hk : Below w1.heap.size w1 w2 := by first | exact hb | exact bl_tr (bl_al (bl0 _) _) hb | exact bl_tr (bl_dr (bl_al (bl0 _) _)) hb | exact bl_tr (bl_al (bl_al (bl0 _) _) _) hb | exact bl_tr (bl_dr (bl_al (bl_al (bl0 _) _) _)) hb | exact bl_tr (bl_al (bl_al (bl_al (bl0 _) _) _) _) hb | exact bl_tr (bl_dr (bl_al (bl_al (bl_al (bl0 _) _) _) _)) hb | exact bl_tr (bl_al (bl_al (bl_al (bl_al (bl0 _) _) _) _) _) hb | exact bl_tr (bl_dr (bl_al (bl_al (bl_al (bl_al (bl0 _) _) _) _) _)) hb | exact bl_tr (bl_al (bl_al (bl_al (bl_al (bl_al (bl0 _) _) _) _) _) _) hb | exact bl_tr (bl_dr (bl_al (bl_al (bl_al (bl_al (bl_al (bl0 _) _) _) _) _) _)) hb | exact bl_tr (bl_al (bl_al (bl_al (bl_al (bl_al (bl_al (bl0 _) _) _) _) _) _) _) hb | exact bl_tr (bl_dr (bl_al (bl_al (bl_al (bl_al (bl_al (bl_al (bl0 _) _) _) _) _) _) _)) hb | exact bl_tr (bl_dr (bl0 _)) hb
    replace hA := bl_tr hA hk
    clear hb hk
    go_wp2
    go_ret
    exact ⟨rfl, hA⟩
  case pos =>
    have hl : l.length ≤ 1048576 := by
      unfold smR at hsm
      rw [Bool.and_eq_true, decide_eq_true_eq, decide_eq_true_eq] at hsm
      omega
    have k2 : ¬ (200 : Int) < (ms.length : Int) := by omega
    have HSM := Lib.hid hsm
    have HMS := Lib.hid (show ms.length ≤ 1048576 by omega)
    clear hsm
    have hch := fun W h1 h2 h3 => check_path A B a b cap cap2 zs l W h1 h2 h3 hl
    by_cases hp : pathE A B zs l (chkF A B zs.length) = 0
    · obtain ⟨hc, hne, hok⟩ := pathE_ok hp
      have hpath := (isPath_iff hne).1 hok
      rw [hp] at hch
      have HCH := Lib.hid hch
      have hmv := fun W h h' => moves_path b cap2 l W h h' hl
      rw [hpath.movE, hpath.movR] at hmv
      have HMV := Lib.hid hmv
      have hml : (movL l).length = l.length - 1 := movL_len
      have hce := fun (x : Option Addr) (cp : Nat) W h h' => cells_path A B (cK l 0) x cp (movL l) W h (movL_in hpath.bes) h' (by omega)
      rw [hpath.celE, hpath.celL] at hce
      have HCE := Lib.hid hce
      have hpos := hpath.pos
      have k3 : (1 : Int) ≤ (l.length : Int) := by omega
      have k4 : ¬ (l.length : Int) < 1 := by omega
      have k5 : (0 : Int) < (l.length : Int) := by omega
      have k7 : 0 < l.length := hpos
      have e0 : IntKind.i64.wrap ((l.length : Int) - 1) = (l.length : Int) - 1 := IntWalk.i64_in _ (by omega)
      have k6 : (((movL l).length : Int) != (l.length : Int) - 1) = false := by rw [bne_eq_false_iff_eq, hml]; omega
      generalize movL l = R1 at *
      generalize hc0 : cK l 0 = c0 at *
      have HC0 := Lib.hid hc0
      have HLL := Lib.hid hl
      clear hch hmv hce hp hc hok hpath hml hc0 hne hpos
      go_enter Tryd.func5, Tryd.ntmps5
      go_wp2_with fail
      refine (small_any _ _ _ _ _ _ _ _ _).mono ?_
      rintro e w1 ⟨rfl, hb⟩
      have hk : Below w.heap.size w w1 := by first | exact hb | exact bl_tr (bl_al (bl0 _) _) hb | exact bl_tr (bl_dr (bl_al (bl0 _) _)) hb | exact bl_tr (bl_al (bl_al (bl0 _) _) _) hb | exact bl_tr (bl_dr (bl_al (bl_al (bl0 _) _) _)) hb | exact bl_tr (bl_al (bl_al (bl_al (bl0 _) _) _) _) hb | exact bl_tr (bl_dr (bl_al (bl_al (bl_al (bl0 _) _) _) _)) hb | exact bl_tr (bl_al (bl_al (bl_al (bl_al (bl0 _) _) _) _) _) hb | exact bl_tr (bl_dr (bl_al (bl_al (bl_al (bl_al (bl0 _) _) _) _) _)) hb | exact bl_tr (bl_al (bl_al (bl_al (bl_al (bl_al (bl0 _) _) _) _) _) _) hb | exact bl_tr (bl_dr (bl_al (bl_al (bl_al (bl_al (bl_al (bl0 _) _) _) _) _) _)) hb | exact bl_tr (bl_al (bl_al (bl_al (bl_al (bl_al (bl_al (bl0 _) _) _) _) _) _) _) hb | exact bl_tr (bl_dr (bl_al (bl_al (bl_al (bl_al (bl_al (bl_al (bl0 _) _) _) _) _) _) _)) hb | exact bl_tr (bl_dr (bl0 _)) hb
      replace hA := bl_tr hA hk
      have f0 := cell_later hb (v := .int .i64 A) (a := ⟨w.heap.size, 0, none⟩) (by simp [go_sem])
      have f1 := cell_later hb (v := .int .i64 B) (a := ⟨w.heap.size, 1, none⟩) (by simp [go_sem])
      have f2 := cell_later hb (v := .slice a zs.length cap) (a := ⟨w.heap.size, 2, none⟩) (by simp [go_sem])
      have g0 := cell_later hb (v := .int .i64 X) (a := ⟨w.heap.size + 1, 0, none⟩) (by simp [go_sem])
      have g1 := cell_later hb (v := .int .i64 Y) (a := ⟨w.heap.size + 1, 1, none⟩) (by simp [go_sem])
      have g2 := cell_later hb (v := .slice ba ms.length bcap) (a := ⟨w.heap.size + 1, 2, none⟩) (by simp [go_sem])
      clear hb hk
      have zf0 := blk_lt f0
      have zf1 := blk_lt f1
      have zf2 := blk_lt f2
      have zg0 := blk_lt g0
      have zg1 := blk_lt g1
      have zg2 := blk_lt g2
      rw [HSM.out]
      go_wp2_with fail
      refine (HCH.out _ (hr.below hA) (hrc.below hA) (hs.below hA)).mono ?_
      rintro e w2 ⟨rfl, hb⟩
      have hk : Below w1.heap.size w1 w2 := by first | exact hb | exact bl_tr (bl_al (bl0 _) _) hb | exact bl_tr (bl_dr (bl_al (bl0 _) _)) hb | exact bl_tr (bl_al (bl_al (bl0 _) _) _) hb | exact bl_tr (bl_dr (bl_al (bl_al (bl0 _) _) _)) hb | exact bl_tr (bl_al (bl_al (bl_al (bl0 _) _) _) _) hb | exact bl_tr (bl_dr (bl_al (bl_al (bl_al (bl0 _) _) _) _)) hb | exact bl_tr (bl_al (bl_al (bl_al (bl_al (bl0 _) _) _) _) _) hb | exact bl_tr (bl_dr (bl_al (bl_al (bl_al (bl_al (bl0 _) _) _) _) _)) hb | exact bl_tr (bl_al (bl_al (bl_al (bl_al (bl_al (bl0 _) _) _) _) _) _) hb | exact bl_tr (bl_dr (bl_al (bl_al (bl_al (bl_al (bl_al (bl0 _) _) _) _) _) _)) hb | exact bl_tr (bl_al (bl_al (bl_al (bl_al (bl_al (bl_al (bl0 _) _) _) _) _) _) _) hb | exact bl_tr (bl_dr (bl_al (bl_al (bl_al (bl_al (bl_al (bl_al (bl0 _) _) _) _) _) _) _)) hb | exact bl_tr (bl_dr (bl0 _)) hb
      replace hA := bl_tr hA hk
      replace f0 := cell_later hk f0
      replace f1 := cell_later hk f1
      replace f2 := cell_later hk f2
      replace g0 := cell_later hk g0
      replace g1 := cell_later hk g1
      replace g2 := cell_later hk g2
      clear hb hk
      have zf0 := blk_lt f0
      have zf1 := blk_lt f1
      have zf2 := blk_lt f2
      have zg0 := blk_lt g0
      have zg1 := blk_lt g1
      have zg2 := blk_lt g2
      go_wp2_with fail
      refine (HMV.out _ (hrc.below hA) (hs.below hA)).mono ?_
      rintro e w3 ⟨v3, rfl, o3, hb⟩
      have hk : Below w2.heap.size w2 w3 := by first | exact hb | exact bl_tr (bl_al (bl0 _) _) hb | exact bl_tr (bl_dr (bl_al (bl0 _) _)) hb | exact bl_tr (bl_al (bl_al (bl0 _) _) _) hb | exact bl_tr (bl_dr (bl_al (bl_al (bl0 _) _) _)) hb | exact bl_tr (bl_al (bl_al (bl_al (bl0 _) _) _) _) hb | exact bl_tr (bl_dr (bl_al (bl_al (bl_al (bl0 _) _) _) _)) hb | exact bl_tr (bl_al (bl_al (bl_al (bl_al (bl0 _) _) _) _) _) hb | exact bl_tr (bl_dr (bl_al (bl_al (bl_al (bl_al (bl0 _) _) _) _) _)) hb | exact bl_tr (bl_al (bl_al (bl_al (bl_al (bl_al (bl0 _) _) _) _) _) _) hb | exact bl_tr (bl_dr (bl_al (bl_al (bl_al (bl_al (bl_al (bl0 _) _) _) _) _) _)) hb | exact bl_tr (bl_al (bl_al (bl_al (bl_al (bl_al (bl_al (bl0 _) _) _) _) _) _) _) hb | exact bl_tr (bl_dr (bl_al (bl_al (bl_al (bl_al (bl_al (bl_al (bl0 _) _) _) _) _) _) _)) hb | exact bl_tr (bl_dr (bl0 _)) hb
      replace hA := bl_tr hA hk
      replace f0 := cell_later hk f0
      replace f1 := cell_later hk f1
      replace f2 := cell_later hk f2
      replace g0 := cell_later hk g0
      replace g1 := cell_later hk g1
      replace g2 := cell_later hk g2
      clear hb hk
      have zf0 := blk_lt f0
      have zf1 := blk_lt f1
      have zf2 := blk_lt f2
      have zg0 := blk_lt g0
      have zg1 := blk_lt g1
      have zg2 := blk_lt g2
      obtain ⟨a3, c3, rfl, r3, _⟩ := rowB_of_own o3
      clear o3
      obtain ⟨gb, go, hbb, q0, q1⟩ := (hrc.below hA).two (k := 0) (by omega)
      subst hbb
      rw [HC0.out] at q0 q1
      simp only [Nat.zero_mul, Nat.add_zero] at q0 q1
      have hk1 := bl0 w3
      have HS := Lib.hid (show ∀ W', Below w3.heap.size w3 W' → W'.cell? ⟨w.heap.size, 0, none⟩ = some (.int .i64 A) ∧ W'.cell? ⟨w.heap.size, 1, none⟩ = some (.int .i64 B) ∧ W'.cell? ⟨gb, go, none⟩ = some (.int .i64 c0.1) ∧ W'.cell? ⟨gb, go + 1, none⟩ = some (.int .i64 c0.2) from fun W' h => ⟨cell_later h f0, cell_later h f1, cell_later h q0, cell_later h q1⟩)
      have r3' := r3
      go_upto_region 7 with fail
      go_region_held3 (fun W' => W'.cell? ⟨w.heap.size, 0, none⟩ = some (.int .i64 A) ∧ W'.cell? ⟨w.heap.size, 1, none⟩ = some (.int .i64 B) ∧ W'.cell? ⟨gb, go, none⟩ = some (.int .i64 c0.1) ∧ W'.cell? ⟨gb, go + 1, none⟩ = some (.int .i64 c0.2))
        (first | exact HS.out _ hk1 | exact HS.out _ (bl_dr hk1))
        ((go_at_call 16; (with_reducible refine (HCE.out a3 c3 _ (r3.below (bl_dr hk1)) (hs.below (bl_tr hA (bl_dr hk1)))).mono ?_); rintro e w4 ⟨v4, rfl, o4, hb⟩; replace hk1 := bl_tr (bl_dr hk1) hb; clear hb))
      obtain ⟨a4, c4, rfl, r4, _⟩ := own_rowC o4
      replace g0 := cell_later hk1 g0; replace g1 := cell_later hk1 g1; replace g2 := cell_later hk1 g2
      replace f0 := cell_later hk1 f0; replace f1 := cell_later hk1 f1; replace f2 := cell_later hk1 f2
      replace hA := bl_tr hA hk1
      clear hk1 o4 r3 r3' q0 q1 HS
      go_wp2_with fail
      refine (cells_any a4 (some ⟨gb, go, none⟩) c4 cap2 l l _ r4 (hrc.below hA) HLL.out).mono ?_
      rintro e wv ⟨rfl, hb⟩
      have hk : Below w4.heap.size w4 wv := by first | exact hb | exact bl_tr (bl_al (bl0 _) _) hb | exact bl_tr (bl_dr (bl_al (bl0 _) _)) hb | exact bl_tr (bl_al (bl_al (bl0 _) _) _) hb | exact bl_tr (bl_dr (bl_al (bl_al (bl0 _) _) _)) hb | exact bl_tr (bl_al (bl_al (bl_al (bl0 _) _) _) _) hb | exact bl_tr (bl_dr (bl_al (bl_al (bl_al (bl0 _) _) _) _)) hb | exact bl_tr (bl_al (bl_al (bl_al (bl_al (bl0 _) _) _) _) _) hb | exact bl_tr (bl_dr (bl_al (bl_al (bl_al (bl_al (bl0 _) _) _) _) _)) hb | exact bl_tr (bl_al (bl_al (bl_al (bl_al (bl_al (bl0 _) _) _) _) _) _) hb | exact bl_tr (bl_dr (bl_al (bl_al (bl_al (bl_al (bl_al (bl0 _) _) _) _) _) _)) hb | exact bl_tr (bl_al (bl_al (bl_al (bl_al (bl_al (bl_al (bl0 _) _) _) _) _) _) _) hb | exact bl_tr (bl_dr (bl_al (bl_al (bl_al (bl_al (bl_al (bl_al (bl0 _) _) _) _) _) _) _)) hb | exact bl_tr (bl_dr (bl0 _)) hb
      replace hA := bl_tr hA hk
      replace f0 := cell_later hk f0
      replace f1 := cell_later hk f1
      replace f2 := cell_later hk f2
      replace g0 := cell_later hk g0
      replace g1 := cell_later hk g1
      replace g2 := cell_later hk g2
      clear hb hk
      have zf0 := blk_lt f0
      have zf1 := blk_lt f1
      have zf2 := blk_lt f2
      have zg0 := blk_lt g0
      have zg1 := blk_lt g1
      have zg2 := blk_lt g2
      rw [decide_eq_true (rfl : l = l)]
      clear r4
      have HX := Lib.hid (cel_moves (A := A) (B := B) (c := (X, Y)) hinm)
      have hce := fun W h h' => cells_path A B (X, Y) ba bcap ms W h hinm h' (by omega)
      have hL2 := celL_le A B (X, Y) ms
      have hcv : celE A B (X, Y) ms ≠ 0 → celL A B (X, Y) ms = [] := fun h => by unfold celL; rw [if_neg h]
      have hlen : celE A B (X, Y) ms = 0 → (celL A B (X, Y) ms).length = ms.length + 1 ∧ cK (celL A B (X, Y) ms) 0 = (X, Y) := fun h => by rw [(cel_moves hinm h).2.2, cellsF_len, cellsF_fst]; exact ⟨rfl, rfl⟩
      generalize celE A B (X, Y) ms = E2 at *
      generalize celL A B (X, Y) ms = R2 at *
      have HCE := Lib.hid hce; have HCV := Lib.hid hcv; have HLEN := Lib.hid hlen; have HL2 := Lib.hid (show R2.length ≤ 1048576 by omega)
      clear hce hcv hlen hL2
      go_wp2_with fail
      refine (HCE.out _ (hm.below hA) (hs.below hA)).mono ?_
      rintro e w6 ⟨v6, rfl, o6, hb⟩
      have hk : Below wv.heap.size wv w6 := by first | exact hb | exact bl_tr (bl_al (bl0 _) _) hb | exact bl_tr (bl_dr (bl_al (bl0 _) _)) hb | exact bl_tr (bl_al (bl_al (bl0 _) _) _) hb | exact bl_tr (bl_dr (bl_al (bl_al (bl0 _) _) _)) hb | exact bl_tr (bl_al (bl_al (bl_al (bl0 _) _) _) _) hb | exact bl_tr (bl_dr (bl_al (bl_al (bl_al (bl0 _) _) _) _)) hb | exact bl_tr (bl_al (bl_al (bl_al (bl_al (bl0 _) _) _) _) _) hb | exact bl_tr (bl_dr (bl_al (bl_al (bl_al (bl_al (bl0 _) _) _) _) _)) hb | exact bl_tr (bl_al (bl_al (bl_al (bl_al (bl_al (bl0 _) _) _) _) _) _) hb | exact bl_tr (bl_dr (bl_al (bl_al (bl_al (bl_al (bl_al (bl0 _) _) _) _) _) _)) hb | exact bl_tr (bl_al (bl_al (bl_al (bl_al (bl_al (bl_al (bl0 _) _) _) _) _) _) _) hb | exact bl_tr (bl_dr (bl_al (bl_al (bl_al (bl_al (bl_al (bl_al (bl0 _) _) _) _) _) _) _)) hb | exact bl_tr (bl_dr (bl0 _)) hb
      replace hA := bl_tr hA hk
      replace g0 := cell_later hk g0
      replace g1 := cell_later hk g1
      replace g2 := cell_later hk g2
      clear hb hk
      have zg0 := blk_lt g0
      have zg1 := blk_lt g1
      have zg2 := blk_lt g2
      obtain ⟨a6, c6, rfl, r6, hc6⟩ := own_rowC o6
      clear o6
      by_cases he2 : E2 = 0
      · subst he2
        obtain ⟨m1, m2, m3⟩ := HX.out (by first | trivial | rfl)
        obtain ⟨l1, l2⟩ := HLEN.out (by first | trivial | rfl)
        have hmv := fun W h h' => moves_path a6 c6 R2 W h h' HL2.out
        rw [m1, m2] at hmv
        have HMV := Lib.hid hmv
        obtain ⟨gq, go, hq, q0, q1⟩ := r6.two (k := 0) (by omega)
        subst hq
        rw [l2] at q0 q1
        simp only [Nat.zero_mul, Nat.add_zero] at q0 q1
        have HL1 := Lib.hid l1
        have zq0 := blk_lt q0
        clear m1 m2 m3 l1 l2 hmv
        go_wp2_with fail
        refine (HMV.out _ r6 (hs.below hA)).mono ?_
        rintro e w7 ⟨v7, rfl, o7, hb⟩
        have hk : Below w6.heap.size w6 w7 := by first | exact hb | exact bl_tr (bl_al (bl0 _) _) hb | exact bl_tr (bl_dr (bl_al (bl0 _) _)) hb | exact bl_tr (bl_al (bl_al (bl0 _) _) _) hb | exact bl_tr (bl_dr (bl_al (bl_al (bl0 _) _) _)) hb | exact bl_tr (bl_al (bl_al (bl_al (bl0 _) _) _) _) hb | exact bl_tr (bl_dr (bl_al (bl_al (bl_al (bl0 _) _) _) _)) hb | exact bl_tr (bl_al (bl_al (bl_al (bl_al (bl0 _) _) _) _) _) hb | exact bl_tr (bl_dr (bl_al (bl_al (bl_al (bl_al (bl0 _) _) _) _) _)) hb | exact bl_tr (bl_al (bl_al (bl_al (bl_al (bl_al (bl0 _) _) _) _) _) _) hb | exact bl_tr (bl_dr (bl_al (bl_al (bl_al (bl_al (bl_al (bl0 _) _) _) _) _) _)) hb | exact bl_tr (bl_al (bl_al (bl_al (bl_al (bl_al (bl_al (bl0 _) _) _) _) _) _) _) hb | exact bl_tr (bl_dr (bl_al (bl_al (bl_al (bl_al (bl_al (bl_al (bl0 _) _) _) _) _) _) _)) hb | exact bl_tr (bl_dr (bl0 _)) hb
        replace hA := bl_tr hA hk
        replace g0 := cell_later hk g0
        replace g1 := cell_later hk g1
        replace g2 := cell_later hk g2
        replace q0 := cell_later hk q0
        replace q1 := cell_later hk q1
        clear hb hk
        have zg0 := blk_lt g0
        have zg1 := blk_lt g1
        have zg2 := blk_lt g2
        have zq0 := blk_lt q0
        have zq1 := blk_lt q1
        obtain ⟨a7, c7, rfl, r7, _⟩ := rowB_of_own o7
        clear o7
        rw [HL1.out]
        have e1 : IntKind.i64.wrap ((ms.length : Int) + 1) = (ms.length : Int) + 1 := IntWalk.i64_in _ (by omega)
        have b1 := beq_self_eq_true X
        have b2 := beq_self_eq_true Y
        have b3 : (0 : Int) < (ms.length : Int) + 1 := by omega
        have b4 := beq_self_eq_true ((ms.length : Int) + 1)
        have hk1 := bl0 w7
        have hms := hm.below hA
        have HS := Lib.hid (show ∀ W', Below w7.heap.size w7 W' → W'.cell? ⟨w.heap.size + 1, 0, none⟩ = some (.int .i64 X) ∧ W'.cell? ⟨w.heap.size + 1, 1, none⟩ = some (.int .i64 Y) ∧ W'.cell? ⟨w.heap.size + 1, 2, none⟩ = some (.slice ba ms.length bcap) ∧ W'.cell? ⟨gq, go, none⟩ = some (.int .i64 X) ∧ W'.cell? ⟨gq, go + 1, none⟩ = some (.int .i64 Y) from fun W' h => ⟨cell_later h g0, cell_later h g1, cell_later h g2, cell_later h q0, cell_later h q1⟩)
        clear g0 g1 g2 q0 q1 r6
        go_upto_region 14 with fail
        go_region_held3 (fun W' => W'.cell? ⟨w.heap.size + 1, 0, none⟩ = some (.int .i64 X) ∧ W'.cell? ⟨w.heap.size + 1, 1, none⟩ = some (.int .i64 Y) ∧ W'.cell? ⟨w.heap.size + 1, 2, none⟩ = some (.slice ba ms.length bcap) ∧ W'.cell? ⟨gq, go, none⟩ = some (.int .i64 X) ∧ W'.cell? ⟨gq, go + 1, none⟩ = some (.int .i64 Y))
          (first | exact HS.out _ hk1 | exact HS.out _ (bl_dr hk1))
          (first | (go_at_call 18; (with_reducible refine (bytes_any a7 ba c7 bcap ms ms _ (r7.below (bl_dr hk1)) (hms.below (bl_dr hk1)) HMS.out).mono ?_); rintro e wz ⟨rfl, hb⟩; rw [decide_eq_true (rfl : ms = ms)]; replace hk1 := bl_tr (bl_dr hk1) hb; clear hb) | (go_at_call 9; (first | with_reducible refine (awake_any _ (hs.below (bl_tr hA hk1))).mono ?_ | with_reducible refine (awake_any _ (hs.below (bl_tr hA (bl_dr hk1)))).mono ?_); rintro e wy ⟨rfl, hb⟩; (first | replace hk1 := bl_tr hk1 hb | replace hk1 := bl_tr (bl_dr hk1) hb); clear hb))
        go_wp2
        go_ret
        exact ⟨rfl, bl_tr hA hk1⟩
      · have hr := HCV.out he2
        subst hr
        have k5 : (E2 != 0) = true := by rw [bne_iff_ne]; exact he2
        clear he2
        go_wp2_with fail
        refine (awake_any _ (hs.below hA)).mono ?_
        rintro e w7 ⟨rfl, hb⟩
        have hk : Below w6.heap.size w6 w7 := by first | exact hb | exact bl_tr (bl_al (bl0 _) _) hb | exact bl_tr (bl_dr (bl_al (bl0 _) _)) hb | exact bl_tr (bl_al (bl_al (bl0 _) _) _) hb | exact bl_tr (bl_dr (bl_al (bl_al (bl0 _) _) _)) hb | exact bl_tr (bl_al (bl_al (bl_al (bl0 _) _) _) _) hb | exact bl_tr (bl_dr (bl_al (bl_al (bl_al (bl0 _) _) _) _)) hb | exact bl_tr (bl_al (bl_al (bl_al (bl_al (bl0 _) _) _) _) _) hb | exact bl_tr (bl_dr (bl_al (bl_al (bl_al (bl_al (bl0 _) _) _) _) _)) hb | exact bl_tr (bl_al (bl_al (bl_al (bl_al (bl_al (bl0 _) _) _) _) _) _) hb | exact bl_tr (bl_dr (bl_al (bl_al (bl_al (bl_al (bl_al (bl0 _) _) _) _) _) _)) hb | exact bl_tr (bl_al (bl_al (bl_al (bl_al (bl_al (bl_al (bl0 _) _) _) _) _) _) _) hb | exact bl_tr (bl_dr (bl_al (bl_al (bl_al (bl_al (bl_al (bl_al (bl0 _) _) _) _) _) _) _)) hb | exact bl_tr (bl_dr (bl0 _)) hb
        replace hA := bl_tr hA hk
        clear hb hk
        go_wp2
        go_ret
        exact ⟨rfl, hA⟩
    · have k4 : (pathE A B zs l (chkF A B zs.length) == 0) = false := by rw [beq_eq_false_iff_ne]; exact hp
      generalize pathE A B zs l (chkF A B zs.length) = P at *
      have HCH := Lib.hid hch
      clear hch hp
      go_enter Tryd.func5, Tryd.ntmps5
      go_wp2_with fail
      refine (small_any _ _ _ _ _ _ _ _ _).mono ?_
      rintro e w1 ⟨rfl, hb⟩
      have hk : Below w.heap.size w w1 := by first | exact hb | exact bl_tr (bl_al (bl0 _) _) hb | exact bl_tr (bl_dr (bl_al (bl0 _) _)) hb | exact bl_tr (bl_al (bl_al (bl0 _) _) _) hb | exact bl_tr (bl_dr (bl_al (bl_al (bl0 _) _) _)) hb | exact bl_tr (bl_al (bl_al (bl_al (bl0 _) _) _) _) hb | exact bl_tr (bl_dr (bl_al (bl_al (bl_al (bl0 _) _) _) _)) hb | exact bl_tr (bl_al (bl_al (bl_al (bl_al (bl0 _) _) _) _) _) hb | exact bl_tr (bl_dr (bl_al (bl_al (bl_al (bl_al (bl0 _) _) _) _) _)) hb | exact bl_tr (bl_al (bl_al (bl_al (bl_al (bl_al (bl0 _) _) _) _) _) _) hb | exact bl_tr (bl_dr (bl_al (bl_al (bl_al (bl_al (bl_al (bl0 _) _) _) _) _) _)) hb | exact bl_tr (bl_al (bl_al (bl_al (bl_al (bl_al (bl_al (bl0 _) _) _) _) _) _) _) hb | exact bl_tr (bl_dr (bl_al (bl_al (bl_al (bl_al (bl_al (bl_al (bl0 _) _) _) _) _) _) _)) hb | exact bl_tr (bl_dr (bl0 _)) hb
      replace hA := bl_tr hA hk
      have f0 := cell_later hb (v := .int .i64 A) (a := ⟨w.heap.size, 0, none⟩) (by simp [go_sem])
      have f1 := cell_later hb (v := .int .i64 B) (a := ⟨w.heap.size, 1, none⟩) (by simp [go_sem])
      have f2 := cell_later hb (v := .slice a zs.length cap) (a := ⟨w.heap.size, 2, none⟩) (by simp [go_sem])
      have g0 := cell_later hb (v := .int .i64 X) (a := ⟨w.heap.size + 1, 0, none⟩) (by simp [go_sem])
      have g1 := cell_later hb (v := .int .i64 Y) (a := ⟨w.heap.size + 1, 1, none⟩) (by simp [go_sem])
      have g2 := cell_later hb (v := .slice ba ms.length bcap) (a := ⟨w.heap.size + 1, 2, none⟩) (by simp [go_sem])
      clear hb hk
      have zf0 := blk_lt f0
      have zf1 := blk_lt f1
      have zf2 := blk_lt f2
      have zg0 := blk_lt g0
      have zg1 := blk_lt g1
      have zg2 := blk_lt g2
      rw [HSM.out]
      go_wp2_with fail
      refine (HCH.out _ (hr.below hA) (hrc.below hA) (hs.below hA)).mono ?_
      rintro e wv ⟨rfl, hb⟩
      have hk : Below w1.heap.size w1 wv := by first | exact hb | exact bl_tr (bl_al (bl0 _) _) hb | exact bl_tr (bl_dr (bl_al (bl0 _) _)) hb | exact bl_tr (bl_al (bl_al (bl0 _) _) _) hb | exact bl_tr (bl_dr (bl_al (bl_al (bl0 _) _) _)) hb | exact bl_tr (bl_al (bl_al (bl_al (bl0 _) _) _) _) hb | exact bl_tr (bl_dr (bl_al (bl_al (bl_al (bl0 _) _) _) _)) hb | exact bl_tr (bl_al (bl_al (bl_al (bl_al (bl0 _) _) _) _) _) hb | exact bl_tr (bl_dr (bl_al (bl_al (bl_al (bl_al (bl0 _) _) _) _) _)) hb | exact bl_tr (bl_al (bl_al (bl_al (bl_al (bl_al (bl0 _) _) _) _) _) _) hb | exact bl_tr (bl_dr (bl_al (bl_al (bl_al (bl_al (bl_al (bl0 _) _) _) _) _) _)) hb | exact bl_tr (bl_al (bl_al (bl_al (bl_al (bl_al (bl_al (bl0 _) _) _) _) _) _) _) hb | exact bl_tr (bl_dr (bl_al (bl_al (bl_al (bl_al (bl_al (bl_al (bl0 _) _) _) _) _) _) _)) hb | exact bl_tr (bl_dr (bl0 _)) hb
      replace hA := bl_tr hA hk
      replace f0 := cell_later hk f0
      replace f1 := cell_later hk f1
      replace f2 := cell_later hk f2
      replace g0 := cell_later hk g0
      replace g1 := cell_later hk g1
      replace g2 := cell_later hk g2
      clear hb hk
      have zf0 := blk_lt f0
      have zf1 := blk_lt f1
      have zf2 := blk_lt f2
      have zg0 := blk_lt g0
      have zg1 := blk_lt g1
      have zg2 := blk_lt g2
      have HX := Lib.hid (cel_moves (A := A) (B := B) (c := (X, Y)) hinm)
      have hce := fun W h h' => cells_path A B (X, Y) ba bcap ms W h hinm h' (by omega)
      have hL2 := celL_le A B (X, Y) ms
      have hcv : celE A B (X, Y) ms ≠ 0 → celL A B (X, Y) ms = [] := fun h => by unfold celL; rw [if_neg h]
      have hlen : celE A B (X, Y) ms = 0 → (celL A B (X, Y) ms).length = ms.length + 1 ∧ cK (celL A B (X, Y) ms) 0 = (X, Y) := fun h => by rw [(cel_moves hinm h).2.2, cellsF_len, cellsF_fst]; exact ⟨rfl, rfl⟩
      generalize celE A B (X, Y) ms = E2 at *
      generalize celL A B (X, Y) ms = R2 at *
      have HCE := Lib.hid hce; have HCV := Lib.hid hcv; have HLEN := Lib.hid hlen; have HL2 := Lib.hid (show R2.length ≤ 1048576 by omega)
      clear hce hcv hlen hL2
      go_wp2_with fail
      refine (HCE.out _ (hm.below hA) (hs.below hA)).mono ?_
      rintro e w6 ⟨v6, rfl, o6, hb⟩
      have hk : Below wv.heap.size wv w6 := by first | exact hb | exact bl_tr (bl_al (bl0 _) _) hb | exact bl_tr (bl_dr (bl_al (bl0 _) _)) hb | exact bl_tr (bl_al (bl_al (bl0 _) _) _) hb | exact bl_tr (bl_dr (bl_al (bl_al (bl0 _) _) _)) hb | exact bl_tr (bl_al (bl_al (bl_al (bl0 _) _) _) _) hb | exact bl_tr (bl_dr (bl_al (bl_al (bl_al (bl0 _) _) _) _)) hb | exact bl_tr (bl_al (bl_al (bl_al (bl_al (bl0 _) _) _) _) _) hb | exact bl_tr (bl_dr (bl_al (bl_al (bl_al (bl_al (bl0 _) _) _) _) _)) hb | exact bl_tr (bl_al (bl_al (bl_al (bl_al (bl_al (bl0 _) _) _) _) _) _) hb | exact bl_tr (bl_dr (bl_al (bl_al (bl_al (bl_al (bl_al (bl0 _) _) _) _) _) _)) hb | exact bl_tr (bl_al (bl_al (bl_al (bl_al (bl_al (bl_al (bl0 _) _) _) _) _) _) _) hb | exact bl_tr (bl_dr (bl_al (bl_al (bl_al (bl_al (bl_al (bl_al (bl0 _) _) _) _) _) _) _)) hb | exact bl_tr (bl_dr (bl0 _)) hb
      replace hA := bl_tr hA hk
      replace g0 := cell_later hk g0
      replace g1 := cell_later hk g1
      replace g2 := cell_later hk g2
      clear hb hk
      have zg0 := blk_lt g0
      have zg1 := blk_lt g1
      have zg2 := blk_lt g2
      obtain ⟨a6, c6, rfl, r6, hc6⟩ := own_rowC o6
      clear o6
      by_cases he2 : E2 = 0
      · subst he2
        obtain ⟨m1, m2, m3⟩ := HX.out (by first | trivial | rfl)
        obtain ⟨l1, l2⟩ := HLEN.out (by first | trivial | rfl)
        have hmv := fun W h h' => moves_path a6 c6 R2 W h h' HL2.out
        rw [m1, m2] at hmv
        have HMV := Lib.hid hmv
        obtain ⟨gq, go, hq, q0, q1⟩ := r6.two (k := 0) (by omega)
        subst hq
        rw [l2] at q0 q1
        simp only [Nat.zero_mul, Nat.add_zero] at q0 q1
        have HL1 := Lib.hid l1
        have zq0 := blk_lt q0
        clear m1 m2 m3 l1 l2 hmv
        go_wp2_with fail
        refine (HMV.out _ r6 (hs.below hA)).mono ?_
        rintro e w7 ⟨v7, rfl, o7, hb⟩
        have hk : Below w6.heap.size w6 w7 := by first | exact hb | exact bl_tr (bl_al (bl0 _) _) hb | exact bl_tr (bl_dr (bl_al (bl0 _) _)) hb | exact bl_tr (bl_al (bl_al (bl0 _) _) _) hb | exact bl_tr (bl_dr (bl_al (bl_al (bl0 _) _) _)) hb | exact bl_tr (bl_al (bl_al (bl_al (bl0 _) _) _) _) hb | exact bl_tr (bl_dr (bl_al (bl_al (bl_al (bl0 _) _) _) _)) hb | exact bl_tr (bl_al (bl_al (bl_al (bl_al (bl0 _) _) _) _) _) hb | exact bl_tr (bl_dr (bl_al (bl_al (bl_al (bl_al (bl0 _) _) _) _) _)) hb | exact bl_tr (bl_al (bl_al (bl_al (bl_al (bl_al (bl0 _) _) _) _) _) _) hb | exact bl_tr (bl_dr (bl_al (bl_al (bl_al (bl_al (bl_al (bl0 _) _) _) _) _) _)) hb | exact bl_tr (bl_al (bl_al (bl_al (bl_al (bl_al (bl_al (bl0 _) _) _) _) _) _) _) hb | exact bl_tr (bl_dr (bl_al (bl_al (bl_al (bl_al (bl_al (bl_al (bl0 _) _) _) _) _) _) _)) hb | exact bl_tr (bl_dr (bl0 _)) hb
        replace hA := bl_tr hA hk
        replace g0 := cell_later hk g0
        replace g1 := cell_later hk g1
        replace g2 := cell_later hk g2
        replace q0 := cell_later hk q0
        replace q1 := cell_later hk q1
        clear hb hk
        have zg0 := blk_lt g0
        have zg1 := blk_lt g1
        have zg2 := blk_lt g2
        have zq0 := blk_lt q0
        have zq1 := blk_lt q1
        obtain ⟨a7, c7, rfl, r7, _⟩ := rowB_of_own o7
        clear o7
        rw [HL1.out]
        have e1 : IntKind.i64.wrap ((ms.length : Int) + 1) = (ms.length : Int) + 1 := IntWalk.i64_in _ (by omega)
        have b1 := beq_self_eq_true X
        have b2 := beq_self_eq_true Y
        have b3 : (0 : Int) < (ms.length : Int) + 1 := by omega
        have b4 := beq_self_eq_true ((ms.length : Int) + 1)
        have hk1 := bl0 w7
        have hms := hm.below hA
        have HS := Lib.hid (show ∀ W', Below w7.heap.size w7 W' → W'.cell? ⟨w.heap.size + 1, 0, none⟩ = some (.int .i64 X) ∧ W'.cell? ⟨w.heap.size + 1, 1, none⟩ = some (.int .i64 Y) ∧ W'.cell? ⟨w.heap.size + 1, 2, none⟩ = some (.slice ba ms.length bcap) ∧ W'.cell? ⟨gq, go, none⟩ = some (.int .i64 X) ∧ W'.cell? ⟨gq, go + 1, none⟩ = some (.int .i64 Y) from fun W' h => ⟨cell_later h g0, cell_later h g1, cell_later h g2, cell_later h q0, cell_later h q1⟩)
        clear g0 g1 g2 q0 q1 r6
        go_upto_region 14 with fail
        go_region_held3 (fun W' => W'.cell? ⟨w.heap.size + 1, 0, none⟩ = some (.int .i64 X) ∧ W'.cell? ⟨w.heap.size + 1, 1, none⟩ = some (.int .i64 Y) ∧ W'.cell? ⟨w.heap.size + 1, 2, none⟩ = some (.slice ba ms.length bcap) ∧ W'.cell? ⟨gq, go, none⟩ = some (.int .i64 X) ∧ W'.cell? ⟨gq, go + 1, none⟩ = some (.int .i64 Y))
          (first | exact HS.out _ hk1 | exact HS.out _ (bl_dr hk1))
          (first | (go_at_call 18; (with_reducible refine (bytes_any a7 ba c7 bcap ms ms _ (r7.below (bl_dr hk1)) (hms.below (bl_dr hk1)) HMS.out).mono ?_); rintro e wz ⟨rfl, hb⟩; rw [decide_eq_true (rfl : ms = ms)]; replace hk1 := bl_tr (bl_dr hk1) hb; clear hb) | (go_at_call 9; (first | with_reducible refine (awake_any _ (hs.below (bl_tr hA hk1))).mono ?_ | with_reducible refine (awake_any _ (hs.below (bl_tr hA (bl_dr hk1)))).mono ?_); rintro e wy ⟨rfl, hb⟩; (first | replace hk1 := bl_tr hk1 hb | replace hk1 := bl_tr (bl_dr hk1) hb); clear hb))
        go_wp2
        go_ret
        exact ⟨rfl, bl_tr hA hk1⟩
      · have hr := HCV.out he2
        subst hr
        have k5 : (E2 != 0) = true := by rw [bne_iff_ne]; exact he2
        clear he2
        go_wp2_with fail
        refine (awake_any _ (hs.below hA)).mono ?_
        rintro e w7 ⟨rfl, hb⟩
        have hk : Below w6.heap.size w6 w7 := by first | exact hb | exact bl_tr (bl_al (bl0 _) _) hb | exact bl_tr (bl_dr (bl_al (bl0 _) _)) hb | exact bl_tr (bl_al (bl_al (bl0 _) _) _) hb | exact bl_tr (bl_dr (bl_al (bl_al (bl0 _) _) _)) hb | exact bl_tr (bl_al (bl_al (bl_al (bl0 _) _) _) _) hb | exact bl_tr (bl_dr (bl_al (bl_al (bl_al (bl0 _) _) _) _)) hb | exact bl_tr (bl_al (bl_al (bl_al (bl_al (bl0 _) _) _) _) _) hb | exact bl_tr (bl_dr (bl_al (bl_al (bl_al (bl_al (bl0 _) _) _) _) _)) hb | exact bl_tr (bl_al (bl_al (bl_al (bl_al (bl_al (bl0 _) _) _) _) _) _) hb | exact bl_tr (bl_dr (bl_al (bl_al (bl_al (bl_al (bl_al (bl0 _) _) _) _) _) _)) hb | exact bl_tr (bl_al (bl_al (bl_al (bl_al (bl_al (bl_al (bl0 _) _) _) _) _) _) _) hb | exact bl_tr (bl_dr (bl_al (bl_al (bl_al (bl_al (bl_al (bl_al (bl0 _) _) _) _) _) _) _)) hb | exact bl_tr (bl_dr (bl0 _)) hb
        replace hA := bl_tr hA hk
        clear hb hk
        go_wp2
        go_ret
        exact ⟨rfl, hA⟩
end Go.Proofs.YtlmloedjakpogabDoor
