/- FloodNear: the law's walk. -/
import Derived.Test.YtjkecdghlpeigaaDoorCr
namespace Go.Proofs.YtjkecdghlpeigaaDoor
open Go.RowKit

theorem atBx_in {A : Int} {b : BX} {ds : List Int} {c : IC} (hds : AllU ds) : inU (atBx A b ds c) := by
  unfold atBx
  split
  · by_cases h : numN A c < ds.length
    · rw [← atD_get h]; exact hds _ (List.getElem_mem _)
    · rw [atD_none (by omega)]; exact inU_inf
  · exact inU_inf

set_option maxRecDepth 100000 in
set_option maxHeartbeats 8000000 in
theorem gnear_walk (A B : Int) (a : Option Addr) (cap : Nat) (zs : List Int) (X Y U V : Int) (F : IC) (w : World) (hF : wf64 F.1 ∧ wf64 F.2) (hs : Stp w) (hr : RowH w a zs) (hu : AllH zs) :
    Calls Tryd.prog 5 #[.agg #[.int .i64 A, .int .i64 B, .slice a zs.length cap], .agg #[.int .i64 X, .int .i64 Y, .int .i64 U, .int .i64 V], .agg #[.int .i64 F.1, .int .i64 F.2]] w fun e w' => e = .returned (.bool true) ∧ Below w.heap.size w w' := by
  have hA := bl0 w
  by_cases hsm : (zs.length : Int) ≤ 150
  case neg =>
    have hd : decide ((zs.length : Int) ≤ 150) = false := decide_eq_false hsm
    clear hsm
    go_enter Tryd.func5, Tryd.ntmps5
    go_wp2_with fail
    refine (small8_any _ _ _ _ _ _).mono ?_
    rintro e w1 ⟨rfl, hb⟩
    have hk : Below w.heap.size w w1 := by first | exact hb | exact bl_tr (bl_al (bl0 _) _) hb | exact bl_tr (bl_dr (bl_al (bl0 _) _)) hb | exact bl_tr (bl_al (bl_al (bl0 _) _) _) hb | exact bl_tr (bl_dr (bl_al (bl_al (bl0 _) _) _)) hb | exact bl_tr (bl_al (bl_al (bl_al (bl0 _) _) _) _) hb | exact bl_tr (bl_dr (bl_al (bl_al (bl_al (bl0 _) _) _) _)) hb | exact bl_tr (bl_al (bl_al (bl_al (bl_al (bl0 _) _) _) _) _) hb | exact bl_tr (bl_dr (bl_al (bl_al (bl_al (bl_al (bl0 _) _) _) _) _)) hb | exact bl_tr (bl_al (bl_al (bl_al (bl_al (bl_al (bl0 _) _) _) _) _) _) hb | exact bl_tr (bl_dr (bl_al (bl_al (bl_al (bl_al (bl_al (bl0 _) _) _) _) _) _)) hb | exact bl_tr (bl_al (bl_al (bl_al (bl_al (bl_al (bl_al (bl0 _) _) _) _) _) _) _) hb | exact bl_tr (bl_dr (bl_al (bl_al (bl_al (bl_al (bl_al (bl_al (bl0 _) _) _) _) _) _) _)) hb | exact bl_tr (bl_dr (bl0 _)) hb
    replace hA := bl_tr hA hk
    clear hb hk
    rw [hd]
    go_wp2_with fail
    refine (awake8 _ (hs.below hA)).mono ?_
    rintro e w2 ⟨rfl, hb⟩
    have hA2 := bl_tr hA hb
    clear hb
    go_wp2
    go_ret
    exact ⟨rfl, hA2⟩
  case pos =>
    have hd : decide ((zs.length : Int) ≤ 150) = true := decide_eq_true hsm
    go_enter Tryd.func5, Tryd.ntmps5
    go_wp2_with fail
    refine (small8_any _ _ _ _ _ _).mono ?_
    rintro e w1 ⟨rfl, hb⟩
    have hk : Below w.heap.size w w1 := by first | exact hb | exact bl_tr (bl_al (bl0 _) _) hb | exact bl_tr (bl_dr (bl_al (bl0 _) _)) hb | exact bl_tr (bl_al (bl_al (bl0 _) _) _) hb | exact bl_tr (bl_dr (bl_al (bl_al (bl0 _) _) _)) hb | exact bl_tr (bl_al (bl_al (bl_al (bl0 _) _) _) _) hb | exact bl_tr (bl_dr (bl_al (bl_al (bl_al (bl0 _) _) _) _)) hb | exact bl_tr (bl_al (bl_al (bl_al (bl_al (bl0 _) _) _) _) _) hb | exact bl_tr (bl_dr (bl_al (bl_al (bl_al (bl_al (bl0 _) _) _) _) _)) hb | exact bl_tr (bl_al (bl_al (bl_al (bl_al (bl_al (bl0 _) _) _) _) _) _) hb | exact bl_tr (bl_dr (bl_al (bl_al (bl_al (bl_al (bl_al (bl0 _) _) _) _) _) _)) hb | exact bl_tr (bl_al (bl_al (bl_al (bl_al (bl_al (bl_al (bl0 _) _) _) _) _) _) _) hb | exact bl_tr (bl_dr (bl_al (bl_al (bl_al (bl_al (bl_al (bl_al (bl0 _) _) _) _) _) _) _)) hb | exact bl_tr (bl_dr (bl0 _)) hb
    replace hA := bl_tr hA hk
    have f0 := cell_later hb (v := .int .i64 A) (a := ⟨w.heap.size, 0, none⟩) (by simp [go_sem])
    have f1 := cell_later hb (v := .int .i64 B) (a := ⟨w.heap.size, 1, none⟩) (by simp [go_sem])
    have f2 := cell_later hb (v := .slice a zs.length cap) (a := ⟨w.heap.size, 2, none⟩) (by simp [go_sem])
    have g0 := cell_later hb (v := .int .i64 X) (a := ⟨w.heap.size + 1, 0, none⟩) (by simp [go_sem])
    have g1 := cell_later hb (v := .int .i64 Y) (a := ⟨w.heap.size + 1, 1, none⟩) (by simp [go_sem])
    have g2 := cell_later hb (v := .int .i64 U) (a := ⟨w.heap.size + 1, 2, none⟩) (by simp [go_sem])
    have g3 := cell_later hb (v := .int .i64 V) (a := ⟨w.heap.size + 1, 3, none⟩) (by simp [go_sem])
    have x0 := cell_later hb (v := .int .i64 F.1) (a := ⟨w.heap.size + 1 + 1, 0, none⟩) (by simp [go_sem])
    have x1 := cell_later hb (v := .int .i64 F.2) (a := ⟨w.heap.size + 1 + 1, 1, none⟩) (by simp [go_sem])
    clear hb hk
    have zf0 := blk_lt f0
    have zf1 := blk_lt f1
    have zf2 := blk_lt f2
    have zg0 := blk_lt g0
    have zg1 := blk_lt g1
    have zg2 := blk_lt g2
    have zg3 := blk_lt g3
    have zx0 := blk_lt x0
    have zx1 := blk_lt x1
    rw [hd]
    clear hd
    go_wp2_with fail
    refine (within_any A B a cap zs (X, Y, U, V) F _ hu (hr.below (by first | exact hA | exact (bl_al hA _) | exact (bl_dr (bl_al hA _)) | exact (bl_al (bl_al hA _) _) | exact (bl_dr (bl_al (bl_al hA _) _)) | exact (bl_al (bl_al (bl_al hA _) _) _) | exact (bl_dr (bl_al (bl_al (bl_al hA _) _) _)) | exact (bl_al (bl_al (bl_al (bl_al hA _) _) _) _) | exact (bl_dr (bl_al (bl_al (bl_al (bl_al hA _) _) _) _)) | exact (bl_al (bl_al (bl_al (bl_al (bl_al hA _) _) _) _) _) | exact (bl_dr (bl_al (bl_al (bl_al (bl_al (bl_al hA _) _) _) _) _)) | exact (bl_al (bl_al (bl_al (bl_al (bl_al (bl_al hA _) _) _) _) _) _) | exact (bl_dr (bl_al (bl_al (bl_al (bl_al (bl_al (bl_al hA _) _) _) _) _) _)) | exact (bl_dr hA))) (hs.below (by first | exact hA | exact (bl_al hA _) | exact (bl_dr (bl_al hA _)) | exact (bl_al (bl_al hA _) _) | exact (bl_dr (bl_al (bl_al hA _) _)) | exact (bl_al (bl_al (bl_al hA _) _) _) | exact (bl_dr (bl_al (bl_al (bl_al hA _) _) _)) | exact (bl_al (bl_al (bl_al (bl_al hA _) _) _) _) | exact (bl_dr (bl_al (bl_al (bl_al (bl_al hA _) _) _) _)) | exact (bl_al (bl_al (bl_al (bl_al (bl_al hA _) _) _) _) _) | exact (bl_dr (bl_al (bl_al (bl_al (bl_al (bl_al hA _) _) _) _) _)) | exact (bl_al (bl_al (bl_al (bl_al (bl_al (bl_al hA _) _) _) _) _) _) | exact (bl_dr (bl_al (bl_al (bl_al (bl_al (bl_al (bl_al hA _) _) _) _) _) _)) | exact (bl_dr hA)))).mono ?_
    rintro e w2 ⟨⟨b1, cap1, l, rfl, hru1, hn1, hy1⟩, hb⟩
    have hk : Below w1.heap.size w1 w2 := by first | exact hb | exact bl_tr (bl_al (bl0 _) _) hb | exact bl_tr (bl_dr (bl_al (bl0 _) _)) hb | exact bl_tr (bl_al (bl_al (bl0 _) _) _) hb | exact bl_tr (bl_dr (bl_al (bl_al (bl0 _) _) _)) hb | exact bl_tr (bl_al (bl_al (bl_al (bl0 _) _) _) _) hb | exact bl_tr (bl_dr (bl_al (bl_al (bl_al (bl0 _) _) _) _)) hb | exact bl_tr (bl_al (bl_al (bl_al (bl_al (bl0 _) _) _) _) _) hb | exact bl_tr (bl_dr (bl_al (bl_al (bl_al (bl_al (bl0 _) _) _) _) _)) hb | exact bl_tr (bl_al (bl_al (bl_al (bl_al (bl_al (bl0 _) _) _) _) _) _) hb | exact bl_tr (bl_dr (bl_al (bl_al (bl_al (bl_al (bl_al (bl0 _) _) _) _) _) _)) hb | exact bl_tr (bl_al (bl_al (bl_al (bl_al (bl_al (bl_al (bl0 _) _) _) _) _) _) _) hb | exact bl_tr (bl_dr (bl_al (bl_al (bl_al (bl_al (bl_al (bl_al (bl0 _) _) _) _) _) _) _)) hb | exact bl_tr (bl_dr (bl0 _)) hb
    replace hA := bl_tr hA hk
    replace f0 := cell_later hk f0
    replace f1 := cell_later hk f1
    replace f2 := cell_later hk f2
    replace g0 := cell_later hk g0
    replace g1 := cell_later hk g1
    replace g2 := cell_later hk g2
    replace g3 := cell_later hk g3
    replace x0 := cell_later hk x0
    replace x1 := cell_later hk x1
    clear hb hk
    have zf0 := blk_lt f0
    have zf1 := blk_lt f1
    have zf2 := blk_lt f2
    have zg0 := blk_lt g0
    have zg1 := blk_lt g1
    have zg2 := blk_lt g2
    have zg3 := blk_lt g3
    have zx0 := blk_lt x0
    have zx1 := blk_lt x1
    obtain ⟨E1, hE1⟩ : ∃ E1, errW A B zs.length (X, Y, U, V) F = E1 := ⟨_, rfl⟩
    rw [hE1] at hn1 hy1 ⊢
    have HE1 := Lib.hid hE1
    have HY1 := Lib.hid hy1
    clear hE1 hy1
    by_cases h1 : E1 = 0
    case neg =>
      have h2 : (E1 != 0) = true := by rw [bne_iff_ne]; exact h1
      have hl0 := hn1 h1
      subst hl0
      clear h1 hn1
      go_wp2_with fail
      refine (awake8 _ (hs.below hA)).mono ?_
      rintro e w4 ⟨rfl, hb⟩
      have hA2 := bl_tr hA hb
      clear hb
      go_wp2
      go_ret
      exact ⟨rfl, hA2⟩
    case pos =>
      subst h1
      obtain ⟨hll, hf1⟩ := HY1.out rfl
      obtain ⟨hchk, hfit, hin1⟩ := errW_ok HE1.out
      obtain ⟨hmay, hn⟩ := chkF_may hchk
      obtain ⟨g1', g2', g3', g4', g5, g6, g7, g8⟩ := fitsB_iff.1 hfit
      obtain ⟨m1, m2, m3, m4⟩ := mayB_iff.1 hmay
      have hwAB : IntKind.i64.wrap (A * B) = (zs.length : Int) := by rw [hn]; exact IntWalk.i64_in _ (by have := area_bd hmay; omega)
      have k1 : ¬ (A < 1) := by omega
      have k2 : ¬ (B < 1) := by omega
      have k3 : ¬ (256 < A) := by omega
      have k4 : ¬ (256 < B) := by omega
      have lh : ((zs.length : Int) != (zs.length : Int)) = false := by simp
      have hfits := fun w => rfits8_yes A B X Y U V w hfit
      have hhas := fun (c : IC) (h : wf64 c.1 ∧ wf64 c.2) w => rhas8_any X Y U V c w g1' ⟨g5, g6⟩ h
      have hh1 := fun w => hhas F hF w
      rw [hin1] at hh1
      rw [hll]
      have HHAS := Lib.hid hhas
      have HLL := Lib.hid hll
      have HNN := Lib.hid hn
      have HF1 := Lib.hid hf1
      have HMAY := Lib.hid hmay
      have HFIT := Lib.hid hfit
      have HIN := Lib.hid hin1
      clear hn1 hll hf1 hchk hfit hin1 hmay hn g1' g2' g3' g4' g5 g6 g7 g8 m1 m2 m3 m4 hhas
      go_wp2_with fail
      refine (hfits _).mono ?_
      rintro e w3 ⟨rfl, hb⟩
      have hk : Below w2.heap.size w2 w3 := bl_tr (bl0 _) hb
      replace hA := bl_tr hA hk
      replace f0 := cell_later hk f0; replace f1 := cell_later hk f1; replace f2 := cell_later hk f2; replace g0 := cell_later hk g0; replace g1 := cell_later hk g1; replace g2 := cell_later hk g2; replace g3 := cell_later hk g3; replace x0 := cell_later hk x0; replace x1 := cell_later hk x1
      replace hru1 := hru1.below hk
      have zf := blk_lt f0
      have zg := blk_lt g0
      have zx := blk_lt x0
      clear hb hk hfits
      go_wp2_with fail
      refine (hh1 _).mono ?_
      rintro e w4 ⟨rfl, hb⟩
      have hk : Below w3.heap.size w3 w4 := bl_tr (bl0 _) hb
      replace hA := bl_tr hA hk
      replace f0 := cell_later hk f0; replace f1 := cell_later hk f1; replace f2 := cell_later hk f2; replace g0 := cell_later hk g0; replace g1 := cell_later hk g1; replace g2 := cell_later hk g2; replace g3 := cell_later hk g3; replace x0 := cell_later hk x0; replace x1 := cell_later hk x1
      replace hru1 := hru1.below hk
      have zf4 := blk_lt f0
      have zg4 := blk_lt g0
      have zx4 := blk_lt x0
      have q1 : 1 ≤ A := by omega
      have q2 : 1 ≤ B := by omega
      have q3 : A ≤ 256 := by omega
      have q4 : B ≤ 256 := by omega
      have hfar := HF1.out
      have hAU := far_allU hfar
      obtain ⟨i0, hi0⟩ : ∃ i, numN A F = i := ⟨_, rfl⟩
      rw [hi0] at hfar
      have HFAR := Lib.hid hfar
      have HI0 := Lib.hid hi0
      have HAU := Lib.hid hAU
      have HA4 := Lib.hid hA
      have HRH := Lib.hid (hr.below hA)
      have HRU := Lib.hid hru1
      have F0 := Lib.hid f0; have F1 := Lib.hid f1; have F2 := Lib.hid f2; have G0 := Lib.hid g0; have G1 := Lib.hid g1; have G2 := Lib.hid g2; have G3 := Lib.hid g3; have X0 := Lib.hid x0; have X1 := Lib.hid x1
      clear hb hk hh1 zf zg zx hfar hAU hi0 hru1 hr
      go_wp2_with fail
      clear hwAB k1 k2 k3 k4 lh f0 f1 f2 g0 g1 g2 g3 x0 x1 hA
      go_loopw [9] (fun i wr => ∃ k : Nat, (k : Int) ≤ B ∧ i = .int .i64 k ∧ Below w4.heap.size w4 wr) (fun i _ => (B - intOf i).toNat)
      case atStart => exact ⟨0, by omega, rfl, bl0 _⟩
      case round =>
        obtain ⟨y, hy, rfl, hB⟩ := hrel
        have hy0 : (0 : Int) ≤ (y : Int) := by omega
        by_cases hly : (y : Int) < B
        case neg =>
          have f1 := cell_later hB F1.out
          have hA5 := bl_tr HA4.out hB
          go_wp2_with fail
          refine (awake8 _ (hs.below hA5)).mono ?_
          rintro e w8 ⟨rfl, hb⟩
          have hA8 := bl_tr hA5 hb
          clear hb hA5 hB
          go_wp2
          go_ret
          exact ⟨rfl, hA8⟩
        case pos =>
          have f1 := cell_later hB F1.out
          have zf1 := blk_lt f1
          go_wp2_with fail
          have HB := Lib.hid hB
          clear hB f1 zf1
          go_loopw [10] (fun i wr => ∃ k : Nat, (k : Int) ≤ A ∧ i = .int .i64 k ∧ Below w4.heap.size w4 wr) (fun i _ => (A - intOf i).toNat)
          case atStart => exact ⟨0, by omega, rfl, HB.out⟩
          case round =>
            obtain ⟨x, hx, rfl, hB⟩ := hrel
            have hx0 : (0 : Int) ≤ (x : Int) := by omega
            have f0 := cell_later hB F0.out
            have f2 := cell_later hB F2.out
            have x0 := cell_later hB X0.out
            have x1 := cell_later hB X1.out
            have zf0 := blk_lt f0
            have zx0 := blk_lt x0
            by_cases hlx : (x : Int) < A
            case neg =>
              go_wp2
              go_roundw
              case rel => exact ⟨y + 1, by omega, by go_num, hB⟩
              case measure => simp [intOf]; omega
            case pos =>
              have on : onB A B ((x : Int), (y : Int)) = true := inB_iff.2 ⟨by omega, by omega, by omega, by omega, by first | omega | (dsimp only; omega), by first | omega | (dsimp only; omega), by first | omega | (dsimp only; omega), by first | omega | (dsimp only; omega)⟩
              obtain ⟨n1, n2⟩ := numN_int on
              have hil := numN_at on HNN.out
              obtain ⟨p1, p2, p3, p4, p5, p6, p7, p8⟩ := inB_iff.1 on
              obtain ⟨m1, m2⟩ := mul_bd p7 (by omega) p1 p2
              have hcell := cellN_num on
              obtain ⟨i, hi⟩ : ∃ i, numN A ((x : Int), (y : Int)) = i := ⟨_, rfl⟩
              rw [hi] at n1 hil hcell
              try dsimp only at n1 n2 m1 m2
              have hw1 : IntKind.i64.wrap ((y : Int) * A) = (y : Int) * A := IntWalk.i64_in _ (by omega)
              have hw2 : IntKind.i64.wrap ((y : Int) * A + (x : Int)) = (i : Int) := by rw [← n1]; exact IntWalk.i64_in _ (by omega)
              have i0' : (0 : Int) ≤ (i : Int) := by omega
              have i1' : (i : Int) < (zs.length : Int) := by omega
              have ON := Lib.hid on
              have HI := Lib.hid hi
              have HC := Lib.hid hcell
              have d1 : decide ((i : Int) < 0) = false := decide_eq_false (by omega)
              have d2 : decide ((zs.length : Int) ≤ (i : Int)) = false := decide_eq_false (by omega)
              have d3 : decide (zs.length ≤ i) = false := decide_eq_false (by omega)
              have heq : ∀ w, (Op.equalIn 10000 30 (.agg #[.int .i64 (x : Int), .int .i64 (y : Int)]) (.agg #[.int .i64 F.1, .int .i64 F.2])).run Tryd.prog w = .ok (decide (((x : Int), (y : Int)) = F)) w := fun w => eql_cell ((x : Int), (y : Int)) F w
              have hzr := getD_in hu i
              obtain ⟨gz, oz, r1, qi⟩ := (HRH.out.below hB).cell hil
              subst r1
              obtain ⟨g1, o1, r1, ql⟩ := (HRU.out.below hB).cell (show i < l.length by rw [HLL.out]; exact hil)
              subst r1
              rw [getD_get hil] at qi
              have zq1 := blk_lt qi
              have zq2 := blk_lt ql
              have HZ : ∀ e : ((x : Int), (y : Int)) = F, i = i0 := fun e => by rw [← HI.out, e]; exact HI0.out
              obtain ⟨z, hz⟩ : ∃ z, zs.getD i 0 = z := ⟨_, rfl⟩
              obtain ⟨t, ht⟩ : ∃ t, atD l i = t := ⟨_, rfl⟩
              rw [hz] at qi hzr
              rw [ht] at ql
              have HT := Lib.hid ht
              have HZZ := Lib.hid hz
              have HZI := Lib.hid HZ
              clear n1 n2 m1 m2 p1 p2 p3 p4 p5 p6 p7 p8 on hi hcell ht hz HZ hil
              go_upto_region 17 with fail
              generalize hW : World.alloc _ _ = W at *
              have c0 : W.cell? ⟨wr.heap.size, 0, none⟩ = some (.int .i64 (x : Int)) := by rw [← hW]; simp [go_sem]
              have c1 : W.cell? ⟨wr.heap.size, 1, none⟩ = some (.int .i64 (y : Int)) := by rw [← hW]; simp [go_sem]
              have hb5 : Below wr.heap.size wr W := by rw [← hW]; exact bl_al (bl0 _) _
              clear hW
              have hB5 := bl_tr hB hb5
              replace f0 := cell_later hb5 f0; replace x0 := cell_later hb5 x0; replace x1 := cell_later hb5 x1; replace ql := cell_later hb5 ql
              have g0 := cell_later hB5 G0.out; have g1' := cell_later hB5 G1.out; have g2 := cell_later hB5 G2.out; have g3 := cell_later hB5 G3.out
              replace zf0 := blk_lt f0; replace zx0 := blk_lt x0; replace zq2 := blk_lt ql
              have zg0 := blk_lt g0
              have zc := blk_lt c0
              obtain ⟨p, hp⟩ : ∃ p, wr.heap.size = p := ⟨_, rfl⟩
              rw [hp] at c0 c1 zc ⊢
              clear hp hb5 hB f2 qi zq1
              by_cases hcF : ((x : Int), (y : Int)) = F
              · simp only [decide_eq_true hcF] at heq
                by_cases hz0 : z = 0
                · subst hz0
                  have e : t = 18446744073709551615 := by
                    rw [← HT.out]; exact HFAR.out.wall i (fun h => (gphB_opn.1 h).2.2 HZZ.out)
                  subst e
                  go_wp2_with fail
                  go_roundw
                  case rel => exact ⟨x + 1, by omega, by go_num, hB5⟩
                  case measure => simp [intOf]; omega
                · have hz1 : 0 < z := by omega
                  have hop : (gphB A B (X, Y, U, V) zs).opn i := gphB_opn.2 ⟨by omega, by rw [HC.out, hcF]; exact HIN.out, by rw [HZZ.out]; exact hz0⟩
                  have hii := HZI.out hcF
                  have e : t = 0 := by
                    rw [← HT.out, hii]; rw [hii] at hop; exact HFAR.out.src hop
                  subst e
                  clear hop hii
                  go_wp2_with fail
                  go_roundw
                  case rel => exact ⟨x + 1, by omega, by go_num, hB5⟩
                  case measure => simp [intOf]; omega
              · simp only [decide_eq_false hcF] at heq
                by_cases hz0 : z = 0
                · subst hz0
                  have e : t = 18446744073709551615 := by
                    rw [← HT.out]; exact HFAR.out.wall i (fun h => (gphB_opn.1 h).2.2 HZZ.out)
                  subst e
                  go_wp2_with fail
                  go_roundw
                  case rel => exact ⟨x + 1, by omega, by go_num, hB5⟩
                  case measure => simp [intOf]; omega
                · have hz1 : 0 < z := by omega
                  have hhas := fun w => HHAS.out ((x : Int), (y : Int)) ⟨⟨by first | omega | (dsimp only; omega), by first | omega | (dsimp only; omega)⟩, ⟨by first | omega | (dsimp only; omega), by first | omega | (dsimp only; omega)⟩⟩ w
                  dsimp only at hhas
                  obtain ⟨bi, hbi⟩ : ∃ bi, inBx (X, Y, U, V) ((x : Int), (y : Int)) = bi := ⟨_, rfl⟩
                  rw [hbi] at hhas
                  have HBI := Lib.hid hbi
                  clear hbi
                  go_wp2_with fail
                  refine (hhas _).mono ?_
                  rintro e w7 ⟨rfl, hb⟩
                  have hk : Below W.heap.size W w7 := bl_tr (bl0 _) hb
                  replace f0 := cell_later hk f0; replace ql := cell_later hk ql; replace c0 := cell_later hk c0; replace c1 := cell_later hk c1
                  replace zf0 := blk_lt f0; replace zq2 := blk_lt ql; replace zc := blk_lt c0
                  have hB7 := bl_tr hB5 hk
                  clear hb hk hB5 heq x0 x1 zx0 g0 g1' g2 g3 zg0 hhas
                  cases bi
                  · have e : t = 18446744073709551615 := by
                      rw [← HT.out]; exact HFAR.out.wall i (fun h => by have := (gphB_opn.1 h).2.1; rw [HC.out, HBI.out] at this; cases this)
                    subst e
                    go_wp2_with fail
                    go_roundw
                    case rel => exact ⟨x + 1, by omega, by go_num, hB7⟩
                    case measure => simp [intOf]; omega
                  · go_wp2_with fail
                    have C0 := Lib.hid c0; have C1 := Lib.hid c1; have FF0 := Lib.hid f0; have QL := Lib.hid ql; have HB7 := Lib.hid hB7
                    clear c0 c1 f0 ql hB7 zf0 zq2 zc
                    have wz : wantK A (X, Y, U, V) l ((x : Int), (y : Int)) z 0 = 18446744073709551615 := rfl
                    go_loopw [13, 14] (fun v d wr => ∃ k : Nat, k ≤ 4 ∧ d = .int .i64 k ∧ v = .int .u64 (wantK A (X, Y, U, V) l ((x : Int), (y : Int)) z k) ∧ Below w7.heap.size w7 wr) (fun _ d _ => 4 - (intOf d).toNat)
                    case atStart => exact ⟨0, by omega, rfl, rfl, bl0 _⟩
                    case round =>
                      obtain ⟨k, hk4, rfl, rfl, hB8⟩ := hrel
                      have hk0 : (0 : Int) ≤ (k : Int) := by omega
                      by_cases hlk : k < 4
                      · have hlk2 : (k : Int) < 4 := by omega
                        have hBA := bl_tr HB7.out hB8
                        have f0 := cell_later hBA F0.out; have f1 := cell_later hBA F1.out; have f2 := cell_later hBA F2.out
                        have g0 := cell_later hBA G0.out; have g1' := cell_later hBA G1.out; have g2 := cell_later hBA G2.out; have g3 := cell_later hBA G3.out
                        have c0 := cell_later hB8 C0.out; have c1 := cell_later hB8 C1.out
                        have hru := HRU.out.below hBA
                        clear hBA
                        obtain ⟨v, hv⟩ : ∃ v, wantK A (X, Y, U, V) l ((x : Int), (y : Int)) z k = v := ⟨_, rfl⟩
                        have hst := fun w => rstep8_any (x : Int) (y : Int) (k : Int) w (plainB_iff.2 ⟨by omega, by omega, by omega, by omega⟩) hk0 hlk2
                        obtain ⟨n, hn⟩ : ∃ n : IC, stepI ((x : Int), (y : Int)) (k : Int) = n := ⟨_, rfl⟩
                        have hwf : wf64 n.1 ∧ wf64 n.2 := by
                          rw [← hn]
                          unfold wf64
                          have hk5 : (k : Int) = 0 ∨ (k : Int) = 1 ∨ (k : Int) = 2 ∨ (k : Int) = 3 := by omega
                          rcases hk5 with q | q | q | q <;> rw [q] <;> simp [stepI, dxI, dyI] <;> omega
                        rw [hn] at hst
                        have hat := fun w (hr : RowU w (some ⟨g1, o1, none⟩) l) => at8_any A B (some ⟨gz, oz, none⟩) (some ⟨g1, o1, none⟩) zs.length cap cap1 l X Y U V n w HFIT.out (by rw [HLL.out]; exact HNN.out) hr hwf
                        rw [HLL.out] at hat
                        obtain ⟨m, hm⟩ : ∃ m, atBx A (X, Y, U, V) l n = m := ⟨_, rfl⟩
                        rw [hm] at hat
                        have hmin : inU m := by rw [← hm]; exact atBx_in HAU.out
                        have hadd := fun W => add_any m z W hmin ⟨hzr.1, by omega⟩
                        obtain ⟨sm, hsm⟩ : ∃ sm, addC m z = sm := ⟨_, rfl⟩
                        rw [hsm] at hadd
                        have hwz : IntKind.u64.wrap z = z := IntWalk.u64_in _ (by omega)
                        have hwk : wantK A (X, Y, U, V) l ((x : Int), (y : Int)) z (k + 1) = if sm < v then sm else v := by
                          show (if addC (atBx A (X, Y, U, V) l (stepI ((x : Int), (y : Int)) (k : Int))) z < wantK A (X, Y, U, V) l ((x : Int), (y : Int)) z k then addC (atBx A (X, Y, U, V) l (stepI ((x : Int), (y : Int)) (k : Int))) z else wantK A (X, Y, U, V) l ((x : Int), (y : Int)) z k) = _
                          rw [hn, hm, hsm, hv]
                        rw [hv]
                        have HWK := Lib.hid hwk
                        clear hwk hv hn hm hsm hmin hwf wz
                        go_upto_region 23 with fail
                        have hB := bl_dr (bl0 wr)
                        go_region_held3 (fun W => W.cell? ⟨w.heap.size, 0, none⟩ = some (.int .i64 A) ∧ W.cell? ⟨w.heap.size, 1, none⟩ = some (.int .i64 B) ∧ W.cell? ⟨w.heap.size, 2, none⟩ = some (.slice (some ⟨gz, oz, none⟩) zs.length cap) ∧ W.cell? ⟨w.heap.size + 1, 0, none⟩ = some (.int .i64 X) ∧ W.cell? ⟨w.heap.size + 1, 1, none⟩ = some (.int .i64 Y) ∧ W.cell? ⟨w.heap.size + 1, 2, none⟩ = some (.int .i64 U) ∧ W.cell? ⟨w.heap.size + 1, 3, none⟩ = some (.int .i64 V) ∧ W.cell? ⟨p, 0, none⟩ = some (.int .i64 (x : Int)) ∧ W.cell? ⟨p, 1, none⟩ = some (.int .i64 (y : Int)))
                          (exact ⟨cell_later hB f0, cell_later hB f1, cell_later hB f2, cell_later hB g0, cell_later hB g1', cell_later hB g2, cell_later hB g3, cell_later hB c0, cell_later hB c1⟩)
                          (first
                            | (go_at_call 28; (with_reducible refine (hst _).mono ?_); rintro e W2 ⟨rfl, hb⟩; replace hB := bl_tr hB hb; clear hb)
                            | (go_at_call 27; (with_reducible refine (hat _ (hru.below hB)).mono ?_); rintro e W2 ⟨rfl, hb⟩; replace hB := bl_tr hB hb; clear hb)
                            | (go_at_call 26; (with_reducible refine (hadd _).mono ?_); rintro e W2 ⟨rfl, rfl⟩))
                        all_goals
                          have HB9 := Lib.hid (bl_tr hB8 hB)
                          clear hB hB8 f0 f1 f2 g0 g1' g2 g3 c0 c1 hru hst hat hadd hwz
                          by_cases hsv : sm < v
                          · have HW := Lib.hid (HWK.out.trans (if_pos hsv))
                            go_wp2_with fail
                            go_roundw
                            case rel => exact ⟨k + 1, by omega, by go_num, by rw [HW.out], HB9.out⟩
                            case measure => simp [intOf]; omega
                          · have HW := Lib.hid (HWK.out.trans (if_neg hsv))
                            go_wp2_with fail
                            go_roundw
                            case rel => exact ⟨k + 1, by omega, by go_num, by rw [HW.out], HB9.out⟩
                            case measure => simp [intOf]; omega
                      · obtain rfl : k = 4 := by omega
                        have hcF2 : numN A ((x : Int), (y : Int)) ≠ i0 := fun q => hcF (by
                          have e1 := HC.out
                          rw [HI.out] at q
                          rw [q, ← HI0.out, cellN_num (box_on (b := (X, Y, U, V)) HFIT.out HIN.out)] at e1
                          exact e1.symm)
                        have e := near_eq HNN.out hu HFIT.out HFAR.out ON.out HBI.out (by rw [HI.out, HZZ.out]; exact hz0) hcF2
                        rw [HI.out, HZZ.out, HT.out] at e
                        rw [e]
                        have bse : (t != t) = false := by simp
                        have f0 := cell_later hB8 FF0.out
                        have ql := cell_later hB8 QL.out
                        have hB9 := bl_tr HB7.out hB8
                        clear e hB8 wz hcF2
                        go_wp2_with fail
                        go_roundw
                        case rel => exact ⟨x + 1, by omega, by go_num, hB9⟩
                        case measure => simp [intOf]; omega
end Go.Proofs.YtjkecdghlpeigaaDoor
