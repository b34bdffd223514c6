/- SightHangs: the law's walk where all is right. -/
import Derived.Test.YthebiibiapjdiaaLhangs
import Derived.Test.YthebiibiapjdiaaQ4
namespace Go.Proofs.Ythebiibiapjdiaa
open Go.RowKit

set_option maxRecDepth 100000 in
set_option maxHeartbeats 8000000 in
theorem hangs_yes (A B r : Int) (a a2 a3 : Option Addr) (c c2 c3 : Nat) (fs gs : List Int) (zs : List (Int × Int)) (w : World) (hr : RowH w a fs) (hr2 : RowH w a2 gs) (hz : RowC w a3 zs) (h1 : smallB A B fs.length = true) (h2 : smallB A B gs.length = true) (hl : zs.length ≤ 6) (h3 : chkF A B fs.length = 0) (h4 : chkF A B gs.length = 0) (h5 : errA A B fs.length r zs = 0) :
    Calls Try.prog 4 #[.agg #[.int .i64 A, .int .i64 B, .slice a fs.length c], .agg #[.int .i64 A, .int .i64 B, .slice a2 gs.length c2], .agg #[.slice a3 zs.length c3, .int .i64 r]] w fun e w' => e = .returned (.bool true) ∧ Below w.heap.size w w' := by
  have hA := bl0 w
  obtain ⟨i0, hi, hz0, hz1, hz2⟩ := info_parts Try.infoH
  obtain ⟨_, hp0, hp1, hin⟩ := errA_ok h5
  obtain ⟨hmay, harea⟩ := chk_ok h3
  obtain ⟨_, harea2⟩ := chk_ok h4
  have hsame : gs.length = fs.length := by omega
  have hlen : fs.length ≤ 600 := by
    unfold smallB at h1
    rw [Bool.and_eq_true, decide_eq_true_eq] at h1
    omega
  have H1 := Lib.hid h1
  have H2 := Lib.hid h2
  have H3 := Lib.hid h3
  have H4 := Lib.hid h4
  have H5 := Lib.hid h5
  have HSAME := Lib.hid hsame
  have hl2 : (zs.length : Int) ≤ 6 := by omega
  have hne : ((A == A) && (B == B)) = true := by simp
  obtain ⟨ms, hms⟩ : ∃ ms, allB A B fs r zs = ms := ⟨_, rfl⟩
  have HMS := Lib.hid hms
  have hgood := allB_good (r := r) (fs := fs) hmay hin
  rw [hms] at hgood
  have HMIX := Lib.hid (allB_mix (r := r) (gs := gs) hmay harea hin hp0 hp1)
  rw [hms] at HMIX
  obtain ⟨hs, hhs⟩ : ∃ hs, mixF A B ms fs gs = hs := ⟨_, rfl⟩
  have hhl : hs.length = fs.length := by rw [← hhs, mixF_len]
  have HTAKE := Lib.hid (fun i (hi : i < fs.length) => by have h := mixF_take (X := A) (Y := B) (ms := ms) (gs := gs) hi; rw [hhs] at h; exact h)
  rw [hhs] at HMIX
  have HAREA := Lib.hid harea
  clear h1 h2 h3 h4 h5 hms hhs hsame harea harea2
  go_enter Try.func4, Try.ntmps4
  go_wp2_with fail
  refine (small_any _ _ _ _ _ _).mono ?_
  rintro e w1 ⟨rfl, hb⟩
  have hk : Below w.heap.size w w1 := by first | exact hb | exact bl_tr (bl_al (bl0 _) _) hb | exact bl_tr (bl_dr (bl_al (bl0 _) _)) hb | exact bl_tr (bl_al (bl_al (bl0 _) _) _) hb | exact bl_tr (bl_dr (bl_al (bl_al (bl0 _) _) _)) hb | exact bl_tr (bl_al (bl_al (bl_al (bl0 _) _) _) _) hb | exact bl_tr (bl_dr (bl_al (bl_al (bl_al (bl0 _) _) _) _)) hb | exact bl_tr (bl_al (bl_al (bl_al (bl_al (bl0 _) _) _) _) _) hb | exact bl_tr (bl_dr (bl_al (bl_al (bl_al (bl_al (bl0 _) _) _) _) _)) hb | exact bl_tr (bl_al (bl_al (bl_al (bl_al (bl_al (bl0 _) _) _) _) _) _) hb | exact bl_tr (bl_dr (bl_al (bl_al (bl_al (bl_al (bl_al (bl0 _) _) _) _) _) _)) hb | exact bl_tr (bl_al (bl_al (bl_al (bl_al (bl_al (bl_al (bl0 _) _) _) _) _) _) _) hb | exact bl_tr (bl_dr (bl_al (bl_al (bl_al (bl_al (bl_al (bl_al (bl0 _) _) _) _) _) _) _)) hb | exact bl_tr (bl_dr (bl0 _)) hb
  replace hA := bl_tr hA hk
  have f0 := cell_later hb (v := .int .i64 A) (a := ⟨w.heap.size, 0, none⟩) (by simp [go_sem])
  have f1 := cell_later hb (v := .int .i64 B) (a := ⟨w.heap.size, 1, none⟩) (by simp [go_sem])
  have f2 := cell_later hb (v := .slice a fs.length c) (a := ⟨w.heap.size, 2, none⟩) (by simp [go_sem])
  have g0 := cell_later hb (v := .int .i64 A) (a := ⟨w.heap.size + 1, 0, none⟩) (by simp [go_sem])
  have g1 := cell_later hb (v := .int .i64 B) (a := ⟨w.heap.size + 1, 1, none⟩) (by simp [go_sem])
  have g2 := cell_later hb (v := .slice a2 gs.length c2) (a := ⟨w.heap.size + 1, 2, none⟩) (by simp [go_sem])
  have x0 := cell_later hb (v := .slice a3 zs.length c3) (a := ⟨w.heap.size + 1 + 1, 0, none⟩) (by simp [go_sem])
  have x1 := cell_later hb (v := .int .i64 r) (a := ⟨w.heap.size + 1 + 1, 1, none⟩) (by simp [go_sem])
  clear hb hk
  have zf0 := blk_lt f0
  have zf1 := blk_lt f1
  have zf2 := blk_lt f2
  have zg0 := blk_lt g0
  have zg1 := blk_lt g1
  have zg2 := blk_lt g2
  have zx0 := blk_lt x0
  have zx1 := blk_lt x1
  rw [H1.out]
  go_wp2_with fail
  refine (small_any _ _ _ _ _ _).mono ?_
  rintro e w2 ⟨rfl, hb⟩
  have hk : Below w1.heap.size w1 w2 := by first | exact hb | exact bl_tr (bl_al (bl0 _) _) hb | exact bl_tr (bl_dr (bl_al (bl0 _) _)) hb | exact bl_tr (bl_al (bl_al (bl0 _) _) _) hb | exact bl_tr (bl_dr (bl_al (bl_al (bl0 _) _) _)) hb | exact bl_tr (bl_al (bl_al (bl_al (bl0 _) _) _) _) hb | exact bl_tr (bl_dr (bl_al (bl_al (bl_al (bl0 _) _) _) _)) hb | exact bl_tr (bl_al (bl_al (bl_al (bl_al (bl0 _) _) _) _) _) hb | exact bl_tr (bl_dr (bl_al (bl_al (bl_al (bl_al (bl0 _) _) _) _) _)) hb | exact bl_tr (bl_al (bl_al (bl_al (bl_al (bl_al (bl0 _) _) _) _) _) _) hb | exact bl_tr (bl_dr (bl_al (bl_al (bl_al (bl_al (bl_al (bl0 _) _) _) _) _) _)) hb | exact bl_tr (bl_al (bl_al (bl_al (bl_al (bl_al (bl_al (bl0 _) _) _) _) _) _) _) hb | exact bl_tr (bl_dr (bl_al (bl_al (bl_al (bl_al (bl_al (bl_al (bl0 _) _) _) _) _) _) _)) hb | exact bl_tr (bl_dr (bl0 _)) hb
  replace hA := bl_tr hA hk
  replace f0 := cell_later hk f0
  replace f1 := cell_later hk f1
  replace f2 := cell_later hk f2
  replace g0 := cell_later hk g0
  replace g1 := cell_later hk g1
  replace g2 := cell_later hk g2
  replace x0 := cell_later hk x0
  replace x1 := cell_later hk x1
  clear hb hk
  have zf0 := blk_lt f0
  have zf1 := blk_lt f1
  have zf2 := blk_lt f2
  have zg0 := blk_lt g0
  have zg1 := blk_lt g1
  have zg2 := blk_lt g2
  have zx0 := blk_lt x0
  have zx1 := blk_lt x1
  rw [H2.out]
  go_wp2_with fail
  refine (check_any _ _ _ _ _ _).mono ?_
  rintro e w3 ⟨rfl, hb⟩
  have hk : Below w2.heap.size w2 w3 := by first | exact hb | exact bl_tr (bl_al (bl0 _) _) hb | exact bl_tr (bl_dr (bl_al (bl0 _) _)) hb | exact bl_tr (bl_al (bl_al (bl0 _) _) _) hb | exact bl_tr (bl_dr (bl_al (bl_al (bl0 _) _) _)) hb | exact bl_tr (bl_al (bl_al (bl_al (bl0 _) _) _) _) hb | exact bl_tr (bl_dr (bl_al (bl_al (bl_al (bl0 _) _) _) _)) hb | exact bl_tr (bl_al (bl_al (bl_al (bl_al (bl0 _) _) _) _) _) hb | exact bl_tr (bl_dr (bl_al (bl_al (bl_al (bl_al (bl0 _) _) _) _) _)) hb | exact bl_tr (bl_al (bl_al (bl_al (bl_al (bl_al (bl0 _) _) _) _) _) _) hb | exact bl_tr (bl_dr (bl_al (bl_al (bl_al (bl_al (bl_al (bl0 _) _) _) _) _) _)) hb | exact bl_tr (bl_al (bl_al (bl_al (bl_al (bl_al (bl_al (bl0 _) _) _) _) _) _) _) hb | exact bl_tr (bl_dr (bl_al (bl_al (bl_al (bl_al (bl_al (bl_al (bl0 _) _) _) _) _) _) _)) hb | exact bl_tr (bl_dr (bl0 _)) hb
  replace hA := bl_tr hA hk
  replace f0 := cell_later hk f0
  replace f1 := cell_later hk f1
  replace f2 := cell_later hk f2
  replace g0 := cell_later hk g0
  replace g1 := cell_later hk g1
  replace g2 := cell_later hk g2
  replace x0 := cell_later hk x0
  replace x1 := cell_later hk x1
  clear hb hk
  have zf0 := blk_lt f0
  have zf1 := blk_lt f1
  have zf2 := blk_lt f2
  have zg0 := blk_lt g0
  have zg1 := blk_lt g1
  have zg2 := blk_lt g2
  have zx0 := blk_lt x0
  have zx1 := blk_lt x1
  rw [H3.out]
  go_wp2_with fail
  refine (check_any _ _ _ _ _ _).mono ?_
  rintro e w4 ⟨rfl, hb⟩
  have hk : Below w3.heap.size w3 w4 := by first | exact hb | exact bl_tr (bl_al (bl0 _) _) hb | exact bl_tr (bl_dr (bl_al (bl0 _) _)) hb | exact bl_tr (bl_al (bl_al (bl0 _) _) _) hb | exact bl_tr (bl_dr (bl_al (bl_al (bl0 _) _) _)) hb | exact bl_tr (bl_al (bl_al (bl_al (bl0 _) _) _) _) hb | exact bl_tr (bl_dr (bl_al (bl_al (bl_al (bl0 _) _) _) _)) hb | exact bl_tr (bl_al (bl_al (bl_al (bl_al (bl0 _) _) _) _) _) hb | exact bl_tr (bl_dr (bl_al (bl_al (bl_al (bl_al (bl0 _) _) _) _) _)) hb | exact bl_tr (bl_al (bl_al (bl_al (bl_al (bl_al (bl0 _) _) _) _) _) _) hb | exact bl_tr (bl_dr (bl_al (bl_al (bl_al (bl_al (bl_al (bl0 _) _) _) _) _) _)) hb | exact bl_tr (bl_al (bl_al (bl_al (bl_al (bl_al (bl_al (bl0 _) _) _) _) _) _) _) hb | exact bl_tr (bl_dr (bl_al (bl_al (bl_al (bl_al (bl_al (bl_al (bl0 _) _) _) _) _) _) _)) hb | exact bl_tr (bl_dr (bl0 _)) hb
  replace hA := bl_tr hA hk
  replace f0 := cell_later hk f0
  replace f1 := cell_later hk f1
  replace f2 := cell_later hk f2
  replace g0 := cell_later hk g0
  replace g1 := cell_later hk g1
  replace g2 := cell_later hk g2
  replace x0 := cell_later hk x0
  replace x1 := cell_later hk x1
  clear hb hk
  have zf0 := blk_lt f0
  have zf1 := blk_lt f1
  have zf2 := blk_lt f2
  have zg0 := blk_lt g0
  have zg1 := blk_lt g1
  have zg2 := blk_lt g2
  have zx0 := blk_lt x0
  have zx1 := blk_lt x1
  rw [H4.out]
  go_wp2_with fail
  refine (sall_yes _ _ _ _ _ _ _ fs zs _ (hr.below hA) (hz.below hA) (by omega) H5.out).mono ?_
  rintro e w5 ⟨b1, q1, rfl, hm1, hb1, hq1, hbq1, hb⟩
  have hk : Below w4.heap.size w4 w5 := by first | exact hb | exact bl_tr (bl_al (bl0 _) _) hb | exact bl_tr (bl_dr (bl_al (bl0 _) _)) hb | exact bl_tr (bl_al (bl_al (bl0 _) _) _) hb | exact bl_tr (bl_dr (bl_al (bl_al (bl0 _) _) _)) hb | exact bl_tr (bl_al (bl_al (bl_al (bl0 _) _) _) _) hb | exact bl_tr (bl_dr (bl_al (bl_al (bl_al (bl0 _) _) _) _)) hb | exact bl_tr (bl_al (bl_al (bl_al (bl_al (bl0 _) _) _) _) _) hb | exact bl_tr (bl_dr (bl_al (bl_al (bl_al (bl_al (bl0 _) _) _) _) _)) hb | exact bl_tr (bl_al (bl_al (bl_al (bl_al (bl_al (bl0 _) _) _) _) _) _) hb | exact bl_tr (bl_dr (bl_al (bl_al (bl_al (bl_al (bl_al (bl0 _) _) _) _) _) _)) hb | exact bl_tr (bl_al (bl_al (bl_al (bl_al (bl_al (bl_al (bl0 _) _) _) _) _) _) _) hb | exact bl_tr (bl_dr (bl_al (bl_al (bl_al (bl_al (bl_al (bl_al (bl0 _) _) _) _) _) _) _)) hb | exact bl_tr (bl_dr (bl0 _)) hb
  replace hA := bl_tr hA hk
  replace f0 := cell_later hk f0
  replace f1 := cell_later hk f1
  replace f2 := cell_later hk f2
  replace g0 := cell_later hk g0
  replace g1 := cell_later hk g1
  replace g2 := cell_later hk g2
  replace x0 := cell_later hk x0
  replace x1 := cell_later hk x1
  clear hb hk
  have zf0 := blk_lt f0
  have zf1 := blk_lt f1
  have zf2 := blk_lt f2
  have zg0 := blk_lt g0
  have zg1 := blk_lt g1
  have zg2 := blk_lt g2
  have zx0 := blk_lt x0
  have zx1 := blk_lt x1
  rw [HMS.out] at hm1
  go_wp2_with fail
  obtain ⟨w6, hw6⟩ : ∃ w6, w5.alloc (.cells #[.int .i64 A, .int .i64 B, .slice none 0 0] 26) = w6 := ⟨_, rfl⟩
  rw [hw6]
  have hz6 : w6.heap.size = w5.heap.size + 1 := by rw [← hw6]; simp
  have hb6 : Below w5.heap.size w5 w6 := by rw [← hw6]; exact bl_al (bl0 _) _
  have hF6 : FAt w6 w5.heap.size (.int .i64 A) (.int .i64 B) (.slice none 0 0) := by rw [← hw6]; exact fAt_new _ _ _ _
  clear hw6
  replace f0 := cell_later hb6 f0
  replace f1 := cell_later hb6 f1
  replace f2 := cell_later hb6 f2
  replace g0 := cell_later hb6 g0
  replace g1 := cell_later hb6 g1
  replace g2 := cell_later hb6 g2
  replace x0 := cell_later hb6 x0
  replace x1 := cell_later hb6 x1
  obtain ⟨lm1, lm2⟩ := hm1.lt
  replace hm1 := hm1.below hb6
  have hA6 := bl_tr hA hb6
  have zw5 := hA.size
  clear hb6 hA
  have F0 := Lib.hid f0
  have F1 := Lib.hid f1
  have F2 := Lib.hid f2
  have G0 := Lib.hid g0
  have G1 := Lib.hid g1
  have G2 := Lib.hid g2
  have X0 := Lib.hid x0
  have X1 := Lib.hid x1
  clear f0 f1 f2 g0 g1 g2 x0 x1
  go_loopw [10] (fun i wr => ∃ k : Nat, k ≤ fs.length ∧ i = .int .i64 k ∧ FieldG wr w6.heap.size w5.heap.size A B (hs.take k) ∧ w6.grownBy wr (some w5.heap.size)) (fun i _ => fs.length - (intOf i).toNat)
  case atStart => exact ⟨0, Nat.zero_le _, rfl, ⟨_, hF6, World.ownsRow_nil _ _ _ _⟩, World.grownBy.refl _ _⟩
  case round =>
    obtain ⟨k, hk, rfl, ⟨v, hFA, hv⟩, hG⟩ := hrel
    have f0 := hG.cell F0.out (by simp; omega)
    have f1 := hG.cell F1.out (by simp; omega)
    have f2 := hG.cell F2.out (by simp; omega)
    have g2 := hG.cell G2.out (by simp; omega)
    have zf0 := blk_lt f0
    have zg2 := blk_lt g2
    have hk0 : (0 : Int) ≤ (k : Int) := by omega
    by_cases hlt : k < fs.length
    · have hlt2 : (k : Int) < (fs.length : Int) := by omega
      obtain ⟨hat1, hat2, hat3⟩ := atC_num (i := k) hmay (by rw [← HAREA.out]; exact hlt2)
      have HN := Lib.hid (HTAKE.out k hlt)
      have hlk : (hs.take k).length = k := by rw [List.length_take]; omega
      have HHAS := Lib.hid (show inM A B ms (atC A k) = inM A B ms ((k : Int) % A, (k : Int) / A) from rfl)
      go_wp2_with fail
      refine (at_yes A B k _ hat3).mono ?_
      rintro e w7 ⟨rfl, hb7⟩
      have hG7 : w6.grownBy w7 (some w5.heap.size) := hG.trans (grown_weak (grown_of_below hb7) _)
      have hm7 : MaskAt w7 b1 q1 A B ms := hm1.kept hG7 (by simp; omega) (by simp; omega)
      replace f2 := cell_later hb7 f2
      replace g2 := cell_later hb7 g2
      replace hFA := hFA.later hb7 hFA.lt
      replace hv := own_later hv hb7
      clear hG hb7 f0 f1 zf0
      go_wp2_with fail
      refine (has_all b1 q1 A B _ _ ms _ (hm7.below (bl_al (bl0 _) _)) hgood).mono ?_
      rintro e w8 ⟨rfl, hb8⟩
      have hb8' := bl_tr (bl_al (bl0 w7) _) hb8
      rw [← HHAS.out]
      replace f2 := cell_later hb8' f2
      replace g2 := cell_later hb8' g2
      have FA := Lib.hid (hFA.later hb8' hFA.lt)
      have HV := Lib.hid (own_later hv hb8')
      have HG8 := Lib.hid (hG7.trans (grown_weak (grown_of_below hb8') _))
      have hA8 := (hA6.grown HG8.out hA6.size (fun r e => by cases e; omega))
      have hrf := hr.below hA8
      have hrg := hr2.below hA8
      clear hFA hv hG7 hm7 hb8 hb8'
      clear hrf hrg
      obtain ⟨gbfs, gofs, rfl, qf⟩ := hr.cell hlt
      obtain ⟨gbgs, gogs, rfl, qg⟩ := hr2.cell (by rw [HSAME.out]; exact hlt)
      have zqf := blk_lt qf
      have zqg := blk_lt qg
      replace qf := cell_later hA8 qf
      replace qg := cell_later hA8 qg
      cases hin8 : inM A B ms (atC A k)
      · obtain ⟨z, hzz⟩ : ∃ z, gs[k]'(by rw [HSAME.out]; exact hlt) = z := ⟨_, rfl⟩
        have HZ := Lib.hid (show hs.take (k + 1) = hs.take k ++ [z] by rw [HN.out, if_neg (by rw [hin8]; decide)]; simp [← hzz, show k < gs.length by rw [HSAME.out]; exact hlt])
        rw [hzz] at qg
        have qz := qg
        have hltg : (k : Int) < (gs.length : Int) := by rw [HSAME.out]; exact hlt2
        clear hzz hin8 HN qf f2

        go_upto_region 16 with fail
        refine (wpIn_wide (n := 11)).1 ?_
        have hD := bl_dr (bl0 w8)
        refine ordZ_begin (z := 10) (S := (fun w' : World => w'.cell? ⟨w5.heap.size, 2, none⟩ = some v ∧ w'.cell? ⟨w.heap.size + 1, 2, none⟩ = some (.slice (some ⟨gbgs, gogs, none⟩) gs.length c2) ∧ w'.cell? ⟨gbgs, gogs + k, none⟩ = some (.int .u16 z))) (by kernel_rfl) ⟨cell_later hD (FA.out).c2, cell_later hD g2, cell_later hD qz⟩ (fun hH => ?_)
        first
          | (refine' ordZ_take (i := 0) (oi := { dst := some 90, op := Op.fieldAddr 26 (Operand.tmp 9) 1, type := 0, pos := _, after := #[], guard := none }) (v := _) rfl (by kernel_rfl) (by kernel_rfl) (by kernel_rfl) (by kernel_rfl) (fun _ _ _ h => h) (by assumption) (by kernel_rfl) (by decide) (by rfl) (Or.inl ⟨by rfl, ?hy1⟩) (fun _ => rfl) ?rest1
             case hy1 => (intro w hSw; (try dsimp only at hSw); go_simp; try with_reducible rfl))
          | (refine ordZ_take (i := 0) (oi := { dst := some 90, op := Op.fieldAddr 26 (Operand.tmp 9) 1, type := 0, pos := _, after := #[], guard := none }) (v := undef) rfl (by kernel_rfl) (by kernel_rfl) (by kernel_rfl) (by kernel_rfl) (fun _ _ _ h => h) (by assumption) (by kernel_rfl) (by decide) (by rfl) (Or.inr ⟨by rfl, rfl⟩) (fun _ => rfl) ?_)
        try simp only [Act.put, List.setIfInBounds_toArray, List.set_cons_zero, List.set_cons_succ]
        first
          | (refine' ordZ_take (i := 1) (oi := { dst := some 91, op := Op.load 24 (Operand.tmp 90), type := 24, pos := _, after := #[{ on := 0, ground := Ground.data }], guard := none }) (v := _) rfl (by kernel_rfl) (by kernel_rfl) (by kernel_rfl) (by kernel_rfl) (fun _ _ _ h => h) (by assumption) (by kernel_rfl) (by decide) (by rfl) (Or.inl ⟨by rfl, ?hy2⟩) (fun _ => rfl) ?rest2
             case hy2 => (intro w hSw; (try dsimp only at hSw); go_simp; try with_reducible rfl))
          | (refine ordZ_take (i := 1) (oi := { dst := some 91, op := Op.load 24 (Operand.tmp 90), type := 24, pos := _, after := #[{ on := 0, ground := Ground.data }], guard := none }) (v := undef) rfl (by kernel_rfl) (by kernel_rfl) (by kernel_rfl) (by kernel_rfl) (fun _ _ _ h => h) (by assumption) (by kernel_rfl) (by decide) (by rfl) (Or.inr ⟨by rfl, rfl⟩) (fun _ => rfl) ?_)
        try simp only [Act.put, List.setIfInBounds_toArray, List.set_cons_zero, List.set_cons_succ]
        first
          | (refine' ordZ_take (i := 2) (oi := { dst := some 92, op := Op.fieldAddr 26 (Operand.tmp 4) 1, type := 0, pos := _, after := #[], guard := none }) (v := _) rfl (by kernel_rfl) (by kernel_rfl) (by kernel_rfl) (by kernel_rfl) (fun _ _ _ h => h) (by assumption) (by kernel_rfl) (by decide) (by rfl) (Or.inl ⟨by rfl, ?hy3⟩) (fun _ => rfl) ?rest3
             case hy3 => (intro w hSw; (try dsimp only at hSw); go_simp; try with_reducible rfl))
          | (refine ordZ_take (i := 2) (oi := { dst := some 92, op := Op.fieldAddr 26 (Operand.tmp 4) 1, type := 0, pos := _, after := #[], guard := none }) (v := undef) rfl (by kernel_rfl) (by kernel_rfl) (by kernel_rfl) (by kernel_rfl) (fun _ _ _ h => h) (by assumption) (by kernel_rfl) (by decide) (by rfl) (Or.inr ⟨by rfl, rfl⟩) (fun _ => rfl) ?_)
        try simp only [Act.put, List.setIfInBounds_toArray, List.set_cons_zero, List.set_cons_succ]
        first
          | (refine' ordZ_take (i := 3) (oi := { dst := some 93, op := Op.load 24 (Operand.tmp 92), type := 24, pos := _, after := #[{ on := 2, ground := Ground.data }], guard := none }) (v := _) rfl (by kernel_rfl) (by kernel_rfl) (by kernel_rfl) (by kernel_rfl) (fun _ _ _ h => h) (by assumption) (by kernel_rfl) (by decide) (by rfl) (Or.inl ⟨by rfl, ?hy4⟩) (fun _ => rfl) ?rest4
             case hy4 => (intro w hSw; (try dsimp only at hSw); go_simp; try with_reducible rfl))
          | (refine ordZ_take (i := 3) (oi := { dst := some 93, op := Op.load 24 (Operand.tmp 92), type := 24, pos := _, after := #[{ on := 2, ground := Ground.data }], guard := none }) (v := undef) rfl (by kernel_rfl) (by kernel_rfl) (by kernel_rfl) (by kernel_rfl) (fun _ _ _ h => h) (by assumption) (by kernel_rfl) (by decide) (by rfl) (Or.inr ⟨by rfl, rfl⟩) (fun _ => rfl) ?_)
        try simp only [Act.put, List.setIfInBounds_toArray, List.set_cons_zero, List.set_cons_succ]
        first
          | (refine' ordZ_take (i := 4) (oi := { dst := some 94, op := Op.move (Operand.tmp 10), type := 3, pos := _, after := #[], guard := none }) (v := _) rfl (by kernel_rfl) (by kernel_rfl) (by kernel_rfl) (by kernel_rfl) (fun _ _ _ h => h) (by assumption) (by kernel_rfl) (by decide) (by rfl) (Or.inl ⟨by rfl, ?hy5⟩) (fun _ => rfl) ?rest5
             case hy5 => (intro w hSw; (try dsimp only at hSw); go_simp; try with_reducible rfl))
          | (refine ordZ_take (i := 4) (oi := { dst := some 94, op := Op.move (Operand.tmp 10), type := 3, pos := _, after := #[], guard := none }) (v := undef) rfl (by kernel_rfl) (by kernel_rfl) (by kernel_rfl) (by kernel_rfl) (fun _ _ _ h => h) (by assumption) (by kernel_rfl) (by decide) (by rfl) (Or.inr ⟨by rfl, rfl⟩) (fun _ => rfl) ?_)
        try simp only [Act.put, List.setIfInBounds_toArray, List.set_cons_zero, List.set_cons_succ]
        first
          | (refine' ordZ_take (i := 5) (oi := { dst := some 95, op := Op.indexAddr 24 (Operand.tmp 93) (Operand.tmp 94), type := 0, pos := _, after := #[{ on := 3, ground := Ground.data }, { on := 4, ground := Ground.data }], guard := none }) (v := _) rfl (by kernel_rfl) (by kernel_rfl) (by kernel_rfl) (by kernel_rfl) (fun _ _ _ h => h) (by assumption) (by kernel_rfl) (by decide) (by rfl) (Or.inl ⟨by rfl, ?hy6⟩) (fun _ => rfl) ?rest6
             case hy6 => (intro w hSw; (try dsimp only at hSw); go_simp; try with_reducible rfl))
          | (refine ordZ_take (i := 5) (oi := { dst := some 95, op := Op.indexAddr 24 (Operand.tmp 93) (Operand.tmp 94), type := 0, pos := _, after := #[{ on := 3, ground := Ground.data }, { on := 4, ground := Ground.data }], guard := none }) (v := undef) rfl (by kernel_rfl) (by kernel_rfl) (by kernel_rfl) (by kernel_rfl) (fun _ _ _ h => h) (by assumption) (by kernel_rfl) (by decide) (by rfl) (Or.inr ⟨by rfl, rfl⟩) (fun _ => rfl) ?_)
        try simp only [Act.put, List.setIfInBounds_toArray, List.set_cons_zero, List.set_cons_succ]
        first
          | (refine' ordZ_take (i := 6) (oi := { dst := some 96, op := Op.load 49 (Operand.tmp 95), type := 49, pos := _, after := #[{ on := 5, ground := Ground.data }], guard := none }) (v := _) rfl (by kernel_rfl) (by kernel_rfl) (by kernel_rfl) (by kernel_rfl) (fun _ _ _ h => h) (by assumption) (by kernel_rfl) (by decide) (by rfl) (Or.inl ⟨by rfl, ?hy7⟩) (fun _ => rfl) ?rest7
             case hy7 => (intro w hSw; (try dsimp only at hSw); go_simp; try with_reducible rfl))
          | (refine ordZ_take (i := 6) (oi := { dst := some 96, op := Op.load 49 (Operand.tmp 95), type := 49, pos := _, after := #[{ on := 5, ground := Ground.data }], guard := none }) (v := undef) rfl (by kernel_rfl) (by kernel_rfl) (by kernel_rfl) (by kernel_rfl) (fun _ _ _ h => h) (by assumption) (by kernel_rfl) (by decide) (by rfl) (Or.inr ⟨by rfl, rfl⟩) (fun _ => rfl) ?_)
        try simp only [Act.put, List.setIfInBounds_toArray, List.set_cons_zero, List.set_cons_succ]
        refine ordZ_one (i := 7) (o := { dst := some 97, op := Op.buildSlice 24 1 #[(0, Operand.tmp 96)], type := 24, pos := _, after := #[{ on := 6, ground := Ground.data }], guard := none }) (by kernel_rfl) rfl (by rfl) (fun K hK => ?_)
        go_simp
        refine hK _ _ (fun _ => ⟨cell_later (bl_al hD _) (FA.out).c2, cell_later (bl_al hD _) g2, cell_later (bl_al hD _) qz⟩) ?_
        clear hK K hH
        try simp only [Act.put, List.setIfInBounds_toArray, List.set_cons_zero, List.set_cons_succ]
        refine ordZ_append (i := 8) (o := { dst := some 98, op := Op.call { callee := Callee.builtin Builtin.append, args := #[Operand.tmp 91, Operand.tmp 97], argTypes := #[24, 24] }, type := 24, pos := _, after := #[{ on := 1, ground := Ground.data }, { on := 7, ground := Ground.data }], guard := none }) _ (by kernel_rfl) rfl (by rfl) _ _ 24 rfl w6.heap.size 49 i0 (.int .u16 0) 1 2 Try.underlying24 hi hz0 hz1 hz2 rfl (by decide) _ _ _ rfl (own_later HV.out (bl_al hD _)) ⟨w8.drew.heap.size, 0, none⟩ 1 1 [.int .u16 z] rfl rfl ?c1 ?c2 ?c3 ?c4 ?c5 ?_
        case c1 =>
          intro j u hj
          cases j with
          | succ j => simp at hj
          | zero =>
            simp only [List.getElem?_cons_zero, Option.some.injEq] at hj
            subst hj
            simp [go_sem, addr_add]
        case c2 => intro u hu; simp at hu; subst hu; rfl
        case c3 => unfold maxLen; omega
        case c4 => omega
        case c5 => (have := HG8.out.size; simp; omega)
        intro v2 w10 hown hgrow
        obtain ⟨g9, cp9, rfl⟩ := ownsRow_succ hown
        have hgrow2 : ((w8.alloc (.cells #[.int .u16 z] 49)).drew).grownBy w10 v.ownBlock := hgrow
        have hlow : ∀ j, v.ownBlock = some j → w6.heap.size ≤ j := fun j e => (HV.out.lt j e).1
        have hbD : Below w8.heap.size w8 ((w8.alloc (.cells #[.int .u16 z] 49)).drew) := bl_dr (bl_al (bl0 w8) _)
        obtain ⟨p1, p2, p3⟩ := FieldG.next HG8.out (by omega) FA.out HV.out hbD hown hgrow2
        have hS10 : (fun w' : World => w'.cell? ⟨w5.heap.size, 2, none⟩ = some v ∧ w'.cell? ⟨w.heap.size + 1, 2, none⟩ = some (.slice (some ⟨gbgs, gogs, none⟩) gs.length c2) ∧ w'.cell? ⟨gbgs, gogs + k, none⟩ = some (.int .u16 z)) w10 :=
          ⟨p3.c2, hgrow2.cell (cell_later hbD g2) (fun e => by have := hlow _ e.symm; dsimp only at this; omega), hgrow2.cell (cell_later hbD qz) (fun e => by have := hlow _ e.symm; dsimp only at this; omega)⟩
        refine ⟨fun _ => hS10, ?_⟩
        try simp only [Act.put, List.setIfInBounds_toArray, List.set_cons_zero, List.set_cons_succ]
        first
          | (refine' ordZ_take (i := 9) (oi := { dst := some 99, op := Op.fieldAddr 26 (Operand.tmp 9) 1, type := 0, pos := _, after := #[{ on := 0, ground := Ground.phase }, { on := 1, ground := Ground.phase }, { on := 2, ground := Ground.phase }, { on := 3, ground := Ground.phase }, { on := 4, ground := Ground.phase }, { on := 5, ground := Ground.phase }, { on := 6, ground := Ground.phase }, { on := 7, ground := Ground.phase }, { on := 8, ground := Ground.phase }], guard := none }) (v := _) rfl (by kernel_rfl) (by kernel_rfl) (by kernel_rfl) (by kernel_rfl) (fun _ _ _ h => h) (by assumption) (by kernel_rfl) (by decide) (by rfl) (Or.inl ⟨by rfl, ?hy8⟩) (fun _ => rfl) ?rest8
             case hy8 => (intro w hSw; (try dsimp only at hSw); go_simp; try with_reducible rfl))
          | (refine ordZ_take (i := 9) (oi := { dst := some 99, op := Op.fieldAddr 26 (Operand.tmp 9) 1, type := 0, pos := _, after := #[{ on := 0, ground := Ground.phase }, { on := 1, ground := Ground.phase }, { on := 2, ground := Ground.phase }, { on := 3, ground := Ground.phase }, { on := 4, ground := Ground.phase }, { on := 5, ground := Ground.phase }, { on := 6, ground := Ground.phase }, { on := 7, ground := Ground.phase }, { on := 8, ground := Ground.phase }], guard := none }) (v := undef) rfl (by kernel_rfl) (by kernel_rfl) (by kernel_rfl) (by kernel_rfl) (fun _ _ _ h => h) (by assumption) (by kernel_rfl) (by decide) (by rfl) (Or.inr ⟨by rfl, rfl⟩) (fun _ => rfl) ?_)
        try simp only [Act.put, List.setIfInBounds_toArray, List.set_cons_zero, List.set_cons_succ]
        have fz := p3.f2
        have zp := p3.lt
        have hcc := p3.c2
        refine ordZ_one (i := 10) (o := { dst := none, op := Op.store 24 (Operand.tmp 99) (Operand.tmp 98), type := 0, pos := _, after := #[{ on := 9, ground := Ground.data }, { on := 8, ground := Ground.data }, { on := 8, ground := Ground.chain }, { on := 0, ground := Ground.phase }, { on := 1, ground := Ground.phase }, { on := 2, ground := Ground.phase }, { on := 3, ground := Ground.phase }, { on := 4, ground := Ground.phase }, { on := 5, ground := Ground.phase }, { on := 6, ground := Ground.phase }, { on := 7, ground := Ground.phase }, { on := 8, ground := Ground.phase }], guard := none }) (by kernel_rfl) rfl (by rfl) (fun K hK => ?_)
        go_simp
        refine hK _ _ (fun h => by cases h) ?_
        clear hK K
        try simp only [Act.put, List.setIfInBounds_toArray, List.set_cons_zero, List.set_cons_succ]
        refine ordZ_done (by kernel_rfl) ?_
        rw [← HZ.out] at p1
        rw [hlk] at p1 p2
        have P1 := Lib.hid p1
        have P2 := Lib.hid p2
        clear p1 p2 p3 hgrow2 hgrow hown hS10 hlow hbD hD fz hcc zp FA HV HG8
        go_wp2
        go_roundw
        case rel => exact ⟨k + 1, by omega, by go_num, P1.out, P2.out⟩
        case measure => simp [intOf]; omega

      · obtain ⟨z, hzz⟩ : ∃ z, fs[k] = z := ⟨_, rfl⟩
        have HZ := Lib.hid (show hs.take (k + 1) = hs.take k ++ [z] by rw [HN.out, if_pos hin8]; simp [← hzz, hlt])
        rw [hzz] at qf
        have qz := qf
        clear hzz hin8 HN qg g2

        go_upto_region 15 with fail
        refine (wpIn_wide (n := 11)).1 ?_
        have hD := bl_dr (bl0 w8)
        refine ordZ_begin (z := 10) (S := (fun w' : World => w'.cell? ⟨w5.heap.size, 2, none⟩ = some v ∧ w'.cell? ⟨w.heap.size, 2, none⟩ = some (.slice (some ⟨gbfs, gofs, none⟩) fs.length c) ∧ w'.cell? ⟨gbfs, gofs + k, none⟩ = some (.int .u16 z))) (by kernel_rfl) ⟨cell_later hD (FA.out).c2, cell_later hD f2, cell_later hD qz⟩ (fun hH => ?_)
        first
          | (refine' ordZ_take (i := 0) (oi := { dst := some 80, op := Op.fieldAddr 26 (Operand.tmp 9) 1, type := 0, pos := _, after := #[], guard := none }) (v := _) rfl (by kernel_rfl) (by kernel_rfl) (by kernel_rfl) (by kernel_rfl) (fun _ _ _ h => h) (by assumption) (by kernel_rfl) (by decide) (by rfl) (Or.inl ⟨by rfl, ?hy9⟩) (fun _ => rfl) ?rest9
             case hy9 => (intro w hSw; (try dsimp only at hSw); go_simp; try with_reducible rfl))
          | (refine ordZ_take (i := 0) (oi := { dst := some 80, op := Op.fieldAddr 26 (Operand.tmp 9) 1, type := 0, pos := _, after := #[], guard := none }) (v := undef) rfl (by kernel_rfl) (by kernel_rfl) (by kernel_rfl) (by kernel_rfl) (fun _ _ _ h => h) (by assumption) (by kernel_rfl) (by decide) (by rfl) (Or.inr ⟨by rfl, rfl⟩) (fun _ => rfl) ?_)
        try simp only [Act.put, List.setIfInBounds_toArray, List.set_cons_zero, List.set_cons_succ]
        first
          | (refine' ordZ_take (i := 1) (oi := { dst := some 81, op := Op.load 24 (Operand.tmp 80), type := 24, pos := _, after := #[{ on := 0, ground := Ground.data }], guard := none }) (v := _) rfl (by kernel_rfl) (by kernel_rfl) (by kernel_rfl) (by kernel_rfl) (fun _ _ _ h => h) (by assumption) (by kernel_rfl) (by decide) (by rfl) (Or.inl ⟨by rfl, ?hy10⟩) (fun _ => rfl) ?rest10
             case hy10 => (intro w hSw; (try dsimp only at hSw); go_simp; try with_reducible rfl))
          | (refine ordZ_take (i := 1) (oi := { dst := some 81, op := Op.load 24 (Operand.tmp 80), type := 24, pos := _, after := #[{ on := 0, ground := Ground.data }], guard := none }) (v := undef) rfl (by kernel_rfl) (by kernel_rfl) (by kernel_rfl) (by kernel_rfl) (fun _ _ _ h => h) (by assumption) (by kernel_rfl) (by decide) (by rfl) (Or.inr ⟨by rfl, rfl⟩) (fun _ => rfl) ?_)
        try simp only [Act.put, List.setIfInBounds_toArray, List.set_cons_zero, List.set_cons_succ]
        first
          | (refine' ordZ_take (i := 2) (oi := { dst := some 82, op := Op.fieldAddr 26 (Operand.tmp 3) 1, type := 0, pos := _, after := #[], guard := none }) (v := _) rfl (by kernel_rfl) (by kernel_rfl) (by kernel_rfl) (by kernel_rfl) (fun _ _ _ h => h) (by assumption) (by kernel_rfl) (by decide) (by rfl) (Or.inl ⟨by rfl, ?hy11⟩) (fun _ => rfl) ?rest11
             case hy11 => (intro w hSw; (try dsimp only at hSw); go_simp; try with_reducible rfl))
          | (refine ordZ_take (i := 2) (oi := { dst := some 82, op := Op.fieldAddr 26 (Operand.tmp 3) 1, type := 0, pos := _, after := #[], guard := none }) (v := undef) rfl (by kernel_rfl) (by kernel_rfl) (by kernel_rfl) (by kernel_rfl) (fun _ _ _ h => h) (by assumption) (by kernel_rfl) (by decide) (by rfl) (Or.inr ⟨by rfl, rfl⟩) (fun _ => rfl) ?_)
        try simp only [Act.put, List.setIfInBounds_toArray, List.set_cons_zero, List.set_cons_succ]
        first
          | (refine' ordZ_take (i := 3) (oi := { dst := some 83, op := Op.load 24 (Operand.tmp 82), type := 24, pos := _, after := #[{ on := 2, ground := Ground.data }], guard := none }) (v := _) rfl (by kernel_rfl) (by kernel_rfl) (by kernel_rfl) (by kernel_rfl) (fun _ _ _ h => h) (by assumption) (by kernel_rfl) (by decide) (by rfl) (Or.inl ⟨by rfl, ?hy12⟩) (fun _ => rfl) ?rest12
             case hy12 => (intro w hSw; (try dsimp only at hSw); go_simp; try with_reducible rfl))
          | (refine ordZ_take (i := 3) (oi := { dst := some 83, op := Op.load 24 (Operand.tmp 82), type := 24, pos := _, after := #[{ on := 2, ground := Ground.data }], guard := none }) (v := undef) rfl (by kernel_rfl) (by kernel_rfl) (by kernel_rfl) (by kernel_rfl) (fun _ _ _ h => h) (by assumption) (by kernel_rfl) (by decide) (by rfl) (Or.inr ⟨by rfl, rfl⟩) (fun _ => rfl) ?_)
        try simp only [Act.put, List.setIfInBounds_toArray, List.set_cons_zero, List.set_cons_succ]
        first
          | (refine' ordZ_take (i := 4) (oi := { dst := some 84, op := Op.move (Operand.tmp 10), type := 3, pos := _, after := #[], guard := none }) (v := _) rfl (by kernel_rfl) (by kernel_rfl) (by kernel_rfl) (by kernel_rfl) (fun _ _ _ h => h) (by assumption) (by kernel_rfl) (by decide) (by rfl) (Or.inl ⟨by rfl, ?hy13⟩) (fun _ => rfl) ?rest13
             case hy13 => (intro w hSw; (try dsimp only at hSw); go_simp; try with_reducible rfl))
          | (refine ordZ_take (i := 4) (oi := { dst := some 84, op := Op.move (Operand.tmp 10), type := 3, pos := _, after := #[], guard := none }) (v := undef) rfl (by kernel_rfl) (by kernel_rfl) (by kernel_rfl) (by kernel_rfl) (fun _ _ _ h => h) (by assumption) (by kernel_rfl) (by decide) (by rfl) (Or.inr ⟨by rfl, rfl⟩) (fun _ => rfl) ?_)
        try simp only [Act.put, List.setIfInBounds_toArray, List.set_cons_zero, List.set_cons_succ]
        first
          | (refine' ordZ_take (i := 5) (oi := { dst := some 85, op := Op.indexAddr 24 (Operand.tmp 83) (Operand.tmp 84), type := 0, pos := _, after := #[{ on := 3, ground := Ground.data }, { on := 4, ground := Ground.data }], guard := none }) (v := _) rfl (by kernel_rfl) (by kernel_rfl) (by kernel_rfl) (by kernel_rfl) (fun _ _ _ h => h) (by assumption) (by kernel_rfl) (by decide) (by rfl) (Or.inl ⟨by rfl, ?hy14⟩) (fun _ => rfl) ?rest14
             case hy14 => (intro w hSw; (try dsimp only at hSw); go_simp; try with_reducible rfl))
          | (refine ordZ_take (i := 5) (oi := { dst := some 85, op := Op.indexAddr 24 (Operand.tmp 83) (Operand.tmp 84), type := 0, pos := _, after := #[{ on := 3, ground := Ground.data }, { on := 4, ground := Ground.data }], guard := none }) (v := undef) rfl (by kernel_rfl) (by kernel_rfl) (by kernel_rfl) (by kernel_rfl) (fun _ _ _ h => h) (by assumption) (by kernel_rfl) (by decide) (by rfl) (Or.inr ⟨by rfl, rfl⟩) (fun _ => rfl) ?_)
        try simp only [Act.put, List.setIfInBounds_toArray, List.set_cons_zero, List.set_cons_succ]
        first
          | (refine' ordZ_take (i := 6) (oi := { dst := some 86, op := Op.load 49 (Operand.tmp 85), type := 49, pos := _, after := #[{ on := 5, ground := Ground.data }], guard := none }) (v := _) rfl (by kernel_rfl) (by kernel_rfl) (by kernel_rfl) (by kernel_rfl) (fun _ _ _ h => h) (by assumption) (by kernel_rfl) (by decide) (by rfl) (Or.inl ⟨by rfl, ?hy15⟩) (fun _ => rfl) ?rest15
             case hy15 => (intro w hSw; (try dsimp only at hSw); go_simp; try with_reducible rfl))
          | (refine ordZ_take (i := 6) (oi := { dst := some 86, op := Op.load 49 (Operand.tmp 85), type := 49, pos := _, after := #[{ on := 5, ground := Ground.data }], guard := none }) (v := undef) rfl (by kernel_rfl) (by kernel_rfl) (by kernel_rfl) (by kernel_rfl) (fun _ _ _ h => h) (by assumption) (by kernel_rfl) (by decide) (by rfl) (Or.inr ⟨by rfl, rfl⟩) (fun _ => rfl) ?_)
        try simp only [Act.put, List.setIfInBounds_toArray, List.set_cons_zero, List.set_cons_succ]
        refine ordZ_one (i := 7) (o := { dst := some 87, op := Op.buildSlice 24 1 #[(0, Operand.tmp 86)], type := 24, pos := _, after := #[{ on := 6, ground := Ground.data }], guard := none }) (by kernel_rfl) rfl (by rfl) (fun K hK => ?_)
        go_simp
        refine hK _ _ (fun _ => ⟨cell_later (bl_al hD _) (FA.out).c2, cell_later (bl_al hD _) f2, cell_later (bl_al hD _) qz⟩) ?_
        clear hK K hH
        try simp only [Act.put, List.setIfInBounds_toArray, List.set_cons_zero, List.set_cons_succ]
        refine ordZ_append (i := 8) (o := { dst := some 88, op := Op.call { callee := Callee.builtin Builtin.append, args := #[Operand.tmp 81, Operand.tmp 87], argTypes := #[24, 24] }, type := 24, pos := _, after := #[{ on := 1, ground := Ground.data }, { on := 7, ground := Ground.data }], guard := none }) _ (by kernel_rfl) rfl (by rfl) _ _ 24 rfl w6.heap.size 49 i0 (.int .u16 0) 1 2 Try.underlying24 hi hz0 hz1 hz2 rfl (by decide) _ _ _ rfl (own_later HV.out (bl_al hD _)) ⟨w8.drew.heap.size, 0, none⟩ 1 1 [.int .u16 z] rfl rfl ?c1 ?c2 ?c3 ?c4 ?c5 ?_
        case c1 =>
          intro j u hj
          cases j with
          | succ j => simp at hj
          | zero =>
            simp only [List.getElem?_cons_zero, Option.some.injEq] at hj
            subst hj
            simp [go_sem, addr_add]
        case c2 => intro u hu; simp at hu; subst hu; rfl
        case c3 => unfold maxLen; omega
        case c4 => omega
        case c5 => (have := HG8.out.size; simp; omega)
        intro v2 w10 hown hgrow
        obtain ⟨g9, cp9, rfl⟩ := ownsRow_succ hown
        have hgrow2 : ((w8.alloc (.cells #[.int .u16 z] 49)).drew).grownBy w10 v.ownBlock := hgrow
        have hlow : ∀ j, v.ownBlock = some j → w6.heap.size ≤ j := fun j e => (HV.out.lt j e).1
        have hbD : Below w8.heap.size w8 ((w8.alloc (.cells #[.int .u16 z] 49)).drew) := bl_dr (bl_al (bl0 w8) _)
        obtain ⟨p1, p2, p3⟩ := FieldG.next HG8.out (by omega) FA.out HV.out hbD hown hgrow2
        have hS10 : (fun w' : World => w'.cell? ⟨w5.heap.size, 2, none⟩ = some v ∧ w'.cell? ⟨w.heap.size, 2, none⟩ = some (.slice (some ⟨gbfs, gofs, none⟩) fs.length c) ∧ w'.cell? ⟨gbfs, gofs + k, none⟩ = some (.int .u16 z)) w10 :=
          ⟨p3.c2, hgrow2.cell (cell_later hbD f2) (fun e => by have := hlow _ e.symm; dsimp only at this; omega), hgrow2.cell (cell_later hbD qz) (fun e => by have := hlow _ e.symm; dsimp only at this; omega)⟩
        refine ⟨fun _ => hS10, ?_⟩
        try simp only [Act.put, List.setIfInBounds_toArray, List.set_cons_zero, List.set_cons_succ]
        first
          | (refine' ordZ_take (i := 9) (oi := { dst := some 89, op := Op.fieldAddr 26 (Operand.tmp 9) 1, type := 0, pos := _, after := #[{ on := 0, ground := Ground.phase }, { on := 1, ground := Ground.phase }, { on := 2, ground := Ground.phase }, { on := 3, ground := Ground.phase }, { on := 4, ground := Ground.phase }, { on := 5, ground := Ground.phase }, { on := 6, ground := Ground.phase }, { on := 7, ground := Ground.phase }, { on := 8, ground := Ground.phase }], guard := none }) (v := _) rfl (by kernel_rfl) (by kernel_rfl) (by kernel_rfl) (by kernel_rfl) (fun _ _ _ h => h) (by assumption) (by kernel_rfl) (by decide) (by rfl) (Or.inl ⟨by rfl, ?hy16⟩) (fun _ => rfl) ?rest16
             case hy16 => (intro w hSw; (try dsimp only at hSw); go_simp; try with_reducible rfl))
          | (refine ordZ_take (i := 9) (oi := { dst := some 89, op := Op.fieldAddr 26 (Operand.tmp 9) 1, type := 0, pos := _, after := #[{ on := 0, ground := Ground.phase }, { on := 1, ground := Ground.phase }, { on := 2, ground := Ground.phase }, { on := 3, ground := Ground.phase }, { on := 4, ground := Ground.phase }, { on := 5, ground := Ground.phase }, { on := 6, ground := Ground.phase }, { on := 7, ground := Ground.phase }, { on := 8, ground := Ground.phase }], guard := none }) (v := undef) rfl (by kernel_rfl) (by kernel_rfl) (by kernel_rfl) (by kernel_rfl) (fun _ _ _ h => h) (by assumption) (by kernel_rfl) (by decide) (by rfl) (Or.inr ⟨by rfl, rfl⟩) (fun _ => rfl) ?_)
        try simp only [Act.put, List.setIfInBounds_toArray, List.set_cons_zero, List.set_cons_succ]
        have fz := p3.f2
        have zp := p3.lt
        have hcc := p3.c2
        refine ordZ_one (i := 10) (o := { dst := none, op := Op.store 24 (Operand.tmp 89) (Operand.tmp 88), type := 0, pos := _, after := #[{ on := 9, ground := Ground.data }, { on := 8, ground := Ground.data }, { on := 8, ground := Ground.chain }, { on := 0, ground := Ground.phase }, { on := 1, ground := Ground.phase }, { on := 2, ground := Ground.phase }, { on := 3, ground := Ground.phase }, { on := 4, ground := Ground.phase }, { on := 5, ground := Ground.phase }, { on := 6, ground := Ground.phase }, { on := 7, ground := Ground.phase }, { on := 8, ground := Ground.phase }], guard := none }) (by kernel_rfl) rfl (by rfl) (fun K hK => ?_)
        go_simp
        refine hK _ _ (fun h => by cases h) ?_
        clear hK K
        try simp only [Act.put, List.setIfInBounds_toArray, List.set_cons_zero, List.set_cons_succ]
        refine ordZ_done (by kernel_rfl) ?_
        rw [← HZ.out] at p1
        rw [hlk] at p1 p2
        have P1 := Lib.hid p1
        have P2 := Lib.hid p2
        clear p1 p2 p3 hgrow2 hgrow hown hS10 hlow hbD hD fz hcc zp FA HV HG8
        go_wp2
        go_roundw
        case rel => exact ⟨k + 1, by omega, by go_num, P1.out, P2.out⟩
        case measure => simp [intOf]; omega

    · obtain rfl : k = fs.length := by omega
      have hall : hs.take fs.length = hs := by rw [← hhl]; exact List.take_length
      rw [hall] at hv
      obtain ⟨va, vc, rfl, hrv⟩ := rowH_of_own hv
      have hm7 : MaskAt wr b1 q1 A B ms := hm1.kept hG (by simp; omega) (by simp; omega)
      have hA7 := (hA6.grown hG hA6.size (fun r e => by cases e; omega))
      have x0 := hG.cell X0.out (by simp; omega)
      have x1 := hG.cell X1.out (by simp; omega)
      have y0 := hFA.c0
      have y1 := hFA.c1
      have y2 := hFA.c2
      have zx0 := blk_lt x0
      have zy0 := blk_lt y0
      clear hG hFA hv
      go_wp2_with fail
      have hcall := sall_yes A B r va a3 vc c3 hs zs wr hrv (hz.below hA7) (by omega) (by rw [hhl]; exact H5.out)
      rw [hhl] at hcall
      refine hcall.mono ?_
      clear hcall
      rintro e w8 ⟨b2, q2, rfl, hm8, _, _, _, hb8⟩
      rw [HMIX.out] at hm8
      have hA8 := bl_tr hA7 hb8
      replace hm7 := hm7.below hb8
      clear hb8 x0 x1 y0 y1 y2 hA7
      go_wp2_with fail
      refine (msame_any b2 q2 b1 q1 A B ms ms _ hm8 hm7 hgood.2.2.1 hgood.2.2.1).mono ?_
      rintro e w9 ⟨rfl, hb9⟩
      rw [show decide (ms = ms) = true by simp]
      replace hm8 := hm8.below hb9
      replace hm7 := hm7.below hb9
      have hA9 := bl_tr hA8 hb9
      clear hb9 hA8
      go_wp2_with fail
      refine (msame_any b1 q1 b2 q2 A B ms ms _ hm7 hm8 hgood.2.2.1 hgood.2.2.1).mono ?_
      rintro e w10 ⟨rfl, hb10⟩
      rw [show decide (ms = ms) = true by simp]
      have hA10 := bl_tr hA9 hb10
      clear hb10 hA9
      go_wp2_with fail
      refine (awake_any _).mono ?_
      rintro e w11 ⟨rfl, hb11⟩
      have hA11 := bl_tr hA10 hb11
      clear hb11 hA10
      go_wp2
      go_ret
      exact ⟨rfl, hA11⟩

theorem hangs_walk (A B U V r : Int) (a a2 a3 : Option Addr) (c c2 c3 : Nat) (fs gs : List Int) (zs : List (Int × Int)) (w : World) (hr : RowH w a fs) (hr2 : RowH w a2 gs) (hz : RowC w a3 zs) :
    Calls Try.prog 4 #[.agg #[.int .i64 A, .int .i64 B, .slice a fs.length c], .agg #[.int .i64 U, .int .i64 V, .slice a2 gs.length c2], .agg #[.slice a3 zs.length c3, .int .i64 r]] w fun e w' => e = .returned (.bool true) ∧ Below w.heap.size w w' := by
  cases h1 : smallB A B fs.length with
  | false => exact hangs_out1 A B U V r a a2 a3 _ c _ c2 c3 zs w h1
  | true =>
  cases h2 : smallB U V gs.length with
  | false => exact hangs_out2 A B U V r a a2 a3 _ c _ c2 c3 zs w h1 h2
  | true =>
  by_cases hl : zs.length ≤ 6
  · by_cases h3 : chkF A B fs.length = 0
    · by_cases h4 : chkF U V gs.length = 0
      · by_cases h5 : A = U ∧ B = V
        · obtain ⟨rfl, rfl⟩ := h5
          by_cases h6 : errA A B fs.length r zs = 0
          · exact hangs_yes A B r a a2 a3 c c2 c3 fs gs zs w hr hr2 hz h1 h2 hl h3 h4 h6
          · exact hangs_out7 A B r a a2 a3 _ c _ c2 c3 zs w hz h1 h2 hl h3 h4 h6
        · exact hangs_out6 A B U V r a a2 a3 _ c _ c2 c3 zs w h1 h2 hl h3 h4 h5
      · exact hangs_out5 A B U V r a a2 a3 _ c _ c2 c3 zs w h1 h2 hl h3 h4
    · exact hangs_out4 A B U V r a a2 a3 _ c _ c2 c3 zs w h1 h2 hl h3
  · exact hangs_out3 A B U V r a a2 a3 _ c _ c2 c3 zs w h1 h2 (by omega)
end Go.Proofs.Ythebiibiapjdiaa
