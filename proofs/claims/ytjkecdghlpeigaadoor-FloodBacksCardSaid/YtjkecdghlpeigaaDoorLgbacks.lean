/- FloodBacks: the law's walk. -/
import Derived.Test.YtjkecdghlpeigaaDoorCp
namespace Go.Proofs.YtjkecdghlpeigaaDoor
open Go.RowKit

theorem inBx_whole {A B : Int} {c : IC} (h : onB A B c = true) : inBx (0, 0, A, B) c = true := by
  obtain ⟨h1, h2, h3, h4, h5, h6, h7, h8⟩ := inB_iff.1 h
  show hasB 0 0 A B c.1 c.2 = true
  exact hasB_iff.2 ⟨rightB_iff.2 ⟨by omega, by omega, by omega, by omega, by omega, by omega, by omega, by omega⟩, h5, by omega, h7, by omega⟩
theorem fits_whole {A B : Int} (h : mayB A B = true) : fitsB A B 0 0 A B = true := by
  obtain ⟨h1, h2, h3, h4⟩ := mayB_iff.1 h
  exact fitsB_iff.2 ⟨rightB_iff.2 ⟨by omega, by omega, by omega, by omega, by omega, by omega, by omega, by omega⟩, h, by omega, by omega, by omega, by omega, by omega, by omega⟩
theorem errW_whole {A B n : Int} {c : IC} (hc : chkF A B n = 0) (h : onB A B c = true) : errW A B n (0, 0, A, B) c = 0 := by
  unfold errW
  rw [if_pos hc, if_pos ⟨fits_whole (chkF_may hc).1, inBx_whole h⟩]
/-- There and back, as costs are added. -/
theorem back_add {A B : Int} {zs l m : List Int} {b : BX} {c t : IC} (hm : mayB A B = true) (hn : (zs.length : Int) = A * B) (hz : AllH zs) (hc : onB A B c = true) (ht : onB A B t = true) (hci : inBx b c = true) (hti : inBx b t = true)
    (hl : Far (gphB A B b zs) (numN A c) (atD l)) (hr : Far (gphB A B b zs) (numN A t) (atD m)) : addC (atD l (numN A t)) (zs.getD (numN A c) 0) = addC (atD m (numN A c)) (zs.getD (numN A t) 0) := by
  have hG := gphB_ok (b := b) hm hn hz
  obtain ⟨h1, h2⟩ := Far.back hG hl hr
  have k1 : (gphB A B b zs).k (numN A c) = zs.getD (numN A c) 0 := gphB_k (by rw [cellN_num hc]; exact hci)
  have k2 : (gphB A B b zs).k (numN A t) = zs.getD (numN A t) 0 := gphB_k (by rw [cellN_num ht]; exact hti)
  rw [k1, k2] at h2
  have b1 := hl.bd (numN A t)
  have b2 := hr.bd (numN A c)
  have z1 := getD_in hz (numN A c)
  have z2 := getD_in hz (numN A t)
  by_cases h : atD l (numN A t) = 18446744073709551615
  · rw [h, h1.1 h]
    unfold addC
    split <;> split <;> omega
  · have h3 := h2 h
    have h4 : atD m (numN A c) ≠ 18446744073709551615 := fun e => h (h1.2 e)
    unfold addC
    rw [if_pos (by omega), if_pos (by omega), h3]

set_option maxRecDepth 100000 in
set_option maxHeartbeats 8000000 in
theorem gbacks_walk (A B : Int) (a : Option Addr) (cap : Nat) (zs : List Int) (X Y U V : Int) (F T : IC) (w : World) (hs : Stp w) (hr : RowH w a zs) (hu : AllH zs) :
    Calls Tryd.prog 6 #[.agg #[.int .i64 A, .int .i64 B, .slice a zs.length cap], .agg #[.int .i64 X, .int .i64 Y, .int .i64 U, .int .i64 V], .agg #[.int .i64 F.1, .int .i64 F.2, .int .i64 T.1, .int .i64 T.2]] w fun e w' => e = .returned (.bool true) ∧ Below w.heap.size w w' := by
  have hA := bl0 w
  by_cases hsm : (zs.length : Int) ≤ 150
  case neg =>
    have hd : decide ((zs.length : Int) ≤ 150) = false := decide_eq_false hsm
    clear hsm
    go_enter Tryd.func6, Tryd.ntmps6
    go_wp2_with fail
    refine (small8_any _ _ _ _ _ _).mono ?_
    rintro e w1 ⟨rfl, hb⟩
    have hk : Below w.heap.size w w1 := by first | exact hb | exact bl_tr (bl_al (bl0 _) _) hb | exact bl_tr (bl_dr (bl_al (bl0 _) _)) hb | exact bl_tr (bl_al (bl_al (bl0 _) _) _) hb | exact bl_tr (bl_dr (bl_al (bl_al (bl0 _) _) _)) hb | exact bl_tr (bl_al (bl_al (bl_al (bl0 _) _) _) _) hb | exact bl_tr (bl_dr (bl_al (bl_al (bl_al (bl0 _) _) _) _)) hb | exact bl_tr (bl_al (bl_al (bl_al (bl_al (bl0 _) _) _) _) _) hb | exact bl_tr (bl_dr (bl_al (bl_al (bl_al (bl_al (bl0 _) _) _) _) _)) hb | exact bl_tr (bl_al (bl_al (bl_al (bl_al (bl_al (bl0 _) _) _) _) _) _) hb | exact bl_tr (bl_dr (bl_al (bl_al (bl_al (bl_al (bl_al (bl0 _) _) _) _) _) _)) hb | exact bl_tr (bl_al (bl_al (bl_al (bl_al (bl_al (bl_al (bl0 _) _) _) _) _) _) _) hb | exact bl_tr (bl_dr (bl_al (bl_al (bl_al (bl_al (bl_al (bl_al (bl0 _) _) _) _) _) _) _)) hb | exact bl_tr (bl_dr (bl0 _)) hb
    replace hA := bl_tr hA hk
    clear hb hk
    rw [hd]
    go_wp2_with fail
    refine (awake8 _ (hs.below hA)).mono ?_
    rintro e w2 ⟨rfl, hb⟩
    have hA2 := bl_tr hA hb
    clear hb
    go_wp2
    go_ret
    exact ⟨rfl, hA2⟩
  case pos =>
    have hd : decide ((zs.length : Int) ≤ 150) = true := decide_eq_true hsm
    go_enter Tryd.func6, Tryd.ntmps6
    go_wp2_with fail
    refine (small8_any _ _ _ _ _ _).mono ?_
    rintro e w1 ⟨rfl, hb⟩
    have hk : Below w.heap.size w w1 := by first | exact hb | exact bl_tr (bl_al (bl0 _) _) hb | exact bl_tr (bl_dr (bl_al (bl0 _) _)) hb | exact bl_tr (bl_al (bl_al (bl0 _) _) _) hb | exact bl_tr (bl_dr (bl_al (bl_al (bl0 _) _) _)) hb | exact bl_tr (bl_al (bl_al (bl_al (bl0 _) _) _) _) hb | exact bl_tr (bl_dr (bl_al (bl_al (bl_al (bl0 _) _) _) _)) hb | exact bl_tr (bl_al (bl_al (bl_al (bl_al (bl0 _) _) _) _) _) hb | exact bl_tr (bl_dr (bl_al (bl_al (bl_al (bl_al (bl0 _) _) _) _) _)) hb | exact bl_tr (bl_al (bl_al (bl_al (bl_al (bl_al (bl0 _) _) _) _) _) _) hb | exact bl_tr (bl_dr (bl_al (bl_al (bl_al (bl_al (bl_al (bl0 _) _) _) _) _) _)) hb | exact bl_tr (bl_al (bl_al (bl_al (bl_al (bl_al (bl_al (bl0 _) _) _) _) _) _) _) hb | exact bl_tr (bl_dr (bl_al (bl_al (bl_al (bl_al (bl_al (bl_al (bl0 _) _) _) _) _) _) _)) hb | exact bl_tr (bl_dr (bl0 _)) hb
    replace hA := bl_tr hA hk
    have f0 := cell_later hb (v := .int .i64 A) (a := ⟨w.heap.size, 0, none⟩) (by simp [go_sem])
    have f1 := cell_later hb (v := .int .i64 B) (a := ⟨w.heap.size, 1, none⟩) (by simp [go_sem])
    have f2 := cell_later hb (v := .slice a zs.length cap) (a := ⟨w.heap.size, 2, none⟩) (by simp [go_sem])
    have g0 := cell_later hb (v := .int .i64 X) (a := ⟨w.heap.size + 1, 0, none⟩) (by simp [go_sem])
    have g1 := cell_later hb (v := .int .i64 Y) (a := ⟨w.heap.size + 1, 1, none⟩) (by simp [go_sem])
    have g2 := cell_later hb (v := .int .i64 U) (a := ⟨w.heap.size + 1, 2, none⟩) (by simp [go_sem])
    have g3 := cell_later hb (v := .int .i64 V) (a := ⟨w.heap.size + 1, 3, none⟩) (by simp [go_sem])
    have x0 := cell_later hb (v := .int .i64 F.1) (a := ⟨w.heap.size + 1 + 1, 0, none⟩) (by simp [go_sem])
    have x1 := cell_later hb (v := .int .i64 F.2) (a := ⟨w.heap.size + 1 + 1, 1, none⟩) (by simp [go_sem])
    have x2 := cell_later hb (v := .int .i64 T.1) (a := ⟨w.heap.size + 1 + 1, 2, none⟩) (by simp [go_sem])
    have x3 := cell_later hb (v := .int .i64 T.2) (a := ⟨w.heap.size + 1 + 1, 3, none⟩) (by simp [go_sem])
    clear hb hk
    have zf0 := blk_lt f0
    have zf1 := blk_lt f1
    have zf2 := blk_lt f2
    have zg0 := blk_lt g0
    have zg1 := blk_lt g1
    have zg2 := blk_lt g2
    have zg3 := blk_lt g3
    have zx0 := blk_lt x0
    have zx1 := blk_lt x1
    have zx2 := blk_lt x2
    have zx3 := blk_lt x3
    rw [hd]
    clear hd
    go_wp2_with fail
    refine (within_any A B a cap zs (X, Y, U, V) F _ hu (hr.below (by first | exact hA | exact (bl_al hA _) | exact (bl_dr (bl_al hA _)) | exact (bl_al (bl_al hA _) _) | exact (bl_dr (bl_al (bl_al hA _) _)) | exact (bl_al (bl_al (bl_al hA _) _) _) | exact (bl_dr (bl_al (bl_al (bl_al hA _) _) _)) | exact (bl_al (bl_al (bl_al (bl_al hA _) _) _) _) | exact (bl_dr (bl_al (bl_al (bl_al (bl_al hA _) _) _) _)) | exact (bl_al (bl_al (bl_al (bl_al (bl_al hA _) _) _) _) _) | exact (bl_dr (bl_al (bl_al (bl_al (bl_al (bl_al hA _) _) _) _) _)) | exact (bl_al (bl_al (bl_al (bl_al (bl_al (bl_al hA _) _) _) _) _) _) | exact (bl_dr (bl_al (bl_al (bl_al (bl_al (bl_al (bl_al hA _) _) _) _) _) _)) | exact (bl_dr hA))) (hs.below (by first | exact hA | exact (bl_al hA _) | exact (bl_dr (bl_al hA _)) | exact (bl_al (bl_al hA _) _) | exact (bl_dr (bl_al (bl_al hA _) _)) | exact (bl_al (bl_al (bl_al hA _) _) _) | exact (bl_dr (bl_al (bl_al (bl_al hA _) _) _)) | exact (bl_al (bl_al (bl_al (bl_al hA _) _) _) _) | exact (bl_dr (bl_al (bl_al (bl_al (bl_al hA _) _) _) _)) | exact (bl_al (bl_al (bl_al (bl_al (bl_al hA _) _) _) _) _) | exact (bl_dr (bl_al (bl_al (bl_al (bl_al (bl_al hA _) _) _) _) _)) | exact (bl_al (bl_al (bl_al (bl_al (bl_al (bl_al hA _) _) _) _) _) _) | exact (bl_dr (bl_al (bl_al (bl_al (bl_al (bl_al (bl_al hA _) _) _) _) _) _)) | exact (bl_dr hA)))).mono ?_
    rintro e w2 ⟨⟨b1, cap1, l, rfl, hru1, hn1, hy1⟩, hb⟩
    have hk : Below w1.heap.size w1 w2 := by first | exact hb | exact bl_tr (bl_al (bl0 _) _) hb | exact bl_tr (bl_dr (bl_al (bl0 _) _)) hb | exact bl_tr (bl_al (bl_al (bl0 _) _) _) hb | exact bl_tr (bl_dr (bl_al (bl_al (bl0 _) _) _)) hb | exact bl_tr (bl_al (bl_al (bl_al (bl0 _) _) _) _) hb | exact bl_tr (bl_dr (bl_al (bl_al (bl_al (bl0 _) _) _) _)) hb | exact bl_tr (bl_al (bl_al (bl_al (bl_al (bl0 _) _) _) _) _) hb | exact bl_tr (bl_dr (bl_al (bl_al (bl_al (bl_al (bl0 _) _) _) _) _)) hb | exact bl_tr (bl_al (bl_al (bl_al (bl_al (bl_al (bl0 _) _) _) _) _) _) hb | exact bl_tr (bl_dr (bl_al (bl_al (bl_al (bl_al (bl_al (bl0 _) _) _) _) _) _)) hb | exact bl_tr (bl_al (bl_al (bl_al (bl_al (bl_al (bl_al (bl0 _) _) _) _) _) _) _) hb | exact bl_tr (bl_dr (bl_al (bl_al (bl_al (bl_al (bl_al (bl_al (bl0 _) _) _) _) _) _) _)) hb | exact bl_tr (bl_dr (bl0 _)) hb
    replace hA := bl_tr hA hk
    replace f0 := cell_later hk f0
    replace f1 := cell_later hk f1
    replace f2 := cell_later hk f2
    replace g0 := cell_later hk g0
    replace g1 := cell_later hk g1
    replace g2 := cell_later hk g2
    replace g3 := cell_later hk g3
    replace x0 := cell_later hk x0
    replace x1 := cell_later hk x1
    replace x2 := cell_later hk x2
    replace x3 := cell_later hk x3
    clear hb hk
    have zf0 := blk_lt f0
    have zf1 := blk_lt f1
    have zf2 := blk_lt f2
    have zg0 := blk_lt g0
    have zg1 := blk_lt g1
    have zg2 := blk_lt g2
    have zg3 := blk_lt g3
    have zx0 := blk_lt x0
    have zx1 := blk_lt x1
    have zx2 := blk_lt x2
    have zx3 := blk_lt x3
    obtain ⟨E1, hE1⟩ : ∃ E1, errW A B zs.length (X, Y, U, V) F = E1 := ⟨_, rfl⟩
    rw [hE1] at hn1 hy1 ⊢
    have HE1 := Lib.hid hE1
    have HN1 := Lib.hid hn1
    have HY1 := Lib.hid hy1
    clear hE1 hn1 hy1
    go_wp2_with fail
    refine (within_any A B a cap zs (X, Y, U, V) T _ hu (hr.below hA) (hs.below hA)).mono ?_
    rintro e w3 ⟨⟨b2, cap2, m, rfl, hru2, hn2, hy2⟩, hb⟩
    have hk : Below w2.heap.size w2 w3 := hb
    replace hA := bl_tr hA hk
    replace f0 := cell_later hk f0; replace f1 := cell_later hk f1; replace f2 := cell_later hk f2; replace x0 := cell_later hk x0; replace x1 := cell_later hk x1; replace x2 := cell_later hk x2; replace x3 := cell_later hk x3
    replace hru1 := hru1.below hk
    have zf := blk_lt f0
    have zx := blk_lt x0
    obtain ⟨E2, hE2⟩ : ∃ E2, errW A B zs.length (X, Y, U, V) T = E2 := ⟨_, rfl⟩
    rw [hE2] at hn2 hy2 ⊢
    have HE2 := Lib.hid hE2
    have HN2 := Lib.hid hn2
    have HY2 := Lib.hid hy2
    clear hE2 hn2 hy2 hb hk g0 g1 g2 g3 zf0 zf1 zf2 zg0 zg1 zg2 zg3 zx0 zx1 zx2 zx3
    by_cases h1 : E1 = 0
    case neg =>
      have h2 : (E1 != 0) = true := by rw [bne_iff_ne]; exact h1
      clear h1
      go_wp2_with fail
      refine (awake8 _ (hs.below hA)).mono ?_
      rintro e w4 ⟨rfl, hb⟩
      have hA2 := bl_tr hA hb
      clear hb
      go_wp2
      go_ret
      exact ⟨rfl, hA2⟩
    case pos =>
      subst h1
      by_cases h1 : E2 = 0
      case neg =>
        have h2 : (E2 != 0) = true := by rw [bne_iff_ne]; exact h1
        clear h1
        go_wp2_with fail
        refine (awake8 _ (hs.below hA)).mono ?_
        rintro e w4 ⟨rfl, hb⟩
        have hA2 := bl_tr hA hb
        clear hb
        go_wp2
        go_ret
        exact ⟨rfl, hA2⟩
      case pos =>
        subst h1
        obtain ⟨hll, hf1⟩ := HY1.out rfl
        obtain ⟨hml, hf2⟩ := HY2.out rfl
        obtain ⟨hchk, hfit, hin1⟩ := errW_ok HE1.out
        obtain ⟨-, -, hin2⟩ := errW_ok HE2.out
        obtain ⟨hmay, hn⟩ := chkF_may hchk
        have on1 := box_on (b := (X, Y, U, V)) hfit hin1
        have on2 := box_on (b := (X, Y, U, V)) hfit hin2
        have hadd := back_add hmay hn hu on1 on2 hin1 hin2 hf1 hf2
        have hew := errW_whole hchk on1
        obtain ⟨n1, n2⟩ := numN_int on1
        obtain ⟨n3, n4⟩ := numN_int on2
        have hmono : ∀ ds, Far (gphB A B (0, 0, A, B) zs) (numN A F) (atD ds) → ∀ i, atD ds i ≤ atD l i := fun ds hd => Far.mono (gphB_ok (b := (X, Y, U, V)) hmay hn hu) hf1 hd (fun i hi => by
          obtain ⟨p1, p2, p3⟩ := gphB_opn.1 hi
          have hc := cellN_on hmay (show (i : Int) < A * B by omega)
          exact ⟨gphB_opn.2 ⟨p1, inBx_whole hc, p3⟩, by rw [gphB_k p2, gphB_k (inBx_whole hc)]⟩) (fun i _ j hj => hj)
        have HMONO := Lib.hid hmono
        have HCHK := Lib.hid hchk
        have HEW := Lib.hid hew
        have hil := numN_at on1 hn
        have hkl := numN_at on2 hn
        have u1 := far_allU hf1
        have u2 := far_allU hf2
        obtain ⟨p1, p2, p3, p4, p5, p6, p7, p8⟩ := inB_iff.1 on1
        obtain ⟨q1, q2, q3, q4, q5, q6, q7, q8⟩ := inB_iff.1 on2
        obtain ⟨m1, m2⟩ := mul_bd p7 (by omega) p1 p2
        obtain ⟨m3, m4⟩ := mul_bd q7 (by omega) p1 p2
        obtain ⟨i, hi⟩ : ∃ i, numN A F = i := ⟨_, rfl⟩
        obtain ⟨k, hk⟩ : ∃ k, numN A T = k := ⟨_, rfl⟩
        rw [hi] at hadd n1 hil
        rw [hk] at hadd n3 hkl
        have hw1 : IntKind.i64.wrap (F.2 * A) = F.2 * A := IntWalk.i64_in _ (by omega)
        have hw2 : IntKind.i64.wrap (F.2 * A + F.1) = (i : Int) := by rw [n1]; exact IntWalk.i64_in _ (by omega)
        have hw3 : IntKind.i64.wrap (T.2 * A) = T.2 * A := IntWalk.i64_in _ (by omega)
        have hw4 : IntKind.i64.wrap (T.2 * A + T.1) = (k : Int) := by rw [n3]; exact IntWalk.i64_in _ (by omega)
        have hi0 : (0 : Int) ≤ (i : Int) := by omega
        have hi1 : (i : Int) < (zs.length : Int) := by omega
        have hk0 : (0 : Int) ≤ (k : Int) := by omega
        have hk1 : (k : Int) < (zs.length : Int) := by omega
        rw [hll, hml]
        have HADD := Lib.hid hadd
        have HI := Lib.hid hi
        have HK := Lib.hid hk
        have lh : ((zs.length : Int) != (zs.length : Int)) = false := by simp
        clear hadd n1 n2 n3 n4 m1 m2 m3 m4 p1 p2 p3 p4 p5 p6 p7 p8 q1 q2 q3 q4 q5 q6 q7 q8 hi hk hew hmono hin1 hin2 hfit hf1 hf2 on1 on2 hchk
        have HLL := Lib.hid hll
        have HML := Lib.hid hml
        have HNN := Lib.hid hn
        clear hll hml hn
        go_wp2_with fail
        refine (check_any _ _ _ _ _ _).mono ?_
        rintro e w4 ⟨rfl, hb4⟩
        replace hA := bl_tr hA hb4
        replace f0 := cell_later hb4 f0; replace f1 := cell_later hb4 f1; replace f2 := cell_later hb4 f2; replace x0 := cell_later hb4 x0; replace x1 := cell_later hb4 x1; replace x2 := cell_later hb4 x2; replace x3 := cell_later hb4 x3
        replace hru1 := hru1.below hb4
        replace hru2 := hru2.below hb4
        have zf4 := blk_lt f0
        have zx4 := blk_lt x0
        rw [HCHK.out]
        clear hb4 zf zx
        go_wp2_with fail
        have d1 : decide ((i : Int) < 0) = false := decide_eq_false (by omega)
        have d2 : decide ((zs.length : Int) ≤ (i : Int)) = false := decide_eq_false (by omega)
        have d3 : decide ((k : Int) < 0) = false := decide_eq_false (by omega)
        have d4 : decide ((zs.length : Int) ≤ (k : Int)) = false := decide_eq_false (by omega)
        have d5 : decide (zs.length ≤ i) = false := decide_eq_false (by omega)
        have d6 : decide (zs.length ≤ k) = false := decide_eq_false (by omega)
        have hD := bl_dr (bl0 w4)
        obtain ⟨g1, o1, r1, ql⟩ := (hru1.below hD).cell (show k < l.length by rw [HLL.out]; exact hkl)
        subst r1
        obtain ⟨g2, o2, r1, qm⟩ := (hru2.below hD).cell (show i < m.length by rw [HML.out]; exact hil)
        subst r1
        obtain ⟨gz, oz, r1, qi⟩ := ((hr.below hA).below hD).cell hil
        subst r1
        obtain ⟨gz', oz', r1, qk⟩ := ((hr.below hA).below hD).cell hkl
        cases r1
        rw [getD_get hil] at qi
        rw [getD_get hkl] at qk
        have hzi := getD_in hu i
        have hzk := getD_in hu k
        have hul : inU (atD l k) := by rw [← atD_get (show k < l.length by rw [HLL.out]; exact hkl)]; exact u1 _ (List.getElem_mem _)
        have hum : inU (atD m i) := by rw [← atD_get (show i < m.length by rw [HML.out]; exact hil)]; exact u2 _ (List.getElem_mem _)
        have hadd := HADD.out
        obtain ⟨zi, hzi2⟩ : ∃ z, zs.getD i 0 = z := ⟨_, rfl⟩
        obtain ⟨zk, hzk2⟩ : ∃ z, zs.getD k 0 = z := ⟨_, rfl⟩
        obtain ⟨lk, hlk2⟩ : ∃ z, atD l k = z := ⟨_, rfl⟩
        obtain ⟨mi, hmi2⟩ : ∃ z, atD m i = z := ⟨_, rfl⟩
        rw [hzi2] at qi hzi hadd
        rw [hzk2] at qk hzk hadd
        rw [hlk2] at ql hul hadd
        rw [hmi2] at qm hum hadd
        have ha1 := fun W => add_any lk zi W hul ⟨hzi.1, by omega⟩
        have ha2 := fun W => add_any mi zk W hum ⟨hzk.1, by omega⟩
        rw [hadd] at ha1
        obtain ⟨sm, hsm2⟩ : ∃ z, addC mi zk = z := ⟨_, rfl⟩
        rw [hsm2] at ha1 ha2
        have hwi : IntKind.u64.wrap zi = zi := IntWalk.u64_in _ (by omega)
        have hwk : IntKind.u64.wrap zk = zk := IntWalk.u64_in _ (by omega)
        have ff2 := cell_later hD f2
        clear hzi2 hzk2 hlk2 hmi2 hsm2 hadd
        have hS : w4.drew.cell? ⟨w.heap.size, 2, none⟩ = some (.slice (some ⟨gz, oz, none⟩) zs.length cap) ∧ w4.drew.cell? ⟨g1, o1 + k, none⟩ = some (.int .u64 lk) ∧ w4.drew.cell? ⟨g2, o2 + i, none⟩ = some (.int .u64 mi) ∧ w4.drew.cell? ⟨gz, oz + i, none⟩ = some (.int .u16 zi) ∧ w4.drew.cell? ⟨gz, oz + k, none⟩ = some (.int .u16 zk) := ⟨ff2, ql, qm, qi, qk⟩
        refine (wpIn_wide (n := 11)).1 ?_
        refine ordS_begin (S := (fun w' : World => w'.cell? ⟨w.heap.size, 2, none⟩ = some (.slice (some ⟨gz, oz, none⟩) zs.length cap) ∧ w'.cell? ⟨g1, o1 + k, none⟩ = some (.int .u64 lk) ∧ w'.cell? ⟨g2, o2 + i, none⟩ = some (.int .u64 mi) ∧ w'.cell? ⟨gz, oz + i, none⟩ = some (.int .u16 zi) ∧ w'.cell? ⟨gz, oz + k, none⟩ = some (.int .u16 zk))) (by kernel_rfl) hS (fun hH => ?_)
        refine' ordS_take (i := 0) (oi := { dst := some 84, op := Op.move (Operand.tmp 11), type := 3, pos := _, after := #[], guard := none }) (v := _) rfl (by kernel_rfl) (by kernel_rfl) (by kernel_rfl) (by kernel_rfl) (fun _ _ _ h => h) (by assumption) (Or.inl ⟨by rfl, ?hy1⟩) (fun _ => rfl) ?rest1
        case hy1 => (intro w hSw; (try dsimp only at hSw); go_simp; try with_reducible rfl)
        try simp only [Act.put, List.setIfInBounds_toArray, List.set_cons_zero, List.set_cons_succ]
        refine' ordS_take (i := 1) (oi := { dst := some 85, op := Op.binOp BinOp.lss 3 (Operand.tmp 84) (Operand.const (Value.int IntKind.i64 0)) 3, type := 4, pos := _, after := #[{ on := 0, ground := Ground.data }], guard := none }) (v := _) rfl (by kernel_rfl) (by kernel_rfl) (by kernel_rfl) (by kernel_rfl) (fun _ _ _ h => h) (by assumption) (Or.inl ⟨by rfl, ?hy2⟩) (fun _ => rfl) ?rest2
        case hy2 => (intro w hSw; (try dsimp only at hSw); go_simp; try with_reducible rfl)
        try simp only [Act.put, List.setIfInBounds_toArray, List.set_cons_zero, List.set_cons_succ]
        refine' ordS_take (i := 2) (oi := { dst := some 86, op := Op.move (Operand.tmp 85), type := 4, pos := _, after := #[{ on := 1, ground := Ground.data }], guard := none }) (v := _) rfl (by kernel_rfl) (by kernel_rfl) (by kernel_rfl) (by kernel_rfl) (fun _ _ _ h => h) (by assumption) (Or.inl ⟨by rfl, ?hy3⟩) (fun _ => rfl) ?rest3
        case hy3 => (intro w hSw; (try dsimp only at hSw); go_simp; try with_reducible rfl)
        try simp only [Act.put, List.setIfInBounds_toArray, List.set_cons_zero, List.set_cons_succ]
        refine' ordS_take (i := 3) (oi := { dst := some 87, op := Op.move (Operand.tmp 11), type := 3, pos := _, after := #[{ on := 2, ground := Ground.guard }], guard := some (2, false) }) (v := _) rfl (by kernel_rfl) (by kernel_rfl) (by kernel_rfl) (by kernel_rfl) (fun _ _ _ h => h) (by assumption) (Or.inl ⟨by rfl, ?hy4⟩) (fun _ => rfl) ?rest4
        case hy4 => (intro w hSw; (try dsimp only at hSw); go_simp; try with_reducible rfl)
        try simp only [Act.put, List.setIfInBounds_toArray, List.set_cons_zero, List.set_cons_succ]
        refine' ordS_take (i := 4) (oi := { dst := some 88, op := Op.move (Operand.tmp 7), type := 33, pos := _, after := #[{ on := 2, ground := Ground.guard }], guard := some (2, false) }) (v := _) rfl (by kernel_rfl) (by kernel_rfl) (by kernel_rfl) (by kernel_rfl) (fun _ _ _ h => h) (by assumption) (Or.inl ⟨by rfl, ?hy5⟩) (fun _ => rfl) ?rest5
        case hy5 => (intro w hSw; (try dsimp only at hSw); go_simp; try with_reducible rfl)
        try simp only [Act.put, List.setIfInBounds_toArray, List.set_cons_zero, List.set_cons_succ]
        refine' ordS_take (i := 5) (oi := { dst := some 89, op := Op.call { callee := Callee.builtin Builtin.len, args := #[Operand.tmp 88], argTypes := #[33] }, type := 3, pos := _, after := #[{ on := 4, ground := Ground.data }, { on := 2, ground := Ground.guard }], guard := some (2, false) }) (v := _) rfl (by kernel_rfl) (by kernel_rfl) (by kernel_rfl) (by kernel_rfl) (fun _ _ _ h => h) (by assumption) (Or.inl ⟨by rfl, ?hy6⟩) (fun _ => rfl) ?rest6
        case hy6 => (intro w hSw; (try dsimp only at hSw); go_simp; try with_reducible rfl)
        try simp only [Act.put, List.setIfInBounds_toArray, List.set_cons_zero, List.set_cons_succ]
        refine' ordS_take (i := 6) (oi := { dst := some 90, op := Op.binOp BinOp.geq 3 (Operand.tmp 87) (Operand.tmp 89) 3, type := 4, pos := _, after := #[{ on := 3, ground := Ground.data }, { on := 5, ground := Ground.data }, { on := 2, ground := Ground.guard }], guard := some (2, false) }) (v := _) rfl (by kernel_rfl) (by kernel_rfl) (by kernel_rfl) (by kernel_rfl) (fun _ _ _ h => h) (by assumption) (Or.inl ⟨by rfl, ?hy7⟩) (fun _ => rfl) ?rest7
        case hy7 => (intro w hSw; (try dsimp only at hSw); go_simp; try with_reducible rfl)
        try simp only [Act.put, List.setIfInBounds_toArray, List.set_cons_zero, List.set_cons_succ]
        refine' ordS_take (i := 7) (oi := { dst := some 91, op := Op.pick (Operand.tmp 86) (Operand.const (Value.bool true)) (Operand.tmp 90), type := 4, pos := _, after := #[{ on := 2, ground := Ground.data }, { on := 6, ground := Ground.data }], guard := none }) (v := _) rfl (by kernel_rfl) (by kernel_rfl) (by kernel_rfl) (by kernel_rfl) (fun _ _ _ h => h) (by assumption) (Or.inl ⟨by rfl, ?hy8⟩) (fun _ => rfl) ?rest8
        case hy8 => (intro w hSw; (try dsimp only at hSw); go_simp; try with_reducible rfl)
        try simp only [Act.put, List.setIfInBounds_toArray, List.set_cons_zero, List.set_cons_succ]
        refine' ordS_take (i := 8) (oi := { dst := some 92, op := Op.move (Operand.tmp 91), type := 4, pos := _, after := #[{ on := 7, ground := Ground.data }, { on := 2, ground := Ground.chain }], guard := none }) (v := _) rfl (by kernel_rfl) (by kernel_rfl) (by kernel_rfl) (by kernel_rfl) (fun _ _ _ h => h) (by assumption) (Or.inl ⟨by rfl, ?hy9⟩) (fun _ => rfl) ?rest9
        case hy9 => (intro w hSw; (try dsimp only at hSw); go_simp; try with_reducible rfl)
        try simp only [Act.put, List.setIfInBounds_toArray, List.set_cons_zero, List.set_cons_succ]
        refine' ordS_take (i := 9) (oi := { dst := some 93, op := Op.move (Operand.tmp 12), type := 3, pos := _, after := #[{ on := 8, ground := Ground.guard }], guard := some (8, false) }) (v := _) rfl (by kernel_rfl) (by kernel_rfl) (by kernel_rfl) (by kernel_rfl) (fun _ _ _ h => h) (by assumption) (Or.inl ⟨by rfl, ?hy10⟩) (fun _ => rfl) ?rest10
        case hy10 => (intro w hSw; (try dsimp only at hSw); go_simp; try with_reducible rfl)
        try simp only [Act.put, List.setIfInBounds_toArray, List.set_cons_zero, List.set_cons_succ]
        refine' ordS_take (i := 10) (oi := { dst := some 94, op := Op.binOp BinOp.lss 3 (Operand.tmp 93) (Operand.const (Value.int IntKind.i64 0)) 3, type := 4, pos := _, after := #[{ on := 9, ground := Ground.data }, { on := 8, ground := Ground.guard }], guard := some (8, false) }) (v := _) rfl (by kernel_rfl) (by kernel_rfl) (by kernel_rfl) (by kernel_rfl) (fun _ _ _ h => h) (by assumption) (Or.inl ⟨by rfl, ?hy11⟩) (fun _ => rfl) ?rest11
        case hy11 => (intro w hSw; (try dsimp only at hSw); go_simp; try with_reducible rfl)
        try simp only [Act.put, List.setIfInBounds_toArray, List.set_cons_zero, List.set_cons_succ]
        refine' ordS_take (i := 11) (oi := { dst := some 95, op := Op.pick (Operand.tmp 92) (Operand.const (Value.bool true)) (Operand.tmp 94), type := 4, pos := _, after := #[{ on := 8, ground := Ground.data }, { on := 10, ground := Ground.data }], guard := none }) (v := _) rfl (by kernel_rfl) (by kernel_rfl) (by kernel_rfl) (by kernel_rfl) (fun _ _ _ h => h) (by assumption) (Or.inl ⟨by rfl, ?hy12⟩) (fun _ => rfl) ?rest12
        case hy12 => (intro w hSw; (try dsimp only at hSw); go_simp; try with_reducible rfl)
        try simp only [Act.put, List.setIfInBounds_toArray, List.set_cons_zero, List.set_cons_succ]
        refine' ordS_take (i := 12) (oi := { dst := some 96, op := Op.move (Operand.tmp 95), type := 4, pos := _, after := #[{ on := 11, ground := Ground.data }, { on := 8, ground := Ground.chain }], guard := none }) (v := _) rfl (by kernel_rfl) (by kernel_rfl) (by kernel_rfl) (by kernel_rfl) (fun _ _ _ h => h) (by assumption) (Or.inl ⟨by rfl, ?hy13⟩) (fun _ => rfl) ?rest13
        case hy13 => (intro w hSw; (try dsimp only at hSw); go_simp; try with_reducible rfl)
        try simp only [Act.put, List.setIfInBounds_toArray, List.set_cons_zero, List.set_cons_succ]
        refine' ordS_take (i := 13) (oi := { dst := some 97, op := Op.move (Operand.tmp 12), type := 3, pos := _, after := #[{ on := 12, ground := Ground.guard }], guard := some (12, false) }) (v := _) rfl (by kernel_rfl) (by kernel_rfl) (by kernel_rfl) (by kernel_rfl) (fun _ _ _ h => h) (by assumption) (Or.inl ⟨by rfl, ?hy14⟩) (fun _ => rfl) ?rest14
        case hy14 => (intro w hSw; (try dsimp only at hSw); go_simp; try with_reducible rfl)
        try simp only [Act.put, List.setIfInBounds_toArray, List.set_cons_zero, List.set_cons_succ]
        refine' ordS_take (i := 14) (oi := { dst := some 98, op := Op.move (Operand.tmp 7), type := 33, pos := _, after := #[{ on := 12, ground := Ground.guard }], guard := some (12, false) }) (v := _) rfl (by kernel_rfl) (by kernel_rfl) (by kernel_rfl) (by kernel_rfl) (fun _ _ _ h => h) (by assumption) (Or.inl ⟨by rfl, ?hy15⟩) (fun _ => rfl) ?rest15
        case hy15 => (intro w hSw; (try dsimp only at hSw); go_simp; try with_reducible rfl)
        try simp only [Act.put, List.setIfInBounds_toArray, List.set_cons_zero, List.set_cons_succ]
        refine' ordS_take (i := 15) (oi := { dst := some 99, op := Op.call { callee := Callee.builtin Builtin.len, args := #[Operand.tmp 98], argTypes := #[33] }, type := 3, pos := _, after := #[{ on := 14, ground := Ground.data }, { on := 12, ground := Ground.guard }], guard := some (12, false) }) (v := _) rfl (by kernel_rfl) (by kernel_rfl) (by kernel_rfl) (by kernel_rfl) (fun _ _ _ h => h) (by assumption) (Or.inl ⟨by rfl, ?hy16⟩) (fun _ => rfl) ?rest16
        case hy16 => (intro w hSw; (try dsimp only at hSw); go_simp; try with_reducible rfl)
        try simp only [Act.put, List.setIfInBounds_toArray, List.set_cons_zero, List.set_cons_succ]
        refine' ordS_take (i := 16) (oi := { dst := some 100, op := Op.binOp BinOp.geq 3 (Operand.tmp 97) (Operand.tmp 99) 3, type := 4, pos := _, after := #[{ on := 13, ground := Ground.data }, { on := 15, ground := Ground.data }, { on := 12, ground := Ground.guard }], guard := some (12, false) }) (v := _) rfl (by kernel_rfl) (by kernel_rfl) (by kernel_rfl) (by kernel_rfl) (fun _ _ _ h => h) (by assumption) (Or.inl ⟨by rfl, ?hy17⟩) (fun _ => rfl) ?rest17
        case hy17 => (intro w hSw; (try dsimp only at hSw); go_simp; try with_reducible rfl)
        try simp only [Act.put, List.setIfInBounds_toArray, List.set_cons_zero, List.set_cons_succ]
        refine' ordS_take (i := 17) (oi := { dst := some 101, op := Op.pick (Operand.tmp 96) (Operand.const (Value.bool true)) (Operand.tmp 100), type := 4, pos := _, after := #[{ on := 12, ground := Ground.data }, { on := 16, ground := Ground.data }], guard := none }) (v := _) rfl (by kernel_rfl) (by kernel_rfl) (by kernel_rfl) (by kernel_rfl) (fun _ _ _ h => h) (by assumption) (Or.inl ⟨by rfl, ?hy18⟩) (fun _ => rfl) ?rest18
        case hy18 => (intro w hSw; (try dsimp only at hSw); go_simp; try with_reducible rfl)
        try simp only [Act.put, List.setIfInBounds_toArray, List.set_cons_zero, List.set_cons_succ]
        refine' ordS_take (i := 18) (oi := { dst := some 102, op := Op.move (Operand.tmp 101), type := 4, pos := _, after := #[{ on := 17, ground := Ground.data }, { on := 12, ground := Ground.chain }], guard := none }) (v := _) rfl (by kernel_rfl) (by kernel_rfl) (by kernel_rfl) (by kernel_rfl) (fun _ _ _ h => h) (by assumption) (Or.inl ⟨by rfl, ?hy19⟩) (fun _ => rfl) ?rest19
        case hy19 => (intro w hSw; (try dsimp only at hSw); go_simp; try with_reducible rfl)
        try simp only [Act.put, List.setIfInBounds_toArray, List.set_cons_zero, List.set_cons_succ]
        refine' ordS_take (i := 19) (oi := { dst := some 103, op := Op.move (Operand.tmp 7), type := 33, pos := _, after := #[{ on := 18, ground := Ground.guard }], guard := some (18, false) }) (v := _) rfl (by kernel_rfl) (by kernel_rfl) (by kernel_rfl) (by kernel_rfl) (fun _ _ _ h => h) (by assumption) (Or.inl ⟨by rfl, ?hy20⟩) (fun _ => rfl) ?rest20
        case hy20 => (intro w hSw; (try dsimp only at hSw); go_simp; try with_reducible rfl)
        try simp only [Act.put, List.setIfInBounds_toArray, List.set_cons_zero, List.set_cons_succ]
        refine' ordS_take (i := 20) (oi := { dst := some 104, op := Op.move (Operand.tmp 12), type := 3, pos := _, after := #[{ on := 18, ground := Ground.guard }], guard := some (18, false) }) (v := _) rfl (by kernel_rfl) (by kernel_rfl) (by kernel_rfl) (by kernel_rfl) (fun _ _ _ h => h) (by assumption) (Or.inl ⟨by rfl, ?hy21⟩) (fun _ => rfl) ?rest21
        case hy21 => (intro w hSw; (try dsimp only at hSw); go_simp; try with_reducible rfl)
        try simp only [Act.put, List.setIfInBounds_toArray, List.set_cons_zero, List.set_cons_succ]
        refine' ordS_take (i := 21) (oi := { dst := some 105, op := Op.indexAddr 33 (Operand.tmp 103) (Operand.tmp 104), type := 0, pos := _, after := #[{ on := 19, ground := Ground.data }, { on := 20, ground := Ground.data }, { on := 18, ground := Ground.guard }], guard := some (18, false) }) (v := _) rfl (by kernel_rfl) (by kernel_rfl) (by kernel_rfl) (by kernel_rfl) (fun _ _ _ h => h) (by assumption) (Or.inl ⟨by rfl, ?hy22⟩) (fun _ => rfl) ?rest22
        case hy22 => (intro w hSw; (try dsimp only at hSw); go_simp; try with_reducible rfl)
        try simp only [Act.put, List.setIfInBounds_toArray, List.set_cons_zero, List.set_cons_succ]
        refine' ordS_take (i := 22) (oi := { dst := some 106, op := Op.load 45 (Operand.tmp 105), type := 45, pos := _, after := #[{ on := 21, ground := Ground.data }, { on := 18, ground := Ground.guard }], guard := some (18, false) }) (v := _) rfl (by kernel_rfl) (by kernel_rfl) (by kernel_rfl) (by kernel_rfl) (fun _ _ _ h => h) (by assumption) (Or.inl ⟨by rfl, ?hy23⟩) (fun _ => rfl) ?rest23
        case hy23 => (intro w hSw; (try dsimp only at hSw); go_simp; try with_reducible rfl)
        try simp only [Act.put, List.setIfInBounds_toArray, List.set_cons_zero, List.set_cons_succ]
        refine' ordS_take (i := 23) (oi := { dst := some 107, op := Op.fieldAddr 26 (Operand.tmp 3) 1, type := 0, pos := _, after := #[{ on := 18, ground := Ground.guard }], guard := some (18, false) }) (v := _) rfl (by kernel_rfl) (by kernel_rfl) (by kernel_rfl) (by kernel_rfl) (fun _ _ _ h => h) (by assumption) (Or.inl ⟨by rfl, ?hy24⟩) (fun _ => rfl) ?rest24
        case hy24 => (intro w hSw; (try dsimp only at hSw); go_simp; try with_reducible rfl)
        try simp only [Act.put, List.setIfInBounds_toArray, List.set_cons_zero, List.set_cons_succ]
        refine' ordS_take (i := 24) (oi := { dst := some 108, op := Op.load 24 (Operand.tmp 107), type := 24, pos := _, after := #[{ on := 23, ground := Ground.data }, { on := 18, ground := Ground.guard }], guard := some (18, false) }) (v := _) rfl (by kernel_rfl) (by kernel_rfl) (by kernel_rfl) (by kernel_rfl) (fun _ _ _ h => h) (by assumption) (Or.inl ⟨by rfl, ?hy25⟩) (fun _ => rfl) ?rest25
        case hy25 => (intro w hSw; (try dsimp only at hSw); go_simp; try with_reducible rfl)
        try simp only [Act.put, List.setIfInBounds_toArray, List.set_cons_zero, List.set_cons_succ]
        refine' ordS_take (i := 25) (oi := { dst := some 109, op := Op.move (Operand.tmp 11), type := 3, pos := _, after := #[{ on := 18, ground := Ground.guard }], guard := some (18, false) }) (v := _) rfl (by kernel_rfl) (by kernel_rfl) (by kernel_rfl) (by kernel_rfl) (fun _ _ _ h => h) (by assumption) (Or.inl ⟨by rfl, ?hy26⟩) (fun _ => rfl) ?rest26
        case hy26 => (intro w hSw; (try dsimp only at hSw); go_simp; try with_reducible rfl)
        try simp only [Act.put, List.setIfInBounds_toArray, List.set_cons_zero, List.set_cons_succ]
        refine' ordS_take (i := 26) (oi := { dst := some 110, op := Op.indexAddr 24 (Operand.tmp 108) (Operand.tmp 109), type := 0, pos := _, after := #[{ on := 24, ground := Ground.data }, { on := 25, ground := Ground.data }, { on := 18, ground := Ground.guard }], guard := some (18, false) }) (v := _) rfl (by kernel_rfl) (by kernel_rfl) (by kernel_rfl) (by kernel_rfl) (fun _ _ _ h => h) (by assumption) (Or.inl ⟨by rfl, ?hy27⟩) (fun _ => rfl) ?rest27
        case hy27 => (intro w hSw; (try dsimp only at hSw); go_simp; try with_reducible rfl)
        try simp only [Act.put, List.setIfInBounds_toArray, List.set_cons_zero, List.set_cons_succ]
        refine' ordS_take (i := 27) (oi := { dst := some 111, op := Op.load 53 (Operand.tmp 110), type := 53, pos := _, after := #[{ on := 26, ground := Ground.data }, { on := 18, ground := Ground.guard }], guard := some (18, false) }) (v := _) rfl (by kernel_rfl) (by kernel_rfl) (by kernel_rfl) (by kernel_rfl) (fun _ _ _ h => h) (by assumption) (Or.inl ⟨by rfl, ?hy28⟩) (fun _ => rfl) ?rest28
        case hy28 => (intro w hSw; (try dsimp only at hSw); go_simp; try with_reducible rfl)
        try simp only [Act.put, List.setIfInBounds_toArray, List.set_cons_zero, List.set_cons_succ]
        refine' ordS_take (i := 28) (oi := { dst := some 112, op := Op.convert 53 45 (Operand.tmp 111), type := 45, pos := _, after := #[{ on := 27, ground := Ground.data }, { on := 18, ground := Ground.guard }], guard := some (18, false) }) (v := _) rfl (by kernel_rfl) (by kernel_rfl) (by kernel_rfl) (by kernel_rfl) (fun _ _ _ h => h) (by assumption) (Or.inl ⟨by rfl, ?hy29⟩) (fun _ => rfl) ?rest29
        case hy29 => (intro w hSw; (try dsimp only at hSw); go_simp; try with_reducible rfl)
        try simp only [Act.put, List.setIfInBounds_toArray, List.set_cons_zero, List.set_cons_succ]
        refine' ordS_take (i := 30) (oi := { dst := some 114, op := Op.move (Operand.tmp 9), type := 33, pos := _, after := #[{ on := 18, ground := Ground.guard }], guard := some (18, false) }) (v := _) rfl (by kernel_rfl) (by kernel_rfl) (by kernel_rfl) (by kernel_rfl) (fun _ _ _ h => h) (by assumption) (Or.inl ⟨by rfl, ?hy30⟩) (fun _ => rfl) ?rest30
        case hy30 => (intro w hSw; (try dsimp only at hSw); go_simp; try with_reducible rfl)
        try simp only [Act.put, List.setIfInBounds_toArray, List.set_cons_zero, List.set_cons_succ]
        refine' ordS_take (i := 31) (oi := { dst := some 115, op := Op.move (Operand.tmp 11), type := 3, pos := _, after := #[{ on := 18, ground := Ground.guard }], guard := some (18, false) }) (v := _) rfl (by kernel_rfl) (by kernel_rfl) (by kernel_rfl) (by kernel_rfl) (fun _ _ _ h => h) (by assumption) (Or.inl ⟨by rfl, ?hy31⟩) (fun _ => rfl) ?rest31
        case hy31 => (intro w hSw; (try dsimp only at hSw); go_simp; try with_reducible rfl)
        try simp only [Act.put, List.setIfInBounds_toArray, List.set_cons_zero, List.set_cons_succ]
        refine' ordS_take (i := 32) (oi := { dst := some 116, op := Op.indexAddr 33 (Operand.tmp 114) (Operand.tmp 115), type := 0, pos := _, after := #[{ on := 30, ground := Ground.data }, { on := 31, ground := Ground.data }, { on := 18, ground := Ground.guard }], guard := some (18, false) }) (v := _) rfl (by kernel_rfl) (by kernel_rfl) (by kernel_rfl) (by kernel_rfl) (fun _ _ _ h => h) (by assumption) (Or.inl ⟨by rfl, ?hy32⟩) (fun _ => rfl) ?rest32
        case hy32 => (intro w hSw; (try dsimp only at hSw); go_simp; try with_reducible rfl)
        try simp only [Act.put, List.setIfInBounds_toArray, List.set_cons_zero, List.set_cons_succ]
        refine' ordS_take (i := 33) (oi := { dst := some 117, op := Op.load 45 (Operand.tmp 116), type := 45, pos := _, after := #[{ on := 32, ground := Ground.data }, { on := 18, ground := Ground.guard }], guard := some (18, false) }) (v := _) rfl (by kernel_rfl) (by kernel_rfl) (by kernel_rfl) (by kernel_rfl) (fun _ _ _ h => h) (by assumption) (Or.inl ⟨by rfl, ?hy33⟩) (fun _ => rfl) ?rest33
        case hy33 => (intro w hSw; (try dsimp only at hSw); go_simp; try with_reducible rfl)
        try simp only [Act.put, List.setIfInBounds_toArray, List.set_cons_zero, List.set_cons_succ]
        refine' ordS_take (i := 34) (oi := { dst := some 118, op := Op.fieldAddr 26 (Operand.tmp 3) 1, type := 0, pos := _, after := #[{ on := 18, ground := Ground.guard }], guard := some (18, false) }) (v := _) rfl (by kernel_rfl) (by kernel_rfl) (by kernel_rfl) (by kernel_rfl) (fun _ _ _ h => h) (by assumption) (Or.inl ⟨by rfl, ?hy34⟩) (fun _ => rfl) ?rest34
        case hy34 => (intro w hSw; (try dsimp only at hSw); go_simp; try with_reducible rfl)
        try simp only [Act.put, List.setIfInBounds_toArray, List.set_cons_zero, List.set_cons_succ]
        refine' ordS_take (i := 35) (oi := { dst := some 119, op := Op.load 24 (Operand.tmp 118), type := 24, pos := _, after := #[{ on := 34, ground := Ground.data }, { on := 18, ground := Ground.guard }], guard := some (18, false) }) (v := _) rfl (by kernel_rfl) (by kernel_rfl) (by kernel_rfl) (by kernel_rfl) (fun _ _ _ h => h) (by assumption) (Or.inl ⟨by rfl, ?hy35⟩) (fun _ => rfl) ?rest35
        case hy35 => (intro w hSw; (try dsimp only at hSw); go_simp; try with_reducible rfl)
        try simp only [Act.put, List.setIfInBounds_toArray, List.set_cons_zero, List.set_cons_succ]
        refine' ordS_take (i := 36) (oi := { dst := some 120, op := Op.move (Operand.tmp 12), type := 3, pos := _, after := #[{ on := 18, ground := Ground.guard }], guard := some (18, false) }) (v := _) rfl (by kernel_rfl) (by kernel_rfl) (by kernel_rfl) (by kernel_rfl) (fun _ _ _ h => h) (by assumption) (Or.inl ⟨by rfl, ?hy36⟩) (fun _ => rfl) ?rest36
        case hy36 => (intro w hSw; (try dsimp only at hSw); go_simp; try with_reducible rfl)
        try simp only [Act.put, List.setIfInBounds_toArray, List.set_cons_zero, List.set_cons_succ]
        refine' ordS_take (i := 37) (oi := { dst := some 121, op := Op.indexAddr 24 (Operand.tmp 119) (Operand.tmp 120), type := 0, pos := _, after := #[{ on := 35, ground := Ground.data }, { on := 36, ground := Ground.data }, { on := 18, ground := Ground.guard }], guard := some (18, false) }) (v := _) rfl (by kernel_rfl) (by kernel_rfl) (by kernel_rfl) (by kernel_rfl) (fun _ _ _ h => h) (by assumption) (Or.inl ⟨by rfl, ?hy37⟩) (fun _ => rfl) ?rest37
        case hy37 => (intro w hSw; (try dsimp only at hSw); go_simp; try with_reducible rfl)
        try simp only [Act.put, List.setIfInBounds_toArray, List.set_cons_zero, List.set_cons_succ]
        refine' ordS_take (i := 38) (oi := { dst := some 122, op := Op.load 53 (Operand.tmp 121), type := 53, pos := _, after := #[{ on := 37, ground := Ground.data }, { on := 18, ground := Ground.guard }], guard := some (18, false) }) (v := _) rfl (by kernel_rfl) (by kernel_rfl) (by kernel_rfl) (by kernel_rfl) (fun _ _ _ h => h) (by assumption) (Or.inl ⟨by rfl, ?hy38⟩) (fun _ => rfl) ?rest38
        case hy38 => (intro w hSw; (try dsimp only at hSw); go_simp; try with_reducible rfl)
        try simp only [Act.put, List.setIfInBounds_toArray, List.set_cons_zero, List.set_cons_succ]
        refine' ordS_take (i := 39) (oi := { dst := some 123, op := Op.convert 53 45 (Operand.tmp 122), type := 45, pos := _, after := #[{ on := 38, ground := Ground.data }, { on := 18, ground := Ground.guard }], guard := some (18, false) }) (v := _) rfl (by kernel_rfl) (by kernel_rfl) (by kernel_rfl) (by kernel_rfl) (fun _ _ _ h => h) (by assumption) (Or.inl ⟨by rfl, ?hy39⟩) (fun _ => rfl) ?rest39
        case hy39 => (intro w hSw; (try dsimp only at hSw); go_simp; try with_reducible rfl)
        try simp only [Act.put, List.setIfInBounds_toArray, List.set_cons_zero, List.set_cons_succ]
        refine ordS_one (i := 29) (o := { dst := some 113, op := Op.call { callee := Callee.value (Operand.func 26), args := #[Operand.tmp 106, Operand.tmp 112], argTypes := #[45, 45] }, type := 45, pos := _, after := #[{ on := 22, ground := Ground.data }, { on := 28, ground := Ground.data }, { on := 18, ground := Ground.chain }, { on := 18, ground := Ground.guard }], guard := some (18, false) }) (by kernel_rfl) rfl (by rfl) (fun K hK => ?_)
        go_simp
        refine ⟨trivial, ?_⟩
        with_reducible refine (callsIn_wide.2 (ha1 _)).mono ?_
        rintro e W6 ⟨rfl, rfl⟩
        refine hK _ _ hS ?_
        clear hK K
        try simp only [Act.put, List.setIfInBounds_toArray, List.set_cons_zero, List.set_cons_succ]
        refine ordS_one (i := 40) (o := { dst := some 124, op := Op.call { callee := Callee.value (Operand.func 26), args := #[Operand.tmp 117, Operand.tmp 123], argTypes := #[45, 45] }, type := 45, pos := _, after := #[{ on := 33, ground := Ground.data }, { on := 39, ground := Ground.data }, { on := 29, ground := Ground.chain }, { on := 18, ground := Ground.guard }], guard := some (18, false) }) (by kernel_rfl) rfl (by rfl) (fun K hK => ?_)
        go_simp
        refine ⟨trivial, ?_⟩
        with_reducible refine (callsIn_wide.2 (ha2 _)).mono ?_
        rintro e W6 ⟨rfl, rfl⟩
        refine hK _ _ hS ?_
        clear hK K
        try simp only [Act.put, List.setIfInBounds_toArray, List.set_cons_zero, List.set_cons_succ]
        have bse : (sm != sm) = false := by simp
        refine' ordS_take (i := 41) (oi := { dst := some 125, op := Op.binOp BinOp.neq 45 (Operand.tmp 113) (Operand.tmp 124) 45, type := 4, pos := _, after := #[{ on := 29, ground := Ground.data }, { on := 40, ground := Ground.data }, { on := 18, ground := Ground.guard }], guard := some (18, false) }) (v := _) rfl (by kernel_rfl) (by kernel_rfl) (by kernel_rfl) (by kernel_rfl) (fun _ _ _ h => h) (by assumption) (Or.inl ⟨by rfl, ?hy40⟩) (fun _ => rfl) ?rest40
        case hy40 => (intro w hSw; (try dsimp only at hSw); go_simp; try with_reducible rfl)
        try simp only [Act.put, List.setIfInBounds_toArray, List.set_cons_zero, List.set_cons_succ]
        refine' ordS_take (i := 42) (oi := { dst := some 126, op := Op.pick (Operand.tmp 102) (Operand.const (Value.bool true)) (Operand.tmp 125), type := 4, pos := _, after := #[{ on := 18, ground := Ground.data }, { on := 41, ground := Ground.data }], guard := none }) (v := _) rfl (by kernel_rfl) (by kernel_rfl) (by kernel_rfl) (by kernel_rfl) (fun _ _ _ h => h) (by assumption) (Or.inl ⟨by rfl, ?hy41⟩) (fun _ => rfl) ?rest41
        case hy41 => (intro w hSw; (try dsimp only at hSw); go_simp; try with_reducible rfl)
        try simp only [Act.put, List.setIfInBounds_toArray, List.set_cons_zero, List.set_cons_succ]
        refine ordS_done (by kernel_rfl) ?_
        replace hA := bl_tr hA hD
        replace f0 := cell_later hD f0; replace f1 := cell_later hD f1; replace x0 := cell_later hD x0; replace x1 := cell_later hD x1
        replace hru1 := hru1.below hD
        have hfrom := from_any A B (some ⟨gz, oz, none⟩) cap zs F w4.drew hu (hr.below hA) (hs.below hA)
        obtain ⟨w5, hw5⟩ : ∃ w5, w4.drew = w5 := ⟨_, rfl⟩
        rw [hw5] at hA f0 f1 ff2 x0 x1 hru1 hfrom ⊢
        clear d1 d2 d3 d4 d5 d6 hD ql qm qi qk ha1 ha2 hwi hwk hul hum hzi hzk hS hH bse hw1 hw2 hw3 hw4 hi0 hi1 hk0 hk1 f2 x2 x3 hru2 zf4 zx4
        have zf5 := blk_lt f0
        have zx5 := blk_lt x0
        clear hw5
        go_wp2_with fail
        refine hfrom.mono ?_
        rintro e w6 ⟨⟨b3, cap3, wh, rfl, hru3, -, hy3⟩, hb6⟩
        obtain ⟨hwl, hf3⟩ := hy3 HEW.out
        rw [HEW.out, hwl]
        have HM := Lib.hid (HMONO.out wh hf3)
        have HWL := Lib.hid hwl
        have hA6 := bl_tr hA hb6
        have hru16 := hru1.below hb6
        clear hfrom hy3 hwl hf3 hA hru1 hb6 f0 f1 ff2 x0 x1 zf5 zx5
        have hge0 : ¬ (zs.length < 0) := by omega
        go_wp2
        go_loopw [15] (fun j wr => ∃ n : Nat, n ≤ zs.length ∧ j = .int .i64 n ∧ Below w6.heap.size w6 wr) (fun j _ => zs.length - (intOf j).toNat)
        case atStart => exact ⟨0, Nat.zero_le _, rfl, bl0 _⟩
        case round =>
          obtain ⟨n, hnl, rfl, hB⟩ := hrel
          by_cases hlt : n < zs.length
          · have hlt2 : (n : Int) < (zs.length : Int) := by omega
            have hn0 : (0 : Int) ≤ (n : Int) := by omega
            obtain ⟨g3, o3, r3, qw⟩ := (hru3.below hB).cell (show n < wh.length by rw [HWL.out]; exact hlt)
            subst r3
            obtain ⟨g4, o4, r4, ql⟩ := (hru16.below hB).cell (show n < l.length by rw [HLL.out]; exact hlt)
            cases r4
            have hle := HM.out n
            have hgt : decide (atD l n < atD wh n) = false := decide_eq_false (by omega)
            generalize atD l n = x at *
            generalize atD wh n = y at *
            clear hle
            go_wp2
            go_quiet (fail)
            go_wp2
            go_roundw
            case rel => exact ⟨n + 1, by omega, by go_num, bl_tr hB (bl_drn _ _)⟩
            case measure => simp [intOf]; omega
          · have hge : ¬ ((n : Int) < (zs.length : Int)) := by omega
            have hA7 := bl_tr hA6 hB
            go_wp2_with fail
            refine (awake8 _ (hs.below hA7)).mono ?_
            rintro e w8 ⟨rfl, hb⟩
            have hA8 := bl_tr hA7 hb
            clear hb hA7 hA6 hB
            go_wp2
            go_ret
            exact ⟨rfl, hA8⟩
end Go.Proofs.YtjkecdghlpeigaaDoor
