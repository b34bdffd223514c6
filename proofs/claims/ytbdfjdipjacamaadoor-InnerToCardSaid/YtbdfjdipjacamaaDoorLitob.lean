/- InnerTo: the law's walk where the cell lies elsewhere. -/
import Derived.Test.YtbdfjdipjacamaaDoorLitoa
namespace Go.Proofs.YtbdfjdipjacamaaDoor
open Go.RowKit

set_option maxRecDepth 100000 in
set_option maxHeartbeats 8000000 in
/-- Where the cell lies elsewhere. -/
theorem ito_out (A B : Int) (a : Option Addr) (cap : Nat) (zs : List Int) (S : Int) (k0 : Nat) (ca : Option Addr) (cc : Nat) (cs : List IC) (p : IC) (w : World) (hs : Stp w) (hr : RowH w a zs) (hz : AllH zs) (hc : zs.length ≤ cap) (hcs : RowC w ca cs) (hw : AllW cs) (hp : wf64 p.1 ∧ wf64 p.2) (hsm : zs.length ≤ 260 ∧ cs.length ≤ 60) (h0 : chkI A B zs.length A B S k0 cs = 0) (h1 : hasI A B S k0 p = false) :
    Calls Tryd.prog 7 #[.agg #[.int .i64 A, .int .i64 B, .slice a zs.length cap], .agg #[.int .i64 A, .int .i64 B, .int .i64 S], .agg #[.int .i64 k0, .slice ca cs.length cc, .int .i64 p.1, .int .i64 p.2]] w fun e w' => e = .returned (.bool true) ∧ Below w.heap.size w w' := by
  have hA := bl0 w
  have H1 := Lib.hid (fun w => small13_any A B a zs.length cap k0 ca cs.length cc p w)
  rw [decide_eq_true hsm.1, decide_eq_true hsm.2] at H1
  have hl : cs.length ≤ 1048576 := by omega
  have H2 := Lib.hid (fun w hr hcs hs => to_i A B a cap zs A B S k0 ca cc cs none 0 0 p w hr hz hc hcs hl hs)
  have H3 := Lib.hid (fun w hr hcs hs => back_i A B a cap zs A B S k0 ca cc cs none 0 0 p w hr hz hc hcs hl hs)
  have H4 := Lib.hid (fun w hcs => may13_any A B a zs.length cap A B S k0 ca cc cs w hcs hl hw)
  unfold ToR at H2 H3
  have hx : toXi A B zs.length A B S k0 cs p = 10 := by unfold toXi; rw [if_neg (fun q => q h0), if_neg (by rw [h1]; decide)]
  have hT : toLi A B zs A B S k0 cs p = [] := by unfold toLi; rw [hx, if_neg (by decide)]
  have hK : backLi A B zs A B S k0 cs p = [] := by unfold backLi; rw [hx, if_neg (by decide)]
  rw [hx, hT] at H2
  rw [hx, hK] at H3
  rw [h0] at H4
  simp only [List.length_nil] at H2 H3
  obtain ⟨_, _, _, hpl, _⟩ := chkI_ok h0
  obtain ⟨BX', BY', U, V, hbb, ⟨b0, b1, b2, b3⟩, hbx, hhas⟩ := clu_box hpl
  obtain ⟨hrt, hk0, hk1⟩ := plcX_yes.1 hpl
  have HBX := Lib.hid (fun w => boxes11 A B S w hrt)
  unfold BxsR at HBX
  have hkb : k0 < (boxL A B S).length := by rw [boxL_len]; have := (cntN_eq hrt).1; omega
  have hat := boxL_at hkb
  have hbf : bxF A B S k0 = ((BX', BY'), ((U : Int), (V : Int))) := by unfold bxF; rw [b0, b1, b2, b3]
  rw [hbf] at hat
  have HHS := Lib.hid (fun w => rhas8_any BX' BY' U V p w (fitsB_iff.1 hbx.fits).1 ⟨hbx.x.1, hbx.y.1⟩ hp)
  rw [← hhas, h1] at HHS
  obtain ⟨BL, hB⟩ : ∃ BL, boxL A B S = BL := ⟨_, rfl⟩
  have hkB : k0 < BL.length := by rw [← hB]; exact hkb
  have HAT := Lib.hid (show BL[k0] = ((BX', BY'), ((U : Int), (V : Int))) by simp only [← hB]; exact hat)
  rw [hB] at HBX
  have hkB2 : (k0 : Int) < (BL.length : Int) := by omega
  have hkB0 : (0 : Int) ≤ (k0 : Int) := by omega
  clear hx hT hK h0 hsm hl hw hz hc hpl hbb b0 b1 b2 b3 hbx hhas hrt hk0 hk1 hkb hat hbf hB h1 hp
  go_enter Tryd.func7, Tryd.ntmps7
  go_wp2_with fail
  refine (H1.out _).mono ?_
  rintro e w1 ⟨rfl, hb⟩
  have hk : Below w.heap.size w w1 := by first | exact hb | exact bl_tr (bl_al (bl0 _) _) hb | exact bl_tr (bl_dr (bl_al (bl0 _) _)) hb | exact bl_tr (bl_al (bl_al (bl0 _) _) _) hb | exact bl_tr (bl_dr (bl_al (bl_al (bl0 _) _) _)) hb | exact bl_tr (bl_al (bl_al (bl_al (bl0 _) _) _) _) hb | exact bl_tr (bl_dr (bl_al (bl_al (bl_al (bl0 _) _) _) _)) hb | exact bl_tr (bl_al (bl_al (bl_al (bl_al (bl0 _) _) _) _) _) hb | exact bl_tr (bl_dr (bl_al (bl_al (bl_al (bl_al (bl0 _) _) _) _) _)) hb | exact bl_tr (bl_al (bl_al (bl_al (bl_al (bl_al (bl0 _) _) _) _) _) _) hb | exact bl_tr (bl_dr (bl_al (bl_al (bl_al (bl_al (bl_al (bl0 _) _) _) _) _) _)) hb | exact bl_tr (bl_al (bl_al (bl_al (bl_al (bl_al (bl_al (bl0 _) _) _) _) _) _) _) hb | exact bl_tr (bl_dr (bl_al (bl_al (bl_al (bl_al (bl_al (bl_al (bl0 _) _) _) _) _) _) _)) hb | exact bl_tr (bl_dr (bl0 _)) hb
  replace hA := bl_tr hA hk
  have f0 := cell_later hb (v := .int .i64 A) (a := ⟨w.heap.size, 0, none⟩) (by simp [go_sem])
  have f1 := cell_later hb (v := .int .i64 B) (a := ⟨w.heap.size, 1, none⟩) (by simp [go_sem])
  have f2 := cell_later hb (v := .slice a zs.length cap) (a := ⟨w.heap.size, 2, none⟩) (by simp [go_sem])
  have p0 := cell_later hb (v := .int .i64 A) (a := ⟨w.heap.size + 1, 0, none⟩) (by simp [go_sem])
  have p1 := cell_later hb (v := .int .i64 B) (a := ⟨w.heap.size + 1, 1, none⟩) (by simp [go_sem])
  have p2 := cell_later hb (v := .int .i64 S) (a := ⟨w.heap.size + 1, 2, none⟩) (by simp [go_sem])
  have c0 := cell_later hb (v := .int .i64 k0) (a := ⟨w.heap.size + 1 + 1, 0, none⟩) (by simp [go_sem])
  have c1 := cell_later hb (v := .slice ca cs.length cc) (a := ⟨w.heap.size + 1 + 1, 1, none⟩) (by simp [go_sem])
  have c2 := cell_later hb (v := .int .i64 p.1) (a := ⟨w.heap.size + 1 + 1, 2, none⟩) (by simp [go_sem])
  have c3 := cell_later hb (v := .int .i64 p.2) (a := ⟨w.heap.size + 1 + 1, 3, none⟩) (by simp [go_sem])
  clear hb hk
  have zf0 := blk_lt f0
  have zf1 := blk_lt f1
  have zf2 := blk_lt f2
  have zp0 := blk_lt p0
  have zp1 := blk_lt p1
  have zp2 := blk_lt p2
  have zc0 := blk_lt c0
  have zc1 := blk_lt c1
  have zc2 := blk_lt c2
  have zc3 := blk_lt c3
  go_wp2_with fail
  refine (H2.out _ (hr.below (by first | exact hA | exact (bl_al hA _) | exact (bl_dr (bl_al hA _)) | exact (bl_al (bl_al hA _) _) | exact (bl_dr (bl_al (bl_al hA _) _)) | exact (bl_al (bl_al (bl_al hA _) _) _) | exact (bl_dr (bl_al (bl_al (bl_al hA _) _) _)) | exact (bl_al (bl_al (bl_al (bl_al hA _) _) _) _) | exact (bl_dr (bl_al (bl_al (bl_al (bl_al hA _) _) _) _)) | exact (bl_al (bl_al (bl_al (bl_al (bl_al hA _) _) _) _) _) | exact (bl_dr (bl_al (bl_al (bl_al (bl_al (bl_al hA _) _) _) _) _)) | exact (bl_al (bl_al (bl_al (bl_al (bl_al (bl_al hA _) _) _) _) _) _) | exact (bl_dr (bl_al (bl_al (bl_al (bl_al (bl_al (bl_al hA _) _) _) _) _) _)) | exact (bl_dr hA))) (hcs.below (by first | exact hA | exact (bl_al hA _) | exact (bl_dr (bl_al hA _)) | exact (bl_al (bl_al hA _) _) | exact (bl_dr (bl_al (bl_al hA _) _)) | exact (bl_al (bl_al (bl_al hA _) _) _) | exact (bl_dr (bl_al (bl_al (bl_al hA _) _) _)) | exact (bl_al (bl_al (bl_al (bl_al hA _) _) _) _) | exact (bl_dr (bl_al (bl_al (bl_al (bl_al hA _) _) _) _)) | exact (bl_al (bl_al (bl_al (bl_al (bl_al hA _) _) _) _) _) | exact (bl_dr (bl_al (bl_al (bl_al (bl_al (bl_al hA _) _) _) _) _)) | exact (bl_al (bl_al (bl_al (bl_al (bl_al (bl_al hA _) _) _) _) _) _) | exact (bl_dr (bl_al (bl_al (bl_al (bl_al (bl_al (bl_al hA _) _) _) _) _) _)) | exact (bl_dr hA))) (hs.below (by first | exact hA | exact (bl_al hA _) | exact (bl_dr (bl_al hA _)) | exact (bl_al (bl_al hA _) _) | exact (bl_dr (bl_al (bl_al hA _) _)) | exact (bl_al (bl_al (bl_al hA _) _) _) | exact (bl_dr (bl_al (bl_al (bl_al hA _) _) _)) | exact (bl_al (bl_al (bl_al (bl_al hA _) _) _) _) | exact (bl_dr (bl_al (bl_al (bl_al (bl_al hA _) _) _) _)) | exact (bl_al (bl_al (bl_al (bl_al (bl_al hA _) _) _) _) _) | exact (bl_dr (bl_al (bl_al (bl_al (bl_al (bl_al hA _) _) _) _) _)) | exact (bl_al (bl_al (bl_al (bl_al (bl_al (bl_al hA _) _) _) _) _) _) | exact (bl_dr (bl_al (bl_al (bl_al (bl_al (bl_al (bl_al hA _) _) _) _) _) _)) | exact (bl_dr hA)))).mono ?_
  rintro e w2 ⟨g1, k1, rfl, hq1, hb⟩
  have hk : Below w1.heap.size w1 w2 := by first | exact hb | exact bl_tr (bl_al (bl0 _) _) hb | exact bl_tr (bl_dr (bl_al (bl0 _) _)) hb | exact bl_tr (bl_al (bl_al (bl0 _) _) _) hb | exact bl_tr (bl_dr (bl_al (bl_al (bl0 _) _) _)) hb | exact bl_tr (bl_al (bl_al (bl_al (bl0 _) _) _) _) hb | exact bl_tr (bl_dr (bl_al (bl_al (bl_al (bl0 _) _) _) _)) hb | exact bl_tr (bl_al (bl_al (bl_al (bl_al (bl0 _) _) _) _) _) hb | exact bl_tr (bl_dr (bl_al (bl_al (bl_al (bl_al (bl0 _) _) _) _) _)) hb | exact bl_tr (bl_al (bl_al (bl_al (bl_al (bl_al (bl0 _) _) _) _) _) _) hb | exact bl_tr (bl_dr (bl_al (bl_al (bl_al (bl_al (bl_al (bl0 _) _) _) _) _) _)) hb | exact bl_tr (bl_al (bl_al (bl_al (bl_al (bl_al (bl_al (bl0 _) _) _) _) _) _) _) hb | exact bl_tr (bl_dr (bl_al (bl_al (bl_al (bl_al (bl_al (bl_al (bl0 _) _) _) _) _) _) _)) hb | exact bl_tr (bl_dr (bl0 _)) hb
  replace hA := bl_tr hA hk
  replace f0 := cell_later hk f0
  replace f1 := cell_later hk f1
  replace f2 := cell_later hk f2
  replace p0 := cell_later hk p0
  replace p1 := cell_later hk p1
  replace p2 := cell_later hk p2
  replace c0 := cell_later hk c0
  replace c1 := cell_later hk c1
  replace c2 := cell_later hk c2
  replace c3 := cell_later hk c3
  have t0 := cell_later hb (v := .slice ca cs.length cc) (a := ⟨w1.heap.size, 0, none⟩) (by simp [go_sem])
  have t1 := cell_later hb (v := .slice none 0 0) (a := ⟨w1.heap.size, 1, none⟩) (by simp [go_sem])
  clear hb hk
  have zf0 := blk_lt f0
  have zf1 := blk_lt f1
  have zf2 := blk_lt f2
  have zp0 := blk_lt p0
  have zp1 := blk_lt p1
  have zp2 := blk_lt p2
  have zc0 := blk_lt c0
  have zc1 := blk_lt c1
  have zc2 := blk_lt c2
  have zc3 := blk_lt c3
  have zt0 := blk_lt t0
  have zt1 := blk_lt t1
  clear hq1
  go_wp2_with fail
  refine (H3.out _ (hr.below (by first | exact hA | exact (bl_al hA _) | exact (bl_dr (bl_al hA _)) | exact (bl_al (bl_al hA _) _) | exact (bl_dr (bl_al (bl_al hA _) _)) | exact (bl_al (bl_al (bl_al hA _) _) _) | exact (bl_dr (bl_al (bl_al (bl_al hA _) _) _)) | exact (bl_al (bl_al (bl_al (bl_al hA _) _) _) _) | exact (bl_dr (bl_al (bl_al (bl_al (bl_al hA _) _) _) _)) | exact (bl_al (bl_al (bl_al (bl_al (bl_al hA _) _) _) _) _) | exact (bl_dr (bl_al (bl_al (bl_al (bl_al (bl_al hA _) _) _) _) _)) | exact (bl_al (bl_al (bl_al (bl_al (bl_al (bl_al hA _) _) _) _) _) _) | exact (bl_dr (bl_al (bl_al (bl_al (bl_al (bl_al (bl_al hA _) _) _) _) _) _)) | exact (bl_dr hA))) (hcs.below (by first | exact hA | exact (bl_al hA _) | exact (bl_dr (bl_al hA _)) | exact (bl_al (bl_al hA _) _) | exact (bl_dr (bl_al (bl_al hA _) _)) | exact (bl_al (bl_al (bl_al hA _) _) _) | exact (bl_dr (bl_al (bl_al (bl_al hA _) _) _)) | exact (bl_al (bl_al (bl_al (bl_al hA _) _) _) _) | exact (bl_dr (bl_al (bl_al (bl_al (bl_al hA _) _) _) _)) | exact (bl_al (bl_al (bl_al (bl_al (bl_al hA _) _) _) _) _) | exact (bl_dr (bl_al (bl_al (bl_al (bl_al (bl_al hA _) _) _) _) _)) | exact (bl_al (bl_al (bl_al (bl_al (bl_al (bl_al hA _) _) _) _) _) _) | exact (bl_dr (bl_al (bl_al (bl_al (bl_al (bl_al (bl_al hA _) _) _) _) _) _)) | exact (bl_dr hA))) (hs.below (by first | exact hA | exact (bl_al hA _) | exact (bl_dr (bl_al hA _)) | exact (bl_al (bl_al hA _) _) | exact (bl_dr (bl_al (bl_al hA _) _)) | exact (bl_al (bl_al (bl_al hA _) _) _) | exact (bl_dr (bl_al (bl_al (bl_al hA _) _) _)) | exact (bl_al (bl_al (bl_al (bl_al hA _) _) _) _) | exact (bl_dr (bl_al (bl_al (bl_al (bl_al hA _) _) _) _)) | exact (bl_al (bl_al (bl_al (bl_al (bl_al hA _) _) _) _) _) | exact (bl_dr (bl_al (bl_al (bl_al (bl_al (bl_al hA _) _) _) _) _)) | exact (bl_al (bl_al (bl_al (bl_al (bl_al (bl_al hA _) _) _) _) _) _) | exact (bl_dr (bl_al (bl_al (bl_al (bl_al (bl_al (bl_al hA _) _) _) _) _) _)) | exact (bl_dr hA)))).mono ?_
  rintro e w3 ⟨g2, k2, rfl, hq2, hb⟩
  have hk : Below w2.heap.size w2 w3 := by first | exact hb | exact bl_tr (bl_al (bl0 _) _) hb | exact bl_tr (bl_dr (bl_al (bl0 _) _)) hb | exact bl_tr (bl_al (bl_al (bl0 _) _) _) hb | exact bl_tr (bl_dr (bl_al (bl_al (bl0 _) _) _)) hb | exact bl_tr (bl_al (bl_al (bl_al (bl0 _) _) _) _) hb | exact bl_tr (bl_dr (bl_al (bl_al (bl_al (bl0 _) _) _) _)) hb | exact bl_tr (bl_al (bl_al (bl_al (bl_al (bl0 _) _) _) _) _) hb | exact bl_tr (bl_dr (bl_al (bl_al (bl_al (bl_al (bl0 _) _) _) _) _)) hb | exact bl_tr (bl_al (bl_al (bl_al (bl_al (bl_al (bl0 _) _) _) _) _) _) hb | exact bl_tr (bl_dr (bl_al (bl_al (bl_al (bl_al (bl_al (bl0 _) _) _) _) _) _)) hb | exact bl_tr (bl_al (bl_al (bl_al (bl_al (bl_al (bl_al (bl0 _) _) _) _) _) _) _) hb | exact bl_tr (bl_dr (bl_al (bl_al (bl_al (bl_al (bl_al (bl_al (bl0 _) _) _) _) _) _) _)) hb | exact bl_tr (bl_dr (bl0 _)) hb
  replace hA := bl_tr hA hk
  replace f0 := cell_later hk f0
  replace f1 := cell_later hk f1
  replace f2 := cell_later hk f2
  replace p0 := cell_later hk p0
  replace p1 := cell_later hk p1
  replace p2 := cell_later hk p2
  replace c0 := cell_later hk c0
  replace c1 := cell_later hk c1
  replace c2 := cell_later hk c2
  replace c3 := cell_later hk c3
  replace t0 := cell_later hk t0
  replace t1 := cell_later hk t1
  clear hb hk
  have zf0 := blk_lt f0
  have zf1 := blk_lt f1
  have zf2 := blk_lt f2
  have zp0 := blk_lt p0
  have zp1 := blk_lt p1
  have zp2 := blk_lt p2
  have zc0 := blk_lt c0
  have zc1 := blk_lt c1
  have zc2 := blk_lt c2
  have zc3 := blk_lt c3
  have zt0 := blk_lt t0
  have zt1 := blk_lt t1
  clear hq2
  go_wp2_with fail
  refine (H4.out _ (hcs.below (by first | exact hA | exact (bl_al hA _) | exact (bl_dr (bl_al hA _)) | exact (bl_al (bl_al hA _) _) | exact (bl_dr (bl_al (bl_al hA _) _)) | exact (bl_al (bl_al (bl_al hA _) _) _) | exact (bl_dr (bl_al (bl_al (bl_al hA _) _) _)) | exact (bl_al (bl_al (bl_al (bl_al hA _) _) _) _) | exact (bl_dr (bl_al (bl_al (bl_al (bl_al hA _) _) _) _)) | exact (bl_al (bl_al (bl_al (bl_al (bl_al hA _) _) _) _) _) | exact (bl_dr (bl_al (bl_al (bl_al (bl_al (bl_al hA _) _) _) _) _)) | exact (bl_al (bl_al (bl_al (bl_al (bl_al (bl_al hA _) _) _) _) _) _) | exact (bl_dr (bl_al (bl_al (bl_al (bl_al (bl_al (bl_al hA _) _) _) _) _) _)) | exact (bl_dr hA)))).mono ?_
  rintro e w4 ⟨rfl, hb⟩
  have hk : Below w3.heap.size w3 w4 := by first | exact hb | exact bl_tr (bl_al (bl0 _) _) hb | exact bl_tr (bl_dr (bl_al (bl0 _) _)) hb | exact bl_tr (bl_al (bl_al (bl0 _) _) _) hb | exact bl_tr (bl_dr (bl_al (bl_al (bl0 _) _) _)) hb | exact bl_tr (bl_al (bl_al (bl_al (bl0 _) _) _) _) hb | exact bl_tr (bl_dr (bl_al (bl_al (bl_al (bl0 _) _) _) _)) hb | exact bl_tr (bl_al (bl_al (bl_al (bl_al (bl0 _) _) _) _) _) hb | exact bl_tr (bl_dr (bl_al (bl_al (bl_al (bl_al (bl0 _) _) _) _) _)) hb | exact bl_tr (bl_al (bl_al (bl_al (bl_al (bl_al (bl0 _) _) _) _) _) _) hb | exact bl_tr (bl_dr (bl_al (bl_al (bl_al (bl_al (bl_al (bl0 _) _) _) _) _) _)) hb | exact bl_tr (bl_al (bl_al (bl_al (bl_al (bl_al (bl_al (bl0 _) _) _) _) _) _) _) hb | exact bl_tr (bl_dr (bl_al (bl_al (bl_al (bl_al (bl_al (bl_al (bl0 _) _) _) _) _) _) _)) hb | exact bl_tr (bl_dr (bl0 _)) hb
  replace hA := bl_tr hA hk
  replace f0 := cell_later hk f0
  replace f1 := cell_later hk f1
  replace f2 := cell_later hk f2
  replace p0 := cell_later hk p0
  replace p1 := cell_later hk p1
  replace p2 := cell_later hk p2
  replace c0 := cell_later hk c0
  replace c1 := cell_later hk c1
  replace c2 := cell_later hk c2
  replace c3 := cell_later hk c3
  clear hb hk
  have zf0 := blk_lt f0
  have zf1 := blk_lt f1
  have zf2 := blk_lt f2
  have zp0 := blk_lt p0
  have zp1 := blk_lt p1
  have zp2 := blk_lt p2
  have zc0 := blk_lt c0
  have zc1 := blk_lt c1
  have zc2 := blk_lt c2
  have zc3 := blk_lt c3
  clear f0 f1 f2
  go_upto_region 7 with fail
  have hB := bl_dr (bl0 w4)
  have hS := And.intro (cell_later hB p0) (And.intro (cell_later hB p1) (And.intro (cell_later hB p2) (And.intro (cell_later hB c0) (And.intro (cell_later hB c2) (cell_later hB c3)))))
  refine (wpIn_wide (n := 11)).1 ?_
  refine ordS_begin (S := (fun W9 : World => W9.cell? ⟨w.heap.size + 1, 0, none⟩ = some (.int .i64 A) ∧ W9.cell? ⟨w.heap.size + 1, 1, none⟩ = some (.int .i64 B) ∧ W9.cell? ⟨w.heap.size + 1, 2, none⟩ = some (.int .i64 S) ∧ W9.cell? ⟨w.heap.size + 1 + 1, 0, none⟩ = some (.int .i64 k0) ∧ W9.cell? ⟨w.heap.size + 1 + 1, 2, none⟩ = some (.int .i64 p.1) ∧ W9.cell? ⟨w.heap.size + 1 + 1, 3, none⟩ = some (.int .i64 p.2))) (by kernel_rfl) hS (fun hH => ?_)
  refine' ordS_take (i := 0) (oi := { dst := some 56, op := Op.move (Operand.tmp 12), type := 34, pos := _, after := #[], guard := none }) (v := _) rfl (by kernel_rfl) (by kernel_rfl) (by kernel_rfl) (by kernel_rfl) (fun _ _ _ h => h) (by assumption) (Or.inl ⟨by rfl, ?hy127⟩) (fun _ => rfl) ?rest127
  case hy127 => (intro w hSw; (try dsimp only at hSw); go_simp; try with_reducible rfl)
  try simp only [Act.put, List.setIfInBounds_toArray, List.set_cons_zero, List.set_cons_succ]
  refine' ordS_take (i := 1) (oi := { dst := some 57, op := Op.binOp BinOp.eql 34 (Operand.tmp 56) (Operand.const (Value.int IntKind.i64 0)) 34, type := 4, pos := _, after := #[{ on := 0, ground := Ground.data }], guard := none }) (v := _) rfl (by kernel_rfl) (by kernel_rfl) (by kernel_rfl) (by kernel_rfl) (fun _ _ _ h => h) (by assumption) (Or.inl ⟨by rfl, ?hy128⟩) (fun _ => rfl) ?rest128
  case hy128 => (intro w hSw; (try dsimp only at hSw); go_simp; try with_reducible rfl)
  try simp only [Act.put, List.setIfInBounds_toArray, List.set_cons_zero, List.set_cons_succ]
  refine' ordS_take (i := 2) (oi := { dst := some 58, op := Op.move (Operand.tmp 57), type := 4, pos := _, after := #[{ on := 1, ground := Ground.data }], guard := none }) (v := _) rfl (by kernel_rfl) (by kernel_rfl) (by kernel_rfl) (by kernel_rfl) (fun _ _ _ h => h) (by assumption) (Or.inl ⟨by rfl, ?hy129⟩) (fun _ => rfl) ?rest129
  case hy129 => (intro w hSw; (try dsimp only at hSw); go_simp; try with_reducible rfl)
  try simp only [Act.put, List.setIfInBounds_toArray, List.set_cons_zero, List.set_cons_succ]
  refine' ordS_take (i := 3) (oi := { dst := some 59, op := Op.fieldAddr 53 (Operand.tmp 4) 0, type := 0, pos := _, after := #[{ on := 2, ground := Ground.guard }], guard := some (2, true) }) (v := _) rfl (by kernel_rfl) (by kernel_rfl) (by kernel_rfl) (by kernel_rfl) (fun _ _ _ h => h) (by assumption) (Or.inl ⟨by rfl, ?hy130⟩) (fun _ => rfl) ?rest130
  case hy130 => (intro w hSw; (try dsimp only at hSw); go_simp; try with_reducible rfl)
  try simp only [Act.put, List.setIfInBounds_toArray, List.set_cons_zero, List.set_cons_succ]
  refine' ordS_take (i := 4) (oi := { dst := some 60, op := Op.load 23 (Operand.tmp 59), type := 23, pos := _, after := #[{ on := 3, ground := Ground.data }, { on := 2, ground := Ground.guard }], guard := some (2, true) }) (v := _) rfl (by kernel_rfl) (by kernel_rfl) (by kernel_rfl) (by kernel_rfl) (fun _ _ _ h => h) (by assumption) (Or.inl ⟨by rfl, ?hy131⟩) (fun _ => rfl) ?rest131
  case hy131 => (intro w hSw; (try dsimp only at hSw); go_simp; try with_reducible rfl)
  try simp only [Act.put, List.setIfInBounds_toArray, List.set_cons_zero, List.set_cons_succ]
  refine' ordS_take (i := 5) (oi := { dst := some 61, op := Op.fieldAddr 53 (Operand.tmp 4) 1, type := 0, pos := _, after := #[{ on := 2, ground := Ground.guard }], guard := some (2, true) }) (v := _) rfl (by kernel_rfl) (by kernel_rfl) (by kernel_rfl) (by kernel_rfl) (fun _ _ _ h => h) (by assumption) (Or.inl ⟨by rfl, ?hy132⟩) (fun _ => rfl) ?rest132
  case hy132 => (intro w hSw; (try dsimp only at hSw); go_simp; try with_reducible rfl)
  try simp only [Act.put, List.setIfInBounds_toArray, List.set_cons_zero, List.set_cons_succ]
  refine' ordS_take (i := 6) (oi := { dst := some 62, op := Op.load 3 (Operand.tmp 61), type := 3, pos := _, after := #[{ on := 5, ground := Ground.data }, { on := 2, ground := Ground.guard }], guard := some (2, true) }) (v := _) rfl (by kernel_rfl) (by kernel_rfl) (by kernel_rfl) (by kernel_rfl) (fun _ _ _ h => h) (by assumption) (Or.inl ⟨by rfl, ?hy133⟩) (fun _ => rfl) ?rest133
  case hy133 => (intro w hSw; (try dsimp only at hSw); go_simp; try with_reducible rfl)
  try simp only [Act.put, List.setIfInBounds_toArray, List.set_cons_zero, List.set_cons_succ]
  refine' ordS_take (i := 8) (oi := { dst := some 64, op := Op.fieldAddr 68 (Operand.tmp 5) 0, type := 0, pos := _, after := #[{ on := 2, ground := Ground.guard }], guard := some (2, true) }) (v := _) rfl (by kernel_rfl) (by kernel_rfl) (by kernel_rfl) (by kernel_rfl) (fun _ _ _ h => h) (by assumption) (Or.inl ⟨by rfl, ?hy134⟩) (fun _ => rfl) ?rest134
  case hy134 => (intro w hSw; (try dsimp only at hSw); go_simp; try with_reducible rfl)
  try simp only [Act.put, List.setIfInBounds_toArray, List.set_cons_zero, List.set_cons_succ]
  refine' ordS_take (i := 9) (oi := { dst := some 65, op := Op.load 3 (Operand.tmp 64), type := 3, pos := _, after := #[{ on := 8, ground := Ground.data }, { on := 2, ground := Ground.guard }], guard := some (2, true) }) (v := _) rfl (by kernel_rfl) (by kernel_rfl) (by kernel_rfl) (by kernel_rfl) (fun _ _ _ h => h) (by assumption) (Or.inl ⟨by rfl, ?hy135⟩) (fun _ => rfl) ?rest135
  case hy135 => (intro w hSw; (try dsimp only at hSw); go_simp; try with_reducible rfl)
  try simp only [Act.put, List.setIfInBounds_toArray, List.set_cons_zero, List.set_cons_succ]
  refine' ordS_take (i := 12) (oi := { dst := some 68, op := Op.fieldAddr 68 (Operand.tmp 5) 2, type := 0, pos := _, after := #[{ on := 2, ground := Ground.guard }], guard := some (2, true) }) (v := _) rfl (by kernel_rfl) (by kernel_rfl) (by kernel_rfl) (by kernel_rfl) (fun _ _ _ h => h) (by assumption) (Or.inl ⟨by rfl, ?hy136⟩) (fun _ => rfl) ?rest136
  case hy136 => (intro w hSw; (try dsimp only at hSw); go_simp; try with_reducible rfl)
  try simp only [Act.put, List.setIfInBounds_toArray, List.set_cons_zero, List.set_cons_succ]
  refine' ordS_take (i := 13) (oi := { dst := some 69, op := Op.load 30 (Operand.tmp 68), type := 30, pos := _, after := #[{ on := 12, ground := Ground.data }, { on := 2, ground := Ground.guard }], guard := some (2, true) }) (v := _) rfl (by kernel_rfl) (by kernel_rfl) (by kernel_rfl) (by kernel_rfl) (fun _ _ _ h => h) (by assumption) (Or.inl ⟨by rfl, ?hy137⟩) (fun _ => rfl) ?rest137
  case hy137 => (intro w hSw; (try dsimp only at hSw); go_simp; try with_reducible rfl)
  try simp only [Act.put, List.setIfInBounds_toArray, List.set_cons_zero, List.set_cons_succ]
  obtain ⟨W2, hW2⟩ : ∃ W2, w4.drew = W2 := ⟨_, rfl⟩
  rw [hW2] at hB hS
  rw [hW2]
  clear hW2 hH
  refine ordS_one (i := 7) (o := { dst := some 63, op := Op.call { callee := Callee.value (Operand.func 29), args := #[Operand.tmp 60, Operand.tmp 62], argTypes := #[23, 3] }, type := 63, pos := _, after := #[{ on := 4, ground := Ground.data }, { on := 6, ground := Ground.data }, { on := 2, ground := Ground.chain }, { on := 2, ground := Ground.guard }], guard := some (2, true) }) (by kernel_rfl) rfl (by rfl) (fun K hK => ?_)
  go_simp
  refine ⟨trivial, ?_⟩
  with_reducible refine (callsIn_wide.2 (HBX.out _)).mono ?_
  rintro e W3 ⟨ba, bc, rfl, hbr, hb3⟩
  replace hB := bl_tr hB hb3
  have hS3 := And.intro (cell_later hb3 hS.1) (And.intro (cell_later hb3 hS.2.1) (And.intro (cell_later hb3 hS.2.2.1) (And.intro (cell_later hb3 hS.2.2.2.1) (And.intro (cell_later hb3 hS.2.2.2.2.1) (cell_later hb3 hS.2.2.2.2.2)))))
  refine hK _ _ hS3 ?_
  clear hK K hb3 hS
  try simp only [Act.put, List.setIfInBounds_toArray, List.set_cons_zero, List.set_cons_succ]
  obtain ⟨gb, go, rfl, ⟨u0, u1⟩, u2, u3⟩ := hbr.cell hkB
  rw [HAT.out] at u0 u1 u2 u3
  simp only at u0 u1 u2 u3
  refine ordS_one (i := 10) (o := { dst := some 66, op := Op.indexAddr 63 (Operand.tmp 63) (Operand.tmp 65), type := 0, pos := _, after := #[{ on := 7, ground := Ground.data }, { on := 9, ground := Ground.data }, { on := 2, ground := Ground.guard }], guard := some (2, true) }) (by kernel_rfl) rfl (by rfl) (fun K hK => ?_)
  go_simp
  refine hK _ _ hS3 ?_
  clear hK K
  try simp only [Act.put, List.setIfInBounds_toArray, List.set_cons_zero, List.set_cons_succ]
  refine ordS_one (i := 11) (o := { dst := some 67, op := Op.load 28 (Operand.tmp 66), type := 28, pos := _, after := #[{ on := 10, ground := Ground.data }, { on := 2, ground := Ground.guard }], guard := some (2, true) }) (by kernel_rfl) rfl (by rfl) (fun K hK => ?_)
  go_simp
  refine hK _ _ hS3 ?_
  clear hK K u0 u1 u2 u3
  try simp only [Act.put, List.setIfInBounds_toArray, List.set_cons_zero, List.set_cons_succ]
  refine ordS_one (i := 14) (o := { dst := some 70, op := Op.call { callee := Callee.value (Operand.func 19), args := #[Operand.tmp 67, Operand.tmp 69], argTypes := #[28, 30] }, type := 4, pos := _, after := #[{ on := 11, ground := Ground.data }, { on := 13, ground := Ground.data }, { on := 7, ground := Ground.chain }, { on := 2, ground := Ground.guard }], guard := some (2, true) }) (by kernel_rfl) rfl (by rfl) (fun K hK => ?_)
  go_simp
  refine ⟨trivial, ?_⟩
  with_reducible refine (callsIn_wide.2 (HHS.out _)).mono ?_
  rintro e W4 ⟨rfl, hb4⟩
  replace hB := bl_tr hB hb4
  have hS4 := And.intro (cell_later hb4 hS3.1) (And.intro (cell_later hb4 hS3.2.1) (And.intro (cell_later hb4 hS3.2.2.1) (And.intro (cell_later hb4 hS3.2.2.2.1) (And.intro (cell_later hb4 hS3.2.2.2.2.1) (cell_later hb4 hS3.2.2.2.2.2)))))
  refine hK _ _ hS4 ?_
  clear hK K hb4 hS3 hbr
  try simp only [Act.put, List.setIfInBounds_toArray, List.set_cons_zero, List.set_cons_succ]
  refine' ordS_take (i := 15) (oi := { dst := some 71, op := Op.unOp UnOp.not 4 (Operand.tmp 70), type := 4, pos := _, after := #[{ on := 14, ground := Ground.data }, { on := 2, ground := Ground.guard }], guard := some (2, true) }) (v := _) rfl (by kernel_rfl) (by kernel_rfl) (by kernel_rfl) (by kernel_rfl) (fun _ _ _ h => h) (by assumption) (Or.inl ⟨by rfl, ?hy138⟩) (fun _ => rfl) ?rest138
  case hy138 => (intro w hSw; (try dsimp only at hSw); go_simp; try with_reducible rfl)
  try simp only [Act.put, List.setIfInBounds_toArray, List.set_cons_zero, List.set_cons_succ]
  refine' ordS_take (i := 16) (oi := { dst := some 72, op := Op.pick (Operand.tmp 58) (Operand.tmp 71) (Operand.const (Value.bool false)), type := 4, pos := _, after := #[{ on := 2, ground := Ground.data }, { on := 15, ground := Ground.data }], guard := none }) (v := _) rfl (by kernel_rfl) (by kernel_rfl) (by kernel_rfl) (by kernel_rfl) (fun _ _ _ h => h) (by assumption) (Or.inl ⟨by rfl, ?hy139⟩) (fun _ => rfl) ?rest139
  case hy139 => (intro w hSw; (try dsimp only at hSw); go_simp; try with_reducible rfl)
  try simp only [Act.put, List.setIfInBounds_toArray, List.set_cons_zero, List.set_cons_succ]
  refine ordS_done (by kernel_rfl) ?_
  replace hA := bl_tr hA hB
  clear hB hS4 p0 p1 p2 c0 c1 c2 c3
  go_wp2_with fail
  refine (awake13 _ (hs.below (by first | exact hA | exact (bl_al hA _) | exact (bl_dr (bl_al hA _)) | exact (bl_al (bl_al hA _) _) | exact (bl_dr (bl_al (bl_al hA _) _)) | exact (bl_al (bl_al (bl_al hA _) _) _) | exact (bl_dr (bl_al (bl_al (bl_al hA _) _) _)) | exact (bl_al (bl_al (bl_al (bl_al hA _) _) _) _) | exact (bl_dr (bl_al (bl_al (bl_al (bl_al hA _) _) _) _)) | exact (bl_al (bl_al (bl_al (bl_al (bl_al hA _) _) _) _) _) | exact (bl_dr (bl_al (bl_al (bl_al (bl_al (bl_al hA _) _) _) _) _)) | exact (bl_al (bl_al (bl_al (bl_al (bl_al (bl_al hA _) _) _) _) _) _) | exact (bl_dr (bl_al (bl_al (bl_al (bl_al (bl_al (bl_al hA _) _) _) _) _) _)) | exact (bl_dr hA)))).mono ?_
  rintro e W5 ⟨rfl, hb⟩
  have hk : Below W4.heap.size W4 W5 := by first | exact hb | exact bl_tr (bl_al (bl0 _) _) hb | exact bl_tr (bl_dr (bl_al (bl0 _) _)) hb | exact bl_tr (bl_al (bl_al (bl0 _) _) _) hb | exact bl_tr (bl_dr (bl_al (bl_al (bl0 _) _) _)) hb | exact bl_tr (bl_al (bl_al (bl_al (bl0 _) _) _) _) hb | exact bl_tr (bl_dr (bl_al (bl_al (bl_al (bl0 _) _) _) _)) hb | exact bl_tr (bl_al (bl_al (bl_al (bl_al (bl0 _) _) _) _) _) hb | exact bl_tr (bl_dr (bl_al (bl_al (bl_al (bl_al (bl0 _) _) _) _) _)) hb | exact bl_tr (bl_al (bl_al (bl_al (bl_al (bl_al (bl0 _) _) _) _) _) _) hb | exact bl_tr (bl_dr (bl_al (bl_al (bl_al (bl_al (bl_al (bl0 _) _) _) _) _) _)) hb | exact bl_tr (bl_al (bl_al (bl_al (bl_al (bl_al (bl_al (bl0 _) _) _) _) _) _) _) hb | exact bl_tr (bl_dr (bl_al (bl_al (bl_al (bl_al (bl_al (bl_al (bl0 _) _) _) _) _) _) _)) hb | exact bl_tr (bl_dr (bl0 _)) hb
  replace hA := bl_tr hA hk
  clear hb hk
  go_wp2
  go_ret
  exact ⟨rfl, hA⟩
end Go.Proofs.YtbdfjdipjacamaaDoor
