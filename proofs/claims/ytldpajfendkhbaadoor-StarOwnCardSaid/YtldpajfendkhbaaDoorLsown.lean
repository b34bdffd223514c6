/- StarOwn: the law's walk. -/
import Derived.Test.YtldpajfendkhbaaDoorN1
import Derived.Test.YtldpajfendkhbaaDoorCzr
namespace Go.Proofs.YtldpajfendkhbaaDoor
open Go.RowKit

set_option maxRecDepth 100000 in
set_option maxHeartbeats 8000000 in
theorem sown_walk (A H : Int) (a : Option Addr) (cap : Nat) (zs : List Int) (F T : IC) (budget : Int) (w : World) (hr : RowH w a zs) (hz : AllH zs) (hs : Stp w) :
    Calls Tryd.prog 7 #[.agg #[.int .i64 A, .int .i64 H, .slice a zs.length cap], .agg #[.int .i64 F.1, .int .i64 F.2, .int .i64 T.1, .int .i64 T.2, .int .i64 budget]] w fun e w' => e = .returned (.bool true) ∧ Below w.heap.size w w' := by
  have hA := bl0 w
  by_cases hsm : zs.length ≤ 150
  case neg =>
    have hd : decide (zs.length ≤ 150) = false := decide_eq_false hsm
    clear hsm
    go_enter Tryd.func7, Tryd.ntmps7
    go_wp2_with fail
    refine (small10_any _ _ _ _ _ _).mono ?_
    rintro e w1 ⟨rfl, hb⟩
    have hk : Below w.heap.size w w1 := by first | exact hb | exact bl_tr (bl_al (bl0 _) _) hb | exact bl_tr (bl_dr (bl_al (bl0 _) _)) hb | exact bl_tr (bl_al (bl_al (bl0 _) _) _) hb | exact bl_tr (bl_dr (bl_al (bl_al (bl0 _) _) _)) hb | exact bl_tr (bl_al (bl_al (bl_al (bl0 _) _) _) _) hb | exact bl_tr (bl_dr (bl_al (bl_al (bl_al (bl0 _) _) _) _)) hb | exact bl_tr (bl_al (bl_al (bl_al (bl_al (bl0 _) _) _) _) _) hb | exact bl_tr (bl_dr (bl_al (bl_al (bl_al (bl_al (bl0 _) _) _) _) _)) hb | exact bl_tr (bl_al (bl_al (bl_al (bl_al (bl_al (bl0 _) _) _) _) _) _) hb | exact bl_tr (bl_dr (bl_al (bl_al (bl_al (bl_al (bl_al (bl0 _) _) _) _) _) _)) hb | exact bl_tr (bl_al (bl_al (bl_al (bl_al (bl_al (bl_al (bl0 _) _) _) _) _) _) _) hb | exact bl_tr (bl_dr (bl_al (bl_al (bl_al (bl_al (bl_al (bl_al (bl0 _) _) _) _) _) _) _)) hb | exact bl_tr (bl_dr (bl0 _)) hb
    replace hA := bl_tr hA hk
    clear hb hk
    rw [hd]
    go_wp2_with fail
    refine (awake10 _ (hs.below hA)).mono ?_
    rintro e w2 ⟨rfl, hb⟩
    have hk : Below w1.heap.size w1 w2 := by first | exact hb | exact bl_tr (bl_al (bl0 _) _) hb | exact bl_tr (bl_dr (bl_al (bl0 _) _)) hb | exact bl_tr (bl_al (bl_al (bl0 _) _) _) hb | exact bl_tr (bl_dr (bl_al (bl_al (bl0 _) _) _)) hb | exact bl_tr (bl_al (bl_al (bl_al (bl0 _) _) _) _) hb | exact bl_tr (bl_dr (bl_al (bl_al (bl_al (bl0 _) _) _) _)) hb | exact bl_tr (bl_al (bl_al (bl_al (bl_al (bl0 _) _) _) _) _) hb | exact bl_tr (bl_dr (bl_al (bl_al (bl_al (bl_al (bl0 _) _) _) _) _)) hb | exact bl_tr (bl_al (bl_al (bl_al (bl_al (bl_al (bl0 _) _) _) _) _) _) hb | exact bl_tr (bl_dr (bl_al (bl_al (bl_al (bl_al (bl_al (bl0 _) _) _) _) _) _)) hb | exact bl_tr (bl_al (bl_al (bl_al (bl_al (bl_al (bl_al (bl0 _) _) _) _) _) _) _) hb | exact bl_tr (bl_dr (bl_al (bl_al (bl_al (bl_al (bl_al (bl_al (bl0 _) _) _) _) _) _) _)) hb | exact bl_tr (bl_dr (bl0 _)) hb
    replace hA := bl_tr hA hk
    clear hb hk
    go_wp2
    go_ret
    exact ⟨rfl, hA⟩
  case pos =>
  have hd : decide (zs.length ≤ 150) = true := decide_eq_true hsm
  obtain ⟨⟨E1, P1, C1, M1⟩, h1⟩ : ∃ t, seekT A H zs F T zs.length = t := ⟨_, rfl⟩
  obtain ⟨⟨E2, P2, C2, M2⟩, h2⟩ : ∃ t, seekT A H zs T F zs.length = t := ⟨_, rfl⟩
  obtain ⟨c1, c2, c3⟩ := own_cases hr hz hs h1 h2
  subst c1
  have HF1 := Lib.hid (fun W h h' => sfind_as A H a cap zs F T zs.length h1 W h hz h')
  have HF2 := Lib.hid (fun W h h' => sfind_as A H a cap zs T F zs.length h2 W h hz h')
  have C2' := Lib.hid c2
  have C3' := Lib.hid c3
  have HZ := Lib.hid hz
  clear c2 c3 h1 h2 hz hsm
  go_enter Tryd.func7, Tryd.ntmps7
  go_wp2_with fail
  refine (small10_any _ _ _ _ _ _).mono ?_
  rintro e w1 ⟨rfl, hb⟩
  have hk : Below w.heap.size w w1 := by first | exact hb | exact bl_tr (bl_al (bl0 _) _) hb | exact bl_tr (bl_dr (bl_al (bl0 _) _)) hb | exact bl_tr (bl_al (bl_al (bl0 _) _) _) hb | exact bl_tr (bl_dr (bl_al (bl_al (bl0 _) _) _)) hb | exact bl_tr (bl_al (bl_al (bl_al (bl0 _) _) _) _) hb | exact bl_tr (bl_dr (bl_al (bl_al (bl_al (bl0 _) _) _) _)) hb | exact bl_tr (bl_al (bl_al (bl_al (bl_al (bl0 _) _) _) _) _) hb | exact bl_tr (bl_dr (bl_al (bl_al (bl_al (bl_al (bl0 _) _) _) _) _)) hb | exact bl_tr (bl_al (bl_al (bl_al (bl_al (bl_al (bl0 _) _) _) _) _) _) hb | exact bl_tr (bl_dr (bl_al (bl_al (bl_al (bl_al (bl_al (bl0 _) _) _) _) _) _)) hb | exact bl_tr (bl_al (bl_al (bl_al (bl_al (bl_al (bl_al (bl0 _) _) _) _) _) _) _) hb | exact bl_tr (bl_dr (bl_al (bl_al (bl_al (bl_al (bl_al (bl_al (bl0 _) _) _) _) _) _) _)) hb | exact bl_tr (bl_dr (bl0 _)) hb
  replace hA := bl_tr hA hk
  have f0 := cell_later hb (v := .int .i64 A) (a := ⟨w.heap.size, 0, none⟩) (by simp [go_sem])
  have f1 := cell_later hb (v := .int .i64 H) (a := ⟨w.heap.size, 1, none⟩) (by simp [go_sem])
  have f2 := cell_later hb (v := .slice a zs.length cap) (a := ⟨w.heap.size, 2, none⟩) (by simp [go_sem])
  have x0 := cell_later hb (v := .int .i64 F.1) (a := ⟨w.heap.size + 1, 0, none⟩) (by simp [go_sem])
  have x1 := cell_later hb (v := .int .i64 F.2) (a := ⟨w.heap.size + 1, 1, none⟩) (by simp [go_sem])
  have x2 := cell_later hb (v := .int .i64 T.1) (a := ⟨w.heap.size + 1, 2, none⟩) (by simp [go_sem])
  have x3 := cell_later hb (v := .int .i64 T.2) (a := ⟨w.heap.size + 1, 3, none⟩) (by simp [go_sem])
  have x4 := cell_later hb (v := .int .i64 budget) (a := ⟨w.heap.size + 1, 4, none⟩) (by simp [go_sem])
  clear hb hk
  have zf0 := blk_lt f0
  have zf1 := blk_lt f1
  have zf2 := blk_lt f2
  have zx0 := blk_lt x0
  have zx1 := blk_lt x1
  have zx2 := blk_lt x2
  have zx3 := blk_lt x3
  have zx4 := blk_lt x4
  rw [hd]
  clear hd
  go_wp2_with fail
  refine (HF1.out _ (hr.below (by first | exact hA | exact (bl_al hA _) | exact (bl_dr (bl_al hA _)) | exact (bl_al (bl_al hA _) _) | exact (bl_dr (bl_al (bl_al hA _) _)) | exact (bl_al (bl_al (bl_al hA _) _) _) | exact (bl_dr (bl_al (bl_al (bl_al hA _) _) _)) | exact (bl_al (bl_al (bl_al (bl_al hA _) _) _) _) | exact (bl_dr (bl_al (bl_al (bl_al (bl_al hA _) _) _) _)) | exact (bl_al (bl_al (bl_al (bl_al (bl_al hA _) _) _) _) _) | exact (bl_dr (bl_al (bl_al (bl_al (bl_al (bl_al hA _) _) _) _) _)) | exact (bl_al (bl_al (bl_al (bl_al (bl_al (bl_al hA _) _) _) _) _) _) | exact (bl_dr (bl_al (bl_al (bl_al (bl_al (bl_al (bl_al hA _) _) _) _) _) _)) | exact (bl_dr hA))) (hs.below (by first | exact hA | exact (bl_al hA _) | exact (bl_dr (bl_al hA _)) | exact (bl_al (bl_al hA _) _) | exact (bl_dr (bl_al (bl_al hA _) _)) | exact (bl_al (bl_al (bl_al hA _) _) _) | exact (bl_dr (bl_al (bl_al (bl_al hA _) _) _)) | exact (bl_al (bl_al (bl_al (bl_al hA _) _) _) _) | exact (bl_dr (bl_al (bl_al (bl_al (bl_al hA _) _) _) _)) | exact (bl_al (bl_al (bl_al (bl_al (bl_al hA _) _) _) _) _) | exact (bl_dr (bl_al (bl_al (bl_al (bl_al (bl_al hA _) _) _) _) _)) | exact (bl_al (bl_al (bl_al (bl_al (bl_al (bl_al hA _) _) _) _) _) _) | exact (bl_dr (bl_al (bl_al (bl_al (bl_al (bl_al (bl_al hA _) _) _) _) _) _)) | exact (bl_dr hA)))).mono ?_
  rintro e w2 ⟨⟨pa1, pc1, rfl, ho1, hl1⟩, hb⟩
  have hk : Below w1.heap.size w1 w2 := by first | exact hb | exact bl_tr (bl_al (bl0 _) _) hb | exact bl_tr (bl_dr (bl_al (bl0 _) _)) hb | exact bl_tr (bl_al (bl_al (bl0 _) _) _) hb | exact bl_tr (bl_dr (bl_al (bl_al (bl0 _) _) _)) hb | exact bl_tr (bl_al (bl_al (bl_al (bl0 _) _) _) _) hb | exact bl_tr (bl_dr (bl_al (bl_al (bl_al (bl0 _) _) _) _)) hb | exact bl_tr (bl_al (bl_al (bl_al (bl_al (bl0 _) _) _) _) _) hb | exact bl_tr (bl_dr (bl_al (bl_al (bl_al (bl_al (bl0 _) _) _) _) _)) hb | exact bl_tr (bl_al (bl_al (bl_al (bl_al (bl_al (bl0 _) _) _) _) _) _) hb | exact bl_tr (bl_dr (bl_al (bl_al (bl_al (bl_al (bl_al (bl0 _) _) _) _) _) _)) hb | exact bl_tr (bl_al (bl_al (bl_al (bl_al (bl_al (bl_al (bl0 _) _) _) _) _) _) _) hb | exact bl_tr (bl_dr (bl_al (bl_al (bl_al (bl_al (bl_al (bl_al (bl0 _) _) _) _) _) _) _)) hb | exact bl_tr (bl_dr (bl0 _)) hb
  replace hA := bl_tr hA hk
  replace f0 := cell_later hk f0
  replace f1 := cell_later hk f1
  replace f2 := cell_later hk f2
  replace x0 := cell_later hk x0
  replace x1 := cell_later hk x1
  replace x2 := cell_later hk x2
  replace x3 := cell_later hk x3
  replace x4 := cell_later hk x4
  clear hb hk
  have zf0 := blk_lt f0
  have zf1 := blk_lt f1
  have zf2 := blk_lt f2
  have zx0 := blk_lt x0
  have zx1 := blk_lt x1
  have zx2 := blk_lt x2
  have zx3 := blk_lt x3
  have zx4 := blk_lt x4
  have HG1 := Lib.hid (show ∀ x, (Value.slice pa1 P1.length pc1).ownBlock = some x → w1.heap.size ≤ x ∧ x < w2.heap.size from fun x hx => ho1.lt x hx)
  go_wp2_with fail
  refine (HF2.out _ (hr.below (by first | exact hA | exact (bl_al hA _) | exact (bl_dr (bl_al hA _)) | exact (bl_al (bl_al hA _) _) | exact (bl_dr (bl_al (bl_al hA _) _)) | exact (bl_al (bl_al (bl_al hA _) _) _) | exact (bl_dr (bl_al (bl_al (bl_al hA _) _) _)) | exact (bl_al (bl_al (bl_al (bl_al hA _) _) _) _) | exact (bl_dr (bl_al (bl_al (bl_al (bl_al hA _) _) _) _)) | exact (bl_al (bl_al (bl_al (bl_al (bl_al hA _) _) _) _) _) | exact (bl_dr (bl_al (bl_al (bl_al (bl_al (bl_al hA _) _) _) _) _)) | exact (bl_al (bl_al (bl_al (bl_al (bl_al (bl_al hA _) _) _) _) _) _) | exact (bl_dr (bl_al (bl_al (bl_al (bl_al (bl_al (bl_al hA _) _) _) _) _) _)) | exact (bl_dr hA))) (hs.below (by first | exact hA | exact (bl_al hA _) | exact (bl_dr (bl_al hA _)) | exact (bl_al (bl_al hA _) _) | exact (bl_dr (bl_al (bl_al hA _) _)) | exact (bl_al (bl_al (bl_al hA _) _) _) | exact (bl_dr (bl_al (bl_al (bl_al hA _) _) _)) | exact (bl_al (bl_al (bl_al (bl_al hA _) _) _) _) | exact (bl_dr (bl_al (bl_al (bl_al (bl_al hA _) _) _) _)) | exact (bl_al (bl_al (bl_al (bl_al (bl_al hA _) _) _) _) _) | exact (bl_dr (bl_al (bl_al (bl_al (bl_al (bl_al hA _) _) _) _) _)) | exact (bl_al (bl_al (bl_al (bl_al (bl_al (bl_al hA _) _) _) _) _) _) | exact (bl_dr (bl_al (bl_al (bl_al (bl_al (bl_al (bl_al hA _) _) _) _) _) _)) | exact (bl_dr hA)))).mono ?_
  rintro e w3 ⟨⟨pa2, pc2, rfl, ho2, hl2⟩, hb⟩
  have hk : Below w2.heap.size w2 w3 := by first | exact hb | exact bl_tr (bl_al (bl0 _) _) hb | exact bl_tr (bl_dr (bl_al (bl0 _) _)) hb | exact bl_tr (bl_al (bl_al (bl0 _) _) _) hb | exact bl_tr (bl_dr (bl_al (bl_al (bl0 _) _) _)) hb | exact bl_tr (bl_al (bl_al (bl_al (bl0 _) _) _) _) hb | exact bl_tr (bl_dr (bl_al (bl_al (bl_al (bl0 _) _) _) _)) hb | exact bl_tr (bl_al (bl_al (bl_al (bl_al (bl0 _) _) _) _) _) hb | exact bl_tr (bl_dr (bl_al (bl_al (bl_al (bl_al (bl0 _) _) _) _) _)) hb | exact bl_tr (bl_al (bl_al (bl_al (bl_al (bl_al (bl0 _) _) _) _) _) _) hb | exact bl_tr (bl_dr (bl_al (bl_al (bl_al (bl_al (bl_al (bl0 _) _) _) _) _) _)) hb | exact bl_tr (bl_al (bl_al (bl_al (bl_al (bl_al (bl_al (bl0 _) _) _) _) _) _) _) hb | exact bl_tr (bl_dr (bl_al (bl_al (bl_al (bl_al (bl_al (bl_al (bl0 _) _) _) _) _) _) _)) hb | exact bl_tr (bl_dr (bl0 _)) hb
  replace hA := bl_tr hA hk
  replace f0 := cell_later hk f0
  replace f1 := cell_later hk f1
  replace f2 := cell_later hk f2
  replace x0 := cell_later hk x0
  replace x1 := cell_later hk x1
  replace x2 := cell_later hk x2
  replace x3 := cell_later hk x3
  replace x4 := cell_later hk x4
  replace ho1 := own_later ho1 hk
  have r0 := cell_later hb (v := .slice pa1 P1.length pc1) (a := ⟨w2.heap.size, 0, none⟩) (by simp [go_sem])
  have r1 := cell_later hb (v := .int .u64 C1) (a := ⟨w2.heap.size, 1, none⟩) (by simp [go_sem])
  have r2 := cell_later hb (v := .int .i64 M1) (a := ⟨w2.heap.size, 2, none⟩) (by simp [go_sem])
  clear hb hk
  have zf0 := blk_lt f0
  have zf1 := blk_lt f1
  have zf2 := blk_lt f2
  have zx0 := blk_lt x0
  have zx1 := blk_lt x1
  have zx2 := blk_lt x2
  have zx3 := blk_lt x3
  have zx4 := blk_lt x4
  have zr0 := blk_lt r0
  have zr1 := blk_lt r1
  have zr2 := blk_lt r2
  have n0 : (E1 != E1) = false := by simp
  by_cases hE : E1 = 0
  case neg =>
    obtain ⟨e1, e2⟩ := C2'.out hE
    subst e1 e2
    have n1 : (E1 != (0 : Int)) = true := by rw [bne_iff_ne]; exact hE
    clear hE ho1 ho2
    go_wp2_with fail
    refine (awake10 _ (hs.below (by first | exact hA | exact (bl_al hA _) | exact (bl_dr (bl_al hA _)) | exact (bl_al (bl_al hA _) _) | exact (bl_dr (bl_al (bl_al hA _) _)) | exact (bl_al (bl_al (bl_al hA _) _) _) | exact (bl_dr (bl_al (bl_al (bl_al hA _) _) _)) | exact (bl_al (bl_al (bl_al (bl_al hA _) _) _) _) | exact (bl_dr (bl_al (bl_al (bl_al (bl_al hA _) _) _) _)) | exact (bl_al (bl_al (bl_al (bl_al (bl_al hA _) _) _) _) _) | exact (bl_dr (bl_al (bl_al (bl_al (bl_al (bl_al hA _) _) _) _) _)) | exact (bl_al (bl_al (bl_al (bl_al (bl_al (bl_al hA _) _) _) _) _) _) | exact (bl_dr (bl_al (bl_al (bl_al (bl_al (bl_al (bl_al hA _) _) _) _) _) _)) | exact (bl_dr hA)))).mono ?_
    rintro e w4 ⟨rfl, hb⟩
    have hk : Below w3.heap.size w3 w4 := by first | exact hb | exact bl_tr (bl_al (bl0 _) _) hb | exact bl_tr (bl_dr (bl_al (bl0 _) _)) hb | exact bl_tr (bl_al (bl_al (bl0 _) _) _) hb | exact bl_tr (bl_dr (bl_al (bl_al (bl0 _) _) _)) hb | exact bl_tr (bl_al (bl_al (bl_al (bl0 _) _) _) _) hb | exact bl_tr (bl_dr (bl_al (bl_al (bl_al (bl0 _) _) _) _)) hb | exact bl_tr (bl_al (bl_al (bl_al (bl_al (bl0 _) _) _) _) _) hb | exact bl_tr (bl_dr (bl_al (bl_al (bl_al (bl_al (bl0 _) _) _) _) _)) hb | exact bl_tr (bl_al (bl_al (bl_al (bl_al (bl_al (bl0 _) _) _) _) _) _) hb | exact bl_tr (bl_dr (bl_al (bl_al (bl_al (bl_al (bl_al (bl0 _) _) _) _) _) _)) hb | exact bl_tr (bl_al (bl_al (bl_al (bl_al (bl_al (bl_al (bl0 _) _) _) _) _) _) _) hb | exact bl_tr (bl_dr (bl_al (bl_al (bl_al (bl_al (bl_al (bl_al (bl0 _) _) _) _) _) _) _)) hb | exact bl_tr (bl_dr (bl0 _)) hb
    replace hA := bl_tr hA hk
    clear hb hk
    go_wp2
    go_ret
    exact ⟨rfl, hA⟩
  case pos =>
  subst hE
  obtain ⟨⟨hm, hn, hF, hT⟩, ⟨k1, k2⟩, ⟨k3, k4⟩, k5⟩ := C3'.out rfl
  obtain ⟨g1, g2⟩ := num_onS hF
  obtain ⟨g3, g4⟩ := num_onS hT
  have hFn := numN_int hF
  have hTn := numN_int hT
  obtain ⟨i, hi⟩ : ∃ i, numN A F = i := ⟨_, rfl⟩
  obtain ⟨k, hk⟩ : ∃ k, numN A T = k := ⟨_, rfl⟩
  rw [hi] at g2 hFn k5
  rw [hk] at g4 hTn k5
  have hil : i < zs.length := by omega
  have hkl : k < zs.length := by omega
  have hzi := getD_in HZ.out i
  have hzk := getD_in HZ.out k
  obtain ⟨gb, go, rfl, qi⟩ := (hr.below hA).cell hil
  obtain ⟨gb2, go2, e2, qk⟩ := (hr.below hA).cell hkl
  cases e2
  rw [show zs[i] = zs.getD i 0 by rw [List.getD_eq_getElem?_getD, List.getElem?_eq_getElem hil]; rfl] at qi
  rw [show zs[k] = zs.getD k 0 by rw [List.getD_eq_getElem?_getD, List.getElem?_eq_getElem hkl]; rfl] at qk
  generalize zs.getD i 0 = zi at *
  generalize zs.getD k 0 = zk at *
  have HR := Lib.hid hr
  have HO1 := Lib.hid ho1
  clear hn hi hk hFn hTn
  go_upto_region 11 with fail
  have hal := bl_al (bl0 w3) (.cells #[.slice pa2 P2.length pc2, .int .u64 C2, .int .i64 M2] 36)
  obtain ⟨w4, hw4⟩ : ∃ w4, w3.alloc (.cells #[.slice pa2 P2.length pc2, .int .u64 C2, .int .i64 M2] 36) = w4 := ⟨_, rfl⟩
  have s1 : w4.cell? ⟨w3.heap.size, 1, none⟩ = some (.int .u64 C2) := by rw [← hw4]; simp [go_sem]
  rw [hw4] at hal ⊢
  clear hw4
  replace hA := bl_tr hA hal
  replace f0 := cell_later hal f0; replace f1 := cell_later hal f1; replace f2 := cell_later hal f2
  replace x0 := cell_later hal x0; replace x1 := cell_later hal x1; replace x2 := cell_later hal x2; replace x3 := cell_later hal x3; replace x4 := cell_later hal x4
  replace r0 := cell_later hal r0; replace r1 := cell_later hal r1; replace r2 := cell_later hal r2
  replace qi := cell_later hal qi; replace qk := cell_later hal qk
  have HO2 := Lib.hid (own_later HO1.out hal)
  have HA4 := Lib.hid hA
  clear hal hr HO1 ho1 ho2 hm hF hT C2' C3' HF2
  have zf := blk_lt f0; have zx := blk_lt x0; have zr := blk_lt r0; have zs1 := blk_lt s1; have zq := blk_lt qi
  have d1 : decide ((i : Int) < 0) = false := decide_eq_false (by omega)
  have d2 : decide ((zs.length : Int) ≤ (i : Int)) = false := decide_eq_false (by omega)
  have d3 : decide ((k : Int) < 0) = false := decide_eq_false (by omega)
  have d4 : decide ((zs.length : Int) ≤ (k : Int)) = false := decide_eq_false (by omega)
  have d5 : decide (zs.length ≤ i) = false := decide_eq_false (by omega)
  have d6 : decide (zs.length ≤ k) = false := decide_eq_false (by omega)
  have e1 : IntKind.u64.wrap zi = zi := by rw [IntKind.wrap_u64]; omega
  have e2 : IntKind.u64.wrap zk = zk := by rw [IntKind.wrap_u64]; omega
  have e3 : IntKind.u64.wrap (C1 + zi) = C1 + zi := by rw [IntKind.wrap_u64]; omega
  have e4 : IntKind.u64.wrap (C2 + zk) = C2 + zk := by rw [IntKind.wrap_u64]; omega
  have e5 : (C1 + zi != C2 + zk) = false := by rw [bne_eq_false_iff_eq]; exact k5
  have j0 : (0 : Int) ≤ (i : Int) := by omega
  have j1 : (i : Int) < (zs.length : Int) := by omega
  have j2 : (0 : Int) ≤ (k : Int) := by omega
  have j3 : (k : Int) < (zs.length : Int) := by omega
  clear k1 k2 k3 k4 k5 hzi hzk
  go_quiet (fail)
  go_upto_region 13 with fail
  have HL1 := Lib.hid hl1
  obtain ⟨W5, hW5⟩ : ∃ W5, w4.drewN nq = W5 := ⟨_, rfl⟩
  have hdr := bl_drn w4 nq
  rw [hW5] at hdr ⊢
  clear hW5
  replace hA := bl_tr HA4.out hdr
  replace f0 := cell_later hdr f0; replace f1 := cell_later hdr f1; replace f2 := cell_later hdr f2
  replace x0 := cell_later hdr x0; replace x1 := cell_later hdr x1; replace x2 := cell_later hdr x2; replace x3 := cell_later hdr x3
  replace r0 := cell_later hdr r0
  have hO5 := own_later HO2.out hdr
  have hrc5 := own_rowS (own_later hO5 (bl_al (bl0 W5) (.cells #[] 28)))
  have HO5 := Lib.hid hO5
  have hown0 := own_emptyS (w := W5) (B := W5.heap.size) 28 (Nat.le_refl _)
  have hsz5 := hA.size
  have HA5 := Lib.hid hA
  clear hdr hO5 qi qk d1 d2 d3 d4 d5 d6 e1 e2 e3 e4 e5 j0 j1 j2 j3 HO2 zf zx zr zs1 zq r1 r2 x4 s1 hA hl2
  have zf := blk_lt f0; have zx := blk_lt x0; have zr := blk_lt r0
  go_wp2_with (at_builtin; refine wpList_append_rowQ rfl _ _ rfl W5.heap.size _ _ _ rfl hown0 pa1 pc1 P1 rfl hrc5 ?c3 ?c5 ?_)
  try case c3 => omega
  try case c5 => (rw [World.size_alloc]; omega)
  intro v' W6 hown' hgrow
  have hB6 : Below W5.heap.size W5 W6 := (bl_al (bl0 W5) (.cells #[] 28)).grown hgrow (by rw [World.size_alloc]; omega) (fun j hj => by simp [Value.ownBlock] at hj; omega)
  try simp only [Nat.zero_add, List.nil_append] at hown'
  obtain ⟨wa, wc, rfl⟩ : ∃ a' c', v' = .slice a' P1.length c' := by
    rcases hown'.2 with ⟨rfl, h⟩ | ⟨g, cap, cur, h, _⟩
    · exact ⟨none, 0, by rw [h]⟩
    · exact ⟨_, _, h⟩
  replace f0 := cell_later hB6 f0; replace f1 := cell_later hB6 f1; replace f2 := cell_later hB6 f2
  replace x0 := cell_later hB6 x0; replace x1 := cell_later hB6 x1; replace x2 := cell_later hB6 x2; replace x3 := cell_later hB6 x3
  replace r0 := cell_later hB6 r0
  have HO6 := Lib.hid (own_later HO5.out hB6)
  have HW6 := Lib.hid hown'
  have HA6 := Lib.hid (bl_tr HA5.out hB6)
  have hsz6 := hB6.size
  clear hown0 hrc5 hgrow hown' hB6 HO5
  have zf6 := blk_lt f0; have zx6 := blk_lt x0; have zr6 := blk_lt r0
  go_wp2_with fail
  go_loopw [12] (fun iv wr => ∃ (q : Nat) (xs : List IC), q ≤ P1.length ∧ iv = .int .i64 q ∧ xs.length = P1.length ∧ wr.ownsRow w1.heap.size 28 2 (.slice pa1 P1.length pc1) P1.length (flatC xs) ∧ KeptS (fun x => (Value.slice pa1 P1.length pc1).ownBlock = some x) W6 wr) (fun iv _ => P1.length - (intOf iv).toNat)
  case atStart => exact ⟨0, P1, Nat.zero_le _, rfl, rfl, HO6.out, KeptS.refl _ _⟩
  case round =>
    obtain ⟨q, xs, hq, rfl, hxl, hown, hk⟩ := hrel
    have hnf : ∀ b, b < w1.heap.size ∨ w2.heap.size ≤ b → ¬ (Value.slice pa1 P1.length pc1).ownBlock = some b := fun b hb e => by
      have := HG1.out b e
      omega
    replace f0 := hk.cell f0 (hnf _ (by omega)); replace f1 := hk.cell f1 (hnf _ (by omega)); replace f2 := hk.cell f2 (hnf _ (by omega))
    replace x0 := hk.cell x0 (hnf _ (by omega)); replace x1 := hk.cell x1 (hnf _ (by omega)); replace x2 := hk.cell x2 (hnf _ (by omega)); replace x3 := hk.cell x3 (hnf _ (by omega))
    replace r0 := hk.cell r0 (hnf _ (by omega))
    have zf7 := blk_lt f0; have zx7 := blk_lt x0; have zr7 := blk_lt r0
    have hq0 : (0 : Int) ≤ (q : Int) := by omega
    by_cases hlt : q < P1.length
    · have hlt2 : (q : Int) < (P1.length : Int) := by omega
      have hwq : IntKind.i64.wrap ((q : Int) + 1) = (q : Int) + 1 := by rw [IntWalk.i64_in _ (by omega)]
      obtain ⟨g1, rfl⟩ : ∃ g, pa1 = some ⟨g, 0, none⟩ := by
        rcases hown.2 with ⟨_, h⟩ | ⟨g, cap, cur, e, _⟩
        · omega
        · cases e; exact ⟨g, rfl⟩
      obtain ⟨z, hz⟩ : ∃ z, xs[q]? = some z := ⟨_, List.getElem?_eq_getElem (by omega)⟩
      obtain ⟨q0, q1⟩ := own_cellC hown hz
      have q2 := hown.frozenAt (q * 2)
      have q3 := hown.frozenAt (q * 2 + 1)
      have HOW := Lib.hid (own_setC hown q (-5, -5))
      have HK := Lib.hid (hk.trans (T := fun x => x = g1) (C := ((wr.setCell ⟨g1, q * 2, none⟩ (.int .i64 (-5))).setCell ⟨g1, q * 2 + 1, none⟩ (.int .i64 (-5)))) ((KeptS.of_grown (S := fun x => x = g1) (hgrown_set wr g1 (q * 2) (.int .i64 (-5))) (fun x e _ => by cases e; rfl)).trans (T := fun x => x = g1) (KeptS.of_grown (S := fun x => x = g1) (hgrown_set _ g1 (q * 2 + 1) (.int .i64 (-5))) (fun x e _ => by cases e; rfl)) (fun _ _ h => h)) (fun x _ e => by rw [e]; rfl))
      have zq0 := blk_lt q0
      have HXL := Lib.hid hxl
      clear hown hk hz hxl
      go_wp2_with fail
      go_roundw
      case rel => exact ⟨q + 1, xs.set q (-5, -5), by omega, by go_num, by rw [List.length_set]; exact HXL.out, HOW.out, HK.out⟩
      case measure => simp [intOf]; omega
    · obtain rfl : q = P1.length := by omega
      have hge : ¬ (P1.length : Int) < (P1.length : Int) := by omega
      have hA : Below w.heap.size w wr := HA6.out.trans (hk.to_below (fun k hkk e => by have := HG1.out k e; omega) HA6.out.size)
      have hrw := own_rowS (hk.own HW6.out (fun g hg e => by have h1 := HW6.out.lt g hg; have h2 := HG1.out g e; omega))
      have hrr := HR.out.below hA
      have n4 : (true && true) = true := rfl
      clear hown hk hxl hlt
      go_wp2_with fail
      refine (HF1.out _ hrr (hs.below hA)).mono ?_
      rintro e w8 ⟨⟨pa3, pc3, rfl, ho3, hl3⟩, hb⟩
      have hk : Below wr.heap.size wr w8 := by first | exact hb | exact bl_tr (bl_al (bl0 _) _) hb | exact bl_tr (bl_dr (bl_al (bl0 _) _)) hb | exact bl_tr (bl_al (bl_al (bl0 _) _) _) hb | exact bl_tr (bl_dr (bl_al (bl_al (bl0 _) _) _)) hb | exact bl_tr (bl_al (bl_al (bl_al (bl0 _) _) _) _) hb | exact bl_tr (bl_dr (bl_al (bl_al (bl_al (bl0 _) _) _) _)) hb | exact bl_tr (bl_al (bl_al (bl_al (bl_al (bl0 _) _) _) _) _) hb | exact bl_tr (bl_dr (bl_al (bl_al (bl_al (bl_al (bl0 _) _) _) _) _)) hb | exact bl_tr (bl_al (bl_al (bl_al (bl_al (bl_al (bl0 _) _) _) _) _) _) hb | exact bl_tr (bl_dr (bl_al (bl_al (bl_al (bl_al (bl_al (bl0 _) _) _) _) _) _)) hb | exact bl_tr (bl_al (bl_al (bl_al (bl_al (bl_al (bl_al (bl0 _) _) _) _) _) _) _) hb | exact bl_tr (bl_dr (bl_al (bl_al (bl_al (bl_al (bl_al (bl_al (bl0 _) _) _) _) _) _) _)) hb | exact bl_tr (bl_dr (bl0 _)) hb
      replace hA := bl_tr hA hk
      replace hrw := hrw.below hk
      replace f0 := cell_later hk f0
      replace f1 := cell_later hk f1
      replace f2 := cell_later hk f2
      replace x0 := cell_later hk x0
      replace x1 := cell_later hk x1
      replace x2 := cell_later hk x2
      replace x3 := cell_later hk x3
      clear hb hk
      have zf0 := blk_lt f0
      have zf1 := blk_lt f1
      have zf2 := blk_lt f2
      have zx0 := blk_lt x0
      have zx1 := blk_lt x1
      have zx2 := blk_lt x2
      have zx3 := blk_lt x3
      have hr3 := own_rowS ho3
      have HCL := Lib.hid (fun W (h1 : RowC W pa3 P1) (h2 : RowC W wa P1) => cells10_any pa3 wa pc3 wc P1 P1 W h1 h2 (by omega))
      rw [decide_eq_true rfl] at HCL
      clear ho3
      go_wp2_with fail
      refine (HCL.out _ (hr3.below (bl_al (bl0 w8) _)) (hrw.below (bl_al (bl0 w8) _))).mono ?_
      rintro e w9 ⟨rfl, hb⟩
      have hk : Below w8.heap.size w8 w9 := by first | exact hb | exact bl_tr (bl_al (bl0 _) _) hb | exact bl_tr (bl_dr (bl_al (bl0 _) _)) hb | exact bl_tr (bl_al (bl_al (bl0 _) _) _) hb | exact bl_tr (bl_dr (bl_al (bl_al (bl0 _) _) _)) hb | exact bl_tr (bl_al (bl_al (bl_al (bl0 _) _) _) _) hb | exact bl_tr (bl_dr (bl_al (bl_al (bl_al (bl0 _) _) _) _)) hb | exact bl_tr (bl_al (bl_al (bl_al (bl_al (bl0 _) _) _) _) _) hb | exact bl_tr (bl_dr (bl_al (bl_al (bl_al (bl_al (bl0 _) _) _) _) _)) hb | exact bl_tr (bl_al (bl_al (bl_al (bl_al (bl_al (bl0 _) _) _) _) _) _) hb | exact bl_tr (bl_dr (bl_al (bl_al (bl_al (bl_al (bl_al (bl0 _) _) _) _) _) _)) hb | exact bl_tr (bl_al (bl_al (bl_al (bl_al (bl_al (bl_al (bl0 _) _) _) _) _) _) _) hb | exact bl_tr (bl_dr (bl_al (bl_al (bl_al (bl_al (bl_al (bl_al (bl0 _) _) _) _) _) _) _)) hb | exact bl_tr (bl_dr (bl0 _)) hb
      replace hA := bl_tr hA hk
      replace f0 := cell_later hk f0
      clear hb hk
      have zf0 := blk_lt f0
      go_wp2_with fail
      refine (awake10 _ (hs.below hA)).mono ?_
      rintro e wz ⟨rfl, hb⟩
      have hk : Below w9.heap.size w9 wz := by first | exact hb | exact bl_tr (bl_al (bl0 _) _) hb | exact bl_tr (bl_dr (bl_al (bl0 _) _)) hb | exact bl_tr (bl_al (bl_al (bl0 _) _) _) hb | exact bl_tr (bl_dr (bl_al (bl_al (bl0 _) _) _)) hb | exact bl_tr (bl_al (bl_al (bl_al (bl0 _) _) _) _) hb | exact bl_tr (bl_dr (bl_al (bl_al (bl_al (bl0 _) _) _) _)) hb | exact bl_tr (bl_al (bl_al (bl_al (bl_al (bl0 _) _) _) _) _) hb | exact bl_tr (bl_dr (bl_al (bl_al (bl_al (bl_al (bl0 _) _) _) _) _)) hb | exact bl_tr (bl_al (bl_al (bl_al (bl_al (bl_al (bl0 _) _) _) _) _) _) hb | exact bl_tr (bl_dr (bl_al (bl_al (bl_al (bl_al (bl_al (bl0 _) _) _) _) _) _)) hb | exact bl_tr (bl_al (bl_al (bl_al (bl_al (bl_al (bl_al (bl0 _) _) _) _) _) _) _) hb | exact bl_tr (bl_dr (bl_al (bl_al (bl_al (bl_al (bl_al (bl_al (bl0 _) _) _) _) _) _) _)) hb | exact bl_tr (bl_dr (bl0 _)) hb
      replace hA := bl_tr hA hk
      clear hb hk
      go_wp2
      go_ret
      exact ⟨rfl, hA⟩
end Go.Proofs.YtldpajfendkhbaaDoor
