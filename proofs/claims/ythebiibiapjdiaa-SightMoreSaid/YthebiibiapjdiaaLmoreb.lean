/- SightMore: the law's walk where all is right. -/
import Derived.Test.YthebiibiapjdiaaLmore
namespace Go.Proofs.Ythebiibiapjdiaa
open Go.RowKit

set_option maxRecDepth 100000 in
set_option maxHeartbeats 16000000 in
theorem more_yes (A B P Q R r : Int) (a a3 : Option Addr) (c c3 : Nat) (fs : List Int) (zs : List (Int × Int)) (w : World) (hr : RowH w a fs) (hz : RowC w a3 zs) (hcap : zs.length ≤ c3) (h1 : smallB A B fs.length = true) (hl : zs.length ≤ 6) (h2 : chkF A B fs.length = 0) (h3 : 0 ≤ R) (h4 : R ≤ 16) (h5 : errA A B fs.length r zs = 0) :
    Calls Try.prog 6 #[.agg #[.int .i64 A, .int .i64 B, .slice a fs.length c], .agg #[.slice a3 zs.length c3, .int .i64 r], .agg #[.int .i64 P, .int .i64 Q, .int .i64 R]] w fun e w' => e = .returned (.bool true) ∧ Below w.heap.size w w' := by
  have hA := bl0 w
  obtain ⟨i0, hi, hz0, hz1, hz2⟩ := info_parts Try.infoH
  obtain ⟨_, hp0, hp1, hin⟩ := errA_ok h5
  obtain ⟨hmay, harea⟩ := chk_ok h2
  have hlen : fs.length ≤ 600 := by
    unfold smallB at h1
    rw [Bool.and_eq_true, decide_eq_true_eq] at h1
    omega
  have hpos : 0 < fs.length := by have := area_bd hmay; omega
  have H1 := Lib.hid h1
  have H2 := Lib.hid h2
  have H5 := Lib.hid h5
  have hl2 : (zs.length : Int) ≤ 6 := by omega
  obtain ⟨far, hfar, HR3, HR4, HE1⟩ : ∃ far : Int, ((¬ 16 < r + R ∧ far = r + R) ∨ (16 < r + R ∧ far = 16)) ∧ Hid (r ≤ far) ∧ Hid (far ≤ 16) ∧ Hid (errA A B fs.length far zs = 0) := by
    refine ⟨if 16 < r + R then 16 else r + R, ?_, ?_, ?_, ?_⟩
    · split <;> omega
    · exact Lib.hid (by split <;> omega)
    · exact Lib.hid (by split <;> omega)
    · refine Lib.hid ?_
      unfold errA
      rw [if_neg (fun h => h h2), if_neg (by split <;> omega), if_pos hin]
  obtain ⟨ms, hms⟩ : ∃ ms, allB A B fs r zs = ms := ⟨_, rfl⟩
  have HMS := Lib.hid hms
  have hgood := allB_good (r := r) (fs := fs) hmay hin
  rw [hms] at hgood
  have HAREA := Lib.hid harea
  have e1 : ¬ R < 0 := by omega
  have e2 : ¬ 16 < R := by omega
  have H3 := Lib.hid h3
  have H4 := Lib.hid h4
  clear h1 h2 h5 hms harea h3 h4
  go_enter Try.func6, Try.ntmps6
  go_wp2_with fail
  refine (small_any _ _ _ _ _ _).mono ?_
  rintro e w1 ⟨rfl, hb⟩
  have hk : Below w.heap.size w w1 := by first | exact hb | exact bl_tr (bl_al (bl0 _) _) hb | exact bl_tr (bl_dr (bl_al (bl0 _) _)) hb | exact bl_tr (bl_al (bl_al (bl0 _) _) _) hb | exact bl_tr (bl_dr (bl_al (bl_al (bl0 _) _) _)) hb | exact bl_tr (bl_al (bl_al (bl_al (bl0 _) _) _) _) hb | exact bl_tr (bl_dr (bl_al (bl_al (bl_al (bl0 _) _) _) _)) hb | exact bl_tr (bl_al (bl_al (bl_al (bl_al (bl0 _) _) _) _) _) hb | exact bl_tr (bl_dr (bl_al (bl_al (bl_al (bl_al (bl0 _) _) _) _) _)) hb | exact bl_tr (bl_al (bl_al (bl_al (bl_al (bl_al (bl0 _) _) _) _) _) _) hb | exact bl_tr (bl_dr (bl_al (bl_al (bl_al (bl_al (bl_al (bl0 _) _) _) _) _) _)) hb | exact bl_tr (bl_al (bl_al (bl_al (bl_al (bl_al (bl_al (bl0 _) _) _) _) _) _) _) hb | exact bl_tr (bl_dr (bl_al (bl_al (bl_al (bl_al (bl_al (bl_al (bl0 _) _) _) _) _) _) _)) hb | exact bl_tr (bl_dr (bl0 _)) hb
  replace hA := bl_tr hA hk
  have f0 := cell_later hb (v := .int .i64 A) (a := ⟨w.heap.size, 0, none⟩) (by simp [go_sem])
  have f1 := cell_later hb (v := .int .i64 B) (a := ⟨w.heap.size, 1, none⟩) (by simp [go_sem])
  have f2 := cell_later hb (v := .slice a fs.length c) (a := ⟨w.heap.size, 2, none⟩) (by simp [go_sem])
  have x0 := cell_later hb (v := .slice a3 zs.length c3) (a := ⟨w.heap.size + 1, 0, none⟩) (by simp [go_sem])
  have x1 := cell_later hb (v := .int .i64 r) (a := ⟨w.heap.size + 1, 1, none⟩) (by simp [go_sem])
  have y0 := cell_later hb (v := .int .i64 P) (a := ⟨w.heap.size + 1 + 1, 0, none⟩) (by simp [go_sem])
  have y1 := cell_later hb (v := .int .i64 Q) (a := ⟨w.heap.size + 1 + 1, 1, none⟩) (by simp [go_sem])
  have y2 := cell_later hb (v := .int .i64 R) (a := ⟨w.heap.size + 1 + 1, 2, none⟩) (by simp [go_sem])
  clear hb hk
  have zf0 := blk_lt f0
  have zf1 := blk_lt f1
  have zf2 := blk_lt f2
  have zx0 := blk_lt x0
  have zx1 := blk_lt x1
  have zy0 := blk_lt y0
  have zy1 := blk_lt y1
  have zy2 := blk_lt y2
  rw [H1.out]
  go_wp2_with fail
  refine (check_any _ _ _ _ _ _).mono ?_
  rintro e w2 ⟨rfl, hb⟩
  have hk : Below w1.heap.size w1 w2 := by first | exact hb | exact bl_tr (bl_al (bl0 _) _) hb | exact bl_tr (bl_dr (bl_al (bl0 _) _)) hb | exact bl_tr (bl_al (bl_al (bl0 _) _) _) hb | exact bl_tr (bl_dr (bl_al (bl_al (bl0 _) _) _)) hb | exact bl_tr (bl_al (bl_al (bl_al (bl0 _) _) _) _) hb | exact bl_tr (bl_dr (bl_al (bl_al (bl_al (bl0 _) _) _) _)) hb | exact bl_tr (bl_al (bl_al (bl_al (bl_al (bl0 _) _) _) _) _) hb | exact bl_tr (bl_dr (bl_al (bl_al (bl_al (bl_al (bl0 _) _) _) _) _)) hb | exact bl_tr (bl_al (bl_al (bl_al (bl_al (bl_al (bl0 _) _) _) _) _) _) hb | exact bl_tr (bl_dr (bl_al (bl_al (bl_al (bl_al (bl_al (bl0 _) _) _) _) _) _)) hb | exact bl_tr (bl_al (bl_al (bl_al (bl_al (bl_al (bl_al (bl0 _) _) _) _) _) _) _) hb | exact bl_tr (bl_dr (bl_al (bl_al (bl_al (bl_al (bl_al (bl_al (bl0 _) _) _) _) _) _) _)) hb | exact bl_tr (bl_dr (bl0 _)) hb
  replace hA := bl_tr hA hk
  replace f0 := cell_later hk f0
  replace f1 := cell_later hk f1
  replace f2 := cell_later hk f2
  replace x0 := cell_later hk x0
  replace x1 := cell_later hk x1
  replace y0 := cell_later hk y0
  replace y1 := cell_later hk y1
  replace y2 := cell_later hk y2
  clear hb hk
  have zf0 := blk_lt f0
  have zf1 := blk_lt f1
  have zf2 := blk_lt f2
  have zx0 := blk_lt x0
  have zx1 := blk_lt x1
  have zy0 := blk_lt y0
  have zy1 := blk_lt y1
  have zy2 := blk_lt y2
  rw [H2.out]
  go_wp2_with fail
  refine (sall_yes _ _ _ _ _ _ _ fs zs _ (hr.below hA) (hz.below hA) (by omega) H5.out).mono ?_
  rintro e w5 ⟨b1, q1, rfl, hm1, hb1, hq1, hbq1, hb⟩
  have hk : Below w2.heap.size w2 w5 := by first | exact hb | exact bl_tr (bl_al (bl0 _) _) hb | exact bl_tr (bl_dr (bl_al (bl0 _) _)) hb | exact bl_tr (bl_al (bl_al (bl0 _) _) _) hb | exact bl_tr (bl_dr (bl_al (bl_al (bl0 _) _) _)) hb | exact bl_tr (bl_al (bl_al (bl_al (bl0 _) _) _) _) hb | exact bl_tr (bl_dr (bl_al (bl_al (bl_al (bl0 _) _) _) _)) hb | exact bl_tr (bl_al (bl_al (bl_al (bl_al (bl0 _) _) _) _) _) hb | exact bl_tr (bl_dr (bl_al (bl_al (bl_al (bl_al (bl0 _) _) _) _) _)) hb | exact bl_tr (bl_al (bl_al (bl_al (bl_al (bl_al (bl0 _) _) _) _) _) _) hb | exact bl_tr (bl_dr (bl_al (bl_al (bl_al (bl_al (bl_al (bl0 _) _) _) _) _) _)) hb | exact bl_tr (bl_al (bl_al (bl_al (bl_al (bl_al (bl_al (bl0 _) _) _) _) _) _) _) hb | exact bl_tr (bl_dr (bl_al (bl_al (bl_al (bl_al (bl_al (bl_al (bl0 _) _) _) _) _) _) _)) hb | exact bl_tr (bl_dr (bl0 _)) hb
  replace hA := bl_tr hA hk
  replace f0 := cell_later hk f0
  replace f1 := cell_later hk f1
  replace f2 := cell_later hk f2
  replace x0 := cell_later hk x0
  replace x1 := cell_later hk x1
  replace y0 := cell_later hk y0
  replace y1 := cell_later hk y1
  replace y2 := cell_later hk y2
  clear hb hk
  have zf0 := blk_lt f0
  have zf1 := blk_lt f1
  have zf2 := blk_lt f2
  have zx0 := blk_lt x0
  have zx1 := blk_lt x1
  have zy0 := blk_lt y0
  have zy1 := blk_lt y1
  have zy2 := blk_lt y2
  rw [HMS.out] at hm1
  obtain ⟨gb, go, rfl, q0⟩ := hr.cell hpos
  have hra := hr.below hA
  obtain ⟨lm1, lm2⟩ := hm1.lt
  have hcell := fun j (z : Int) (hj : fs[j]? = some z) => (by
    rcases hra with h | ⟨b', o', e', h'⟩
    · rw [h] at hpos; simp at hpos
    · cases e'; exact h' j z hj : w5.cell? ⟨gb, go + j, none⟩ = some (.int .u16 z))
  have hb6 := bl_al (bl0 w5) (.cells #[.int .i64 A, .int .i64 B, .slice none 0 0] 26)
  have hown0 : (w5.alloc (.cells #[.int .i64 A, .int .i64 B, .slice none 0 0] 26)).ownsRow (w5.heap.size + 1) 49 1 (.slice none 0 0) 0 [] := World.ownsRow_nil _ _ _ _
  have HC := Lib.hid hcell
  clear hcell hra
  go_wp2_with (at_builtin; refine wpList_append_own _ rfl _ _ 24 rfl (w5.heap.size + 1) 49 i0 (.int .u16 0) 1 2 Try.underlying24 hi hz0 hz1 hz2 rfl (by decide) _ _ _ rfl hown0 ⟨gb, go, none⟩ fs.length c (cellsH fs) rfl ?c0 ?c1 ?c2 ?c3 ?c4 ?c5 ?_)
  case c0 => rw [cellsH_len, Nat.mul_one]
  case c1 =>
    intro j u hj
    simp only [cellsH, List.getElem?_map, Option.map_eq_some_iff] at hj
    obtain ⟨z, hz, rfl⟩ := hj
    rw [addr_add]
    exact cell_later hb6 (HC.out j z hz)
  case c2 => exact cellsH_one fs
  case c3 => unfold maxLen; omega
  case c4 => omega
  case c5 => rw [World.size_alloc]; omega
  intro v' w6 hown hgrow _
  try simp only [Nat.zero_add, List.nil_append] at hown
  obtain ⟨g, cp, rfl, hg5, hrow, hfz⟩ : ∃ g cp, v' = .slice (some ⟨g, 0, none⟩) fs.length cp ∧ w5.heap.size + 1 ≤ g ∧ RowH w6 (some ⟨g, 0, none⟩) fs ∧ ∀ j, w6.frozen? ⟨g, j, none⟩ = false := by
    rcases hown.2 with ⟨_, h0⟩ | ⟨g, cap, cur, h1, h2, h3, _⟩
    · omega
    · obtain ⟨a', c', e1, e2⟩ := rowH_of_own hown
      rw [h1] at e1
      cases e1
      exact ⟨g, _, h1, h2, e2, fun j => by simp [World.frozen?, h3]⟩
  have hF6 : FAt w6 w5.heap.size (.int .i64 A) (.int .i64 B) (.slice none 0 0) := (fAt_new w5 _ _ _).kept hgrow (by simp [Value.ownBlock])
  have hB6 : Below w5.heap.size w5 w6 := (bl_al (bl0 w5) _).grown hgrow (by rw [World.size_alloc]; omega) (fun j e => by simp [Value.ownBlock] at e)
  have hm2f := hF6.f2
  have hm2c := hF6.c2
  have zF := hF6.lt
  obtain ⟨w7, hw7⟩ : ∃ w7, w6.setCell ⟨w5.heap.size, 2, none⟩ (.slice (some ⟨g, 0, none⟩) fs.length cp) = w7 := ⟨_, rfl⟩
  have hF7 : FAt w7 w5.heap.size (.int .i64 A) (.int .i64 B) (.slice (some ⟨g, 0, none⟩) fs.length cp) := by rw [← hw7]; exact hF6.set2 _
  have hB7 : Below w5.heap.size w5 w7 := by rw [← hw7]; exact bl_st hB6 (Nat.le_refl _) _
  have hrow7 : RowH w7 (some ⟨g, 0, none⟩) fs := by
    rcases hrow with h | ⟨b', o', e', h'⟩
    · exact .inl h
    · cases e'
      refine .inr ⟨g, 0, rfl, fun i z hz => ?_⟩
      rw [← hw7]
      exact (World.cell?_of_block (a := ⟨g, 0 + i, none⟩) (Below.heap_setCell w6 _ _ g (show g ≠ w5.heap.size by omega))).trans (h' i z hz)
  have hfz7 : ∀ j, w7.frozen? ⟨g, j, none⟩ = false := fun j => by
    have h := hfz j
    unfold World.frozen? at h ⊢
    rw [← hw7, Below.heap_setCell w6 _ _ g (show g ≠ w5.heap.size by omega)]
    exact h
  have HW7 := Lib.hid hw7
  have HFZ := Lib.hid hfz7
  clear hw7 hgrow hown hrow hfz HC hown0 hb6 hB6 hfz7
  go_upto_region 9 with fail
  rw [HW7.out]
  replace f0 := cell_later hB7 f0
  replace f1 := cell_later hB7 f1
  replace f2 := cell_later hB7 f2
  replace x0 := cell_later hB7 x0
  replace x1 := cell_later hB7 x1
  replace y0 := cell_later hB7 y0
  replace y1 := cell_later hB7 y1
  replace y2 := cell_later hB7 y2
  have zw7 := hB7.size
  have hm7 := hm1.below hB7
  have hA7 := bl_tr hA hB7
  have hZ7 : w5.heap.size < w7.heap.size := hF7.lt
  have hgz7 : ∃ v, w7.cell? ⟨g, 0, none⟩ = some v := by
    obtain ⟨b', o', e', h'⟩ := hrow7.cell hpos
    cases e'
    exact ⟨_, h'⟩
  clear hm2f hm2c zF hF6 hm1 hA hB7
  cases hi9 : inB A B P Q
  · go_wp2_with fail
    refine (index_no _ _ _ _ _ hi9).mono ?_
    rintro e W ⟨rfl, hb9⟩
    obtain ⟨hs, hhs⟩ : ∃ hs, fs = hs := ⟨_, rfl⟩
    have HHL := Lib.hid (show hs.length = fs.length by rw [hhs])
    have HLESS := Lib.hid (show ∀ d, wallB A hs d = true → wallB A fs d = true by rw [hhs]; exact fun _ h => h)
    have hF := hF7.later hb9 hF7.lt
    have k0 := hF.c0
    have k1 := hF.c1
    have k2 := hF.c2
    have zk := hF.lt
    have hrowW := hrow7.below hb9
    rw [hhs] at hrowW
    replace f0 := cell_later hb9 f0
    replace f1 := cell_later hb9 f1
    replace f2 := cell_later hb9 f2
    replace x0 := cell_later hb9 x0
    replace x1 := cell_later hb9 x1
    replace y0 := cell_later hb9 y0
    replace y1 := cell_later hb9 y1
    replace y2 := cell_later hb9 y2
    have hmW := hm7.below hb9
    have hAW := bl_tr hA7 hb9
    clear hb9 hF hF7 hrow7 hm7 hA7 hhs hgz7 hi9
    have g3 := allB_good (r := far) (fs := fs) hmay hin
    have S3 := Lib.hid (fun c (h : inM A B ms c = true) => sees_wide (r2 := far) (gs := fs) hmay hin hp0 (HR3.out) (HR4.out) (fun _ h => h) c (by rw [HMS.out]; exact h))
    obtain ⟨os, hos⟩ : ∃ os, allB A B fs far zs = os := ⟨_, rfl⟩
    rw [hos] at g3 S3
    have HOS := Lib.hid hos
    clear hos HR3 HR4
    rcases hfar with ⟨e3, rfl⟩ | ⟨e3, rfl⟩
    ·
      have E1 := Lib.hid (show errA A B fs.length _ zs = 0 from HE1.out)
      clear HE1
      go_wp2_with fail
      have hcall := sall_yes A B r (some ⟨g, 0, none⟩) a3 cp c3 hs zs W hrowW (hz.below hAW) (by omega) (by rw [HHL.out]; exact H5.out)
      rw [HHL.out] at hcall
      refine hcall.mono ?_
      clear hcall
      rintro e w8 ⟨b2, q2, rfl, hm2, hb2, hq2, hbq2, hb8⟩
      have zW := hAW.size
      have hA8 := bl_tr hAW hb8
      have hm1 := hmW.below hb8
      obtain ⟨l1, l2⟩ := hmW.lt
      obtain ⟨l3, l4⟩ := hm2.lt
      replace f0 := cell_later hb8 f0
      replace f1 := cell_later hb8 f1
      replace f2 := cell_later hb8 f2
      replace x0 := cell_later hb8 x0
      replace x1 := cell_later hb8 x1
      have zf0 := blk_lt f0
      have zx0 := blk_lt x0
      have g2 := allB_good (r := r) (fs := hs) hmay hin
      have S2 := Lib.hid (fun c (h : inM A B ms c = true) => sees_wide (gs := hs) hmay hin hp0 (Int.le_refl r) hp1 HLESS.out c (by rw [HMS.out]; exact h))
      obtain ⟨ns, hns⟩ : ∃ ns, allB A B hs r zs = ns := ⟨_, rfl⟩
      rw [hns] at hm2 g2 S2
      clear hb8 hmW hrowW k0 k1 k2 hns
      go_wp2_with fail
      refine (sall_yes A B _ (some ⟨gb, go, none⟩) a3 c c3 fs zs _ (hr.below hA8) (hz.below hA8) (by omega) E1.out).mono ?_
      rintro e w9 ⟨b3, q3, rfl, hm3, hb3, hq3, hbq3, hb9⟩
      have hA9 := bl_tr hA8 hb9
      replace hm1 := hm1.below hb9
      replace hm2 := hm2.below hb9
      obtain ⟨l5, l6⟩ := hm3.lt
      replace f0 := cell_later hb9 f0
      replace f1 := cell_later hb9 f1
      replace f2 := cell_later hb9 f2
      replace x0 := cell_later hb9 x0
      replace x1 := cell_later hb9 x1
      rw [HOS.out] at hm3
      clear hb9 hA8
      go_wp2_with fail
      refine (add_sub b2 q2 b1 q1 A B ns ms _ hm2 hm1 g2 hgood hbq2 (by omega) (by omega) S2.out).mono ?_
      rintro e w10 ⟨rfl, hm2', hg10⟩
      replace hm1 := hm1.kept hg10 (by simp; omega) (by simp; omega)
      replace hm3 := hm3.kept hg10 (by simp; omega) (by simp; omega)
      replace f0 := hg10.cell f0 (by simp; omega)
      replace f1 := hg10.cell f1 (by simp; omega)
      replace f2 := hg10.cell f2 (by simp; omega)
      replace x0 := hg10.cell x0 (by simp; omega)
      replace x1 := hg10.cell x1 (by simp; omega)
      have hA10 := hA9.grown hg10 hA9.size (fun j e => by cases e; omega)
      clear hA9 hg10 hm2 S2
      go_wp2_with fail
      refine (add_sub b3 q3 b1 q1 A B os ms _ hm3 hm1 g3 hgood hbq3 (by omega) (by omega) S3.out).mono ?_
      rintro e w11 ⟨rfl, hm3', hg11⟩
      replace hm1 := hm1.kept hg11 (by simp; omega) (by simp; omega)
      replace f0 := hg11.cell f0 (by simp; omega)
      replace f1 := hg11.cell f1 (by simp; omega)
      replace f2 := hg11.cell f2 (by simp; omega)
      replace x0 := hg11.cell x0 (by simp; omega)
      replace x1 := hg11.cell x1 (by simp; omega)
      have hA11 := hA10.grown hg11 hA10.size (fun j e => by cases e; omega)
      clear hA10 hg11 hm3 hm3' hm2' S3
      cases zs with
      | nil =>
        go_wp2_with fail
        refine (awake_any _).mono ?_
        rintro e w12 ⟨rfl, hb12⟩
        have hA12 := bl_tr hA11 hb12
        clear hA11 hb12
        go_wp2
        go_ret
        exact ⟨rfl, hA12⟩
      | cons z0 zr =>
        obtain ⟨g3', o3, rfl, _⟩ := hz.cell (k := 0) (by simp)
        obtain ⟨L, hL⟩ : ∃ L, (z0 :: zr).length = L := ⟨_, rfl⟩
        have hzr : zr.length = L - 1 := by rw [← hL]; simp
        rw [hL] at x0 hl hcap hl2
        rw [hL]
        have HZR := Lib.hid hzr
        have HLL := Lib.hid hL
        have hl0 : (0 : Int) < (L : Int) := by simp at hL; omega
        have hl1 : (1 : Int) ≤ (L : Int) := by omega
        clear hL hzr
        go_upto_region 24 with fail
        refine (wpIn_wide (n := 11)).1 ?_
        have hD := bl_dr (bl0 w11)
        refine ordS_begin (S := (fun w' : World => w'.cell? ⟨w.heap.size, 0, none⟩ = some (.int .i64 A) ∧ w'.cell? ⟨w.heap.size, 1, none⟩ = some (.int .i64 B) ∧ w'.cell? ⟨w.heap.size, 2, none⟩ = some (.slice (some ⟨gb, go, none⟩) fs.length c) ∧ w'.cell? ⟨w.heap.size + 1, 0, none⟩ = some (.slice (some ⟨g3', o3, none⟩) L c3) ∧ w'.cell? ⟨w.heap.size + 1, 1, none⟩ = some (.int .i64 r))) (by kernel_rfl) ⟨cell_later hD f0, cell_later hD f1, cell_later hD f2, cell_later hD x0, cell_later hD x1⟩ (fun hH => ?_)
        first
          | (refine' ordS_take (i := 0) (oi := { dst := some 150, op := Op.load 26 (Operand.tmp 3), type := 26, pos := _, after := #[], guard := none }) (v := _) rfl (by kernel_rfl) (by kernel_rfl) (by kernel_rfl) (by kernel_rfl) (fun _ _ _ h => h) (by assumption) (Or.inl ⟨by rfl, ?hy1⟩) (fun _ => rfl) ?rest1
             case hy1 => (intro w hSw; (try dsimp only at hSw); go_simp; try with_reducible rfl))
          | (refine ordS_take (i := 0) (oi := { dst := some 150, op := Op.load 26 (Operand.tmp 3), type := 26, pos := _, after := #[], guard := none }) (v := undef) rfl (by kernel_rfl) (by kernel_rfl) (by kernel_rfl) (by kernel_rfl) (fun _ _ _ h => h) (by assumption) (Or.inr ⟨by rfl, rfl⟩) (fun _ => rfl) ?_)
        try simp only [Act.put, List.setIfInBounds_toArray, List.set_cons_zero, List.set_cons_succ]
        first
          | (refine' ordS_take (i := 1) (oi := { dst := some 151, op := Op.fieldAddr 45 (Operand.tmp 4) 0, type := 0, pos := _, after := #[], guard := none }) (v := _) rfl (by kernel_rfl) (by kernel_rfl) (by kernel_rfl) (by kernel_rfl) (fun _ _ _ h => h) (by assumption) (Or.inl ⟨by rfl, ?hy2⟩) (fun _ => rfl) ?rest2
             case hy2 => (intro w hSw; (try dsimp only at hSw); go_simp; try with_reducible rfl))
          | (refine ordS_take (i := 1) (oi := { dst := some 151, op := Op.fieldAddr 45 (Operand.tmp 4) 0, type := 0, pos := _, after := #[], guard := none }) (v := undef) rfl (by kernel_rfl) (by kernel_rfl) (by kernel_rfl) (by kernel_rfl) (fun _ _ _ h => h) (by assumption) (Or.inr ⟨by rfl, rfl⟩) (fun _ => rfl) ?_)
        try simp only [Act.put, List.setIfInBounds_toArray, List.set_cons_zero, List.set_cons_succ]
        first
          | (refine' ordS_take (i := 2) (oi := { dst := some 152, op := Op.load 27 (Operand.tmp 151), type := 27, pos := _, after := #[{ on := 1, ground := Ground.data }], guard := none }) (v := _) rfl (by kernel_rfl) (by kernel_rfl) (by kernel_rfl) (by kernel_rfl) (fun _ _ _ h => h) (by assumption) (Or.inl ⟨by rfl, ?hy3⟩) (fun _ => rfl) ?rest3
             case hy3 => (intro w hSw; (try dsimp only at hSw); go_simp; try with_reducible rfl))
          | (refine ordS_take (i := 2) (oi := { dst := some 152, op := Op.load 27 (Operand.tmp 151), type := 27, pos := _, after := #[{ on := 1, ground := Ground.data }], guard := none }) (v := undef) rfl (by kernel_rfl) (by kernel_rfl) (by kernel_rfl) (by kernel_rfl) (fun _ _ _ h => h) (by assumption) (Or.inr ⟨by rfl, rfl⟩) (fun _ => rfl) ?_)
        try simp only [Act.put, List.setIfInBounds_toArray, List.set_cons_zero, List.set_cons_succ]
        first
          | (refine' ordS_take (i := 4) (oi := { dst := some 154, op := Op.fieldAddr 45 (Operand.tmp 4) 1, type := 0, pos := _, after := #[], guard := none }) (v := _) rfl (by kernel_rfl) (by kernel_rfl) (by kernel_rfl) (by kernel_rfl) (fun _ _ _ h => h) (by assumption) (Or.inl ⟨by rfl, ?hy4⟩) (fun _ => rfl) ?rest4
             case hy4 => (intro w hSw; (try dsimp only at hSw); go_simp; try with_reducible rfl))
          | (refine ordS_take (i := 4) (oi := { dst := some 154, op := Op.fieldAddr 45 (Operand.tmp 4) 1, type := 0, pos := _, after := #[], guard := none }) (v := undef) rfl (by kernel_rfl) (by kernel_rfl) (by kernel_rfl) (by kernel_rfl) (fun _ _ _ h => h) (by assumption) (Or.inr ⟨by rfl, rfl⟩) (fun _ => rfl) ?_)
        try simp only [Act.put, List.setIfInBounds_toArray, List.set_cons_zero, List.set_cons_succ]
        first
          | (refine' ordS_take (i := 5) (oi := { dst := some 155, op := Op.load 3 (Operand.tmp 154), type := 3, pos := _, after := #[{ on := 4, ground := Ground.data }], guard := none }) (v := _) rfl (by kernel_rfl) (by kernel_rfl) (by kernel_rfl) (by kernel_rfl) (fun _ _ _ h => h) (by assumption) (Or.inl ⟨by rfl, ?hy5⟩) (fun _ => rfl) ?rest5
             case hy5 => (intro w hSw; (try dsimp only at hSw); go_simp; try with_reducible rfl))
          | (refine ordS_take (i := 5) (oi := { dst := some 155, op := Op.load 3 (Operand.tmp 154), type := 3, pos := _, after := #[{ on := 4, ground := Ground.data }], guard := none }) (v := undef) rfl (by kernel_rfl) (by kernel_rfl) (by kernel_rfl) (by kernel_rfl) (fun _ _ _ h => h) (by assumption) (Or.inr ⟨by rfl, rfl⟩) (fun _ => rfl) ?_)
        try simp only [Act.put, List.setIfInBounds_toArray, List.set_cons_zero, List.set_cons_succ]
        refine ordS_one (i := 3) (o := { dst := some 153, op := Op.slice 27 (Operand.tmp 152) (some (Operand.const (Value.int IntKind.i64 1))) none none, type := 27, pos := _, after := #[{ on := 2, ground := Ground.data }], guard := none }) (by kernel_rfl) rfl (by rfl) (fun K hK => ?_)
        go_simp
        refine hK _ _ hH ?_
        clear hK K
        try simp only [Act.put, List.setIfInBounds_toArray, List.set_cons_zero, List.set_cons_succ]
        refine ordS_one (i := 6) (o := { dst := some 156, op := Op.call { callee := Callee.value (Operand.func 16), args := #[Operand.tmp 150, Operand.tmp 153, Operand.tmp 155], argTypes := #[26, 27, 3] }, type := 32, pos := _, after := #[{ on := 0, ground := Ground.data }, { on := 3, ground := Ground.data }, { on := 5, ground := Ground.data }], guard := none }) (by kernel_rfl) rfl (by rfl) (fun K hK => ?_)
        go_simp
        have htail := rowC_tail hz (Nat.le_trans (by rw [HLL.out]; exact Nat.le_refl _) hcap)
        have HSUB := Lib.hid (fun d (h : inM A B (allB A B fs r zr) d = true) => (show inM A B ms d = true by rw [← HMS.out]; exact sees_tail (zs := z0 :: zr) hmay hin hp0 hp1 d h))
        have hin' : ∀ z ∈ zr, inB A B z.1 z.2 = true := fun z hz => hin z (by simp [hz])
        have g4 := allB_good (r := r) (fs := fs) hmay hin'
        generalize (if c3 = 1 then (some ⟨g3', o3, none⟩ : Option Addr) else some ⟨g3', o3 + 2, none⟩) = ta at htail ⊢
        have hAD := bl_tr hA11 hD
        have hcall := sall_yes A B r (some ⟨gb, go, none⟩) ta c (c3 - 1) fs zr w11.drew (hr.below hAD) (htail.below hAD) (by rw [HZR.out]; omega) (errA_tail H5.out)
        rw [HZR.out] at hcall
        refine ⟨trivial, (callsIn_wide.2 hcall).mono ?_⟩
        clear hcall htail
        rintro e w12 ⟨b4, q4, rfl, hm4, hb4, hq4, hbq4, hb12⟩
        have zW2 := hAD.size
        have zw11 := hm1.lt
        have hdz : w11.drew.heap.size = w11.heap.size := rfl
        have hb12' := bl_tr hD hb12
        have hm1' := hm1.below hb12'
        have hS12 : (fun w' : World => w'.cell? ⟨w.heap.size, 0, none⟩ = some (.int .i64 A) ∧ w'.cell? ⟨w.heap.size, 1, none⟩ = some (.int .i64 B) ∧ w'.cell? ⟨w.heap.size, 2, none⟩ = some (.slice (some ⟨gb, go, none⟩) fs.length c) ∧ w'.cell? ⟨w.heap.size + 1, 0, none⟩ = some (.slice (some ⟨g3', o3, none⟩) L c3) ∧ w'.cell? ⟨w.heap.size + 1, 1, none⟩ = some (.int .i64 r)) w12 := ⟨cell_later hb12' f0, cell_later hb12' f1, cell_later hb12' f2, cell_later hb12' x0, cell_later hb12' x1⟩
        have hA12 := bl_tr hA11 hb12'
        refine hK _ _ hS12 ?_
        clear hK K
        try simp only [Act.put, List.setIfInBounds_toArray, List.set_cons_zero, List.set_cons_succ]
        first
          | (refine' ordS_take (i := 7) (oi := { dst := some 149, op := Op.move (Operand.tmp 156), type := 32, pos := _, after := #[{ on := 6, ground := Ground.data }], guard := none }) (v := _) rfl (by kernel_rfl) (by kernel_rfl) (by kernel_rfl) (by kernel_rfl) (fun _ _ _ h => h) (by assumption) (Or.inl ⟨by rfl, ?hy6⟩) (fun _ => rfl) ?rest6
             case hy6 => (intro w hSw; (try dsimp only at hSw); go_simp; try with_reducible rfl))
          | (refine ordS_take (i := 7) (oi := { dst := some 149, op := Op.move (Operand.tmp 156), type := 32, pos := _, after := #[{ on := 6, ground := Ground.data }], guard := none }) (v := undef) rfl (by kernel_rfl) (by kernel_rfl) (by kernel_rfl) (by kernel_rfl) (fun _ _ _ h => h) (by assumption) (Or.inr ⟨by rfl, rfl⟩) (fun _ => rfl) ?_)
        try simp only [Act.put, List.setIfInBounds_toArray, List.set_cons_zero, List.set_cons_succ]
        first
          | (refine' ordS_take (i := 8) (oi := { dst := some 157, op := Op.extract (Operand.tmp 149) 0, type := 30, pos := _, after := #[{ on := 7, ground := Ground.data }], guard := none }) (v := _) rfl (by kernel_rfl) (by kernel_rfl) (by kernel_rfl) (by kernel_rfl) (fun _ _ _ h => h) (by assumption) (Or.inl ⟨by rfl, ?hy7⟩) (fun _ => rfl) ?rest7
             case hy7 => (intro w hSw; (try dsimp only at hSw); go_simp; try with_reducible rfl))
          | (refine ordS_take (i := 8) (oi := { dst := some 157, op := Op.extract (Operand.tmp 149) 0, type := 30, pos := _, after := #[{ on := 7, ground := Ground.data }], guard := none }) (v := undef) rfl (by kernel_rfl) (by kernel_rfl) (by kernel_rfl) (by kernel_rfl) (fun _ _ _ h => h) (by assumption) (Or.inr ⟨by rfl, rfl⟩) (fun _ => rfl) ?_)
        try simp only [Act.put, List.setIfInBounds_toArray, List.set_cons_zero, List.set_cons_succ]
        first
          | (refine' ordS_take (i := 9) (oi := { dst := some 158, op := Op.extract (Operand.tmp 149) 1, type := 31, pos := _, after := #[{ on := 7, ground := Ground.data }, { on := 10, ground := Ground.gcOnly Departure.lateStores }], guard := none }) (v := _) rfl (by kernel_rfl) (by kernel_rfl) (by kernel_rfl) (by kernel_rfl) (fun _ _ _ h => h) (by assumption) (Or.inl ⟨by rfl, ?hy8⟩) (fun _ => rfl) ?rest8
             case hy8 => (intro w hSw; (try dsimp only at hSw); go_simp; try with_reducible rfl))
          | (refine ordS_take (i := 9) (oi := { dst := some 158, op := Op.extract (Operand.tmp 149) 1, type := 31, pos := _, after := #[{ on := 7, ground := Ground.data }, { on := 10, ground := Ground.gcOnly Departure.lateStores }], guard := none }) (v := undef) rfl (by kernel_rfl) (by kernel_rfl) (by kernel_rfl) (by kernel_rfl) (fun _ _ _ h => h) (by assumption) (Or.inr ⟨by rfl, rfl⟩) (fun _ => rfl) ?_)
        try simp only [Act.put, List.setIfInBounds_toArray, List.set_cons_zero, List.set_cons_succ]
        first
          | (refine' ordS_take (i := 10) (oi := { dst := some 18, op := Op.assign (Operand.tmp 157), type := 30, pos := _, after := #[{ on := 8, ground := Ground.data }, { on := 6, ground := Ground.chain }, { on := 0, ground := Ground.phase }, { on := 1, ground := Ground.phase }, { on := 2, ground := Ground.phase }, { on := 3, ground := Ground.phase }, { on := 4, ground := Ground.phase }, { on := 5, ground := Ground.phase }, { on := 6, ground := Ground.phase }, { on := 7, ground := Ground.phase }, { on := 8, ground := Ground.phase }, { on := 9, ground := Ground.textOnly Departure.lateStores }], guard := none }) (v := _) rfl (by kernel_rfl) (by kernel_rfl) (by kernel_rfl) (by kernel_rfl) (fun _ _ _ h => h) (by assumption) (Or.inl ⟨by rfl, ?hy9⟩) (fun _ => rfl) ?rest9
             case hy9 => (intro w hSw; (try dsimp only at hSw); go_simp; try with_reducible rfl))
          | (refine ordS_take (i := 10) (oi := { dst := some 18, op := Op.assign (Operand.tmp 157), type := 30, pos := _, after := #[{ on := 8, ground := Ground.data }, { on := 6, ground := Ground.chain }, { on := 0, ground := Ground.phase }, { on := 1, ground := Ground.phase }, { on := 2, ground := Ground.phase }, { on := 3, ground := Ground.phase }, { on := 4, ground := Ground.phase }, { on := 5, ground := Ground.phase }, { on := 6, ground := Ground.phase }, { on := 7, ground := Ground.phase }, { on := 8, ground := Ground.phase }, { on := 9, ground := Ground.textOnly Departure.lateStores }], guard := none }) (v := undef) rfl (by kernel_rfl) (by kernel_rfl) (by kernel_rfl) (by kernel_rfl) (fun _ _ _ h => h) (by assumption) (Or.inr ⟨by rfl, rfl⟩) (fun _ => rfl) ?_)
        try simp only [Act.put, List.setIfInBounds_toArray, List.set_cons_zero, List.set_cons_succ]
        first
          | (refine' ordS_take (i := 11) (oi := { dst := some 19, op := Op.assign (Operand.tmp 158), type := 31, pos := _, after := #[{ on := 9, ground := Ground.data }, { on := 10, ground := Ground.chain }, { on := 0, ground := Ground.phase }, { on := 1, ground := Ground.phase }, { on := 2, ground := Ground.phase }, { on := 3, ground := Ground.phase }, { on := 4, ground := Ground.phase }, { on := 5, ground := Ground.phase }, { on := 6, ground := Ground.phase }, { on := 7, ground := Ground.phase }, { on := 8, ground := Ground.phase }, { on := 9, ground := Ground.phase }, { on := 10, ground := Ground.phase }], guard := none }) (v := _) rfl (by kernel_rfl) (by kernel_rfl) (by kernel_rfl) (by kernel_rfl) (fun _ _ _ h => h) (by assumption) (Or.inl ⟨by rfl, ?hy10⟩) (fun _ => rfl) ?rest10
             case hy10 => (intro w hSw; (try dsimp only at hSw); go_simp; try with_reducible rfl))
          | (refine ordS_take (i := 11) (oi := { dst := some 19, op := Op.assign (Operand.tmp 158), type := 31, pos := _, after := #[{ on := 9, ground := Ground.data }, { on := 10, ground := Ground.chain }, { on := 0, ground := Ground.phase }, { on := 1, ground := Ground.phase }, { on := 2, ground := Ground.phase }, { on := 3, ground := Ground.phase }, { on := 4, ground := Ground.phase }, { on := 5, ground := Ground.phase }, { on := 6, ground := Ground.phase }, { on := 7, ground := Ground.phase }, { on := 8, ground := Ground.phase }, { on := 9, ground := Ground.phase }, { on := 10, ground := Ground.phase }], guard := none }) (v := undef) rfl (by kernel_rfl) (by kernel_rfl) (by kernel_rfl) (by kernel_rfl) (fun _ _ _ h => h) (by assumption) (Or.inr ⟨by rfl, rfl⟩) (fun _ => rfl) ?_)
        try simp only [Act.put, List.setIfInBounds_toArray, List.set_cons_zero, List.set_cons_succ]
        refine ordS_done (by kernel_rfl) ?_
        obtain ⟨lss, hlss⟩ : ∃ lss, allB A B fs r zr = lss := ⟨_, rfl⟩
        rw [hlss] at HSUB g4 hm4
        clear hS12 hb12 hb12' hA11 hD hH hlss hm1 hAD f0 f1 f2 x0 x1
        go_wp2_with fail
        refine (add_sub b1 q1 b4 q4 A B ms lss _ hm1' hm4 hgood g4 hbq1 (by omega) (by omega) HSUB.out).mono ?_
        rintro e w13 ⟨rfl, hm13, hg13⟩
        have hA13 := hA12.grown hg13 hA12.size (fun j e => by cases e; omega)
        clear hg13 hA12 hm4 hm13 hm1'
        go_wp2_with fail
        refine (awake_any _).mono ?_
        rintro e w14 ⟨rfl, hb14⟩
        have hA14 := bl_tr hA13 hb14
        clear hA13 hb14
        go_wp2
        go_ret
        exact ⟨rfl, hA14⟩
    ·
      have E1 := Lib.hid (show errA A B fs.length _ zs = 0 from HE1.out)
      clear HE1
      go_wp2_with fail
      have hcall := sall_yes A B r (some ⟨g, 0, none⟩) a3 cp c3 hs zs W hrowW (hz.below hAW) (by omega) (by rw [HHL.out]; exact H5.out)
      rw [HHL.out] at hcall
      refine hcall.mono ?_
      clear hcall
      rintro e w8 ⟨b2, q2, rfl, hm2, hb2, hq2, hbq2, hb8⟩
      have zW := hAW.size
      have hA8 := bl_tr hAW hb8
      have hm1 := hmW.below hb8
      obtain ⟨l1, l2⟩ := hmW.lt
      obtain ⟨l3, l4⟩ := hm2.lt
      replace f0 := cell_later hb8 f0
      replace f1 := cell_later hb8 f1
      replace f2 := cell_later hb8 f2
      replace x0 := cell_later hb8 x0
      replace x1 := cell_later hb8 x1
      have zf0 := blk_lt f0
      have zx0 := blk_lt x0
      have g2 := allB_good (r := r) (fs := hs) hmay hin
      have S2 := Lib.hid (fun c (h : inM A B ms c = true) => sees_wide (gs := hs) hmay hin hp0 (Int.le_refl r) hp1 HLESS.out c (by rw [HMS.out]; exact h))
      obtain ⟨ns, hns⟩ : ∃ ns, allB A B hs r zs = ns := ⟨_, rfl⟩
      rw [hns] at hm2 g2 S2
      clear hb8 hmW hrowW k0 k1 k2 hns
      go_wp2_with fail
      refine (sall_yes A B _ (some ⟨gb, go, none⟩) a3 c c3 fs zs _ (hr.below hA8) (hz.below hA8) (by omega) E1.out).mono ?_
      rintro e w9 ⟨b3, q3, rfl, hm3, hb3, hq3, hbq3, hb9⟩
      have hA9 := bl_tr hA8 hb9
      replace hm1 := hm1.below hb9
      replace hm2 := hm2.below hb9
      obtain ⟨l5, l6⟩ := hm3.lt
      replace f0 := cell_later hb9 f0
      replace f1 := cell_later hb9 f1
      replace f2 := cell_later hb9 f2
      replace x0 := cell_later hb9 x0
      replace x1 := cell_later hb9 x1
      rw [HOS.out] at hm3
      clear hb9 hA8
      go_wp2_with fail
      refine (add_sub b2 q2 b1 q1 A B ns ms _ hm2 hm1 g2 hgood hbq2 (by omega) (by omega) S2.out).mono ?_
      rintro e w10 ⟨rfl, hm2', hg10⟩
      replace hm1 := hm1.kept hg10 (by simp; omega) (by simp; omega)
      replace hm3 := hm3.kept hg10 (by simp; omega) (by simp; omega)
      replace f0 := hg10.cell f0 (by simp; omega)
      replace f1 := hg10.cell f1 (by simp; omega)
      replace f2 := hg10.cell f2 (by simp; omega)
      replace x0 := hg10.cell x0 (by simp; omega)
      replace x1 := hg10.cell x1 (by simp; omega)
      have hA10 := hA9.grown hg10 hA9.size (fun j e => by cases e; omega)
      clear hA9 hg10 hm2 S2
      go_wp2_with fail
      refine (add_sub b3 q3 b1 q1 A B os ms _ hm3 hm1 g3 hgood hbq3 (by omega) (by omega) S3.out).mono ?_
      rintro e w11 ⟨rfl, hm3', hg11⟩
      replace hm1 := hm1.kept hg11 (by simp; omega) (by simp; omega)
      replace f0 := hg11.cell f0 (by simp; omega)
      replace f1 := hg11.cell f1 (by simp; omega)
      replace f2 := hg11.cell f2 (by simp; omega)
      replace x0 := hg11.cell x0 (by simp; omega)
      replace x1 := hg11.cell x1 (by simp; omega)
      have hA11 := hA10.grown hg11 hA10.size (fun j e => by cases e; omega)
      clear hA10 hg11 hm3 hm3' hm2' S3
      cases zs with
      | nil =>
        go_wp2_with fail
        refine (awake_any _).mono ?_
        rintro e w12 ⟨rfl, hb12⟩
        have hA12 := bl_tr hA11 hb12
        clear hA11 hb12
        go_wp2
        go_ret
        exact ⟨rfl, hA12⟩
      | cons z0 zr =>
        obtain ⟨g3', o3, rfl, _⟩ := hz.cell (k := 0) (by simp)
        obtain ⟨L, hL⟩ : ∃ L, (z0 :: zr).length = L := ⟨_, rfl⟩
        have hzr : zr.length = L - 1 := by rw [← hL]; simp
        rw [hL] at x0 hl hcap hl2
        rw [hL]
        have HZR := Lib.hid hzr
        have HLL := Lib.hid hL
        have hl0 : (0 : Int) < (L : Int) := by simp at hL; omega
        have hl1 : (1 : Int) ≤ (L : Int) := by omega
        clear hL hzr
        go_upto_region 24 with fail
        refine (wpIn_wide (n := 11)).1 ?_
        have hD := bl_dr (bl0 w11)
        refine ordS_begin (S := (fun w' : World => w'.cell? ⟨w.heap.size, 0, none⟩ = some (.int .i64 A) ∧ w'.cell? ⟨w.heap.size, 1, none⟩ = some (.int .i64 B) ∧ w'.cell? ⟨w.heap.size, 2, none⟩ = some (.slice (some ⟨gb, go, none⟩) fs.length c) ∧ w'.cell? ⟨w.heap.size + 1, 0, none⟩ = some (.slice (some ⟨g3', o3, none⟩) L c3) ∧ w'.cell? ⟨w.heap.size + 1, 1, none⟩ = some (.int .i64 r))) (by kernel_rfl) ⟨cell_later hD f0, cell_later hD f1, cell_later hD f2, cell_later hD x0, cell_later hD x1⟩ (fun hH => ?_)
        first
          | (refine' ordS_take (i := 0) (oi := { dst := some 150, op := Op.load 26 (Operand.tmp 3), type := 26, pos := _, after := #[], guard := none }) (v := _) rfl (by kernel_rfl) (by kernel_rfl) (by kernel_rfl) (by kernel_rfl) (fun _ _ _ h => h) (by assumption) (Or.inl ⟨by rfl, ?hy11⟩) (fun _ => rfl) ?rest11
             case hy11 => (intro w hSw; (try dsimp only at hSw); go_simp; try with_reducible rfl))
          | (refine ordS_take (i := 0) (oi := { dst := some 150, op := Op.load 26 (Operand.tmp 3), type := 26, pos := _, after := #[], guard := none }) (v := undef) rfl (by kernel_rfl) (by kernel_rfl) (by kernel_rfl) (by kernel_rfl) (fun _ _ _ h => h) (by assumption) (Or.inr ⟨by rfl, rfl⟩) (fun _ => rfl) ?_)
        try simp only [Act.put, List.setIfInBounds_toArray, List.set_cons_zero, List.set_cons_succ]
        first
          | (refine' ordS_take (i := 1) (oi := { dst := some 151, op := Op.fieldAddr 45 (Operand.tmp 4) 0, type := 0, pos := _, after := #[], guard := none }) (v := _) rfl (by kernel_rfl) (by kernel_rfl) (by kernel_rfl) (by kernel_rfl) (fun _ _ _ h => h) (by assumption) (Or.inl ⟨by rfl, ?hy12⟩) (fun _ => rfl) ?rest12
             case hy12 => (intro w hSw; (try dsimp only at hSw); go_simp; try with_reducible rfl))
          | (refine ordS_take (i := 1) (oi := { dst := some 151, op := Op.fieldAddr 45 (Operand.tmp 4) 0, type := 0, pos := _, after := #[], guard := none }) (v := undef) rfl (by kernel_rfl) (by kernel_rfl) (by kernel_rfl) (by kernel_rfl) (fun _ _ _ h => h) (by assumption) (Or.inr ⟨by rfl, rfl⟩) (fun _ => rfl) ?_)
        try simp only [Act.put, List.setIfInBounds_toArray, List.set_cons_zero, List.set_cons_succ]
        first
          | (refine' ordS_take (i := 2) (oi := { dst := some 152, op := Op.load 27 (Operand.tmp 151), type := 27, pos := _, after := #[{ on := 1, ground := Ground.data }], guard := none }) (v := _) rfl (by kernel_rfl) (by kernel_rfl) (by kernel_rfl) (by kernel_rfl) (fun _ _ _ h => h) (by assumption) (Or.inl ⟨by rfl, ?hy13⟩) (fun _ => rfl) ?rest13
             case hy13 => (intro w hSw; (try dsimp only at hSw); go_simp; try with_reducible rfl))
          | (refine ordS_take (i := 2) (oi := { dst := some 152, op := Op.load 27 (Operand.tmp 151), type := 27, pos := _, after := #[{ on := 1, ground := Ground.data }], guard := none }) (v := undef) rfl (by kernel_rfl) (by kernel_rfl) (by kernel_rfl) (by kernel_rfl) (fun _ _ _ h => h) (by assumption) (Or.inr ⟨by rfl, rfl⟩) (fun _ => rfl) ?_)
        try simp only [Act.put, List.setIfInBounds_toArray, List.set_cons_zero, List.set_cons_succ]
        first
          | (refine' ordS_take (i := 4) (oi := { dst := some 154, op := Op.fieldAddr 45 (Operand.tmp 4) 1, type := 0, pos := _, after := #[], guard := none }) (v := _) rfl (by kernel_rfl) (by kernel_rfl) (by kernel_rfl) (by kernel_rfl) (fun _ _ _ h => h) (by assumption) (Or.inl ⟨by rfl, ?hy14⟩) (fun _ => rfl) ?rest14
             case hy14 => (intro w hSw; (try dsimp only at hSw); go_simp; try with_reducible rfl))
          | (refine ordS_take (i := 4) (oi := { dst := some 154, op := Op.fieldAddr 45 (Operand.tmp 4) 1, type := 0, pos := _, after := #[], guard := none }) (v := undef) rfl (by kernel_rfl) (by kernel_rfl) (by kernel_rfl) (by kernel_rfl) (fun _ _ _ h => h) (by assumption) (Or.inr ⟨by rfl, rfl⟩) (fun _ => rfl) ?_)
        try simp only [Act.put, List.setIfInBounds_toArray, List.set_cons_zero, List.set_cons_succ]
        first
          | (refine' ordS_take (i := 5) (oi := { dst := some 155, op := Op.load 3 (Operand.tmp 154), type := 3, pos := _, after := #[{ on := 4, ground := Ground.data }], guard := none }) (v := _) rfl (by kernel_rfl) (by kernel_rfl) (by kernel_rfl) (by kernel_rfl) (fun _ _ _ h => h) (by assumption) (Or.inl ⟨by rfl, ?hy15⟩) (fun _ => rfl) ?rest15
             case hy15 => (intro w hSw; (try dsimp only at hSw); go_simp; try with_reducible rfl))
          | (refine ordS_take (i := 5) (oi := { dst := some 155, op := Op.load 3 (Operand.tmp 154), type := 3, pos := _, after := #[{ on := 4, ground := Ground.data }], guard := none }) (v := undef) rfl (by kernel_rfl) (by kernel_rfl) (by kernel_rfl) (by kernel_rfl) (fun _ _ _ h => h) (by assumption) (Or.inr ⟨by rfl, rfl⟩) (fun _ => rfl) ?_)
        try simp only [Act.put, List.setIfInBounds_toArray, List.set_cons_zero, List.set_cons_succ]
        refine ordS_one (i := 3) (o := { dst := some 153, op := Op.slice 27 (Operand.tmp 152) (some (Operand.const (Value.int IntKind.i64 1))) none none, type := 27, pos := _, after := #[{ on := 2, ground := Ground.data }], guard := none }) (by kernel_rfl) rfl (by rfl) (fun K hK => ?_)
        go_simp
        refine hK _ _ hH ?_
        clear hK K
        try simp only [Act.put, List.setIfInBounds_toArray, List.set_cons_zero, List.set_cons_succ]
        refine ordS_one (i := 6) (o := { dst := some 156, op := Op.call { callee := Callee.value (Operand.func 16), args := #[Operand.tmp 150, Operand.tmp 153, Operand.tmp 155], argTypes := #[26, 27, 3] }, type := 32, pos := _, after := #[{ on := 0, ground := Ground.data }, { on := 3, ground := Ground.data }, { on := 5, ground := Ground.data }], guard := none }) (by kernel_rfl) rfl (by rfl) (fun K hK => ?_)
        go_simp
        have htail := rowC_tail hz (Nat.le_trans (by rw [HLL.out]; exact Nat.le_refl _) hcap)
        have HSUB := Lib.hid (fun d (h : inM A B (allB A B fs r zr) d = true) => (show inM A B ms d = true by rw [← HMS.out]; exact sees_tail (zs := z0 :: zr) hmay hin hp0 hp1 d h))
        have hin' : ∀ z ∈ zr, inB A B z.1 z.2 = true := fun z hz => hin z (by simp [hz])
        have g4 := allB_good (r := r) (fs := fs) hmay hin'
        generalize (if c3 = 1 then (some ⟨g3', o3, none⟩ : Option Addr) else some ⟨g3', o3 + 2, none⟩) = ta at htail ⊢
        have hAD := bl_tr hA11 hD
        have hcall := sall_yes A B r (some ⟨gb, go, none⟩) ta c (c3 - 1) fs zr w11.drew (hr.below hAD) (htail.below hAD) (by rw [HZR.out]; omega) (errA_tail H5.out)
        rw [HZR.out] at hcall
        refine ⟨trivial, (callsIn_wide.2 hcall).mono ?_⟩
        clear hcall htail
        rintro e w12 ⟨b4, q4, rfl, hm4, hb4, hq4, hbq4, hb12⟩
        have zW2 := hAD.size
        have zw11 := hm1.lt
        have hdz : w11.drew.heap.size = w11.heap.size := rfl
        have hb12' := bl_tr hD hb12
        have hm1' := hm1.below hb12'
        have hS12 : (fun w' : World => w'.cell? ⟨w.heap.size, 0, none⟩ = some (.int .i64 A) ∧ w'.cell? ⟨w.heap.size, 1, none⟩ = some (.int .i64 B) ∧ w'.cell? ⟨w.heap.size, 2, none⟩ = some (.slice (some ⟨gb, go, none⟩) fs.length c) ∧ w'.cell? ⟨w.heap.size + 1, 0, none⟩ = some (.slice (some ⟨g3', o3, none⟩) L c3) ∧ w'.cell? ⟨w.heap.size + 1, 1, none⟩ = some (.int .i64 r)) w12 := ⟨cell_later hb12' f0, cell_later hb12' f1, cell_later hb12' f2, cell_later hb12' x0, cell_later hb12' x1⟩
        have hA12 := bl_tr hA11 hb12'
        refine hK _ _ hS12 ?_
        clear hK K
        try simp only [Act.put, List.setIfInBounds_toArray, List.set_cons_zero, List.set_cons_succ]
        first
          | (refine' ordS_take (i := 7) (oi := { dst := some 149, op := Op.move (Operand.tmp 156), type := 32, pos := _, after := #[{ on := 6, ground := Ground.data }], guard := none }) (v := _) rfl (by kernel_rfl) (by kernel_rfl) (by kernel_rfl) (by kernel_rfl) (fun _ _ _ h => h) (by assumption) (Or.inl ⟨by rfl, ?hy16⟩) (fun _ => rfl) ?rest16
             case hy16 => (intro w hSw; (try dsimp only at hSw); go_simp; try with_reducible rfl))
          | (refine ordS_take (i := 7) (oi := { dst := some 149, op := Op.move (Operand.tmp 156), type := 32, pos := _, after := #[{ on := 6, ground := Ground.data }], guard := none }) (v := undef) rfl (by kernel_rfl) (by kernel_rfl) (by kernel_rfl) (by kernel_rfl) (fun _ _ _ h => h) (by assumption) (Or.inr ⟨by rfl, rfl⟩) (fun _ => rfl) ?_)
        try simp only [Act.put, List.setIfInBounds_toArray, List.set_cons_zero, List.set_cons_succ]
        first
          | (refine' ordS_take (i := 8) (oi := { dst := some 157, op := Op.extract (Operand.tmp 149) 0, type := 30, pos := _, after := #[{ on := 7, ground := Ground.data }], guard := none }) (v := _) rfl (by kernel_rfl) (by kernel_rfl) (by kernel_rfl) (by kernel_rfl) (fun _ _ _ h => h) (by assumption) (Or.inl ⟨by rfl, ?hy17⟩) (fun _ => rfl) ?rest17
             case hy17 => (intro w hSw; (try dsimp only at hSw); go_simp; try with_reducible rfl))
          | (refine ordS_take (i := 8) (oi := { dst := some 157, op := Op.extract (Operand.tmp 149) 0, type := 30, pos := _, after := #[{ on := 7, ground := Ground.data }], guard := none }) (v := undef) rfl (by kernel_rfl) (by kernel_rfl) (by kernel_rfl) (by kernel_rfl) (fun _ _ _ h => h) (by assumption) (Or.inr ⟨by rfl, rfl⟩) (fun _ => rfl) ?_)
        try simp only [Act.put, List.setIfInBounds_toArray, List.set_cons_zero, List.set_cons_succ]
        first
          | (refine' ordS_take (i := 9) (oi := { dst := some 158, op := Op.extract (Operand.tmp 149) 1, type := 31, pos := _, after := #[{ on := 7, ground := Ground.data }, { on := 10, ground := Ground.gcOnly Departure.lateStores }], guard := none }) (v := _) rfl (by kernel_rfl) (by kernel_rfl) (by kernel_rfl) (by kernel_rfl) (fun _ _ _ h => h) (by assumption) (Or.inl ⟨by rfl, ?hy18⟩) (fun _ => rfl) ?rest18
             case hy18 => (intro w hSw; (try dsimp only at hSw); go_simp; try with_reducible rfl))
          | (refine ordS_take (i := 9) (oi := { dst := some 158, op := Op.extract (Operand.tmp 149) 1, type := 31, pos := _, after := #[{ on := 7, ground := Ground.data }, { on := 10, ground := Ground.gcOnly Departure.lateStores }], guard := none }) (v := undef) rfl (by kernel_rfl) (by kernel_rfl) (by kernel_rfl) (by kernel_rfl) (fun _ _ _ h => h) (by assumption) (Or.inr ⟨by rfl, rfl⟩) (fun _ => rfl) ?_)
        try simp only [Act.put, List.setIfInBounds_toArray, List.set_cons_zero, List.set_cons_succ]
        first
          | (refine' ordS_take (i := 10) (oi := { dst := some 18, op := Op.assign (Operand.tmp 157), type := 30, pos := _, after := #[{ on := 8, ground := Ground.data }, { on := 6, ground := Ground.chain }, { on := 0, ground := Ground.phase }, { on := 1, ground := Ground.phase }, { on := 2, ground := Ground.phase }, { on := 3, ground := Ground.phase }, { on := 4, ground := Ground.phase }, { on := 5, ground := Ground.phase }, { on := 6, ground := Ground.phase }, { on := 7, ground := Ground.phase }, { on := 8, ground := Ground.phase }, { on := 9, ground := Ground.textOnly Departure.lateStores }], guard := none }) (v := _) rfl (by kernel_rfl) (by kernel_rfl) (by kernel_rfl) (by kernel_rfl) (fun _ _ _ h => h) (by assumption) (Or.inl ⟨by rfl, ?hy19⟩) (fun _ => rfl) ?rest19
             case hy19 => (intro w hSw; (try dsimp only at hSw); go_simp; try with_reducible rfl))
          | (refine ordS_take (i := 10) (oi := { dst := some 18, op := Op.assign (Operand.tmp 157), type := 30, pos := _, after := #[{ on := 8, ground := Ground.data }, { on := 6, ground := Ground.chain }, { on := 0, ground := Ground.phase }, { on := 1, ground := Ground.phase }, { on := 2, ground := Ground.phase }, { on := 3, ground := Ground.phase }, { on := 4, ground := Ground.phase }, { on := 5, ground := Ground.phase }, { on := 6, ground := Ground.phase }, { on := 7, ground := Ground.phase }, { on := 8, ground := Ground.phase }, { on := 9, ground := Ground.textOnly Departure.lateStores }], guard := none }) (v := undef) rfl (by kernel_rfl) (by kernel_rfl) (by kernel_rfl) (by kernel_rfl) (fun _ _ _ h => h) (by assumption) (Or.inr ⟨by rfl, rfl⟩) (fun _ => rfl) ?_)
        try simp only [Act.put, List.setIfInBounds_toArray, List.set_cons_zero, List.set_cons_succ]
        first
          | (refine' ordS_take (i := 11) (oi := { dst := some 19, op := Op.assign (Operand.tmp 158), type := 31, pos := _, after := #[{ on := 9, ground := Ground.data }, { on := 10, ground := Ground.chain }, { on := 0, ground := Ground.phase }, { on := 1, ground := Ground.phase }, { on := 2, ground := Ground.phase }, { on := 3, ground := Ground.phase }, { on := 4, ground := Ground.phase }, { on := 5, ground := Ground.phase }, { on := 6, ground := Ground.phase }, { on := 7, ground := Ground.phase }, { on := 8, ground := Ground.phase }, { on := 9, ground := Ground.phase }, { on := 10, ground := Ground.phase }], guard := none }) (v := _) rfl (by kernel_rfl) (by kernel_rfl) (by kernel_rfl) (by kernel_rfl) (fun _ _ _ h => h) (by assumption) (Or.inl ⟨by rfl, ?hy20⟩) (fun _ => rfl) ?rest20
             case hy20 => (intro w hSw; (try dsimp only at hSw); go_simp; try with_reducible rfl))
          | (refine ordS_take (i := 11) (oi := { dst := some 19, op := Op.assign (Operand.tmp 158), type := 31, pos := _, after := #[{ on := 9, ground := Ground.data }, { on := 10, ground := Ground.chain }, { on := 0, ground := Ground.phase }, { on := 1, ground := Ground.phase }, { on := 2, ground := Ground.phase }, { on := 3, ground := Ground.phase }, { on := 4, ground := Ground.phase }, { on := 5, ground := Ground.phase }, { on := 6, ground := Ground.phase }, { on := 7, ground := Ground.phase }, { on := 8, ground := Ground.phase }, { on := 9, ground := Ground.phase }, { on := 10, ground := Ground.phase }], guard := none }) (v := undef) rfl (by kernel_rfl) (by kernel_rfl) (by kernel_rfl) (by kernel_rfl) (fun _ _ _ h => h) (by assumption) (Or.inr ⟨by rfl, rfl⟩) (fun _ => rfl) ?_)
        try simp only [Act.put, List.setIfInBounds_toArray, List.set_cons_zero, List.set_cons_succ]
        refine ordS_done (by kernel_rfl) ?_
        obtain ⟨lss, hlss⟩ : ∃ lss, allB A B fs r zr = lss := ⟨_, rfl⟩
        rw [hlss] at HSUB g4 hm4
        clear hS12 hb12 hb12' hA11 hD hH hlss hm1 hAD f0 f1 f2 x0 x1
        go_wp2_with fail
        refine (add_sub b1 q1 b4 q4 A B ms lss _ hm1' hm4 hgood g4 hbq1 (by omega) (by omega) HSUB.out).mono ?_
        rintro e w13 ⟨rfl, hm13, hg13⟩
        have hA13 := hA12.grown hg13 hA12.size (fun j e => by cases e; omega)
        clear hg13 hA12 hm4 hm13 hm1'
        go_wp2_with fail
        refine (awake_any _).mono ?_
        rintro e w14 ⟨rfl, hb14⟩
        have hA14 := bl_tr hA13 hb14
        clear hA13 hb14
        go_wp2
        go_ret
        exact ⟨rfl, hA14⟩
  · obtain ⟨j, hj, hjl⟩ := num_of hi9 HAREA.out
    have hjl' : j < fs.length := by omega
    have hj0 : (0 : Int) ≤ (j : Int) := by omega
    obtain ⟨z, hzz⟩ : ∃ z, fs[j] = z := ⟨_, rfl⟩
    have hq : w7.cell? ⟨g, j, none⟩ = some (.int .u16 z) := by
      obtain ⟨g', o', e', hq⟩ := hrow7.cell hjl'
      cases e'
      rw [hzz, Nat.zero_add] at hq
      exact hq
    have HNW := Lib.hid (show z = 0 → noWall A B fs (P, Q) = fs.set j 3 from fun h => by
      have e1 : numC A (P, Q) = j := by unfold numC; show (Q * A + P).toNat = j; omega
      unfold noWall
      rw [e1, if_pos ⟨hi9, by rw [List.getD_eq_getElem?_getD, List.getElem?_eq_getElem hjl', hzz, h]; rfl⟩])
    clear hzz
    go_wp2_with fail
    refine (index_yes _ _ _ _ _ hi9).mono ?_
    rintro e W9 ⟨rfl, hb9⟩
    rw [hj]
    have hF9 := hF7.later hb9 hF7.lt
    have k0 := hF9.c0
    have k1 := hF9.c1
    have k2 := hF9.c2
    have zk := hF9.lt
    have hrow9 := hrow7.below hb9
    have fz9 := frozen_later hb9 hq (HFZ.out j)
    have hq9 := cell_later hb9 hq
    replace f0 := cell_later hb9 f0
    replace f1 := cell_later hb9 f1
    replace f2 := cell_later hb9 f2
    replace x0 := cell_later hb9 x0
    replace x1 := cell_later hb9 x1
    replace y0 := cell_later hb9 y0
    replace y1 := cell_later hb9 y1
    replace y2 := cell_later hb9 y2
    have hm9 := hm7.below hb9
    have hA9 := bl_tr hA7 hb9
    have z9 := hb9.size
    have zg9 := blk_lt hq9
    clear hb9 hF7 hrow7 hm7 hA7 hgz7 hi9 hq hj
    by_cases hz0 : z = 0
    · have hhs := HNW.out hz0
      have HLESS := Lib.hid (show ∀ d, wallB A (noWall A B fs (P, Q)) d = true → wallB A fs d = true from noWall_less A B fs (P, Q))
      have HHL := Lib.hid (show (noWall A B fs (P, Q)).length = fs.length from noWall_len A B fs (P, Q))
      have hrowW : RowH (W9.setCell ⟨g, j, none⟩ (.int .u16 3)) (some ⟨g, 0, none⟩) (noWall A B fs (P, Q)) := by rw [hhs]; exact rowH_set hrow9 hjl'
      obtain ⟨hs, hhs2⟩ : ∃ hs, noWall A B fs (P, Q) = hs := ⟨_, rfl⟩
      rw [hhs2] at HLESS HHL hrowW
      have HROW := Lib.hid hrowW
      subst hz0
      have hFA : FAt (W9.setCell ⟨g, j, none⟩ (.int .u16 3)) w5.heap.size (.int .i64 A) (.int .i64 B) (.slice (some ⟨g, 0, none⟩) fs.length cp) := (Below.heap_setCell W9 _ _ w5.heap.size (show w5.heap.size ≠ g by omega)).trans hF9
      have hfar9 : ∀ (k o : Nat) (v : Value), k < g → W9.cell? ⟨k, o, none⟩ = some v → (W9.setCell ⟨g, j, none⟩ (.int .u16 3)).cell? ⟨k, o, none⟩ = some v := fun k o v hk h =>
        (World.cell?_setCell_far W9 ⟨g, j, none⟩ ⟨k, o, none⟩ _ (show g ≠ k by omega)).trans h
      have zf0 := blk_lt f0
      have hmW := hm9.kept (grown_set W9 g j (.int .u16 3)) (by simp; omega) (by simp; omega)
      have hAW : Below w.heap.size w (W9.setCell ⟨g, j, none⟩ (.int .u16 3)) := bl_st hA9 (by omega) _
      have HFA := Lib.hid hFA
      have HFAR := Lib.hid hfar9
      have HMW := Lib.hid hmW
      have HAW := Lib.hid hAW
      clear hrowW hhs hhs2 hrow9 hFA hfar9 hmW hAW hm9 hF9 HNW
      go_upto_region 12 with fail
      obtain ⟨W, hW⟩ : ∃ W, W9.setCell ⟨g, j, none⟩ (.int .u16 3) = W := ⟨_, rfl⟩
      rw [hW]
      replace f0 := HFAR.out _ _ _ (by omega) f0
      replace f1 := HFAR.out _ _ _ (by omega) f1
      replace f2 := HFAR.out _ _ _ (by omega) f2
      replace x0 := HFAR.out _ _ _ (by omega) x0
      replace x1 := HFAR.out _ _ _ (by omega) x1
      replace y2 := HFAR.out _ _ _ (by omega) y2
      have hF := HFA.out
      have hrowW := HROW.out
      have hmW := HMW.out
      have hAW := HAW.out
      rw [hW] at f0 f1 f2 x0 x1 y2 hF hrowW hmW hAW
      replace k0 := hF.c0
      replace k1 := hF.c1
      replace k2 := hF.c2
      have zk := hF.lt
      clear hW HFA HROW HMW HAW HFAR hF y0 y1 hq9 fz9 hA9
      have g3 := allB_good (r := far) (fs := fs) hmay hin
      have S3 := Lib.hid (fun c (h : inM A B ms c = true) => sees_wide (r2 := far) (gs := fs) hmay hin hp0 (HR3.out) (HR4.out) (fun _ h => h) c (by rw [HMS.out]; exact h))
      obtain ⟨os, hos⟩ : ∃ os, allB A B fs far zs = os := ⟨_, rfl⟩
      rw [hos] at g3 S3
      have HOS := Lib.hid hos
      clear hos HR3 HR4
      rcases hfar with ⟨e3, rfl⟩ | ⟨e3, rfl⟩
      ·
        have E1 := Lib.hid (show errA A B fs.length _ zs = 0 from HE1.out)
        clear HE1
        go_wp2_with fail
        have hcall := sall_yes A B r (some ⟨g, 0, none⟩) a3 cp c3 hs zs W hrowW (hz.below hAW) (by omega) (by rw [HHL.out]; exact H5.out)
        rw [HHL.out] at hcall
        refine hcall.mono ?_
        clear hcall
        rintro e w8 ⟨b2, q2, rfl, hm2, hb2, hq2, hbq2, hb8⟩
        have zW := hAW.size
        have hA8 := bl_tr hAW hb8
        have hm1 := hmW.below hb8
        obtain ⟨l1, l2⟩ := hmW.lt
        obtain ⟨l3, l4⟩ := hm2.lt
        replace f0 := cell_later hb8 f0
        replace f1 := cell_later hb8 f1
        replace f2 := cell_later hb8 f2
        replace x0 := cell_later hb8 x0
        replace x1 := cell_later hb8 x1
        have zf0 := blk_lt f0
        have zx0 := blk_lt x0
        have g2 := allB_good (r := r) (fs := hs) hmay hin
        have S2 := Lib.hid (fun c (h : inM A B ms c = true) => sees_wide (gs := hs) hmay hin hp0 (Int.le_refl r) hp1 HLESS.out c (by rw [HMS.out]; exact h))
        obtain ⟨ns, hns⟩ : ∃ ns, allB A B hs r zs = ns := ⟨_, rfl⟩
        rw [hns] at hm2 g2 S2
        clear hb8 hmW hrowW k0 k1 k2 hns
        go_wp2_with fail
        refine (sall_yes A B _ (some ⟨gb, go, none⟩) a3 c c3 fs zs _ (hr.below hA8) (hz.below hA8) (by omega) E1.out).mono ?_
        rintro e w9 ⟨b3, q3, rfl, hm3, hb3, hq3, hbq3, hb9⟩
        have hA9 := bl_tr hA8 hb9
        replace hm1 := hm1.below hb9
        replace hm2 := hm2.below hb9
        obtain ⟨l5, l6⟩ := hm3.lt
        replace f0 := cell_later hb9 f0
        replace f1 := cell_later hb9 f1
        replace f2 := cell_later hb9 f2
        replace x0 := cell_later hb9 x0
        replace x1 := cell_later hb9 x1
        rw [HOS.out] at hm3
        clear hb9 hA8
        go_wp2_with fail
        refine (add_sub b2 q2 b1 q1 A B ns ms _ hm2 hm1 g2 hgood hbq2 (by omega) (by omega) S2.out).mono ?_
        rintro e w10 ⟨rfl, hm2', hg10⟩
        replace hm1 := hm1.kept hg10 (by simp; omega) (by simp; omega)
        replace hm3 := hm3.kept hg10 (by simp; omega) (by simp; omega)
        replace f0 := hg10.cell f0 (by simp; omega)
        replace f1 := hg10.cell f1 (by simp; omega)
        replace f2 := hg10.cell f2 (by simp; omega)
        replace x0 := hg10.cell x0 (by simp; omega)
        replace x1 := hg10.cell x1 (by simp; omega)
        have hA10 := hA9.grown hg10 hA9.size (fun j e => by cases e; omega)
        clear hA9 hg10 hm2 S2
        go_wp2_with fail
        refine (add_sub b3 q3 b1 q1 A B os ms _ hm3 hm1 g3 hgood hbq3 (by omega) (by omega) S3.out).mono ?_
        rintro e w11 ⟨rfl, hm3', hg11⟩
        replace hm1 := hm1.kept hg11 (by simp; omega) (by simp; omega)
        replace f0 := hg11.cell f0 (by simp; omega)
        replace f1 := hg11.cell f1 (by simp; omega)
        replace f2 := hg11.cell f2 (by simp; omega)
        replace x0 := hg11.cell x0 (by simp; omega)
        replace x1 := hg11.cell x1 (by simp; omega)
        have hA11 := hA10.grown hg11 hA10.size (fun j e => by cases e; omega)
        clear hA10 hg11 hm3 hm3' hm2' S3
        cases zs with
        | nil =>
          go_wp2_with fail
          refine (awake_any _).mono ?_
          rintro e w12 ⟨rfl, hb12⟩
          have hA12 := bl_tr hA11 hb12
          clear hA11 hb12
          go_wp2
          go_ret
          exact ⟨rfl, hA12⟩
        | cons z0 zr =>
          obtain ⟨g3', o3, rfl, _⟩ := hz.cell (k := 0) (by simp)
          obtain ⟨L, hL⟩ : ∃ L, (z0 :: zr).length = L := ⟨_, rfl⟩
          have hzr : zr.length = L - 1 := by rw [← hL]; simp
          rw [hL] at x0 hl hcap hl2
          rw [hL]
          have HZR := Lib.hid hzr
          have HLL := Lib.hid hL
          have hl0 : (0 : Int) < (L : Int) := by simp at hL; omega
          have hl1 : (1 : Int) ≤ (L : Int) := by omega
          clear hL hzr
          go_upto_region 24 with fail
          refine (wpIn_wide (n := 11)).1 ?_
          have hD := bl_dr (bl0 w11)
          refine ordS_begin (S := (fun w' : World => w'.cell? ⟨w.heap.size, 0, none⟩ = some (.int .i64 A) ∧ w'.cell? ⟨w.heap.size, 1, none⟩ = some (.int .i64 B) ∧ w'.cell? ⟨w.heap.size, 2, none⟩ = some (.slice (some ⟨gb, go, none⟩) fs.length c) ∧ w'.cell? ⟨w.heap.size + 1, 0, none⟩ = some (.slice (some ⟨g3', o3, none⟩) L c3) ∧ w'.cell? ⟨w.heap.size + 1, 1, none⟩ = some (.int .i64 r))) (by kernel_rfl) ⟨cell_later hD f0, cell_later hD f1, cell_later hD f2, cell_later hD x0, cell_later hD x1⟩ (fun hH => ?_)
          first
            | (refine' ordS_take (i := 0) (oi := { dst := some 150, op := Op.load 26 (Operand.tmp 3), type := 26, pos := _, after := #[], guard := none }) (v := _) rfl (by kernel_rfl) (by kernel_rfl) (by kernel_rfl) (by kernel_rfl) (fun _ _ _ h => h) (by assumption) (Or.inl ⟨by rfl, ?hy21⟩) (fun _ => rfl) ?rest21
               case hy21 => (intro w hSw; (try dsimp only at hSw); go_simp; try with_reducible rfl))
            | (refine ordS_take (i := 0) (oi := { dst := some 150, op := Op.load 26 (Operand.tmp 3), type := 26, pos := _, after := #[], guard := none }) (v := undef) rfl (by kernel_rfl) (by kernel_rfl) (by kernel_rfl) (by kernel_rfl) (fun _ _ _ h => h) (by assumption) (Or.inr ⟨by rfl, rfl⟩) (fun _ => rfl) ?_)
          try simp only [Act.put, List.setIfInBounds_toArray, List.set_cons_zero, List.set_cons_succ]
          first
            | (refine' ordS_take (i := 1) (oi := { dst := some 151, op := Op.fieldAddr 45 (Operand.tmp 4) 0, type := 0, pos := _, after := #[], guard := none }) (v := _) rfl (by kernel_rfl) (by kernel_rfl) (by kernel_rfl) (by kernel_rfl) (fun _ _ _ h => h) (by assumption) (Or.inl ⟨by rfl, ?hy22⟩) (fun _ => rfl) ?rest22
               case hy22 => (intro w hSw; (try dsimp only at hSw); go_simp; try with_reducible rfl))
            | (refine ordS_take (i := 1) (oi := { dst := some 151, op := Op.fieldAddr 45 (Operand.tmp 4) 0, type := 0, pos := _, after := #[], guard := none }) (v := undef) rfl (by kernel_rfl) (by kernel_rfl) (by kernel_rfl) (by kernel_rfl) (fun _ _ _ h => h) (by assumption) (Or.inr ⟨by rfl, rfl⟩) (fun _ => rfl) ?_)
          try simp only [Act.put, List.setIfInBounds_toArray, List.set_cons_zero, List.set_cons_succ]
          first
            | (refine' ordS_take (i := 2) (oi := { dst := some 152, op := Op.load 27 (Operand.tmp 151), type := 27, pos := _, after := #[{ on := 1, ground := Ground.data }], guard := none }) (v := _) rfl (by kernel_rfl) (by kernel_rfl) (by kernel_rfl) (by kernel_rfl) (fun _ _ _ h => h) (by assumption) (Or.inl ⟨by rfl, ?hy23⟩) (fun _ => rfl) ?rest23
               case hy23 => (intro w hSw; (try dsimp only at hSw); go_simp; try with_reducible rfl))
            | (refine ordS_take (i := 2) (oi := { dst := some 152, op := Op.load 27 (Operand.tmp 151), type := 27, pos := _, after := #[{ on := 1, ground := Ground.data }], guard := none }) (v := undef) rfl (by kernel_rfl) (by kernel_rfl) (by kernel_rfl) (by kernel_rfl) (fun _ _ _ h => h) (by assumption) (Or.inr ⟨by rfl, rfl⟩) (fun _ => rfl) ?_)
          try simp only [Act.put, List.setIfInBounds_toArray, List.set_cons_zero, List.set_cons_succ]
          first
            | (refine' ordS_take (i := 4) (oi := { dst := some 154, op := Op.fieldAddr 45 (Operand.tmp 4) 1, type := 0, pos := _, after := #[], guard := none }) (v := _) rfl (by kernel_rfl) (by kernel_rfl) (by kernel_rfl) (by kernel_rfl) (fun _ _ _ h => h) (by assumption) (Or.inl ⟨by rfl, ?hy24⟩) (fun _ => rfl) ?rest24
               case hy24 => (intro w hSw; (try dsimp only at hSw); go_simp; try with_reducible rfl))
            | (refine ordS_take (i := 4) (oi := { dst := some 154, op := Op.fieldAddr 45 (Operand.tmp 4) 1, type := 0, pos := _, after := #[], guard := none }) (v := undef) rfl (by kernel_rfl) (by kernel_rfl) (by kernel_rfl) (by kernel_rfl) (fun _ _ _ h => h) (by assumption) (Or.inr ⟨by rfl, rfl⟩) (fun _ => rfl) ?_)
          try simp only [Act.put, List.setIfInBounds_toArray, List.set_cons_zero, List.set_cons_succ]
          first
            | (refine' ordS_take (i := 5) (oi := { dst := some 155, op := Op.load 3 (Operand.tmp 154), type := 3, pos := _, after := #[{ on := 4, ground := Ground.data }], guard := none }) (v := _) rfl (by kernel_rfl) (by kernel_rfl) (by kernel_rfl) (by kernel_rfl) (fun _ _ _ h => h) (by assumption) (Or.inl ⟨by rfl, ?hy25⟩) (fun _ => rfl) ?rest25
               case hy25 => (intro w hSw; (try dsimp only at hSw); go_simp; try with_reducible rfl))
            | (refine ordS_take (i := 5) (oi := { dst := some 155, op := Op.load 3 (Operand.tmp 154), type := 3, pos := _, after := #[{ on := 4, ground := Ground.data }], guard := none }) (v := undef) rfl (by kernel_rfl) (by kernel_rfl) (by kernel_rfl) (by kernel_rfl) (fun _ _ _ h => h) (by assumption) (Or.inr ⟨by rfl, rfl⟩) (fun _ => rfl) ?_)
          try simp only [Act.put, List.setIfInBounds_toArray, List.set_cons_zero, List.set_cons_succ]
          refine ordS_one (i := 3) (o := { dst := some 153, op := Op.slice 27 (Operand.tmp 152) (some (Operand.const (Value.int IntKind.i64 1))) none none, type := 27, pos := _, after := #[{ on := 2, ground := Ground.data }], guard := none }) (by kernel_rfl) rfl (by rfl) (fun K hK => ?_)
          go_simp
          refine hK _ _ hH ?_
          clear hK K
          try simp only [Act.put, List.setIfInBounds_toArray, List.set_cons_zero, List.set_cons_succ]
          refine ordS_one (i := 6) (o := { dst := some 156, op := Op.call { callee := Callee.value (Operand.func 16), args := #[Operand.tmp 150, Operand.tmp 153, Operand.tmp 155], argTypes := #[26, 27, 3] }, type := 32, pos := _, after := #[{ on := 0, ground := Ground.data }, { on := 3, ground := Ground.data }, { on := 5, ground := Ground.data }], guard := none }) (by kernel_rfl) rfl (by rfl) (fun K hK => ?_)
          go_simp
          have htail := rowC_tail hz (Nat.le_trans (by rw [HLL.out]; exact Nat.le_refl _) hcap)
          have HSUB := Lib.hid (fun d (h : inM A B (allB A B fs r zr) d = true) => (show inM A B ms d = true by rw [← HMS.out]; exact sees_tail (zs := z0 :: zr) hmay hin hp0 hp1 d h))
          have hin' : ∀ z ∈ zr, inB A B z.1 z.2 = true := fun z hz => hin z (by simp [hz])
          have g4 := allB_good (r := r) (fs := fs) hmay hin'
          generalize (if c3 = 1 then (some ⟨g3', o3, none⟩ : Option Addr) else some ⟨g3', o3 + 2, none⟩) = ta at htail ⊢
          have hAD := bl_tr hA11 hD
          have hcall := sall_yes A B r (some ⟨gb, go, none⟩) ta c (c3 - 1) fs zr w11.drew (hr.below hAD) (htail.below hAD) (by rw [HZR.out]; omega) (errA_tail H5.out)
          rw [HZR.out] at hcall
          refine ⟨trivial, (callsIn_wide.2 hcall).mono ?_⟩
          clear hcall htail
          rintro e w12 ⟨b4, q4, rfl, hm4, hb4, hq4, hbq4, hb12⟩
          have zW2 := hAD.size
          have zw11 := hm1.lt
          have hdz : w11.drew.heap.size = w11.heap.size := rfl
          have hb12' := bl_tr hD hb12
          have hm1' := hm1.below hb12'
          have hS12 : (fun w' : World => w'.cell? ⟨w.heap.size, 0, none⟩ = some (.int .i64 A) ∧ w'.cell? ⟨w.heap.size, 1, none⟩ = some (.int .i64 B) ∧ w'.cell? ⟨w.heap.size, 2, none⟩ = some (.slice (some ⟨gb, go, none⟩) fs.length c) ∧ w'.cell? ⟨w.heap.size + 1, 0, none⟩ = some (.slice (some ⟨g3', o3, none⟩) L c3) ∧ w'.cell? ⟨w.heap.size + 1, 1, none⟩ = some (.int .i64 r)) w12 := ⟨cell_later hb12' f0, cell_later hb12' f1, cell_later hb12' f2, cell_later hb12' x0, cell_later hb12' x1⟩
          have hA12 := bl_tr hA11 hb12'
          refine hK _ _ hS12 ?_
          clear hK K
          try simp only [Act.put, List.setIfInBounds_toArray, List.set_cons_zero, List.set_cons_succ]
          first
            | (refine' ordS_take (i := 7) (oi := { dst := some 149, op := Op.move (Operand.tmp 156), type := 32, pos := _, after := #[{ on := 6, ground := Ground.data }], guard := none }) (v := _) rfl (by kernel_rfl) (by kernel_rfl) (by kernel_rfl) (by kernel_rfl) (fun _ _ _ h => h) (by assumption) (Or.inl ⟨by rfl, ?hy26⟩) (fun _ => rfl) ?rest26
               case hy26 => (intro w hSw; (try dsimp only at hSw); go_simp; try with_reducible rfl))
            | (refine ordS_take (i := 7) (oi := { dst := some 149, op := Op.move (Operand.tmp 156), type := 32, pos := _, after := #[{ on := 6, ground := Ground.data }], guard := none }) (v := undef) rfl (by kernel_rfl) (by kernel_rfl) (by kernel_rfl) (by kernel_rfl) (fun _ _ _ h => h) (by assumption) (Or.inr ⟨by rfl, rfl⟩) (fun _ => rfl) ?_)
          try simp only [Act.put, List.setIfInBounds_toArray, List.set_cons_zero, List.set_cons_succ]
          first
            | (refine' ordS_take (i := 8) (oi := { dst := some 157, op := Op.extract (Operand.tmp 149) 0, type := 30, pos := _, after := #[{ on := 7, ground := Ground.data }], guard := none }) (v := _) rfl (by kernel_rfl) (by kernel_rfl) (by kernel_rfl) (by kernel_rfl) (fun _ _ _ h => h) (by assumption) (Or.inl ⟨by rfl, ?hy27⟩) (fun _ => rfl) ?rest27
               case hy27 => (intro w hSw; (try dsimp only at hSw); go_simp; try with_reducible rfl))
            | (refine ordS_take (i := 8) (oi := { dst := some 157, op := Op.extract (Operand.tmp 149) 0, type := 30, pos := _, after := #[{ on := 7, ground := Ground.data }], guard := none }) (v := undef) rfl (by kernel_rfl) (by kernel_rfl) (by kernel_rfl) (by kernel_rfl) (fun _ _ _ h => h) (by assumption) (Or.inr ⟨by rfl, rfl⟩) (fun _ => rfl) ?_)
          try simp only [Act.put, List.setIfInBounds_toArray, List.set_cons_zero, List.set_cons_succ]
          first
            | (refine' ordS_take (i := 9) (oi := { dst := some 158, op := Op.extract (Operand.tmp 149) 1, type := 31, pos := _, after := #[{ on := 7, ground := Ground.data }, { on := 10, ground := Ground.gcOnly Departure.lateStores }], guard := none }) (v := _) rfl (by kernel_rfl) (by kernel_rfl) (by kernel_rfl) (by kernel_rfl) (fun _ _ _ h => h) (by assumption) (Or.inl ⟨by rfl, ?hy28⟩) (fun _ => rfl) ?rest28
               case hy28 => (intro w hSw; (try dsimp only at hSw); go_simp; try with_reducible rfl))
            | (refine ordS_take (i := 9) (oi := { dst := some 158, op := Op.extract (Operand.tmp 149) 1, type := 31, pos := _, after := #[{ on := 7, ground := Ground.data }, { on := 10, ground := Ground.gcOnly Departure.lateStores }], guard := none }) (v := undef) rfl (by kernel_rfl) (by kernel_rfl) (by kernel_rfl) (by kernel_rfl) (fun _ _ _ h => h) (by assumption) (Or.inr ⟨by rfl, rfl⟩) (fun _ => rfl) ?_)
          try simp only [Act.put, List.setIfInBounds_toArray, List.set_cons_zero, List.set_cons_succ]
          first
            | (refine' ordS_take (i := 10) (oi := { dst := some 18, op := Op.assign (Operand.tmp 157), type := 30, pos := _, after := #[{ on := 8, ground := Ground.data }, { on := 6, ground := Ground.chain }, { on := 0, ground := Ground.phase }, { on := 1, ground := Ground.phase }, { on := 2, ground := Ground.phase }, { on := 3, ground := Ground.phase }, { on := 4, ground := Ground.phase }, { on := 5, ground := Ground.phase }, { on := 6, ground := Ground.phase }, { on := 7, ground := Ground.phase }, { on := 8, ground := Ground.phase }, { on := 9, ground := Ground.textOnly Departure.lateStores }], guard := none }) (v := _) rfl (by kernel_rfl) (by kernel_rfl) (by kernel_rfl) (by kernel_rfl) (fun _ _ _ h => h) (by assumption) (Or.inl ⟨by rfl, ?hy29⟩) (fun _ => rfl) ?rest29
               case hy29 => (intro w hSw; (try dsimp only at hSw); go_simp; try with_reducible rfl))
            | (refine ordS_take (i := 10) (oi := { dst := some 18, op := Op.assign (Operand.tmp 157), type := 30, pos := _, after := #[{ on := 8, ground := Ground.data }, { on := 6, ground := Ground.chain }, { on := 0, ground := Ground.phase }, { on := 1, ground := Ground.phase }, { on := 2, ground := Ground.phase }, { on := 3, ground := Ground.phase }, { on := 4, ground := Ground.phase }, { on := 5, ground := Ground.phase }, { on := 6, ground := Ground.phase }, { on := 7, ground := Ground.phase }, { on := 8, ground := Ground.phase }, { on := 9, ground := Ground.textOnly Departure.lateStores }], guard := none }) (v := undef) rfl (by kernel_rfl) (by kernel_rfl) (by kernel_rfl) (by kernel_rfl) (fun _ _ _ h => h) (by assumption) (Or.inr ⟨by rfl, rfl⟩) (fun _ => rfl) ?_)
          try simp only [Act.put, List.setIfInBounds_toArray, List.set_cons_zero, List.set_cons_succ]
          first
            | (refine' ordS_take (i := 11) (oi := { dst := some 19, op := Op.assign (Operand.tmp 158), type := 31, pos := _, after := #[{ on := 9, ground := Ground.data }, { on := 10, ground := Ground.chain }, { on := 0, ground := Ground.phase }, { on := 1, ground := Ground.phase }, { on := 2, ground := Ground.phase }, { on := 3, ground := Ground.phase }, { on := 4, ground := Ground.phase }, { on := 5, ground := Ground.phase }, { on := 6, ground := Ground.phase }, { on := 7, ground := Ground.phase }, { on := 8, ground := Ground.phase }, { on := 9, ground := Ground.phase }, { on := 10, ground := Ground.phase }], guard := none }) (v := _) rfl (by kernel_rfl) (by kernel_rfl) (by kernel_rfl) (by kernel_rfl) (fun _ _ _ h => h) (by assumption) (Or.inl ⟨by rfl, ?hy30⟩) (fun _ => rfl) ?rest30
               case hy30 => (intro w hSw; (try dsimp only at hSw); go_simp; try with_reducible rfl))
            | (refine ordS_take (i := 11) (oi := { dst := some 19, op := Op.assign (Operand.tmp 158), type := 31, pos := _, after := #[{ on := 9, ground := Ground.data }, { on := 10, ground := Ground.chain }, { on := 0, ground := Ground.phase }, { on := 1, ground := Ground.phase }, { on := 2, ground := Ground.phase }, { on := 3, ground := Ground.phase }, { on := 4, ground := Ground.phase }, { on := 5, ground := Ground.phase }, { on := 6, ground := Ground.phase }, { on := 7, ground := Ground.phase }, { on := 8, ground := Ground.phase }, { on := 9, ground := Ground.phase }, { on := 10, ground := Ground.phase }], guard := none }) (v := undef) rfl (by kernel_rfl) (by kernel_rfl) (by kernel_rfl) (by kernel_rfl) (fun _ _ _ h => h) (by assumption) (Or.inr ⟨by rfl, rfl⟩) (fun _ => rfl) ?_)
          try simp only [Act.put, List.setIfInBounds_toArray, List.set_cons_zero, List.set_cons_succ]
          refine ordS_done (by kernel_rfl) ?_
          obtain ⟨lss, hlss⟩ : ∃ lss, allB A B fs r zr = lss := ⟨_, rfl⟩
          rw [hlss] at HSUB g4 hm4
          clear hS12 hb12 hb12' hA11 hD hH hlss hm1 hAD f0 f1 f2 x0 x1
          go_wp2_with fail
          refine (add_sub b1 q1 b4 q4 A B ms lss _ hm1' hm4 hgood g4 hbq1 (by omega) (by omega) HSUB.out).mono ?_
          rintro e w13 ⟨rfl, hm13, hg13⟩
          have hA13 := hA12.grown hg13 hA12.size (fun j e => by cases e; omega)
          clear hg13 hA12 hm4 hm13 hm1'
          go_wp2_with fail
          refine (awake_any _).mono ?_
          rintro e w14 ⟨rfl, hb14⟩
          have hA14 := bl_tr hA13 hb14
          clear hA13 hb14
          go_wp2
          go_ret
          exact ⟨rfl, hA14⟩
      ·
        have E1 := Lib.hid (show errA A B fs.length _ zs = 0 from HE1.out)
        clear HE1
        go_wp2_with fail
        have hcall := sall_yes A B r (some ⟨g, 0, none⟩) a3 cp c3 hs zs W hrowW (hz.below hAW) (by omega) (by rw [HHL.out]; exact H5.out)
        rw [HHL.out] at hcall
        refine hcall.mono ?_
        clear hcall
        rintro e w8 ⟨b2, q2, rfl, hm2, hb2, hq2, hbq2, hb8⟩
        have zW := hAW.size
        have hA8 := bl_tr hAW hb8
        have hm1 := hmW.below hb8
        obtain ⟨l1, l2⟩ := hmW.lt
        obtain ⟨l3, l4⟩ := hm2.lt
        replace f0 := cell_later hb8 f0
        replace f1 := cell_later hb8 f1
        replace f2 := cell_later hb8 f2
        replace x0 := cell_later hb8 x0
        replace x1 := cell_later hb8 x1
        have zf0 := blk_lt f0
        have zx0 := blk_lt x0
        have g2 := allB_good (r := r) (fs := hs) hmay hin
        have S2 := Lib.hid (fun c (h : inM A B ms c = true) => sees_wide (gs := hs) hmay hin hp0 (Int.le_refl r) hp1 HLESS.out c (by rw [HMS.out]; exact h))
        obtain ⟨ns, hns⟩ : ∃ ns, allB A B hs r zs = ns := ⟨_, rfl⟩
        rw [hns] at hm2 g2 S2
        clear hb8 hmW hrowW k0 k1 k2 hns
        go_wp2_with fail
        refine (sall_yes A B _ (some ⟨gb, go, none⟩) a3 c c3 fs zs _ (hr.below hA8) (hz.below hA8) (by omega) E1.out).mono ?_
        rintro e w9 ⟨b3, q3, rfl, hm3, hb3, hq3, hbq3, hb9⟩
        have hA9 := bl_tr hA8 hb9
        replace hm1 := hm1.below hb9
        replace hm2 := hm2.below hb9
        obtain ⟨l5, l6⟩ := hm3.lt
        replace f0 := cell_later hb9 f0
        replace f1 := cell_later hb9 f1
        replace f2 := cell_later hb9 f2
        replace x0 := cell_later hb9 x0
        replace x1 := cell_later hb9 x1
        rw [HOS.out] at hm3
        clear hb9 hA8
        go_wp2_with fail
        refine (add_sub b2 q2 b1 q1 A B ns ms _ hm2 hm1 g2 hgood hbq2 (by omega) (by omega) S2.out).mono ?_
        rintro e w10 ⟨rfl, hm2', hg10⟩
        replace hm1 := hm1.kept hg10 (by simp; omega) (by simp; omega)
        replace hm3 := hm3.kept hg10 (by simp; omega) (by simp; omega)
        replace f0 := hg10.cell f0 (by simp; omega)
        replace f1 := hg10.cell f1 (by simp; omega)
        replace f2 := hg10.cell f2 (by simp; omega)
        replace x0 := hg10.cell x0 (by simp; omega)
        replace x1 := hg10.cell x1 (by simp; omega)
        have hA10 := hA9.grown hg10 hA9.size (fun j e => by cases e; omega)
        clear hA9 hg10 hm2 S2
        go_wp2_with fail
        refine (add_sub b3 q3 b1 q1 A B os ms _ hm3 hm1 g3 hgood hbq3 (by omega) (by omega) S3.out).mono ?_
        rintro e w11 ⟨rfl, hm3', hg11⟩
        replace hm1 := hm1.kept hg11 (by simp; omega) (by simp; omega)
        replace f0 := hg11.cell f0 (by simp; omega)
        replace f1 := hg11.cell f1 (by simp; omega)
        replace f2 := hg11.cell f2 (by simp; omega)
        replace x0 := hg11.cell x0 (by simp; omega)
        replace x1 := hg11.cell x1 (by simp; omega)
        have hA11 := hA10.grown hg11 hA10.size (fun j e => by cases e; omega)
        clear hA10 hg11 hm3 hm3' hm2' S3
        cases zs with
        | nil =>
          go_wp2_with fail
          refine (awake_any _).mono ?_
          rintro e w12 ⟨rfl, hb12⟩
          have hA12 := bl_tr hA11 hb12
          clear hA11 hb12
          go_wp2
          go_ret
          exact ⟨rfl, hA12⟩
        | cons z0 zr =>
          obtain ⟨g3', o3, rfl, _⟩ := hz.cell (k := 0) (by simp)
          obtain ⟨L, hL⟩ : ∃ L, (z0 :: zr).length = L := ⟨_, rfl⟩
          have hzr : zr.length = L - 1 := by rw [← hL]; simp
          rw [hL] at x0 hl hcap hl2
          rw [hL]
          have HZR := Lib.hid hzr
          have HLL := Lib.hid hL
          have hl0 : (0 : Int) < (L : Int) := by simp at hL; omega
          have hl1 : (1 : Int) ≤ (L : Int) := by omega
          clear hL hzr
          go_upto_region 24 with fail
          refine (wpIn_wide (n := 11)).1 ?_
          have hD := bl_dr (bl0 w11)
          refine ordS_begin (S := (fun w' : World => w'.cell? ⟨w.heap.size, 0, none⟩ = some (.int .i64 A) ∧ w'.cell? ⟨w.heap.size, 1, none⟩ = some (.int .i64 B) ∧ w'.cell? ⟨w.heap.size, 2, none⟩ = some (.slice (some ⟨gb, go, none⟩) fs.length c) ∧ w'.cell? ⟨w.heap.size + 1, 0, none⟩ = some (.slice (some ⟨g3', o3, none⟩) L c3) ∧ w'.cell? ⟨w.heap.size + 1, 1, none⟩ = some (.int .i64 r))) (by kernel_rfl) ⟨cell_later hD f0, cell_later hD f1, cell_later hD f2, cell_later hD x0, cell_later hD x1⟩ (fun hH => ?_)
          first
            | (refine' ordS_take (i := 0) (oi := { dst := some 150, op := Op.load 26 (Operand.tmp 3), type := 26, pos := _, after := #[], guard := none }) (v := _) rfl (by kernel_rfl) (by kernel_rfl) (by kernel_rfl) (by kernel_rfl) (fun _ _ _ h => h) (by assumption) (Or.inl ⟨by rfl, ?hy31⟩) (fun _ => rfl) ?rest31
               case hy31 => (intro w hSw; (try dsimp only at hSw); go_simp; try with_reducible rfl))
            | (refine ordS_take (i := 0) (oi := { dst := some 150, op := Op.load 26 (Operand.tmp 3), type := 26, pos := _, after := #[], guard := none }) (v := undef) rfl (by kernel_rfl) (by kernel_rfl) (by kernel_rfl) (by kernel_rfl) (fun _ _ _ h => h) (by assumption) (Or.inr ⟨by rfl, rfl⟩) (fun _ => rfl) ?_)
          try simp only [Act.put, List.setIfInBounds_toArray, List.set_cons_zero, List.set_cons_succ]
          first
            | (refine' ordS_take (i := 1) (oi := { dst := some 151, op := Op.fieldAddr 45 (Operand.tmp 4) 0, type := 0, pos := _, after := #[], guard := none }) (v := _) rfl (by kernel_rfl) (by kernel_rfl) (by kernel_rfl) (by kernel_rfl) (fun _ _ _ h => h) (by assumption) (Or.inl ⟨by rfl, ?hy32⟩) (fun _ => rfl) ?rest32
               case hy32 => (intro w hSw; (try dsimp only at hSw); go_simp; try with_reducible rfl))
            | (refine ordS_take (i := 1) (oi := { dst := some 151, op := Op.fieldAddr 45 (Operand.tmp 4) 0, type := 0, pos := _, after := #[], guard := none }) (v := undef) rfl (by kernel_rfl) (by kernel_rfl) (by kernel_rfl) (by kernel_rfl) (fun _ _ _ h => h) (by assumption) (Or.inr ⟨by rfl, rfl⟩) (fun _ => rfl) ?_)
          try simp only [Act.put, List.setIfInBounds_toArray, List.set_cons_zero, List.set_cons_succ]
          first
            | (refine' ordS_take (i := 2) (oi := { dst := some 152, op := Op.load 27 (Operand.tmp 151), type := 27, pos := _, after := #[{ on := 1, ground := Ground.data }], guard := none }) (v := _) rfl (by kernel_rfl) (by kernel_rfl) (by kernel_rfl) (by kernel_rfl) (fun _ _ _ h => h) (by assumption) (Or.inl ⟨by rfl, ?hy33⟩) (fun _ => rfl) ?rest33
               case hy33 => (intro w hSw; (try dsimp only at hSw); go_simp; try with_reducible rfl))
            | (refine ordS_take (i := 2) (oi := { dst := some 152, op := Op.load 27 (Operand.tmp 151), type := 27, pos := _, after := #[{ on := 1, ground := Ground.data }], guard := none }) (v := undef) rfl (by kernel_rfl) (by kernel_rfl) (by kernel_rfl) (by kernel_rfl) (fun _ _ _ h => h) (by assumption) (Or.inr ⟨by rfl, rfl⟩) (fun _ => rfl) ?_)
          try simp only [Act.put, List.setIfInBounds_toArray, List.set_cons_zero, List.set_cons_succ]
          first
            | (refine' ordS_take (i := 4) (oi := { dst := some 154, op := Op.fieldAddr 45 (Operand.tmp 4) 1, type := 0, pos := _, after := #[], guard := none }) (v := _) rfl (by kernel_rfl) (by kernel_rfl) (by kernel_rfl) (by kernel_rfl) (fun _ _ _ h => h) (by assumption) (Or.inl ⟨by rfl, ?hy34⟩) (fun _ => rfl) ?rest34
               case hy34 => (intro w hSw; (try dsimp only at hSw); go_simp; try with_reducible rfl))
            | (refine ordS_take (i := 4) (oi := { dst := some 154, op := Op.fieldAddr 45 (Operand.tmp 4) 1, type := 0, pos := _, after := #[], guard := none }) (v := undef) rfl (by kernel_rfl) (by kernel_rfl) (by kernel_rfl) (by kernel_rfl) (fun _ _ _ h => h) (by assumption) (Or.inr ⟨by rfl, rfl⟩) (fun _ => rfl) ?_)
          try simp only [Act.put, List.setIfInBounds_toArray, List.set_cons_zero, List.set_cons_succ]
          first
            | (refine' ordS_take (i := 5) (oi := { dst := some 155, op := Op.load 3 (Operand.tmp 154), type := 3, pos := _, after := #[{ on := 4, ground := Ground.data }], guard := none }) (v := _) rfl (by kernel_rfl) (by kernel_rfl) (by kernel_rfl) (by kernel_rfl) (fun _ _ _ h => h) (by assumption) (Or.inl ⟨by rfl, ?hy35⟩) (fun _ => rfl) ?rest35
               case hy35 => (intro w hSw; (try dsimp only at hSw); go_simp; try with_reducible rfl))
            | (refine ordS_take (i := 5) (oi := { dst := some 155, op := Op.load 3 (Operand.tmp 154), type := 3, pos := _, after := #[{ on := 4, ground := Ground.data }], guard := none }) (v := undef) rfl (by kernel_rfl) (by kernel_rfl) (by kernel_rfl) (by kernel_rfl) (fun _ _ _ h => h) (by assumption) (Or.inr ⟨by rfl, rfl⟩) (fun _ => rfl) ?_)
          try simp only [Act.put, List.setIfInBounds_toArray, List.set_cons_zero, List.set_cons_succ]
          refine ordS_one (i := 3) (o := { dst := some 153, op := Op.slice 27 (Operand.tmp 152) (some (Operand.const (Value.int IntKind.i64 1))) none none, type := 27, pos := _, after := #[{ on := 2, ground := Ground.data }], guard := none }) (by kernel_rfl) rfl (by rfl) (fun K hK => ?_)
          go_simp
          refine hK _ _ hH ?_
          clear hK K
          try simp only [Act.put, List.setIfInBounds_toArray, List.set_cons_zero, List.set_cons_succ]
          refine ordS_one (i := 6) (o := { dst := some 156, op := Op.call { callee := Callee.value (Operand.func 16), args := #[Operand.tmp 150, Operand.tmp 153, Operand.tmp 155], argTypes := #[26, 27, 3] }, type := 32, pos := _, after := #[{ on := 0, ground := Ground.data }, { on := 3, ground := Ground.data }, { on := 5, ground := Ground.data }], guard := none }) (by kernel_rfl) rfl (by rfl) (fun K hK => ?_)
          go_simp
          have htail := rowC_tail hz (Nat.le_trans (by rw [HLL.out]; exact Nat.le_refl _) hcap)
          have HSUB := Lib.hid (fun d (h : inM A B (allB A B fs r zr) d = true) => (show inM A B ms d = true by rw [← HMS.out]; exact sees_tail (zs := z0 :: zr) hmay hin hp0 hp1 d h))
          have hin' : ∀ z ∈ zr, inB A B z.1 z.2 = true := fun z hz => hin z (by simp [hz])
          have g4 := allB_good (r := r) (fs := fs) hmay hin'
          generalize (if c3 = 1 then (some ⟨g3', o3, none⟩ : Option Addr) else some ⟨g3', o3 + 2, none⟩) = ta at htail ⊢
          have hAD := bl_tr hA11 hD
          have hcall := sall_yes A B r (some ⟨gb, go, none⟩) ta c (c3 - 1) fs zr w11.drew (hr.below hAD) (htail.below hAD) (by rw [HZR.out]; omega) (errA_tail H5.out)
          rw [HZR.out] at hcall
          refine ⟨trivial, (callsIn_wide.2 hcall).mono ?_⟩
          clear hcall htail
          rintro e w12 ⟨b4, q4, rfl, hm4, hb4, hq4, hbq4, hb12⟩
          have zW2 := hAD.size
          have zw11 := hm1.lt
          have hdz : w11.drew.heap.size = w11.heap.size := rfl
          have hb12' := bl_tr hD hb12
          have hm1' := hm1.below hb12'
          have hS12 : (fun w' : World => w'.cell? ⟨w.heap.size, 0, none⟩ = some (.int .i64 A) ∧ w'.cell? ⟨w.heap.size, 1, none⟩ = some (.int .i64 B) ∧ w'.cell? ⟨w.heap.size, 2, none⟩ = some (.slice (some ⟨gb, go, none⟩) fs.length c) ∧ w'.cell? ⟨w.heap.size + 1, 0, none⟩ = some (.slice (some ⟨g3', o3, none⟩) L c3) ∧ w'.cell? ⟨w.heap.size + 1, 1, none⟩ = some (.int .i64 r)) w12 := ⟨cell_later hb12' f0, cell_later hb12' f1, cell_later hb12' f2, cell_later hb12' x0, cell_later hb12' x1⟩
          have hA12 := bl_tr hA11 hb12'
          refine hK _ _ hS12 ?_
          clear hK K
          try simp only [Act.put, List.setIfInBounds_toArray, List.set_cons_zero, List.set_cons_succ]
          first
            | (refine' ordS_take (i := 7) (oi := { dst := some 149, op := Op.move (Operand.tmp 156), type := 32, pos := _, after := #[{ on := 6, ground := Ground.data }], guard := none }) (v := _) rfl (by kernel_rfl) (by kernel_rfl) (by kernel_rfl) (by kernel_rfl) (fun _ _ _ h => h) (by assumption) (Or.inl ⟨by rfl, ?hy36⟩) (fun _ => rfl) ?rest36
               case hy36 => (intro w hSw; (try dsimp only at hSw); go_simp; try with_reducible rfl))
            | (refine ordS_take (i := 7) (oi := { dst := some 149, op := Op.move (Operand.tmp 156), type := 32, pos := _, after := #[{ on := 6, ground := Ground.data }], guard := none }) (v := undef) rfl (by kernel_rfl) (by kernel_rfl) (by kernel_rfl) (by kernel_rfl) (fun _ _ _ h => h) (by assumption) (Or.inr ⟨by rfl, rfl⟩) (fun _ => rfl) ?_)
          try simp only [Act.put, List.setIfInBounds_toArray, List.set_cons_zero, List.set_cons_succ]
          first
            | (refine' ordS_take (i := 8) (oi := { dst := some 157, op := Op.extract (Operand.tmp 149) 0, type := 30, pos := _, after := #[{ on := 7, ground := Ground.data }], guard := none }) (v := _) rfl (by kernel_rfl) (by kernel_rfl) (by kernel_rfl) (by kernel_rfl) (fun _ _ _ h => h) (by assumption) (Or.inl ⟨by rfl, ?hy37⟩) (fun _ => rfl) ?rest37
               case hy37 => (intro w hSw; (try dsimp only at hSw); go_simp; try with_reducible rfl))
            | (refine ordS_take (i := 8) (oi := { dst := some 157, op := Op.extract (Operand.tmp 149) 0, type := 30, pos := _, after := #[{ on := 7, ground := Ground.data }], guard := none }) (v := undef) rfl (by kernel_rfl) (by kernel_rfl) (by kernel_rfl) (by kernel_rfl) (fun _ _ _ h => h) (by assumption) (Or.inr ⟨by rfl, rfl⟩) (fun _ => rfl) ?_)
          try simp only [Act.put, List.setIfInBounds_toArray, List.set_cons_zero, List.set_cons_succ]
          first
            | (refine' ordS_take (i := 9) (oi := { dst := some 158, op := Op.extract (Operand.tmp 149) 1, type := 31, pos := _, after := #[{ on := 7, ground := Ground.data }, { on := 10, ground := Ground.gcOnly Departure.lateStores }], guard := none }) (v := _) rfl (by kernel_rfl) (by kernel_rfl) (by kernel_rfl) (by kernel_rfl) (fun _ _ _ h => h) (by assumption) (Or.inl ⟨by rfl, ?hy38⟩) (fun _ => rfl) ?rest38
               case hy38 => (intro w hSw; (try dsimp only at hSw); go_simp; try with_reducible rfl))
            | (refine ordS_take (i := 9) (oi := { dst := some 158, op := Op.extract (Operand.tmp 149) 1, type := 31, pos := _, after := #[{ on := 7, ground := Ground.data }, { on := 10, ground := Ground.gcOnly Departure.lateStores }], guard := none }) (v := undef) rfl (by kernel_rfl) (by kernel_rfl) (by kernel_rfl) (by kernel_rfl) (fun _ _ _ h => h) (by assumption) (Or.inr ⟨by rfl, rfl⟩) (fun _ => rfl) ?_)
          try simp only [Act.put, List.setIfInBounds_toArray, List.set_cons_zero, List.set_cons_succ]
          first
            | (refine' ordS_take (i := 10) (oi := { dst := some 18, op := Op.assign (Operand.tmp 157), type := 30, pos := _, after := #[{ on := 8, ground := Ground.data }, { on := 6, ground := Ground.chain }, { on := 0, ground := Ground.phase }, { on := 1, ground := Ground.phase }, { on := 2, ground := Ground.phase }, { on := 3, ground := Ground.phase }, { on := 4, ground := Ground.phase }, { on := 5, ground := Ground.phase }, { on := 6, ground := Ground.phase }, { on := 7, ground := Ground.phase }, { on := 8, ground := Ground.phase }, { on := 9, ground := Ground.textOnly Departure.lateStores }], guard := none }) (v := _) rfl (by kernel_rfl) (by kernel_rfl) (by kernel_rfl) (by kernel_rfl) (fun _ _ _ h => h) (by assumption) (Or.inl ⟨by rfl, ?hy39⟩) (fun _ => rfl) ?rest39
               case hy39 => (intro w hSw; (try dsimp only at hSw); go_simp; try with_reducible rfl))
            | (refine ordS_take (i := 10) (oi := { dst := some 18, op := Op.assign (Operand.tmp 157), type := 30, pos := _, after := #[{ on := 8, ground := Ground.data }, { on := 6, ground := Ground.chain }, { on := 0, ground := Ground.phase }, { on := 1, ground := Ground.phase }, { on := 2, ground := Ground.phase }, { on := 3, ground := Ground.phase }, { on := 4, ground := Ground.phase }, { on := 5, ground := Ground.phase }, { on := 6, ground := Ground.phase }, { on := 7, ground := Ground.phase }, { on := 8, ground := Ground.phase }, { on := 9, ground := Ground.textOnly Departure.lateStores }], guard := none }) (v := undef) rfl (by kernel_rfl) (by kernel_rfl) (by kernel_rfl) (by kernel_rfl) (fun _ _ _ h => h) (by assumption) (Or.inr ⟨by rfl, rfl⟩) (fun _ => rfl) ?_)
          try simp only [Act.put, List.setIfInBounds_toArray, List.set_cons_zero, List.set_cons_succ]
          first
            | (refine' ordS_take (i := 11) (oi := { dst := some 19, op := Op.assign (Operand.tmp 158), type := 31, pos := _, after := #[{ on := 9, ground := Ground.data }, { on := 10, ground := Ground.chain }, { on := 0, ground := Ground.phase }, { on := 1, ground := Ground.phase }, { on := 2, ground := Ground.phase }, { on := 3, ground := Ground.phase }, { on := 4, ground := Ground.phase }, { on := 5, ground := Ground.phase }, { on := 6, ground := Ground.phase }, { on := 7, ground := Ground.phase }, { on := 8, ground := Ground.phase }, { on := 9, ground := Ground.phase }, { on := 10, ground := Ground.phase }], guard := none }) (v := _) rfl (by kernel_rfl) (by kernel_rfl) (by kernel_rfl) (by kernel_rfl) (fun _ _ _ h => h) (by assumption) (Or.inl ⟨by rfl, ?hy40⟩) (fun _ => rfl) ?rest40
               case hy40 => (intro w hSw; (try dsimp only at hSw); go_simp; try with_reducible rfl))
            | (refine ordS_take (i := 11) (oi := { dst := some 19, op := Op.assign (Operand.tmp 158), type := 31, pos := _, after := #[{ on := 9, ground := Ground.data }, { on := 10, ground := Ground.chain }, { on := 0, ground := Ground.phase }, { on := 1, ground := Ground.phase }, { on := 2, ground := Ground.phase }, { on := 3, ground := Ground.phase }, { on := 4, ground := Ground.phase }, { on := 5, ground := Ground.phase }, { on := 6, ground := Ground.phase }, { on := 7, ground := Ground.phase }, { on := 8, ground := Ground.phase }, { on := 9, ground := Ground.phase }, { on := 10, ground := Ground.phase }], guard := none }) (v := undef) rfl (by kernel_rfl) (by kernel_rfl) (by kernel_rfl) (by kernel_rfl) (fun _ _ _ h => h) (by assumption) (Or.inr ⟨by rfl, rfl⟩) (fun _ => rfl) ?_)
          try simp only [Act.put, List.setIfInBounds_toArray, List.set_cons_zero, List.set_cons_succ]
          refine ordS_done (by kernel_rfl) ?_
          obtain ⟨lss, hlss⟩ : ∃ lss, allB A B fs r zr = lss := ⟨_, rfl⟩
          rw [hlss] at HSUB g4 hm4
          clear hS12 hb12 hb12' hA11 hD hH hlss hm1 hAD f0 f1 f2 x0 x1
          go_wp2_with fail
          refine (add_sub b1 q1 b4 q4 A B ms lss _ hm1' hm4 hgood g4 hbq1 (by omega) (by omega) HSUB.out).mono ?_
          rintro e w13 ⟨rfl, hm13, hg13⟩
          have hA13 := hA12.grown hg13 hA12.size (fun j e => by cases e; omega)
          clear hg13 hA12 hm4 hm13 hm1'
          go_wp2_with fail
          refine (awake_any _).mono ?_
          rintro e w14 ⟨rfl, hb14⟩
          have hA14 := bl_tr hA13 hb14
          clear hA13 hb14
          go_wp2
          go_ret
          exact ⟨rfl, hA14⟩
    · obtain ⟨hs, hhs⟩ : ∃ hs, fs = hs := ⟨_, rfl⟩
      have HHL := Lib.hid (show hs.length = fs.length by rw [hhs])
      have HLESS := Lib.hid (show ∀ d, wallB A hs d = true → wallB A fs d = true by rw [hhs]; exact fun _ h => h)
      obtain ⟨W, hW⟩ : ∃ W, W9 = W := ⟨_, rfl⟩
      have hne0 : (z == 0) = false := by rw [beq_eq_false_iff_ne]; exact hz0
      subst hW
      rw [hhs] at hrow9
      have hrowW := hrow9
      have hmW := hm9
      have hAW := hA9
      clear hrow9 hm9 hA9 hhs HNW hz0 fz9
      go_upto_region 12 with fail
      clear hq9 y0 y1 hF9
      have g3 := allB_good (r := far) (fs := fs) hmay hin
      have S3 := Lib.hid (fun c (h : inM A B ms c = true) => sees_wide (r2 := far) (gs := fs) hmay hin hp0 (HR3.out) (HR4.out) (fun _ h => h) c (by rw [HMS.out]; exact h))
      obtain ⟨os, hos⟩ : ∃ os, allB A B fs far zs = os := ⟨_, rfl⟩
      rw [hos] at g3 S3
      have HOS := Lib.hid hos
      clear hos HR3 HR4
      rcases hfar with ⟨e3, rfl⟩ | ⟨e3, rfl⟩
      ·
        have E1 := Lib.hid (show errA A B fs.length _ zs = 0 from HE1.out)
        clear HE1
        go_wp2_with fail
        have hcall := sall_yes A B r (some ⟨g, 0, none⟩) a3 cp c3 hs zs W9 hrowW (hz.below hAW) (by omega) (by rw [HHL.out]; exact H5.out)
        rw [HHL.out] at hcall
        refine hcall.mono ?_
        clear hcall
        rintro e w8 ⟨b2, q2, rfl, hm2, hb2, hq2, hbq2, hb8⟩
        have zW := hAW.size
        have hA8 := bl_tr hAW hb8
        have hm1 := hmW.below hb8
        obtain ⟨l1, l2⟩ := hmW.lt
        obtain ⟨l3, l4⟩ := hm2.lt
        replace f0 := cell_later hb8 f0
        replace f1 := cell_later hb8 f1
        replace f2 := cell_later hb8 f2
        replace x0 := cell_later hb8 x0
        replace x1 := cell_later hb8 x1
        have zf0 := blk_lt f0
        have zx0 := blk_lt x0
        have g2 := allB_good (r := r) (fs := hs) hmay hin
        have S2 := Lib.hid (fun c (h : inM A B ms c = true) => sees_wide (gs := hs) hmay hin hp0 (Int.le_refl r) hp1 HLESS.out c (by rw [HMS.out]; exact h))
        obtain ⟨ns, hns⟩ : ∃ ns, allB A B hs r zs = ns := ⟨_, rfl⟩
        rw [hns] at hm2 g2 S2
        clear hb8 hmW hrowW k0 k1 k2 hns
        go_wp2_with fail
        refine (sall_yes A B _ (some ⟨gb, go, none⟩) a3 c c3 fs zs _ (hr.below hA8) (hz.below hA8) (by omega) E1.out).mono ?_
        rintro e w9 ⟨b3, q3, rfl, hm3, hb3, hq3, hbq3, hb9⟩
        have hA9 := bl_tr hA8 hb9
        replace hm1 := hm1.below hb9
        replace hm2 := hm2.below hb9
        obtain ⟨l5, l6⟩ := hm3.lt
        replace f0 := cell_later hb9 f0
        replace f1 := cell_later hb9 f1
        replace f2 := cell_later hb9 f2
        replace x0 := cell_later hb9 x0
        replace x1 := cell_later hb9 x1
        rw [HOS.out] at hm3
        clear hb9 hA8
        go_wp2_with fail
        refine (add_sub b2 q2 b1 q1 A B ns ms _ hm2 hm1 g2 hgood hbq2 (by omega) (by omega) S2.out).mono ?_
        rintro e w10 ⟨rfl, hm2', hg10⟩
        replace hm1 := hm1.kept hg10 (by simp; omega) (by simp; omega)
        replace hm3 := hm3.kept hg10 (by simp; omega) (by simp; omega)
        replace f0 := hg10.cell f0 (by simp; omega)
        replace f1 := hg10.cell f1 (by simp; omega)
        replace f2 := hg10.cell f2 (by simp; omega)
        replace x0 := hg10.cell x0 (by simp; omega)
        replace x1 := hg10.cell x1 (by simp; omega)
        have hA10 := hA9.grown hg10 hA9.size (fun j e => by cases e; omega)
        clear hA9 hg10 hm2 S2
        go_wp2_with fail
        refine (add_sub b3 q3 b1 q1 A B os ms _ hm3 hm1 g3 hgood hbq3 (by omega) (by omega) S3.out).mono ?_
        rintro e w11 ⟨rfl, hm3', hg11⟩
        replace hm1 := hm1.kept hg11 (by simp; omega) (by simp; omega)
        replace f0 := hg11.cell f0 (by simp; omega)
        replace f1 := hg11.cell f1 (by simp; omega)
        replace f2 := hg11.cell f2 (by simp; omega)
        replace x0 := hg11.cell x0 (by simp; omega)
        replace x1 := hg11.cell x1 (by simp; omega)
        have hA11 := hA10.grown hg11 hA10.size (fun j e => by cases e; omega)
        clear hA10 hg11 hm3 hm3' hm2' S3
        cases zs with
        | nil =>
          go_wp2_with fail
          refine (awake_any _).mono ?_
          rintro e w12 ⟨rfl, hb12⟩
          have hA12 := bl_tr hA11 hb12
          clear hA11 hb12
          go_wp2
          go_ret
          exact ⟨rfl, hA12⟩
        | cons z0 zr =>
          obtain ⟨g3', o3, rfl, _⟩ := hz.cell (k := 0) (by simp)
          obtain ⟨L, hL⟩ : ∃ L, (z0 :: zr).length = L := ⟨_, rfl⟩
          have hzr : zr.length = L - 1 := by rw [← hL]; simp
          rw [hL] at x0 hl hcap hl2
          rw [hL]
          have HZR := Lib.hid hzr
          have HLL := Lib.hid hL
          have hl0 : (0 : Int) < (L : Int) := by simp at hL; omega
          have hl1 : (1 : Int) ≤ (L : Int) := by omega
          clear hL hzr
          go_upto_region 24 with fail
          refine (wpIn_wide (n := 11)).1 ?_
          have hD := bl_dr (bl0 w11)
          refine ordS_begin (S := (fun w' : World => w'.cell? ⟨w.heap.size, 0, none⟩ = some (.int .i64 A) ∧ w'.cell? ⟨w.heap.size, 1, none⟩ = some (.int .i64 B) ∧ w'.cell? ⟨w.heap.size, 2, none⟩ = some (.slice (some ⟨gb, go, none⟩) fs.length c) ∧ w'.cell? ⟨w.heap.size + 1, 0, none⟩ = some (.slice (some ⟨g3', o3, none⟩) L c3) ∧ w'.cell? ⟨w.heap.size + 1, 1, none⟩ = some (.int .i64 r))) (by kernel_rfl) ⟨cell_later hD f0, cell_later hD f1, cell_later hD f2, cell_later hD x0, cell_later hD x1⟩ (fun hH => ?_)
          first
            | (refine' ordS_take (i := 0) (oi := { dst := some 150, op := Op.load 26 (Operand.tmp 3), type := 26, pos := _, after := #[], guard := none }) (v := _) rfl (by kernel_rfl) (by kernel_rfl) (by kernel_rfl) (by kernel_rfl) (fun _ _ _ h => h) (by assumption) (Or.inl ⟨by rfl, ?hy41⟩) (fun _ => rfl) ?rest41
               case hy41 => (intro w hSw; (try dsimp only at hSw); go_simp; try with_reducible rfl))
            | (refine ordS_take (i := 0) (oi := { dst := some 150, op := Op.load 26 (Operand.tmp 3), type := 26, pos := _, after := #[], guard := none }) (v := undef) rfl (by kernel_rfl) (by kernel_rfl) (by kernel_rfl) (by kernel_rfl) (fun _ _ _ h => h) (by assumption) (Or.inr ⟨by rfl, rfl⟩) (fun _ => rfl) ?_)
          try simp only [Act.put, List.setIfInBounds_toArray, List.set_cons_zero, List.set_cons_succ]
          first
            | (refine' ordS_take (i := 1) (oi := { dst := some 151, op := Op.fieldAddr 45 (Operand.tmp 4) 0, type := 0, pos := _, after := #[], guard := none }) (v := _) rfl (by kernel_rfl) (by kernel_rfl) (by kernel_rfl) (by kernel_rfl) (fun _ _ _ h => h) (by assumption) (Or.inl ⟨by rfl, ?hy42⟩) (fun _ => rfl) ?rest42
               case hy42 => (intro w hSw; (try dsimp only at hSw); go_simp; try with_reducible rfl))
            | (refine ordS_take (i := 1) (oi := { dst := some 151, op := Op.fieldAddr 45 (Operand.tmp 4) 0, type := 0, pos := _, after := #[], guard := none }) (v := undef) rfl (by kernel_rfl) (by kernel_rfl) (by kernel_rfl) (by kernel_rfl) (fun _ _ _ h => h) (by assumption) (Or.inr ⟨by rfl, rfl⟩) (fun _ => rfl) ?_)
          try simp only [Act.put, List.setIfInBounds_toArray, List.set_cons_zero, List.set_cons_succ]
          first
            | (refine' ordS_take (i := 2) (oi := { dst := some 152, op := Op.load 27 (Operand.tmp 151), type := 27, pos := _, after := #[{ on := 1, ground := Ground.data }], guard := none }) (v := _) rfl (by kernel_rfl) (by kernel_rfl) (by kernel_rfl) (by kernel_rfl) (fun _ _ _ h => h) (by assumption) (Or.inl ⟨by rfl, ?hy43⟩) (fun _ => rfl) ?rest43
               case hy43 => (intro w hSw; (try dsimp only at hSw); go_simp; try with_reducible rfl))
            | (refine ordS_take (i := 2) (oi := { dst := some 152, op := Op.load 27 (Operand.tmp 151), type := 27, pos := _, after := #[{ on := 1, ground := Ground.data }], guard := none }) (v := undef) rfl (by kernel_rfl) (by kernel_rfl) (by kernel_rfl) (by kernel_rfl) (fun _ _ _ h => h) (by assumption) (Or.inr ⟨by rfl, rfl⟩) (fun _ => rfl) ?_)
          try simp only [Act.put, List.setIfInBounds_toArray, List.set_cons_zero, List.set_cons_succ]
          first
            | (refine' ordS_take (i := 4) (oi := { dst := some 154, op := Op.fieldAddr 45 (Operand.tmp 4) 1, type := 0, pos := _, after := #[], guard := none }) (v := _) rfl (by kernel_rfl) (by kernel_rfl) (by kernel_rfl) (by kernel_rfl) (fun _ _ _ h => h) (by assumption) (Or.inl ⟨by rfl, ?hy44⟩) (fun _ => rfl) ?rest44
               case hy44 => (intro w hSw; (try dsimp only at hSw); go_simp; try with_reducible rfl))
            | (refine ordS_take (i := 4) (oi := { dst := some 154, op := Op.fieldAddr 45 (Operand.tmp 4) 1, type := 0, pos := _, after := #[], guard := none }) (v := undef) rfl (by kernel_rfl) (by kernel_rfl) (by kernel_rfl) (by kernel_rfl) (fun _ _ _ h => h) (by assumption) (Or.inr ⟨by rfl, rfl⟩) (fun _ => rfl) ?_)
          try simp only [Act.put, List.setIfInBounds_toArray, List.set_cons_zero, List.set_cons_succ]
          first
            | (refine' ordS_take (i := 5) (oi := { dst := some 155, op := Op.load 3 (Operand.tmp 154), type := 3, pos := _, after := #[{ on := 4, ground := Ground.data }], guard := none }) (v := _) rfl (by kernel_rfl) (by kernel_rfl) (by kernel_rfl) (by kernel_rfl) (fun _ _ _ h => h) (by assumption) (Or.inl ⟨by rfl, ?hy45⟩) (fun _ => rfl) ?rest45
               case hy45 => (intro w hSw; (try dsimp only at hSw); go_simp; try with_reducible rfl))
            | (refine ordS_take (i := 5) (oi := { dst := some 155, op := Op.load 3 (Operand.tmp 154), type := 3, pos := _, after := #[{ on := 4, ground := Ground.data }], guard := none }) (v := undef) rfl (by kernel_rfl) (by kernel_rfl) (by kernel_rfl) (by kernel_rfl) (fun _ _ _ h => h) (by assumption) (Or.inr ⟨by rfl, rfl⟩) (fun _ => rfl) ?_)
          try simp only [Act.put, List.setIfInBounds_toArray, List.set_cons_zero, List.set_cons_succ]
          refine ordS_one (i := 3) (o := { dst := some 153, op := Op.slice 27 (Operand.tmp 152) (some (Operand.const (Value.int IntKind.i64 1))) none none, type := 27, pos := _, after := #[{ on := 2, ground := Ground.data }], guard := none }) (by kernel_rfl) rfl (by rfl) (fun K hK => ?_)
          go_simp
          refine hK _ _ hH ?_
          clear hK K
          try simp only [Act.put, List.setIfInBounds_toArray, List.set_cons_zero, List.set_cons_succ]
          refine ordS_one (i := 6) (o := { dst := some 156, op := Op.call { callee := Callee.value (Operand.func 16), args := #[Operand.tmp 150, Operand.tmp 153, Operand.tmp 155], argTypes := #[26, 27, 3] }, type := 32, pos := _, after := #[{ on := 0, ground := Ground.data }, { on := 3, ground := Ground.data }, { on := 5, ground := Ground.data }], guard := none }) (by kernel_rfl) rfl (by rfl) (fun K hK => ?_)
          go_simp
          have htail := rowC_tail hz (Nat.le_trans (by rw [HLL.out]; exact Nat.le_refl _) hcap)
          have HSUB := Lib.hid (fun d (h : inM A B (allB A B fs r zr) d = true) => (show inM A B ms d = true by rw [← HMS.out]; exact sees_tail (zs := z0 :: zr) hmay hin hp0 hp1 d h))
          have hin' : ∀ z ∈ zr, inB A B z.1 z.2 = true := fun z hz => hin z (by simp [hz])
          have g4 := allB_good (r := r) (fs := fs) hmay hin'
          generalize (if c3 = 1 then (some ⟨g3', o3, none⟩ : Option Addr) else some ⟨g3', o3 + 2, none⟩) = ta at htail ⊢
          have hAD := bl_tr hA11 hD
          have hcall := sall_yes A B r (some ⟨gb, go, none⟩) ta c (c3 - 1) fs zr w11.drew (hr.below hAD) (htail.below hAD) (by rw [HZR.out]; omega) (errA_tail H5.out)
          rw [HZR.out] at hcall
          refine ⟨trivial, (callsIn_wide.2 hcall).mono ?_⟩
          clear hcall htail
          rintro e w12 ⟨b4, q4, rfl, hm4, hb4, hq4, hbq4, hb12⟩
          have zW2 := hAD.size
          have zw11 := hm1.lt
          have hdz : w11.drew.heap.size = w11.heap.size := rfl
          have hb12' := bl_tr hD hb12
          have hm1' := hm1.below hb12'
          have hS12 : (fun w' : World => w'.cell? ⟨w.heap.size, 0, none⟩ = some (.int .i64 A) ∧ w'.cell? ⟨w.heap.size, 1, none⟩ = some (.int .i64 B) ∧ w'.cell? ⟨w.heap.size, 2, none⟩ = some (.slice (some ⟨gb, go, none⟩) fs.length c) ∧ w'.cell? ⟨w.heap.size + 1, 0, none⟩ = some (.slice (some ⟨g3', o3, none⟩) L c3) ∧ w'.cell? ⟨w.heap.size + 1, 1, none⟩ = some (.int .i64 r)) w12 := ⟨cell_later hb12' f0, cell_later hb12' f1, cell_later hb12' f2, cell_later hb12' x0, cell_later hb12' x1⟩
          have hA12 := bl_tr hA11 hb12'
          refine hK _ _ hS12 ?_
          clear hK K
          try simp only [Act.put, List.setIfInBounds_toArray, List.set_cons_zero, List.set_cons_succ]
          first
            | (refine' ordS_take (i := 7) (oi := { dst := some 149, op := Op.move (Operand.tmp 156), type := 32, pos := _, after := #[{ on := 6, ground := Ground.data }], guard := none }) (v := _) rfl (by kernel_rfl) (by kernel_rfl) (by kernel_rfl) (by kernel_rfl) (fun _ _ _ h => h) (by assumption) (Or.inl ⟨by rfl, ?hy46⟩) (fun _ => rfl) ?rest46
               case hy46 => (intro w hSw; (try dsimp only at hSw); go_simp; try with_reducible rfl))
            | (refine ordS_take (i := 7) (oi := { dst := some 149, op := Op.move (Operand.tmp 156), type := 32, pos := _, after := #[{ on := 6, ground := Ground.data }], guard := none }) (v := undef) rfl (by kernel_rfl) (by kernel_rfl) (by kernel_rfl) (by kernel_rfl) (fun _ _ _ h => h) (by assumption) (Or.inr ⟨by rfl, rfl⟩) (fun _ => rfl) ?_)
          try simp only [Act.put, List.setIfInBounds_toArray, List.set_cons_zero, List.set_cons_succ]
          first
            | (refine' ordS_take (i := 8) (oi := { dst := some 157, op := Op.extract (Operand.tmp 149) 0, type := 30, pos := _, after := #[{ on := 7, ground := Ground.data }], guard := none }) (v := _) rfl (by kernel_rfl) (by kernel_rfl) (by kernel_rfl) (by kernel_rfl) (fun _ _ _ h => h) (by assumption) (Or.inl ⟨by rfl, ?hy47⟩) (fun _ => rfl) ?rest47
               case hy47 => (intro w hSw; (try dsimp only at hSw); go_simp; try with_reducible rfl))
            | (refine ordS_take (i := 8) (oi := { dst := some 157, op := Op.extract (Operand.tmp 149) 0, type := 30, pos := _, after := #[{ on := 7, ground := Ground.data }], guard := none }) (v := undef) rfl (by kernel_rfl) (by kernel_rfl) (by kernel_rfl) (by kernel_rfl) (fun _ _ _ h => h) (by assumption) (Or.inr ⟨by rfl, rfl⟩) (fun _ => rfl) ?_)
          try simp only [Act.put, List.setIfInBounds_toArray, List.set_cons_zero, List.set_cons_succ]
          first
            | (refine' ordS_take (i := 9) (oi := { dst := some 158, op := Op.extract (Operand.tmp 149) 1, type := 31, pos := _, after := #[{ on := 7, ground := Ground.data }, { on := 10, ground := Ground.gcOnly Departure.lateStores }], guard := none }) (v := _) rfl (by kernel_rfl) (by kernel_rfl) (by kernel_rfl) (by kernel_rfl) (fun _ _ _ h => h) (by assumption) (Or.inl ⟨by rfl, ?hy48⟩) (fun _ => rfl) ?rest48
               case hy48 => (intro w hSw; (try dsimp only at hSw); go_simp; try with_reducible rfl))
            | (refine ordS_take (i := 9) (oi := { dst := some 158, op := Op.extract (Operand.tmp 149) 1, type := 31, pos := _, after := #[{ on := 7, ground := Ground.data }, { on := 10, ground := Ground.gcOnly Departure.lateStores }], guard := none }) (v := undef) rfl (by kernel_rfl) (by kernel_rfl) (by kernel_rfl) (by kernel_rfl) (fun _ _ _ h => h) (by assumption) (Or.inr ⟨by rfl, rfl⟩) (fun _ => rfl) ?_)
          try simp only [Act.put, List.setIfInBounds_toArray, List.set_cons_zero, List.set_cons_succ]
          first
            | (refine' ordS_take (i := 10) (oi := { dst := some 18, op := Op.assign (Operand.tmp 157), type := 30, pos := _, after := #[{ on := 8, ground := Ground.data }, { on := 6, ground := Ground.chain }, { on := 0, ground := Ground.phase }, { on := 1, ground := Ground.phase }, { on := 2, ground := Ground.phase }, { on := 3, ground := Ground.phase }, { on := 4, ground := Ground.phase }, { on := 5, ground := Ground.phase }, { on := 6, ground := Ground.phase }, { on := 7, ground := Ground.phase }, { on := 8, ground := Ground.phase }, { on := 9, ground := Ground.textOnly Departure.lateStores }], guard := none }) (v := _) rfl (by kernel_rfl) (by kernel_rfl) (by kernel_rfl) (by kernel_rfl) (fun _ _ _ h => h) (by assumption) (Or.inl ⟨by rfl, ?hy49⟩) (fun _ => rfl) ?rest49
               case hy49 => (intro w hSw; (try dsimp only at hSw); go_simp; try with_reducible rfl))
            | (refine ordS_take (i := 10) (oi := { dst := some 18, op := Op.assign (Operand.tmp 157), type := 30, pos := _, after := #[{ on := 8, ground := Ground.data }, { on := 6, ground := Ground.chain }, { on := 0, ground := Ground.phase }, { on := 1, ground := Ground.phase }, { on := 2, ground := Ground.phase }, { on := 3, ground := Ground.phase }, { on := 4, ground := Ground.phase }, { on := 5, ground := Ground.phase }, { on := 6, ground := Ground.phase }, { on := 7, ground := Ground.phase }, { on := 8, ground := Ground.phase }, { on := 9, ground := Ground.textOnly Departure.lateStores }], guard := none }) (v := undef) rfl (by kernel_rfl) (by kernel_rfl) (by kernel_rfl) (by kernel_rfl) (fun _ _ _ h => h) (by assumption) (Or.inr ⟨by rfl, rfl⟩) (fun _ => rfl) ?_)
          try simp only [Act.put, List.setIfInBounds_toArray, List.set_cons_zero, List.set_cons_succ]
          first
            | (refine' ordS_take (i := 11) (oi := { dst := some 19, op := Op.assign (Operand.tmp 158), type := 31, pos := _, after := #[{ on := 9, ground := Ground.data }, { on := 10, ground := Ground.chain }, { on := 0, ground := Ground.phase }, { on := 1, ground := Ground.phase }, { on := 2, ground := Ground.phase }, { on := 3, ground := Ground.phase }, { on := 4, ground := Ground.phase }, { on := 5, ground := Ground.phase }, { on := 6, ground := Ground.phase }, { on := 7, ground := Ground.phase }, { on := 8, ground := Ground.phase }, { on := 9, ground := Ground.phase }, { on := 10, ground := Ground.phase }], guard := none }) (v := _) rfl (by kernel_rfl) (by kernel_rfl) (by kernel_rfl) (by kernel_rfl) (fun _ _ _ h => h) (by assumption) (Or.inl ⟨by rfl, ?hy50⟩) (fun _ => rfl) ?rest50
               case hy50 => (intro w hSw; (try dsimp only at hSw); go_simp; try with_reducible rfl))
            | (refine ordS_take (i := 11) (oi := { dst := some 19, op := Op.assign (Operand.tmp 158), type := 31, pos := _, after := #[{ on := 9, ground := Ground.data }, { on := 10, ground := Ground.chain }, { on := 0, ground := Ground.phase }, { on := 1, ground := Ground.phase }, { on := 2, ground := Ground.phase }, { on := 3, ground := Ground.phase }, { on := 4, ground := Ground.phase }, { on := 5, ground := Ground.phase }, { on := 6, ground := Ground.phase }, { on := 7, ground := Ground.phase }, { on := 8, ground := Ground.phase }, { on := 9, ground := Ground.phase }, { on := 10, ground := Ground.phase }], guard := none }) (v := undef) rfl (by kernel_rfl) (by kernel_rfl) (by kernel_rfl) (by kernel_rfl) (fun _ _ _ h => h) (by assumption) (Or.inr ⟨by rfl, rfl⟩) (fun _ => rfl) ?_)
          try simp only [Act.put, List.setIfInBounds_toArray, List.set_cons_zero, List.set_cons_succ]
          refine ordS_done (by kernel_rfl) ?_
          obtain ⟨lss, hlss⟩ : ∃ lss, allB A B fs r zr = lss := ⟨_, rfl⟩
          rw [hlss] at HSUB g4 hm4
          clear hS12 hb12 hb12' hA11 hD hH hlss hm1 hAD f0 f1 f2 x0 x1
          go_wp2_with fail
          refine (add_sub b1 q1 b4 q4 A B ms lss _ hm1' hm4 hgood g4 hbq1 (by omega) (by omega) HSUB.out).mono ?_
          rintro e w13 ⟨rfl, hm13, hg13⟩
          have hA13 := hA12.grown hg13 hA12.size (fun j e => by cases e; omega)
          clear hg13 hA12 hm4 hm13 hm1'
          go_wp2_with fail
          refine (awake_any _).mono ?_
          rintro e w14 ⟨rfl, hb14⟩
          have hA14 := bl_tr hA13 hb14
          clear hA13 hb14
          go_wp2
          go_ret
          exact ⟨rfl, hA14⟩
      ·
        have E1 := Lib.hid (show errA A B fs.length _ zs = 0 from HE1.out)
        clear HE1
        go_wp2_with fail
        have hcall := sall_yes A B r (some ⟨g, 0, none⟩) a3 cp c3 hs zs W9 hrowW (hz.below hAW) (by omega) (by rw [HHL.out]; exact H5.out)
        rw [HHL.out] at hcall
        refine hcall.mono ?_
        clear hcall
        rintro e w8 ⟨b2, q2, rfl, hm2, hb2, hq2, hbq2, hb8⟩
        have zW := hAW.size
        have hA8 := bl_tr hAW hb8
        have hm1 := hmW.below hb8
        obtain ⟨l1, l2⟩ := hmW.lt
        obtain ⟨l3, l4⟩ := hm2.lt
        replace f0 := cell_later hb8 f0
        replace f1 := cell_later hb8 f1
        replace f2 := cell_later hb8 f2
        replace x0 := cell_later hb8 x0
        replace x1 := cell_later hb8 x1
        have zf0 := blk_lt f0
        have zx0 := blk_lt x0
        have g2 := allB_good (r := r) (fs := hs) hmay hin
        have S2 := Lib.hid (fun c (h : inM A B ms c = true) => sees_wide (gs := hs) hmay hin hp0 (Int.le_refl r) hp1 HLESS.out c (by rw [HMS.out]; exact h))
        obtain ⟨ns, hns⟩ : ∃ ns, allB A B hs r zs = ns := ⟨_, rfl⟩
        rw [hns] at hm2 g2 S2
        clear hb8 hmW hrowW k0 k1 k2 hns
        go_wp2_with fail
        refine (sall_yes A B _ (some ⟨gb, go, none⟩) a3 c c3 fs zs _ (hr.below hA8) (hz.below hA8) (by omega) E1.out).mono ?_
        rintro e w9 ⟨b3, q3, rfl, hm3, hb3, hq3, hbq3, hb9⟩
        have hA9 := bl_tr hA8 hb9
        replace hm1 := hm1.below hb9
        replace hm2 := hm2.below hb9
        obtain ⟨l5, l6⟩ := hm3.lt
        replace f0 := cell_later hb9 f0
        replace f1 := cell_later hb9 f1
        replace f2 := cell_later hb9 f2
        replace x0 := cell_later hb9 x0
        replace x1 := cell_later hb9 x1
        rw [HOS.out] at hm3
        clear hb9 hA8
        go_wp2_with fail
        refine (add_sub b2 q2 b1 q1 A B ns ms _ hm2 hm1 g2 hgood hbq2 (by omega) (by omega) S2.out).mono ?_
        rintro e w10 ⟨rfl, hm2', hg10⟩
        replace hm1 := hm1.kept hg10 (by simp; omega) (by simp; omega)
        replace hm3 := hm3.kept hg10 (by simp; omega) (by simp; omega)
        replace f0 := hg10.cell f0 (by simp; omega)
        replace f1 := hg10.cell f1 (by simp; omega)
        replace f2 := hg10.cell f2 (by simp; omega)
        replace x0 := hg10.cell x0 (by simp; omega)
        replace x1 := hg10.cell x1 (by simp; omega)
        have hA10 := hA9.grown hg10 hA9.size (fun j e => by cases e; omega)
        clear hA9 hg10 hm2 S2
        go_wp2_with fail
        refine (add_sub b3 q3 b1 q1 A B os ms _ hm3 hm1 g3 hgood hbq3 (by omega) (by omega) S3.out).mono ?_
        rintro e w11 ⟨rfl, hm3', hg11⟩
        replace hm1 := hm1.kept hg11 (by simp; omega) (by simp; omega)
        replace f0 := hg11.cell f0 (by simp; omega)
        replace f1 := hg11.cell f1 (by simp; omega)
        replace f2 := hg11.cell f2 (by simp; omega)
        replace x0 := hg11.cell x0 (by simp; omega)
        replace x1 := hg11.cell x1 (by simp; omega)
        have hA11 := hA10.grown hg11 hA10.size (fun j e => by cases e; omega)
        clear hA10 hg11 hm3 hm3' hm2' S3
        cases zs with
        | nil =>
          go_wp2_with fail
          refine (awake_any _).mono ?_
          rintro e w12 ⟨rfl, hb12⟩
          have hA12 := bl_tr hA11 hb12
          clear hA11 hb12
          go_wp2
          go_ret
          exact ⟨rfl, hA12⟩
        | cons z0 zr =>
          obtain ⟨g3', o3, rfl, _⟩ := hz.cell (k := 0) (by simp)
          obtain ⟨L, hL⟩ : ∃ L, (z0 :: zr).length = L := ⟨_, rfl⟩
          have hzr : zr.length = L - 1 := by rw [← hL]; simp
          rw [hL] at x0 hl hcap hl2
          rw [hL]
          have HZR := Lib.hid hzr
          have HLL := Lib.hid hL
          have hl0 : (0 : Int) < (L : Int) := by simp at hL; omega
          have hl1 : (1 : Int) ≤ (L : Int) := by omega
          clear hL hzr
          go_upto_region 24 with fail
          refine (wpIn_wide (n := 11)).1 ?_
          have hD := bl_dr (bl0 w11)
          refine ordS_begin (S := (fun w' : World => w'.cell? ⟨w.heap.size, 0, none⟩ = some (.int .i64 A) ∧ w'.cell? ⟨w.heap.size, 1, none⟩ = some (.int .i64 B) ∧ w'.cell? ⟨w.heap.size, 2, none⟩ = some (.slice (some ⟨gb, go, none⟩) fs.length c) ∧ w'.cell? ⟨w.heap.size + 1, 0, none⟩ = some (.slice (some ⟨g3', o3, none⟩) L c3) ∧ w'.cell? ⟨w.heap.size + 1, 1, none⟩ = some (.int .i64 r))) (by kernel_rfl) ⟨cell_later hD f0, cell_later hD f1, cell_later hD f2, cell_later hD x0, cell_later hD x1⟩ (fun hH => ?_)
          first
            | (refine' ordS_take (i := 0) (oi := { dst := some 150, op := Op.load 26 (Operand.tmp 3), type := 26, pos := _, after := #[], guard := none }) (v := _) rfl (by kernel_rfl) (by kernel_rfl) (by kernel_rfl) (by kernel_rfl) (fun _ _ _ h => h) (by assumption) (Or.inl ⟨by rfl, ?hy51⟩) (fun _ => rfl) ?rest51
               case hy51 => (intro w hSw; (try dsimp only at hSw); go_simp; try with_reducible rfl))
            | (refine ordS_take (i := 0) (oi := { dst := some 150, op := Op.load 26 (Operand.tmp 3), type := 26, pos := _, after := #[], guard := none }) (v := undef) rfl (by kernel_rfl) (by kernel_rfl) (by kernel_rfl) (by kernel_rfl) (fun _ _ _ h => h) (by assumption) (Or.inr ⟨by rfl, rfl⟩) (fun _ => rfl) ?_)
          try simp only [Act.put, List.setIfInBounds_toArray, List.set_cons_zero, List.set_cons_succ]
          first
            | (refine' ordS_take (i := 1) (oi := { dst := some 151, op := Op.fieldAddr 45 (Operand.tmp 4) 0, type := 0, pos := _, after := #[], guard := none }) (v := _) rfl (by kernel_rfl) (by kernel_rfl) (by kernel_rfl) (by kernel_rfl) (fun _ _ _ h => h) (by assumption) (Or.inl ⟨by rfl, ?hy52⟩) (fun _ => rfl) ?rest52
               case hy52 => (intro w hSw; (try dsimp only at hSw); go_simp; try with_reducible rfl))
            | (refine ordS_take (i := 1) (oi := { dst := some 151, op := Op.fieldAddr 45 (Operand.tmp 4) 0, type := 0, pos := _, after := #[], guard := none }) (v := undef) rfl (by kernel_rfl) (by kernel_rfl) (by kernel_rfl) (by kernel_rfl) (fun _ _ _ h => h) (by assumption) (Or.inr ⟨by rfl, rfl⟩) (fun _ => rfl) ?_)
          try simp only [Act.put, List.setIfInBounds_toArray, List.set_cons_zero, List.set_cons_succ]
          first
            | (refine' ordS_take (i := 2) (oi := { dst := some 152, op := Op.load 27 (Operand.tmp 151), type := 27, pos := _, after := #[{ on := 1, ground := Ground.data }], guard := none }) (v := _) rfl (by kernel_rfl) (by kernel_rfl) (by kernel_rfl) (by kernel_rfl) (fun _ _ _ h => h) (by assumption) (Or.inl ⟨by rfl, ?hy53⟩) (fun _ => rfl) ?rest53
               case hy53 => (intro w hSw; (try dsimp only at hSw); go_simp; try with_reducible rfl))
            | (refine ordS_take (i := 2) (oi := { dst := some 152, op := Op.load 27 (Operand.tmp 151), type := 27, pos := _, after := #[{ on := 1, ground := Ground.data }], guard := none }) (v := undef) rfl (by kernel_rfl) (by kernel_rfl) (by kernel_rfl) (by kernel_rfl) (fun _ _ _ h => h) (by assumption) (Or.inr ⟨by rfl, rfl⟩) (fun _ => rfl) ?_)
          try simp only [Act.put, List.setIfInBounds_toArray, List.set_cons_zero, List.set_cons_succ]
          first
            | (refine' ordS_take (i := 4) (oi := { dst := some 154, op := Op.fieldAddr 45 (Operand.tmp 4) 1, type := 0, pos := _, after := #[], guard := none }) (v := _) rfl (by kernel_rfl) (by kernel_rfl) (by kernel_rfl) (by kernel_rfl) (fun _ _ _ h => h) (by assumption) (Or.inl ⟨by rfl, ?hy54⟩) (fun _ => rfl) ?rest54
               case hy54 => (intro w hSw; (try dsimp only at hSw); go_simp; try with_reducible rfl))
            | (refine ordS_take (i := 4) (oi := { dst := some 154, op := Op.fieldAddr 45 (Operand.tmp 4) 1, type := 0, pos := _, after := #[], guard := none }) (v := undef) rfl (by kernel_rfl) (by kernel_rfl) (by kernel_rfl) (by kernel_rfl) (fun _ _ _ h => h) (by assumption) (Or.inr ⟨by rfl, rfl⟩) (fun _ => rfl) ?_)
          try simp only [Act.put, List.setIfInBounds_toArray, List.set_cons_zero, List.set_cons_succ]
          first
            | (refine' ordS_take (i := 5) (oi := { dst := some 155, op := Op.load 3 (Operand.tmp 154), type := 3, pos := _, after := #[{ on := 4, ground := Ground.data }], guard := none }) (v := _) rfl (by kernel_rfl) (by kernel_rfl) (by kernel_rfl) (by kernel_rfl) (fun _ _ _ h => h) (by assumption) (Or.inl ⟨by rfl, ?hy55⟩) (fun _ => rfl) ?rest55
               case hy55 => (intro w hSw; (try dsimp only at hSw); go_simp; try with_reducible rfl))
            | (refine ordS_take (i := 5) (oi := { dst := some 155, op := Op.load 3 (Operand.tmp 154), type := 3, pos := _, after := #[{ on := 4, ground := Ground.data }], guard := none }) (v := undef) rfl (by kernel_rfl) (by kernel_rfl) (by kernel_rfl) (by kernel_rfl) (fun _ _ _ h => h) (by assumption) (Or.inr ⟨by rfl, rfl⟩) (fun _ => rfl) ?_)
          try simp only [Act.put, List.setIfInBounds_toArray, List.set_cons_zero, List.set_cons_succ]
          refine ordS_one (i := 3) (o := { dst := some 153, op := Op.slice 27 (Operand.tmp 152) (some (Operand.const (Value.int IntKind.i64 1))) none none, type := 27, pos := _, after := #[{ on := 2, ground := Ground.data }], guard := none }) (by kernel_rfl) rfl (by rfl) (fun K hK => ?_)
          go_simp
          refine hK _ _ hH ?_
          clear hK K
          try simp only [Act.put, List.setIfInBounds_toArray, List.set_cons_zero, List.set_cons_succ]
          refine ordS_one (i := 6) (o := { dst := some 156, op := Op.call { callee := Callee.value (Operand.func 16), args := #[Operand.tmp 150, Operand.tmp 153, Operand.tmp 155], argTypes := #[26, 27, 3] }, type := 32, pos := _, after := #[{ on := 0, ground := Ground.data }, { on := 3, ground := Ground.data }, { on := 5, ground := Ground.data }], guard := none }) (by kernel_rfl) rfl (by rfl) (fun K hK => ?_)
          go_simp
          have htail := rowC_tail hz (Nat.le_trans (by rw [HLL.out]; exact Nat.le_refl _) hcap)
          have HSUB := Lib.hid (fun d (h : inM A B (allB A B fs r zr) d = true) => (show inM A B ms d = true by rw [← HMS.out]; exact sees_tail (zs := z0 :: zr) hmay hin hp0 hp1 d h))
          have hin' : ∀ z ∈ zr, inB A B z.1 z.2 = true := fun z hz => hin z (by simp [hz])
          have g4 := allB_good (r := r) (fs := fs) hmay hin'
          generalize (if c3 = 1 then (some ⟨g3', o3, none⟩ : Option Addr) else some ⟨g3', o3 + 2, none⟩) = ta at htail ⊢
          have hAD := bl_tr hA11 hD
          have hcall := sall_yes A B r (some ⟨gb, go, none⟩) ta c (c3 - 1) fs zr w11.drew (hr.below hAD) (htail.below hAD) (by rw [HZR.out]; omega) (errA_tail H5.out)
          rw [HZR.out] at hcall
          refine ⟨trivial, (callsIn_wide.2 hcall).mono ?_⟩
          clear hcall htail
          rintro e w12 ⟨b4, q4, rfl, hm4, hb4, hq4, hbq4, hb12⟩
          have zW2 := hAD.size
          have zw11 := hm1.lt
          have hdz : w11.drew.heap.size = w11.heap.size := rfl
          have hb12' := bl_tr hD hb12
          have hm1' := hm1.below hb12'
          have hS12 : (fun w' : World => w'.cell? ⟨w.heap.size, 0, none⟩ = some (.int .i64 A) ∧ w'.cell? ⟨w.heap.size, 1, none⟩ = some (.int .i64 B) ∧ w'.cell? ⟨w.heap.size, 2, none⟩ = some (.slice (some ⟨gb, go, none⟩) fs.length c) ∧ w'.cell? ⟨w.heap.size + 1, 0, none⟩ = some (.slice (some ⟨g3', o3, none⟩) L c3) ∧ w'.cell? ⟨w.heap.size + 1, 1, none⟩ = some (.int .i64 r)) w12 := ⟨cell_later hb12' f0, cell_later hb12' f1, cell_later hb12' f2, cell_later hb12' x0, cell_later hb12' x1⟩
          have hA12 := bl_tr hA11 hb12'
          refine hK _ _ hS12 ?_
          clear hK K
          try simp only [Act.put, List.setIfInBounds_toArray, List.set_cons_zero, List.set_cons_succ]
          first
            | (refine' ordS_take (i := 7) (oi := { dst := some 149, op := Op.move (Operand.tmp 156), type := 32, pos := _, after := #[{ on := 6, ground := Ground.data }], guard := none }) (v := _) rfl (by kernel_rfl) (by kernel_rfl) (by kernel_rfl) (by kernel_rfl) (fun _ _ _ h => h) (by assumption) (Or.inl ⟨by rfl, ?hy56⟩) (fun _ => rfl) ?rest56
               case hy56 => (intro w hSw; (try dsimp only at hSw); go_simp; try with_reducible rfl))
            | (refine ordS_take (i := 7) (oi := { dst := some 149, op := Op.move (Operand.tmp 156), type := 32, pos := _, after := #[{ on := 6, ground := Ground.data }], guard := none }) (v := undef) rfl (by kernel_rfl) (by kernel_rfl) (by kernel_rfl) (by kernel_rfl) (fun _ _ _ h => h) (by assumption) (Or.inr ⟨by rfl, rfl⟩) (fun _ => rfl) ?_)
          try simp only [Act.put, List.setIfInBounds_toArray, List.set_cons_zero, List.set_cons_succ]
          first
            | (refine' ordS_take (i := 8) (oi := { dst := some 157, op := Op.extract (Operand.tmp 149) 0, type := 30, pos := _, after := #[{ on := 7, ground := Ground.data }], guard := none }) (v := _) rfl (by kernel_rfl) (by kernel_rfl) (by kernel_rfl) (by kernel_rfl) (fun _ _ _ h => h) (by assumption) (Or.inl ⟨by rfl, ?hy57⟩) (fun _ => rfl) ?rest57
               case hy57 => (intro w hSw; (try dsimp only at hSw); go_simp; try with_reducible rfl))
            | (refine ordS_take (i := 8) (oi := { dst := some 157, op := Op.extract (Operand.tmp 149) 0, type := 30, pos := _, after := #[{ on := 7, ground := Ground.data }], guard := none }) (v := undef) rfl (by kernel_rfl) (by kernel_rfl) (by kernel_rfl) (by kernel_rfl) (fun _ _ _ h => h) (by assumption) (Or.inr ⟨by rfl, rfl⟩) (fun _ => rfl) ?_)
          try simp only [Act.put, List.setIfInBounds_toArray, List.set_cons_zero, List.set_cons_succ]
          first
            | (refine' ordS_take (i := 9) (oi := { dst := some 158, op := Op.extract (Operand.tmp 149) 1, type := 31, pos := _, after := #[{ on := 7, ground := Ground.data }, { on := 10, ground := Ground.gcOnly Departure.lateStores }], guard := none }) (v := _) rfl (by kernel_rfl) (by kernel_rfl) (by kernel_rfl) (by kernel_rfl) (fun _ _ _ h => h) (by assumption) (Or.inl ⟨by rfl, ?hy58⟩) (fun _ => rfl) ?rest58
               case hy58 => (intro w hSw; (try dsimp only at hSw); go_simp; try with_reducible rfl))
            | (refine ordS_take (i := 9) (oi := { dst := some 158, op := Op.extract (Operand.tmp 149) 1, type := 31, pos := _, after := #[{ on := 7, ground := Ground.data }, { on := 10, ground := Ground.gcOnly Departure.lateStores }], guard := none }) (v := undef) rfl (by kernel_rfl) (by kernel_rfl) (by kernel_rfl) (by kernel_rfl) (fun _ _ _ h => h) (by assumption) (Or.inr ⟨by rfl, rfl⟩) (fun _ => rfl) ?_)
          try simp only [Act.put, List.setIfInBounds_toArray, List.set_cons_zero, List.set_cons_succ]
          first
            | (refine' ordS_take (i := 10) (oi := { dst := some 18, op := Op.assign (Operand.tmp 157), type := 30, pos := _, after := #[{ on := 8, ground := Ground.data }, { on := 6, ground := Ground.chain }, { on := 0, ground := Ground.phase }, { on := 1, ground := Ground.phase }, { on := 2, ground := Ground.phase }, { on := 3, ground := Ground.phase }, { on := 4, ground := Ground.phase }, { on := 5, ground := Ground.phase }, { on := 6, ground := Ground.phase }, { on := 7, ground := Ground.phase }, { on := 8, ground := Ground.phase }, { on := 9, ground := Ground.textOnly Departure.lateStores }], guard := none }) (v := _) rfl (by kernel_rfl) (by kernel_rfl) (by kernel_rfl) (by kernel_rfl) (fun _ _ _ h => h) (by assumption) (Or.inl ⟨by rfl, ?hy59⟩) (fun _ => rfl) ?rest59
               case hy59 => (intro w hSw; (try dsimp only at hSw); go_simp; try with_reducible rfl))
            | (refine ordS_take (i := 10) (oi := { dst := some 18, op := Op.assign (Operand.tmp 157), type := 30, pos := _, after := #[{ on := 8, ground := Ground.data }, { on := 6, ground := Ground.chain }, { on := 0, ground := Ground.phase }, { on := 1, ground := Ground.phase }, { on := 2, ground := Ground.phase }, { on := 3, ground := Ground.phase }, { on := 4, ground := Ground.phase }, { on := 5, ground := Ground.phase }, { on := 6, ground := Ground.phase }, { on := 7, ground := Ground.phase }, { on := 8, ground := Ground.phase }, { on := 9, ground := Ground.textOnly Departure.lateStores }], guard := none }) (v := undef) rfl (by kernel_rfl) (by kernel_rfl) (by kernel_rfl) (by kernel_rfl) (fun _ _ _ h => h) (by assumption) (Or.inr ⟨by rfl, rfl⟩) (fun _ => rfl) ?_)
          try simp only [Act.put, List.setIfInBounds_toArray, List.set_cons_zero, List.set_cons_succ]
          first
            | (refine' ordS_take (i := 11) (oi := { dst := some 19, op := Op.assign (Operand.tmp 158), type := 31, pos := _, after := #[{ on := 9, ground := Ground.data }, { on := 10, ground := Ground.chain }, { on := 0, ground := Ground.phase }, { on := 1, ground := Ground.phase }, { on := 2, ground := Ground.phase }, { on := 3, ground := Ground.phase }, { on := 4, ground := Ground.phase }, { on := 5, ground := Ground.phase }, { on := 6, ground := Ground.phase }, { on := 7, ground := Ground.phase }, { on := 8, ground := Ground.phase }, { on := 9, ground := Ground.phase }, { on := 10, ground := Ground.phase }], guard := none }) (v := _) rfl (by kernel_rfl) (by kernel_rfl) (by kernel_rfl) (by kernel_rfl) (fun _ _ _ h => h) (by assumption) (Or.inl ⟨by rfl, ?hy60⟩) (fun _ => rfl) ?rest60
               case hy60 => (intro w hSw; (try dsimp only at hSw); go_simp; try with_reducible rfl))
            | (refine ordS_take (i := 11) (oi := { dst := some 19, op := Op.assign (Operand.tmp 158), type := 31, pos := _, after := #[{ on := 9, ground := Ground.data }, { on := 10, ground := Ground.chain }, { on := 0, ground := Ground.phase }, { on := 1, ground := Ground.phase }, { on := 2, ground := Ground.phase }, { on := 3, ground := Ground.phase }, { on := 4, ground := Ground.phase }, { on := 5, ground := Ground.phase }, { on := 6, ground := Ground.phase }, { on := 7, ground := Ground.phase }, { on := 8, ground := Ground.phase }, { on := 9, ground := Ground.phase }, { on := 10, ground := Ground.phase }], guard := none }) (v := undef) rfl (by kernel_rfl) (by kernel_rfl) (by kernel_rfl) (by kernel_rfl) (fun _ _ _ h => h) (by assumption) (Or.inr ⟨by rfl, rfl⟩) (fun _ => rfl) ?_)
          try simp only [Act.put, List.setIfInBounds_toArray, List.set_cons_zero, List.set_cons_succ]
          refine ordS_done (by kernel_rfl) ?_
          obtain ⟨lss, hlss⟩ : ∃ lss, allB A B fs r zr = lss := ⟨_, rfl⟩
          rw [hlss] at HSUB g4 hm4
          clear hS12 hb12 hb12' hA11 hD hH hlss hm1 hAD f0 f1 f2 x0 x1
          go_wp2_with fail
          refine (add_sub b1 q1 b4 q4 A B ms lss _ hm1' hm4 hgood g4 hbq1 (by omega) (by omega) HSUB.out).mono ?_
          rintro e w13 ⟨rfl, hm13, hg13⟩
          have hA13 := hA12.grown hg13 hA12.size (fun j e => by cases e; omega)
          clear hg13 hA12 hm4 hm13 hm1'
          go_wp2_with fail
          refine (awake_any _).mono ?_
          rintro e w14 ⟨rfl, hb14⟩
          have hA14 := bl_tr hA13 hb14
          clear hA13 hb14
          go_wp2
          go_ret
          exact ⟨rfl, hA14⟩

theorem more_walk (A B P Q R r : Int) (a a3 : Option Addr) (c c3 : Nat) (fs : List Int) (zs : List (Int × Int)) (w : World) (hr : RowH w a fs) (hz : RowC w a3 zs) (hcap : zs.length ≤ c3) :
    Calls Try.prog 6 #[.agg #[.int .i64 A, .int .i64 B, .slice a fs.length c], .agg #[.slice a3 zs.length c3, .int .i64 r], .agg #[.int .i64 P, .int .i64 Q, .int .i64 R]] w fun e w' => e = .returned (.bool true) ∧ Below w.heap.size w w' := by
  cases h1 : smallB A B fs.length with
  | false => exact more_out1 A B P Q R r a a3 _ c c3 zs w h1
  | true =>
  by_cases hl : zs.length ≤ 6
  · by_cases h2 : chkF A B fs.length = 0
    · by_cases h3 : R < 0 ∨ 16 < R
      · exact more_out4 A B P Q R r a a3 _ c c3 zs w h1 hl h2 h3
      · by_cases h4 : errA A B fs.length r zs = 0
        · exact more_yes A B P Q R r a a3 c c3 fs zs w hr hz hcap h1 hl h2 (by omega) (by omega) h4
        · exact more_out5 A B P Q R r a a3 _ c c3 zs w hz h1 hl h2 (by omega) (by omega) h4
    · exact more_out3 A B P Q R r a a3 _ c c3 zs w h1 hl h2
  · exact more_out2 A B P Q R r a a3 _ c c3 zs w h1 (by omega)
end Go.Proofs.Ythebiibiapjdiaa
