/- InnerOf: the law's walk where the answer is a table. -/
import Derived.Test.YtgbhafadibdmcaaDoorLiofa
import Derived.Test.YtgbhafadibdmcaaDoorM1
namespace Go.Proofs.YtgbhafadibdmcaaDoor
open Go.RowKit

theorem tset2 {W : World} {k : Nat} {x y u v : Value} {t : TypeId} (h : W.heap[k]? = some (.cells #[u, v] t (0, 0))) : ((W.setCell ⟨k, 0, none⟩ x).setCell ⟨k, 1, none⟩ y).heap[k]? = some (.cells #[x, y] t (0, 0)) := by
  rw [hset_same _ k 1 _ _ y (hset_same W k 0 _ _ x h)]
  simp
theorem cell_set2 {W : World} {b o k : Nat} {x y v : Value} (h : W.cell? ⟨b, o, none⟩ = some v) (hne : b ≠ k) : ((W.setCell ⟨k, 0, none⟩ x).setCell ⟨k, 1, none⟩ y).cell? ⟨b, o, none⟩ = some v :=
  (hgrown_set _ k 1 y).cell ((hgrown_set W k 0 x).cell h (fun e => hne (by cases e; rfl))) (fun e => hne (by cases e; rfl))
theorem tab_cell {W : World} {k o : Nat} {v : Value} {t : TypeId} (h : W.heap[k]? = some (.cells #[.slice none 0 0, .slice none 0 0] t (0, 0))) (h2 : W.cell? ⟨k, o, none⟩ = some v) : v = .slice none 0 0 := by
  match o, h2 with
  | 0, h2 => simp [World.cell?, h] at h2; exact h2.symm
  | 1, h2 => simp [World.cell?, h] at h2; exact h2.symm
  | o + 2, h2 => simp [World.cell?, h] at h2
/-- The document's table, laid in a block. -/
def CutT (w3 : World) (cs : List IC) (TB : List (List Int)) (s : Value) (wx : World) : Prop :=
  ∃ k ka kc ta tc, s = .pointer (some ⟨k, 0, none⟩) ∧ w3.heap.size ≤ k ∧ wx.cell? ⟨k, 0, none⟩ = some (.slice ka cs.length kc) ∧ wx.cell? ⟨k, 1, none⟩ = some (.slice ta TB.length tc) ∧ RowC wx ka cs ∧ TabR wx ta TB ∧ Below w3.heap.size w3 wx
set_option maxRecDepth 100000 in
set_option maxHeartbeats 8000000 in
theorem iof_yes (A B : Int) (a : Option Addr) (cap : Nat) (zs : List Int) (S : Int) (k0 : Nat) (ca : Option Addr) (cc : Nat) (cs : List IC) (p : IC) (w : World) (hs : Stp w) (hr : RowH w a zs) (hz : AllH zs) (hc : zs.length ≤ cap) (hcs : RowC w ca cs) (hw : AllW cs) (hsm : zs.length ≤ 260 ∧ cs.length ≤ 60) (h0 : chkI A B zs.length A B S k0 cs = 0) :
    Calls Tryd.prog 4 #[.agg #[.int .i64 A, .int .i64 B, .slice a zs.length cap], .agg #[.int .i64 A, .int .i64 B, .int .i64 S], .agg #[.int .i64 k0, .slice ca cs.length cc, .int .i64 p.1, .int .i64 p.2]] w fun e w' => e = .returned (.bool true) ∧ Below w.heap.size w w' := by
  have hA := bl0 w
  have H1 := Lib.hid (fun w => small13_any A B a zs.length cap k0 ca cs.length cc p w)
  rw [decide_eq_true hsm.1, decide_eq_true hsm.2] at H1
  have hl : cs.length ≤ 1048576 := by omega
  have H2 := Lib.hid (fun w hr hcs hs => of_i A B a cap zs A B S k0 ca cc cs w hr hz hc hcs hl hs)
  have H4 := Lib.hid (fun w hcs => may13_any A B a zs.length cap A B S k0 ca cc cs w hcs hl hw)
  unfold OfR at H2
  have hT : ofRows A B zs A B S k0 cs = tblO A (bxB A B S k0) zs cs := by unfold ofRows; rw [if_pos h0]
  have hK : ofCel A B zs.length A B S k0 cs = cs := by unfold ofCel; rw [if_pos h0]
  rw [hT, hK, h0] at H2
  rw [h0] at H4
  obtain ⟨hchk, _, _, hpl, hwr⟩ := chkI_ok h0
  obtain ⟨BX, BY, U, V, hbb, ⟨b0, b1, b2, b3⟩, hbx, hhas⟩ := clu_box hpl
  rw [hbb] at H2
  have hcin : ∀ d ∈ cs, inBx (BX, BY, (U : Int), (V : Int)) d = true := fun d hd => by rw [← hhas]; exact wrg_in hwr d hd
  obtain ⟨hmay, hn⟩ := chkF_may hchk
  have HOF := Lib.hid (fun w hr hcs => rof13_any A B BX BY U V a cap zs ca cc cs w hr hz hn hbx hcs hcin hl)
  have htl : (tblO A (BX, BY, (U : Int), (V : Int)) zs cs).length = cs.length := by simp [tblO]
  have htr : ∀ r ∈ tblO A (BX, BY, (U : Int), (V : Int)) zs cs, r.length = cs.length := fun r hr => by
    unfold tblO at hr
    obtain ⟨d, _, rfl⟩ := List.mem_map.1 hr
    exact rowO_len A _ zs d cs
  obtain ⟨TB, hTB⟩ : ∃ TB, tblO A (BX, BY, (U : Int), (V : Int)) zs cs = TB := ⟨_, rfl⟩
  rw [hTB] at H2 HOF htl htr
  have HOR := Lib.hid (show ∀ (W : World) n ka kc, OwnC W n ka cs.length kc cs → RowC W ka cs from fun W n ka kc h => h.rowC)
  have HTR := Lib.hid (show ∀ (W : World) n ta, (TB = [] ∨ ∃ b gs, ta = some ⟨b, 0, none⟩ ∧ n ≤ b ∧ (∀ g ∈ gs, n ≤ g) ∧ TabH W b cs.length 0 gs TB) → TabR W ta TB from fun W n ta h => by
    rcases h with h | ⟨b, gs, rfl, _, _, h⟩
    · exact .inl h
    · exact h.read htr)
  have HCE := Lib.hid (fun a a2 c c2 w h1 h2 => (show Calls Tryd.prog 21 #[.slice a cs.length c, .slice a2 cs.length c2] w (fun e w' => e = .returned (.bool true) ∧ Below w.heap.size w w') by
    have := cells13_any a a2 c c2 cs cs w h1 h2 hl
    rw [decide_eq_true rfl] at this
    exact this))
  have HRO := Lib.hid (fun a a2 c c2 w h1 h2 => (show Calls Tryd.prog 22 #[.slice a TB.length c, .slice a2 TB.length c2] w (fun e w' => e = .returned (.bool true) ∧ Below w.heap.size w w') by
    have := rows13_any a a2 c c2 TB TB w h1 h2 (by omega) (fun r hr => by rw [htr r hr]; omega)
    rw [decide_eq_true rfl] at this
    exact this))
  obtain ⟨hrt, hk0, hk1⟩ := plcX_yes.1 hpl
  have HBX := Lib.hid (fun w => boxes11 A B S w hrt)
  unfold BxsR at HBX
  have hkb : k0 < (boxL A B S).length := by rw [boxL_len]; have := (cntN_eq hrt).1; omega
  have hat := boxL_at hkb
  have hbf : bxF A B S k0 = ((BX, BY), ((U : Int), (V : Int))) := by unfold bxF; rw [b0, b1, b2, b3]
  rw [hbf] at hat
  obtain ⟨BL, hB⟩ : ∃ BL, boxL A B S = BL := ⟨_, rfl⟩
  have hkB : k0 < BL.length := by rw [← hB]; exact hkb
  have HAT := Lib.hid (show BL[k0] = ((BX, BY), ((U : Int), (V : Int))) by simp only [← hB]; exact hat)
  rw [hB] at HBX
  have hkB2 : (k0 : Int) < (BL.length : Int) := by omega
  have hkB0 : (0 : Int) ≤ (k0 : Int) := by omega
  clear hT hK h0 hsm hw hz hc hpl hbb b0 b1 b2 b3 hbx hhas hrt hk0 hk1 hkb hat hbf hB hcin hmay hn hchk hwr hTB htr htl hl
  go_enter Tryd.func4, Tryd.ntmps4
  go_wp2_with fail
  refine (H1.out _).mono ?_
  rintro e w1 ⟨rfl, hb⟩
  have hk : Below w.heap.size w w1 := by first | exact hb | exact bl_tr (bl_al (bl0 _) _) hb | exact bl_tr (bl_dr (bl_al (bl0 _) _)) hb | exact bl_tr (bl_al (bl_al (bl0 _) _) _) hb | exact bl_tr (bl_dr (bl_al (bl_al (bl0 _) _) _)) hb | exact bl_tr (bl_al (bl_al (bl_al (bl0 _) _) _) _) hb | exact bl_tr (bl_dr (bl_al (bl_al (bl_al (bl0 _) _) _) _)) hb | exact bl_tr (bl_al (bl_al (bl_al (bl_al (bl0 _) _) _) _) _) hb | exact bl_tr (bl_dr (bl_al (bl_al (bl_al (bl_al (bl0 _) _) _) _) _)) hb | exact bl_tr (bl_al (bl_al (bl_al (bl_al (bl_al (bl0 _) _) _) _) _) _) hb | exact bl_tr (bl_dr (bl_al (bl_al (bl_al (bl_al (bl_al (bl0 _) _) _) _) _) _)) hb | exact bl_tr (bl_al (bl_al (bl_al (bl_al (bl_al (bl_al (bl0 _) _) _) _) _) _) _) hb | exact bl_tr (bl_dr (bl_al (bl_al (bl_al (bl_al (bl_al (bl_al (bl0 _) _) _) _) _) _) _)) hb | exact bl_tr (bl_dr (bl0 _)) hb
  replace hA := bl_tr hA hk
  have f0 := cell_later hb (v := .int .i64 A) (a := ⟨w.heap.size, 0, none⟩) (by simp [go_sem])
  have f1 := cell_later hb (v := .int .i64 B) (a := ⟨w.heap.size, 1, none⟩) (by simp [go_sem])
  have f2 := cell_later hb (v := .slice a zs.length cap) (a := ⟨w.heap.size, 2, none⟩) (by simp [go_sem])
  have p0 := cell_later hb (v := .int .i64 A) (a := ⟨w.heap.size + 1, 0, none⟩) (by simp [go_sem])
  have p1 := cell_later hb (v := .int .i64 B) (a := ⟨w.heap.size + 1, 1, none⟩) (by simp [go_sem])
  have p2 := cell_later hb (v := .int .i64 S) (a := ⟨w.heap.size + 1, 2, none⟩) (by simp [go_sem])
  have c0 := cell_later hb (v := .int .i64 k0) (a := ⟨w.heap.size + 1 + 1, 0, none⟩) (by simp [go_sem])
  have c1 := cell_later hb (v := .slice ca cs.length cc) (a := ⟨w.heap.size + 1 + 1, 1, none⟩) (by simp [go_sem])
  have c2 := cell_later hb (v := .int .i64 p.1) (a := ⟨w.heap.size + 1 + 1, 2, none⟩) (by simp [go_sem])
  have c3 := cell_later hb (v := .int .i64 p.2) (a := ⟨w.heap.size + 1 + 1, 3, none⟩) (by simp [go_sem])
  clear hb hk
  have zf0 := blk_lt f0
  have zf1 := blk_lt f1
  have zf2 := blk_lt f2
  have zp0 := blk_lt p0
  have zp1 := blk_lt p1
  have zp2 := blk_lt p2
  have zc0 := blk_lt c0
  have zc1 := blk_lt c1
  have zc2 := blk_lt c2
  have zc3 := blk_lt c3
  go_wp2_with fail
  refine (H2.out _ (hr.below (by first | exact hA | exact (bl_al hA _) | exact (bl_dr (bl_al hA _)) | exact (bl_al (bl_al hA _) _) | exact (bl_dr (bl_al (bl_al hA _) _)) | exact (bl_al (bl_al (bl_al hA _) _) _) | exact (bl_dr (bl_al (bl_al (bl_al hA _) _) _)) | exact (bl_al (bl_al (bl_al (bl_al hA _) _) _) _) | exact (bl_dr (bl_al (bl_al (bl_al (bl_al hA _) _) _) _)) | exact (bl_al (bl_al (bl_al (bl_al (bl_al hA _) _) _) _) _) | exact (bl_dr (bl_al (bl_al (bl_al (bl_al (bl_al hA _) _) _) _) _)) | exact (bl_al (bl_al (bl_al (bl_al (bl_al (bl_al hA _) _) _) _) _) _) | exact (bl_dr (bl_al (bl_al (bl_al (bl_al (bl_al (bl_al hA _) _) _) _) _) _)) | exact (bl_dr hA))) (hcs.below (by first | exact hA | exact (bl_al hA _) | exact (bl_dr (bl_al hA _)) | exact (bl_al (bl_al hA _) _) | exact (bl_dr (bl_al (bl_al hA _) _)) | exact (bl_al (bl_al (bl_al hA _) _) _) | exact (bl_dr (bl_al (bl_al (bl_al hA _) _) _)) | exact (bl_al (bl_al (bl_al (bl_al hA _) _) _) _) | exact (bl_dr (bl_al (bl_al (bl_al (bl_al hA _) _) _) _)) | exact (bl_al (bl_al (bl_al (bl_al (bl_al hA _) _) _) _) _) | exact (bl_dr (bl_al (bl_al (bl_al (bl_al (bl_al hA _) _) _) _) _)) | exact (bl_al (bl_al (bl_al (bl_al (bl_al (bl_al hA _) _) _) _) _) _) | exact (bl_dr (bl_al (bl_al (bl_al (bl_al (bl_al (bl_al hA _) _) _) _) _) _)) | exact (bl_dr hA))) (hs.below (by first | exact hA | exact (bl_al hA _) | exact (bl_dr (bl_al hA _)) | exact (bl_al (bl_al hA _) _) | exact (bl_dr (bl_al (bl_al hA _) _)) | exact (bl_al (bl_al (bl_al hA _) _) _) | exact (bl_dr (bl_al (bl_al (bl_al hA _) _) _)) | exact (bl_al (bl_al (bl_al (bl_al hA _) _) _) _) | exact (bl_dr (bl_al (bl_al (bl_al (bl_al hA _) _) _) _)) | exact (bl_al (bl_al (bl_al (bl_al (bl_al hA _) _) _) _) _) | exact (bl_dr (bl_al (bl_al (bl_al (bl_al (bl_al hA _) _) _) _) _)) | exact (bl_al (bl_al (bl_al (bl_al (bl_al (bl_al hA _) _) _) _) _) _) | exact (bl_dr (bl_al (bl_al (bl_al (bl_al (bl_al (bl_al hA _) _) _) _) _) _)) | exact (bl_dr hA)))).mono ?_
  rintro e w2 ⟨ka, kc, ta, tc, rfl, ho, ht, hb⟩
  have hk : Below w1.heap.size w1 w2 := by first | exact hb | exact bl_tr (bl_al (bl0 _) _) hb | exact bl_tr (bl_dr (bl_al (bl0 _) _)) hb | exact bl_tr (bl_al (bl_al (bl0 _) _) _) hb | exact bl_tr (bl_dr (bl_al (bl_al (bl0 _) _) _)) hb | exact bl_tr (bl_al (bl_al (bl_al (bl0 _) _) _) _) hb | exact bl_tr (bl_dr (bl_al (bl_al (bl_al (bl0 _) _) _) _)) hb | exact bl_tr (bl_al (bl_al (bl_al (bl_al (bl0 _) _) _) _) _) hb | exact bl_tr (bl_dr (bl_al (bl_al (bl_al (bl_al (bl0 _) _) _) _) _)) hb | exact bl_tr (bl_al (bl_al (bl_al (bl_al (bl_al (bl0 _) _) _) _) _) _) hb | exact bl_tr (bl_dr (bl_al (bl_al (bl_al (bl_al (bl_al (bl0 _) _) _) _) _) _)) hb | exact bl_tr (bl_al (bl_al (bl_al (bl_al (bl_al (bl_al (bl0 _) _) _) _) _) _) _) hb | exact bl_tr (bl_dr (bl_al (bl_al (bl_al (bl_al (bl_al (bl_al (bl0 _) _) _) _) _) _) _)) hb | exact bl_tr (bl_dr (bl0 _)) hb
  replace hA := bl_tr hA hk
  replace f0 := cell_later hk f0
  replace f1 := cell_later hk f1
  replace f2 := cell_later hk f2
  replace p0 := cell_later hk p0
  replace p1 := cell_later hk p1
  replace p2 := cell_later hk p2
  replace c0 := cell_later hk c0
  replace c1 := cell_later hk c1
  replace c2 := cell_later hk c2
  replace c3 := cell_later hk c3
  clear hb hk
  have zf0 := blk_lt f0
  have zf1 := blk_lt f1
  have zf2 := blk_lt f2
  have zp0 := blk_lt p0
  have zp1 := blk_lt p1
  have zp2 := blk_lt p2
  have zc0 := blk_lt c0
  have zc1 := blk_lt c1
  have zc2 := blk_lt c2
  have zc3 := blk_lt c3
  have hka := HOR.out _ _ _ _ ho
  have hta := HTR.out _ _ _ ht
  clear ho ht
  go_wp2_with fail
  refine (H4.out _ (hcs.below (by first | exact hA | exact (bl_al hA _) | exact (bl_dr (bl_al hA _)) | exact (bl_al (bl_al hA _) _) | exact (bl_dr (bl_al (bl_al hA _) _)) | exact (bl_al (bl_al (bl_al hA _) _) _) | exact (bl_dr (bl_al (bl_al (bl_al hA _) _) _)) | exact (bl_al (bl_al (bl_al (bl_al hA _) _) _) _) | exact (bl_dr (bl_al (bl_al (bl_al (bl_al hA _) _) _) _)) | exact (bl_al (bl_al (bl_al (bl_al (bl_al hA _) _) _) _) _) | exact (bl_dr (bl_al (bl_al (bl_al (bl_al (bl_al hA _) _) _) _) _)) | exact (bl_al (bl_al (bl_al (bl_al (bl_al (bl_al hA _) _) _) _) _) _) | exact (bl_dr (bl_al (bl_al (bl_al (bl_al (bl_al (bl_al hA _) _) _) _) _) _)) | exact (bl_dr hA)))).mono ?_
  rintro e w3 ⟨rfl, hb⟩
  have hk : Below w2.heap.size w2 w3 := by first | exact hb | exact bl_tr (bl_al (bl0 _) _) hb | exact bl_tr (bl_dr (bl_al (bl0 _) _)) hb | exact bl_tr (bl_al (bl_al (bl0 _) _) _) hb | exact bl_tr (bl_dr (bl_al (bl_al (bl0 _) _) _)) hb | exact bl_tr (bl_al (bl_al (bl_al (bl0 _) _) _) _) hb | exact bl_tr (bl_dr (bl_al (bl_al (bl_al (bl0 _) _) _) _)) hb | exact bl_tr (bl_al (bl_al (bl_al (bl_al (bl0 _) _) _) _) _) hb | exact bl_tr (bl_dr (bl_al (bl_al (bl_al (bl_al (bl0 _) _) _) _) _)) hb | exact bl_tr (bl_al (bl_al (bl_al (bl_al (bl_al (bl0 _) _) _) _) _) _) hb | exact bl_tr (bl_dr (bl_al (bl_al (bl_al (bl_al (bl_al (bl0 _) _) _) _) _) _)) hb | exact bl_tr (bl_al (bl_al (bl_al (bl_al (bl_al (bl_al (bl0 _) _) _) _) _) _) _) hb | exact bl_tr (bl_dr (bl_al (bl_al (bl_al (bl_al (bl_al (bl_al (bl0 _) _) _) _) _) _) _)) hb | exact bl_tr (bl_dr (bl0 _)) hb
  replace hA := bl_tr hA hk
  replace hka := hka.below hk
  replace hta := hta.below hk
  replace f0 := cell_later hk f0
  replace f1 := cell_later hk f1
  replace f2 := cell_later hk f2
  replace p0 := cell_later hk p0
  replace p1 := cell_later hk p1
  replace p2 := cell_later hk p2
  replace c0 := cell_later hk c0
  replace c1 := cell_later hk c1
  have t0 := cell_later hb (v := .slice ka cs.length kc) (a := ⟨w2.heap.size, 0, none⟩) (by simp [go_sem])
  have t1 := cell_later hb (v := .slice ta TB.length tc) (a := ⟨w2.heap.size, 1, none⟩) (by simp [go_sem])
  clear hb hk
  have zf0 := blk_lt f0
  have zf1 := blk_lt f1
  have zf2 := blk_lt f2
  have zp0 := blk_lt p0
  have zp1 := blk_lt p1
  have zp2 := blk_lt p2
  have zc0 := blk_lt c0
  have zc1 := blk_lt c1
  have zt0 := blk_lt t0
  have zt1 := blk_lt t1
  clear c2 c3
  have hA3 := hA
  have HF := Lib.hid (show ∀ W8, Below w3.heap.size w3 W8 → W8.cell? ⟨w.heap.size, 0, none⟩ = some (.int .i64 A) ∧ W8.cell? ⟨w.heap.size, 1, none⟩ = some (.int .i64 B) ∧ W8.cell? ⟨w.heap.size, 2, none⟩ = some (.slice a zs.length cap) ∧ W8.cell? ⟨w.heap.size + 1, 0, none⟩ = some (.int .i64 A) ∧ W8.cell? ⟨w.heap.size + 1, 1, none⟩ = some (.int .i64 B) ∧ W8.cell? ⟨w.heap.size + 1, 2, none⟩ = some (.int .i64 S) ∧ W8.cell? ⟨w.heap.size + 1 + 1, 0, none⟩ = some (.int .i64 k0) ∧ W8.cell? ⟨w.heap.size + 1 + 1, 1, none⟩ = some (.slice ca cs.length cc) from fun W8 h => ⟨cell_later h f0, cell_later h f1, cell_later h f2, cell_later h p0, cell_later h p1, cell_later h p2, cell_later h c0, cell_later h c1⟩)
  have HR := Lib.hid (fun W8 (h : Below w3.heap.size w3 W8) => (hr.below hA3).below h)
  have HC := Lib.hid (fun W8 (h : Below w3.heap.size w3 W8) => (hcs.below hA3).below h)
  have HKA := Lib.hid hka
  have HTA := Lib.hid hta
  have HT0 := Lib.hid t0
  have HT1 := Lib.hid t1
  clear hka hta t0 t1
  go_upto_region 7 with fail
  have hB := bl_dr (bl0 w3)
  go_cut [10] from 54 to 66 (fun s wx => CutT w3 cs TB s wx)
  case first =>
    refine (wpIn_wide (n := 11)).1 ?_
    refine ordS_begin (S := (fun W9 : World => W9.cell? ⟨w.heap.size, 0, none⟩ = some (.int .i64 A) ∧ W9.cell? ⟨w.heap.size, 1, none⟩ = some (.int .i64 B) ∧ W9.cell? ⟨w.heap.size, 2, none⟩ = some (.slice a zs.length cap) ∧ W9.cell? ⟨w.heap.size + 1, 0, none⟩ = some (.int .i64 A) ∧ W9.cell? ⟨w.heap.size + 1, 1, none⟩ = some (.int .i64 B) ∧ W9.cell? ⟨w.heap.size + 1, 2, none⟩ = some (.int .i64 S) ∧ W9.cell? ⟨w.heap.size + 1 + 1, 0, none⟩ = some (.int .i64 k0) ∧ W9.cell? ⟨w.heap.size + 1 + 1, 1, none⟩ = some (.slice ca cs.length cc))) (by kernel_rfl) (HF.out _ hB) (fun hH => ?_)
    refine' ordS_take (i := 0) (oi := { dst := some 54, op := Op.load 26 (Operand.tmp 3), type := 26, pos := _, after := #[], guard := none }) (v := _) rfl (by kernel_rfl) (by kernel_rfl) (by kernel_rfl) (by kernel_rfl) (fun _ _ _ h => h) (by assumption) (Or.inl ⟨by rfl, ?hy438⟩) (fun _ => rfl) ?rest438
    case hy438 => (intro w hSw; (try dsimp only at hSw); go_simp; try with_reducible rfl)
    try simp only [Act.put, List.setIfInBounds_toArray, List.set_cons_zero, List.set_cons_succ]
    refine' ordS_take (i := 1) (oi := { dst := some 55, op := Op.fieldAddr 48 (Operand.tmp 4) 0, type := 0, pos := _, after := #[], guard := none }) (v := _) rfl (by kernel_rfl) (by kernel_rfl) (by kernel_rfl) (by kernel_rfl) (fun _ _ _ h => h) (by assumption) (Or.inl ⟨by rfl, ?hy439⟩) (fun _ => rfl) ?rest439
    case hy439 => (intro w hSw; (try dsimp only at hSw); go_simp; try with_reducible rfl)
    try simp only [Act.put, List.setIfInBounds_toArray, List.set_cons_zero, List.set_cons_succ]
    refine' ordS_take (i := 2) (oi := { dst := some 56, op := Op.load 23 (Operand.tmp 55), type := 23, pos := _, after := #[{ on := 1, ground := Ground.data }], guard := none }) (v := _) rfl (by kernel_rfl) (by kernel_rfl) (by kernel_rfl) (by kernel_rfl) (fun _ _ _ h => h) (by assumption) (Or.inl ⟨by rfl, ?hy440⟩) (fun _ => rfl) ?rest440
    case hy440 => (intro w hSw; (try dsimp only at hSw); go_simp; try with_reducible rfl)
    try simp only [Act.put, List.setIfInBounds_toArray, List.set_cons_zero, List.set_cons_succ]
    refine' ordS_take (i := 3) (oi := { dst := some 57, op := Op.fieldAddr 48 (Operand.tmp 4) 1, type := 0, pos := _, after := #[], guard := none }) (v := _) rfl (by kernel_rfl) (by kernel_rfl) (by kernel_rfl) (by kernel_rfl) (fun _ _ _ h => h) (by assumption) (Or.inl ⟨by rfl, ?hy441⟩) (fun _ => rfl) ?rest441
    case hy441 => (intro w hSw; (try dsimp only at hSw); go_simp; try with_reducible rfl)
    try simp only [Act.put, List.setIfInBounds_toArray, List.set_cons_zero, List.set_cons_succ]
    refine' ordS_take (i := 4) (oi := { dst := some 58, op := Op.load 3 (Operand.tmp 57), type := 3, pos := _, after := #[{ on := 3, ground := Ground.data }], guard := none }) (v := _) rfl (by kernel_rfl) (by kernel_rfl) (by kernel_rfl) (by kernel_rfl) (fun _ _ _ h => h) (by assumption) (Or.inl ⟨by rfl, ?hy442⟩) (fun _ => rfl) ?rest442
    case hy442 => (intro w hSw; (try dsimp only at hSw); go_simp; try with_reducible rfl)
    try simp only [Act.put, List.setIfInBounds_toArray, List.set_cons_zero, List.set_cons_succ]
    refine' ordS_take (i := 6) (oi := { dst := some 60, op := Op.fieldAddr 50 (Operand.tmp 5) 0, type := 0, pos := _, after := #[], guard := none }) (v := _) rfl (by kernel_rfl) (by kernel_rfl) (by kernel_rfl) (by kernel_rfl) (fun _ _ _ h => h) (by assumption) (Or.inl ⟨by rfl, ?hy443⟩) (fun _ => rfl) ?rest443
    case hy443 => (intro w hSw; (try dsimp only at hSw); go_simp; try with_reducible rfl)
    try simp only [Act.put, List.setIfInBounds_toArray, List.set_cons_zero, List.set_cons_succ]
    refine' ordS_take (i := 7) (oi := { dst := some 61, op := Op.load 3 (Operand.tmp 60), type := 3, pos := _, after := #[{ on := 6, ground := Ground.data }], guard := none }) (v := _) rfl (by kernel_rfl) (by kernel_rfl) (by kernel_rfl) (by kernel_rfl) (fun _ _ _ h => h) (by assumption) (Or.inl ⟨by rfl, ?hy444⟩) (fun _ => rfl) ?rest444
    case hy444 => (intro w hSw; (try dsimp only at hSw); go_simp; try with_reducible rfl)
    try simp only [Act.put, List.setIfInBounds_toArray, List.set_cons_zero, List.set_cons_succ]
    refine' ordS_take (i := 10) (oi := { dst := some 64, op := Op.fieldAddr 50 (Operand.tmp 5) 1, type := 0, pos := _, after := #[], guard := none }) (v := _) rfl (by kernel_rfl) (by kernel_rfl) (by kernel_rfl) (by kernel_rfl) (fun _ _ _ h => h) (by assumption) (Or.inl ⟨by rfl, ?hy445⟩) (fun _ => rfl) ?rest445
    case hy445 => (intro w hSw; (try dsimp only at hSw); go_simp; try with_reducible rfl)
    try simp only [Act.put, List.setIfInBounds_toArray, List.set_cons_zero, List.set_cons_succ]
    refine' ordS_take (i := 11) (oi := { dst := some 65, op := Op.load 35 (Operand.tmp 64), type := 35, pos := _, after := #[{ on := 10, ground := Ground.data }], guard := none }) (v := _) rfl (by kernel_rfl) (by kernel_rfl) (by kernel_rfl) (by kernel_rfl) (fun _ _ _ h => h) (by assumption) (Or.inl ⟨by rfl, ?hy446⟩) (fun _ => rfl) ?rest446
    case hy446 => (intro w hSw; (try dsimp only at hSw); go_simp; try with_reducible rfl)
    try simp only [Act.put, List.setIfInBounds_toArray, List.set_cons_zero, List.set_cons_succ]
    obtain ⟨W2, hW2⟩ : ∃ W2, w3.drew = W2 := ⟨_, rfl⟩
    rw [hW2] at hB
    rw [hW2]
    clear hW2 hH
    refine ordS_two (i := 5) (j := 13) (o := { dst := some 59, op := Op.call { callee := Callee.value (Operand.func 20), args := #[Operand.tmp 56, Operand.tmp 58], argTypes := #[23, 3] }, type := 60, pos := _, after := #[{ on := 2, ground := Ground.data }, { on := 4, ground := Ground.data }], guard := none }) (o2 := { dst := some 10, op := Op.alloc 58, type := 0, pos := _, after := #[], guard := none }) (by kernel_rfl) rfl (by rfl) rfl (by rfl) (fun K hK => ?_) (fun K hK => ?_)
    · go_simp
      refine ⟨trivial, ?_⟩
      with_reducible refine (callsIn_wide.2 (HBX.out _)).mono ?_
      rintro e W5 ⟨ba, bc, rfl, hbr, hb5⟩
      replace hB := bl_tr hB hb5
      refine hK _ _ (HF.out _ hB) ?_
      clear hK K hb5
      try simp only [Act.put, List.setIfInBounds_toArray, List.set_cons_zero, List.set_cons_succ]
      obtain ⟨gb, go, rfl, ⟨u0, u1⟩, u2, u3⟩ := hbr.cell hkB
      rw [HAT.out] at u0 u1 u2 u3
      simp only at u0 u1 u2 u3
      clear hbr
      have HFU := Lib.hid (show ∀ W8, Below W5.heap.size W5 W8 → W8.cell? ⟨gb, go + k0 * 4, none⟩ = some (.int .i64 BX) ∧ W8.cell? ⟨gb, go + k0 * 4 + 1, none⟩ = some (.int .i64 BY) ∧ W8.cell? ⟨gb, go + k0 * 4 + 2, none⟩ = some (.int .i64 U) ∧ W8.cell? ⟨gb, go + k0 * 4 + 3, none⟩ = some (.int .i64 V) ∧ W8.cell? ⟨w.heap.size, 0, none⟩ = some (.int .i64 A) ∧ W8.cell? ⟨w.heap.size, 1, none⟩ = some (.int .i64 B) ∧ W8.cell? ⟨w.heap.size, 2, none⟩ = some (.slice a zs.length cap) ∧ W8.cell? ⟨w.heap.size + 1, 0, none⟩ = some (.int .i64 A) ∧ W8.cell? ⟨w.heap.size + 1, 1, none⟩ = some (.int .i64 B) ∧ W8.cell? ⟨w.heap.size + 1, 2, none⟩ = some (.int .i64 S) ∧ W8.cell? ⟨w.heap.size + 1 + 1, 0, none⟩ = some (.int .i64 k0) ∧ W8.cell? ⟨w.heap.size + 1 + 1, 1, none⟩ = some (.slice ca cs.length cc) from fun W8 h => by
        obtain ⟨q0, q1, q2, q3, q4, q5, q6, q7⟩ := HF.out _ (bl_tr hB h)
        exact ⟨cell_later h u0, cell_later h u1, cell_later h u2, cell_later h u3, q0, q1, q2, q3, q4, q5, q6, q7⟩)
      refine OrdS.sub (S' := (fun W9 : World => W9.cell? ⟨gb, go + k0 * 4, none⟩ = some (.int .i64 BX) ∧ W9.cell? ⟨gb, go + k0 * 4 + 1, none⟩ = some (.int .i64 BY) ∧ W9.cell? ⟨gb, go + k0 * 4 + 2, none⟩ = some (.int .i64 U) ∧ W9.cell? ⟨gb, go + k0 * 4 + 3, none⟩ = some (.int .i64 V) ∧ W9.cell? ⟨w.heap.size, 0, none⟩ = some (.int .i64 A) ∧ W9.cell? ⟨w.heap.size, 1, none⟩ = some (.int .i64 B) ∧ W9.cell? ⟨w.heap.size, 2, none⟩ = some (.slice a zs.length cap) ∧ W9.cell? ⟨w.heap.size + 1, 0, none⟩ = some (.int .i64 A) ∧ W9.cell? ⟨w.heap.size + 1, 1, none⟩ = some (.int .i64 B) ∧ W9.cell? ⟨w.heap.size + 1, 2, none⟩ = some (.int .i64 S) ∧ W9.cell? ⟨w.heap.size + 1 + 1, 0, none⟩ = some (.int .i64 k0) ∧ W9.cell? ⟨w.heap.size + 1 + 1, 1, none⟩ = some (.slice ca cs.length cc))) (fun W h => h.2.2.2.2) _ _ _ _ ?_
      have hS5 := HFU.out _ (bl0 W5)
      refine' ordS_take (i := 8) (oi := { dst := some 62, op := Op.indexAddr 60 (Operand.tmp 59) (Operand.tmp 61), type := 0, pos := _, after := #[{ on := 5, ground := Ground.data }, { on := 7, ground := Ground.data }], guard := none }) (v := _) rfl (by kernel_rfl) (by kernel_rfl) (by kernel_rfl) (by kernel_rfl) (fun _ _ _ h => h) (by assumption) (Or.inl ⟨by rfl, ?hy447⟩) (fun _ => rfl) ?rest447
      case hy447 => (intro w hSw; (try dsimp only at hSw); go_simp; try with_reducible rfl)
      try simp only [Act.put, List.setIfInBounds_toArray, List.set_cons_zero, List.set_cons_succ]
      refine' ordS_take (i := 9) (oi := { dst := some 63, op := Op.load 28 (Operand.tmp 62), type := 28, pos := _, after := #[{ on := 8, ground := Ground.data }], guard := none }) (v := _) rfl (by kernel_rfl) (by kernel_rfl) (by kernel_rfl) (by kernel_rfl) (fun _ _ _ h => h) (by assumption) (Or.inl ⟨by rfl, ?hy448⟩) (fun _ => rfl) ?rest448
      case hy448 => (intro w hSw; (try dsimp only at hSw); go_simp; try with_reducible rfl)
      try simp only [Act.put, List.setIfInBounds_toArray, List.set_cons_zero, List.set_cons_succ]
      clear u0 u1 u2 u3 hS5
      refine ordS_two (i := 12) (j := 13) (o := { dst := some 66, op := Op.call { callee := Callee.value (Operand.func 19), args := #[Operand.tmp 54, Operand.tmp 63, Operand.tmp 65], argTypes := #[26, 28, 35] }, type := 58, pos := _, after := #[{ on := 0, ground := Ground.data }, { on := 9, ground := Ground.data }, { on := 11, ground := Ground.data }, { on := 5, ground := Ground.chain }], guard := none }) (o2 := { dst := some 10, op := Op.alloc 58, type := 0, pos := _, after := #[], guard := none }) (by kernel_rfl) rfl (by rfl) rfl (by rfl) (fun K hK => ?_) (fun K hK => ?_)
      · go_simp
        refine ⟨trivial, ?_⟩
        with_reducible refine (callsIn_wide.2 (HOF.out _ (HR.out _ hB) (HC.out _ hB))).mono ?_
        rintro e W6 ⟨ka2, kc2, ta2, tc2, rfl, hk2, ht2, hst2, hb6⟩
        replace hB := bl_tr hB hb6
        refine hK _ _ (HFU.out _ hb6) ?_
        clear hK K
        try simp only [Act.put, List.setIfInBounds_toArray, List.set_cons_zero, List.set_cons_succ]
        refine ordS_one (i := 13) (o := { dst := some 10, op := Op.alloc 58, type := 0, pos := _, after := #[], guard := none }) (by kernel_rfl) rfl (by rfl) (fun K hK => ?_)
        go_simp
        have hb7 := bl_al (bl0 W6) (.cells #[.slice none 0 0, .slice none 0 0] 58)
        refine hK _ _ (HFU.out _ (bl_tr hb6 hb7)) ?_
        clear hK K
        try simp only [Act.put, List.setIfInBounds_toArray, List.set_cons_zero, List.set_cons_succ]
        refine ordS_one (i := 14) (o := { dst := none, op := Op.store 58 (Operand.tmp 10) (Operand.tmp 66), type := 0, pos := _, after := #[{ on := 13, ground := Ground.data }, { on := 12, ground := Ground.data }, { on := 12, ground := Ground.chain }, { on := 0, ground := Ground.phase }, { on := 1, ground := Ground.phase }, { on := 2, ground := Ground.phase }, { on := 3, ground := Ground.phase }, { on := 4, ground := Ground.phase }, { on := 5, ground := Ground.phase }, { on := 6, ground := Ground.phase }, { on := 7, ground := Ground.phase }, { on := 8, ground := Ground.phase }, { on := 9, ground := Ground.phase }, { on := 10, ground := Ground.phase }, { on := 11, ground := Ground.phase }, { on := 12, ground := Ground.phase }, { on := 13, ground := Ground.phase }], guard := none }) (by kernel_rfl) rfl (by rfl) (fun K hK => ?_)
        go_simp
        have hb8 := bl_al (bl0 W6) (.cells #[.slice ka2 cs.length kc2, .slice ta2 TB.length tc2] 58)
        refine hK _ _ (HFU.out _ (bl_tr hb6 hb8)) ?_
        clear hK K
        try simp only [Act.put, List.setIfInBounds_toArray, List.set_cons_zero, List.set_cons_succ]
        refine ordS_done (by kernel_rfl) ?_
        have HP := Lib.hid (show CutT w3 cs TB (.pointer (some ⟨W6.heap.size, 0, none⟩)) (W6.alloc (.cells #[.slice ka2 cs.length kc2, .slice ta2 TB.length tc2] 58)) from ⟨W6.heap.size, ka2, kc2, ta2, tc2, rfl, hB.size, by simp [go_sem], by simp [go_sem], hk2.below hb8, ht2.below hb8, bl_tr hB hb8⟩)
        clear hb7 hb8
        go_wp2_with fail
        go_meet
        exact HP.out
      · go_simp
        obtain ⟨kk, hkke⟩ : ∃ kk, W5.heap.size = kk := ⟨_, rfl⟩
        have hkk : w3.heap.size ≤ kk := by rw [← hkke]; exact hB.size
        have hb7 := bl_al (bl0 W5) (.cells #[.slice none 0 0, .slice none 0 0] 58)
        refine hK _ _ (HFU.out _ hb7) ?_
        clear hK K
        try simp only [Act.put, List.setIfInBounds_toArray, List.set_cons_zero, List.set_cons_succ]
        obtain ⟨W7, hW7⟩ : ∃ W7, W5.alloc (.cells #[.slice none 0 0, .slice none 0 0] 58) = W7 := ⟨_, rfl⟩
        have hm7 : W7.heap[kk]? = some (.cells #[.slice none 0 0, .slice none 0 0] 58 (0, 0)) := by rw [← hW7, ← hkke]; exact heap_alloc_new W5 _
        have hkl : kk < W7.heap.size := (Array.getElem?_eq_some_iff.1 hm7).1
        replace hB := bl_tr hB hb7
        rw [hW7] at hB hb7
        rw [hW7, hkke]
        have HB7 := Lib.hid hb7
        have HFK := Lib.hid (fun W8 (h : Below w3.heap.size w3 W8) => h)
        clear hW7 hb7
        refine ordS_one (i := 12) (o := { dst := some 66, op := Op.call { callee := Callee.value (Operand.func 19), args := #[Operand.tmp 54, Operand.tmp 63, Operand.tmp 65], argTypes := #[26, 28, 35] }, type := 58, pos := _, after := #[{ on := 0, ground := Ground.data }, { on := 9, ground := Ground.data }, { on := 11, ground := Ground.data }, { on := 5, ground := Ground.chain }], guard := none }) (by kernel_rfl) rfl (by rfl) (fun K hK => ?_)
        go_simp
        refine ⟨trivial, ?_⟩
        with_reducible refine (callsIn_wide.2 (HOF.out _ (HR.out _ hB) (HC.out _ hB))).mono ?_
        rintro e W6 ⟨ka2, kc2, ta2, tc2, rfl, hk2, ht2, hst2, hb6⟩
        replace hB := bl_tr hB hb6
        refine hK _ _ (HFU.out _ (bl_tr HB7.out hb6)) ?_
        clear hK K
        try simp only [Act.put, List.setIfInBounds_toArray, List.set_cons_zero, List.set_cons_succ]
        have hm := (hb6.block _ hkl).trans hm7
        have m0 : W6.cell? ⟨kk, 0, none⟩ = some (.slice none 0 0) := by simp [World.cell?, hm]
        have m1 : W6.cell? ⟨kk, 1, none⟩ = some (.slice none 0 0) := by simp [World.cell?, hm]
        have fz0 : W6.frozen? ⟨kk, 0, none⟩ = false := by simp [World.frozen?, hm]
        have fz1 : W6.frozen? ⟨kk, 1, none⟩ = false := by simp [World.frozen?, hm]
        have zm := blk_lt m0
        refine ordS_one (i := 14) (o := { dst := none, op := Op.store 58 (Operand.tmp 10) (Operand.tmp 66), type := 0, pos := _, after := #[{ on := 13, ground := Ground.data }, { on := 12, ground := Ground.data }, { on := 12, ground := Ground.chain }, { on := 0, ground := Ground.phase }, { on := 1, ground := Ground.phase }, { on := 2, ground := Ground.phase }, { on := 3, ground := Ground.phase }, { on := 4, ground := Ground.phase }, { on := 5, ground := Ground.phase }, { on := 6, ground := Ground.phase }, { on := 7, ground := Ground.phase }, { on := 8, ground := Ground.phase }, { on := 9, ground := Ground.phase }, { on := 10, ground := Ground.phase }, { on := 11, ground := Ground.phase }, { on := 12, ground := Ground.phase }, { on := 13, ground := Ground.phase }], guard := none }) (by kernel_rfl) rfl (by rfl) (fun K hK => ?_)
        go_simp
        have hBs := bl_st (bl_st hB hkk (o := 0) (.slice ka2 cs.length kc2)) hkk (o := 1) (.slice ta2 TB.length tc2)
        have hB5s := bl_st (bl_st (bl_tr HB7.out hb6) (Nat.le_of_eq hkke) (o := 0) (.slice ka2 cs.length kc2)) (Nat.le_of_eq hkke) (o := 1) (.slice ta2 TB.length tc2)
        refine hK _ _ (HFU.out _ hB5s) ?_
        clear hK K
        try simp only [Act.put, List.setIfInBounds_toArray, List.set_cons_zero, List.set_cons_succ]
        refine ordS_done (by kernel_rfl) ?_
        have hm2 := tset2 (x := .slice ka2 cs.length kc2) (y := .slice ta2 TB.length tc2) hm
        have HP := Lib.hid (show CutT w3 cs TB (.pointer (some ⟨kk, 0, none⟩)) _ from ⟨kk, ka2, kc2, ta2, tc2, rfl, hkk, by simp [World.cell?, hm2], by simp [World.cell?, hm2], (hst2 kk _ _ hkl).1, (hst2 kk _ _ hkl).2, hBs⟩)
        clear hm2 m0 m1 fz0 fz1 zm hBs hB5s
        go_wp2_with fail
        go_meet
        exact HP.out
    · go_simp
      obtain ⟨kk, hkke⟩ : ∃ kk, W2.heap.size = kk := ⟨_, rfl⟩
      have hkk : w3.heap.size ≤ kk := by rw [← hkke]; exact hB.size
      replace hB := bl_tr hB (bl_al (bl0 W2) (.cells #[.slice none 0 0, .slice none 0 0] 58))
      refine hK _ _ (HF.out _ hB) ?_
      clear hK K
      try simp only [Act.put, List.setIfInBounds_toArray, List.set_cons_zero, List.set_cons_succ]
      obtain ⟨W7, hW7⟩ : ∃ W7, W2.alloc (.cells #[.slice none 0 0, .slice none 0 0] 58) = W7 := ⟨_, rfl⟩
      have hm7 : W7.heap[kk]? = some (.cells #[.slice none 0 0, .slice none 0 0] 58 (0, 0)) := by rw [← hW7, ← hkke]; exact heap_alloc_new W2 _
      have hkl7 : kk < W7.heap.size := (Array.getElem?_eq_some_iff.1 hm7).1
      rw [hW7] at hB
      rw [hW7, hkke]
      clear hW7
      refine ordS_one (i := 5) (o := { dst := some 59, op := Op.call { callee := Callee.value (Operand.func 20), args := #[Operand.tmp 56, Operand.tmp 58], argTypes := #[23, 3] }, type := 60, pos := _, after := #[{ on := 2, ground := Ground.data }, { on := 4, ground := Ground.data }], guard := none }) (by kernel_rfl) rfl (by rfl) (fun K hK => ?_)
      go_simp
      refine ⟨trivial, ?_⟩
      with_reducible refine (callsIn_wide.2 (HBX.out _)).mono ?_
      rintro e W5 ⟨ba, bc, rfl, hbr, hb5⟩
      replace hB := bl_tr hB hb5
      have hm5 := (hb5.block _ hkl7).trans hm7
      have hkl : kk < W5.heap.size := (Array.getElem?_eq_some_iff.1 hm5).1
      refine hK _ _ (HF.out _ hB) ?_
      clear hK K hb5
      try simp only [Act.put, List.setIfInBounds_toArray, List.set_cons_zero, List.set_cons_succ]
      obtain ⟨gb, go, rfl, ⟨u0, u1⟩, u2, u3⟩ := hbr.cell hkB
      rw [HAT.out] at u0 u1 u2 u3
      simp only at u0 u1 u2 u3
      clear hbr
      have hgk : gb ≠ kk := fun e => by subst e; exact absurd (tab_cell hm5 u0) (by simp)
      have HFU := Lib.hid (show ∀ W8, Below W5.heap.size W5 W8 → W8.cell? ⟨gb, go + k0 * 4, none⟩ = some (.int .i64 BX) ∧ W8.cell? ⟨gb, go + k0 * 4 + 1, none⟩ = some (.int .i64 BY) ∧ W8.cell? ⟨gb, go + k0 * 4 + 2, none⟩ = some (.int .i64 U) ∧ W8.cell? ⟨gb, go + k0 * 4 + 3, none⟩ = some (.int .i64 V) ∧ W8.cell? ⟨w.heap.size, 0, none⟩ = some (.int .i64 A) ∧ W8.cell? ⟨w.heap.size, 1, none⟩ = some (.int .i64 B) ∧ W8.cell? ⟨w.heap.size, 2, none⟩ = some (.slice a zs.length cap) ∧ W8.cell? ⟨w.heap.size + 1, 0, none⟩ = some (.int .i64 A) ∧ W8.cell? ⟨w.heap.size + 1, 1, none⟩ = some (.int .i64 B) ∧ W8.cell? ⟨w.heap.size + 1, 2, none⟩ = some (.int .i64 S) ∧ W8.cell? ⟨w.heap.size + 1 + 1, 0, none⟩ = some (.int .i64 k0) ∧ W8.cell? ⟨w.heap.size + 1 + 1, 1, none⟩ = some (.slice ca cs.length cc) from fun W8 h => by
        obtain ⟨q0, q1, q2, q3, q4, q5, q6, q7⟩ := HF.out _ (bl_tr hB h)
        exact ⟨cell_later h u0, cell_later h u1, cell_later h u2, cell_later h u3, q0, q1, q2, q3, q4, q5, q6, q7⟩)
      refine OrdS.sub (S' := (fun W9 : World => W9.cell? ⟨gb, go + k0 * 4, none⟩ = some (.int .i64 BX) ∧ W9.cell? ⟨gb, go + k0 * 4 + 1, none⟩ = some (.int .i64 BY) ∧ W9.cell? ⟨gb, go + k0 * 4 + 2, none⟩ = some (.int .i64 U) ∧ W9.cell? ⟨gb, go + k0 * 4 + 3, none⟩ = some (.int .i64 V) ∧ W9.cell? ⟨w.heap.size, 0, none⟩ = some (.int .i64 A) ∧ W9.cell? ⟨w.heap.size, 1, none⟩ = some (.int .i64 B) ∧ W9.cell? ⟨w.heap.size, 2, none⟩ = some (.slice a zs.length cap) ∧ W9.cell? ⟨w.heap.size + 1, 0, none⟩ = some (.int .i64 A) ∧ W9.cell? ⟨w.heap.size + 1, 1, none⟩ = some (.int .i64 B) ∧ W9.cell? ⟨w.heap.size + 1, 2, none⟩ = some (.int .i64 S) ∧ W9.cell? ⟨w.heap.size + 1 + 1, 0, none⟩ = some (.int .i64 k0) ∧ W9.cell? ⟨w.heap.size + 1 + 1, 1, none⟩ = some (.slice ca cs.length cc))) (fun W h => h.2.2.2.2) _ _ _ _ ?_
      have hS5 := HFU.out _ (bl0 W5)
      refine' ordS_take (i := 8) (oi := { dst := some 62, op := Op.indexAddr 60 (Operand.tmp 59) (Operand.tmp 61), type := 0, pos := _, after := #[{ on := 5, ground := Ground.data }, { on := 7, ground := Ground.data }], guard := none }) (v := _) rfl (by kernel_rfl) (by kernel_rfl) (by kernel_rfl) (by kernel_rfl) (fun _ _ _ h => h) (by assumption) (Or.inl ⟨by rfl, ?hy449⟩) (fun _ => rfl) ?rest449
      case hy449 => (intro w hSw; (try dsimp only at hSw); go_simp; try with_reducible rfl)
      try simp only [Act.put, List.setIfInBounds_toArray, List.set_cons_zero, List.set_cons_succ]
      refine' ordS_take (i := 9) (oi := { dst := some 63, op := Op.load 28 (Operand.tmp 62), type := 28, pos := _, after := #[{ on := 8, ground := Ground.data }], guard := none }) (v := _) rfl (by kernel_rfl) (by kernel_rfl) (by kernel_rfl) (by kernel_rfl) (fun _ _ _ h => h) (by assumption) (Or.inl ⟨by rfl, ?hy450⟩) (fun _ => rfl) ?rest450
      case hy450 => (intro w hSw; (try dsimp only at hSw); go_simp; try with_reducible rfl)
      try simp only [Act.put, List.setIfInBounds_toArray, List.set_cons_zero, List.set_cons_succ]
      clear u0 u1 u2 u3 hS5
      refine ordS_one (i := 12) (o := { dst := some 66, op := Op.call { callee := Callee.value (Operand.func 19), args := #[Operand.tmp 54, Operand.tmp 63, Operand.tmp 65], argTypes := #[26, 28, 35] }, type := 58, pos := _, after := #[{ on := 0, ground := Ground.data }, { on := 9, ground := Ground.data }, { on := 11, ground := Ground.data }, { on := 5, ground := Ground.chain }], guard := none }) (by kernel_rfl) rfl (by rfl) (fun K hK => ?_)
      go_simp
      refine ⟨trivial, ?_⟩
      with_reducible refine (callsIn_wide.2 (HOF.out _ (HR.out _ hB) (HC.out _ hB))).mono ?_
      rintro e W6 ⟨ka2, kc2, ta2, tc2, rfl, hk2, ht2, hst2, hb6⟩
      replace hB := bl_tr hB hb6
      refine hK _ _ (HFU.out _ hb6) ?_
      clear hK K
      try simp only [Act.put, List.setIfInBounds_toArray, List.set_cons_zero, List.set_cons_succ]
      have hm := (hb6.block _ hkl).trans hm5
      have m0 : W6.cell? ⟨kk, 0, none⟩ = some (.slice none 0 0) := by simp [World.cell?, hm]
      have m1 : W6.cell? ⟨kk, 1, none⟩ = some (.slice none 0 0) := by simp [World.cell?, hm]
      have fz0 : W6.frozen? ⟨kk, 0, none⟩ = false := by simp [World.frozen?, hm]
      have fz1 : W6.frozen? ⟨kk, 1, none⟩ = false := by simp [World.frozen?, hm]
      have zm := blk_lt m0
      refine ordS_one (i := 14) (o := { dst := none, op := Op.store 58 (Operand.tmp 10) (Operand.tmp 66), type := 0, pos := _, after := #[{ on := 13, ground := Ground.data }, { on := 12, ground := Ground.data }, { on := 12, ground := Ground.chain }, { on := 0, ground := Ground.phase }, { on := 1, ground := Ground.phase }, { on := 2, ground := Ground.phase }, { on := 3, ground := Ground.phase }, { on := 4, ground := Ground.phase }, { on := 5, ground := Ground.phase }, { on := 6, ground := Ground.phase }, { on := 7, ground := Ground.phase }, { on := 8, ground := Ground.phase }, { on := 9, ground := Ground.phase }, { on := 10, ground := Ground.phase }, { on := 11, ground := Ground.phase }, { on := 12, ground := Ground.phase }, { on := 13, ground := Ground.phase }], guard := none }) (by kernel_rfl) rfl (by rfl) (fun K hK => ?_)
      go_simp
      have hBs := bl_st (bl_st hB hkk (o := 0) (.slice ka2 cs.length kc2)) hkk (o := 1) (.slice ta2 TB.length tc2)
      have hS9 : (fun W9 : World => W9.cell? ⟨gb, go + k0 * 4, none⟩ = some (.int .i64 BX) ∧ W9.cell? ⟨gb, go + k0 * 4 + 1, none⟩ = some (.int .i64 BY) ∧ W9.cell? ⟨gb, go + k0 * 4 + 2, none⟩ = some (.int .i64 U) ∧ W9.cell? ⟨gb, go + k0 * 4 + 3, none⟩ = some (.int .i64 V) ∧ W9.cell? ⟨w.heap.size, 0, none⟩ = some (.int .i64 A) ∧ W9.cell? ⟨w.heap.size, 1, none⟩ = some (.int .i64 B) ∧ W9.cell? ⟨w.heap.size, 2, none⟩ = some (.slice a zs.length cap) ∧ W9.cell? ⟨w.heap.size + 1, 0, none⟩ = some (.int .i64 A) ∧ W9.cell? ⟨w.heap.size + 1, 1, none⟩ = some (.int .i64 B) ∧ W9.cell? ⟨w.heap.size + 1, 2, none⟩ = some (.int .i64 S) ∧ W9.cell? ⟨w.heap.size + 1 + 1, 0, none⟩ = some (.int .i64 k0) ∧ W9.cell? ⟨w.heap.size + 1 + 1, 1, none⟩ = some (.slice ca cs.length cc)) ((W6.setCell ⟨kk, 0, none⟩ (.slice ka2 cs.length kc2)).setCell ⟨kk, 1, none⟩ (.slice ta2 TB.length tc2)) := by
        obtain ⟨q0, q1, q2, q3, q4⟩ := HFU.out _ hb6
        exact ⟨cell_set2 q0 hgk, cell_set2 q1 hgk, cell_set2 q2 hgk, cell_set2 q3 hgk, HF.out _ hBs⟩
      refine hK _ _ hS9 ?_
      clear hK K
      try simp only [Act.put, List.setIfInBounds_toArray, List.set_cons_zero, List.set_cons_succ]
      refine ordS_done (by kernel_rfl) ?_
      have hm2 := tset2 (x := .slice ka2 cs.length kc2) (y := .slice ta2 TB.length tc2) hm
      have HP := Lib.hid (show CutT w3 cs TB (.pointer (some ⟨kk, 0, none⟩)) _ from ⟨kk, ka2, kc2, ta2, tc2, rfl, hkk, by simp [World.cell?, hm2], by simp [World.cell?, hm2], (hst2 kk _ _ hkl).1, (hst2 kk _ _ hkl).2, hBs⟩)
      clear hm2 m0 m1 fz0 fz1 zm hBs hS9
      go_wp2_with fail
      go_meet
      exact HP.out
  case rest =>
    obtain ⟨kk, ka2, kc2, ta2, tc2, rfl, hkk, m0, m1, hk2, ht2, hB6⟩ := hcut
    have hka := HKA.out.below hB6
    have hta := HTA.out.below hB6
    have t0 := cell_later hB6 HT0.out
    have t1 := cell_later hB6 HT1.out
    have hAc := bl_tr hA3 hB6
    have zm0 := blk_lt m0
    have zt0 := blk_lt t0
    have hA := hAc
    clear HF HR HC HKA HTA HT0 HT1 HBX HAT hkB hkB2 hkB0 H1 H2 H4 HOF HOR HTR hA3 hAc hB6 hkk hB hr hcs
    go_wp2_with fail
    refine (HCE.out _ _ _ _ _ hka hk2).mono ?_
    rintro e w4 ⟨rfl, hb⟩
    have hk : Below wc.heap.size wc w4 := by first | exact hb | exact bl_tr (bl_al (bl0 _) _) hb | exact bl_tr (bl_dr (bl_al (bl0 _) _)) hb | exact bl_tr (bl_al (bl_al (bl0 _) _) _) hb | exact bl_tr (bl_dr (bl_al (bl_al (bl0 _) _) _)) hb | exact bl_tr (bl_al (bl_al (bl_al (bl0 _) _) _) _) hb | exact bl_tr (bl_dr (bl_al (bl_al (bl_al (bl0 _) _) _) _)) hb | exact bl_tr (bl_al (bl_al (bl_al (bl_al (bl0 _) _) _) _) _) hb | exact bl_tr (bl_dr (bl_al (bl_al (bl_al (bl_al (bl0 _) _) _) _) _)) hb | exact bl_tr (bl_al (bl_al (bl_al (bl_al (bl_al (bl0 _) _) _) _) _) _) hb | exact bl_tr (bl_dr (bl_al (bl_al (bl_al (bl_al (bl_al (bl0 _) _) _) _) _) _)) hb | exact bl_tr (bl_al (bl_al (bl_al (bl_al (bl_al (bl_al (bl0 _) _) _) _) _) _) _) hb | exact bl_tr (bl_dr (bl_al (bl_al (bl_al (bl_al (bl_al (bl_al (bl0 _) _) _) _) _) _) _)) hb | exact bl_tr (bl_dr (bl0 _)) hb
    replace hA := bl_tr hA hk
    replace hta := hta.below hk
    replace ht2 := ht2.below hk
    replace m0 := cell_later hk m0
    replace m1 := cell_later hk m1
    replace t0 := cell_later hk t0
    replace t1 := cell_later hk t1
    clear hb hk
    have zm0 := blk_lt m0
    have zm1 := blk_lt m1
    have zt0 := blk_lt t0
    have zt1 := blk_lt t1
    go_wp2_with fail
    refine (HRO.out _ _ _ _ _ hta ht2).mono ?_
    rintro e w5 ⟨rfl, hb⟩
    have hk : Below w4.heap.size w4 w5 := by first | exact hb | exact bl_tr (bl_al (bl0 _) _) hb | exact bl_tr (bl_dr (bl_al (bl0 _) _)) hb | exact bl_tr (bl_al (bl_al (bl0 _) _) _) hb | exact bl_tr (bl_dr (bl_al (bl_al (bl0 _) _) _)) hb | exact bl_tr (bl_al (bl_al (bl_al (bl0 _) _) _) _) hb | exact bl_tr (bl_dr (bl_al (bl_al (bl_al (bl0 _) _) _) _)) hb | exact bl_tr (bl_al (bl_al (bl_al (bl_al (bl0 _) _) _) _) _) hb | exact bl_tr (bl_dr (bl_al (bl_al (bl_al (bl_al (bl0 _) _) _) _) _)) hb | exact bl_tr (bl_al (bl_al (bl_al (bl_al (bl_al (bl0 _) _) _) _) _) _) hb | exact bl_tr (bl_dr (bl_al (bl_al (bl_al (bl_al (bl_al (bl0 _) _) _) _) _) _)) hb | exact bl_tr (bl_al (bl_al (bl_al (bl_al (bl_al (bl_al (bl0 _) _) _) _) _) _) _) hb | exact bl_tr (bl_dr (bl_al (bl_al (bl_al (bl_al (bl_al (bl_al (bl0 _) _) _) _) _) _) _)) hb | exact bl_tr (bl_dr (bl0 _)) hb
    replace hA := bl_tr hA hk
    clear hb hk
    go_wp2_with fail
    refine (awake13 _ (hs.below (by first | exact hA | exact (bl_al hA _) | exact (bl_dr (bl_al hA _)) | exact (bl_al (bl_al hA _) _) | exact (bl_dr (bl_al (bl_al hA _) _)) | exact (bl_al (bl_al (bl_al hA _) _) _) | exact (bl_dr (bl_al (bl_al (bl_al hA _) _) _)) | exact (bl_al (bl_al (bl_al (bl_al hA _) _) _) _) | exact (bl_dr (bl_al (bl_al (bl_al (bl_al hA _) _) _) _)) | exact (bl_al (bl_al (bl_al (bl_al (bl_al hA _) _) _) _) _) | exact (bl_dr (bl_al (bl_al (bl_al (bl_al (bl_al hA _) _) _) _) _)) | exact (bl_al (bl_al (bl_al (bl_al (bl_al (bl_al hA _) _) _) _) _) _) | exact (bl_dr (bl_al (bl_al (bl_al (bl_al (bl_al (bl_al hA _) _) _) _) _) _)) | exact (bl_dr hA)))).mono ?_
    rintro e w6 ⟨rfl, hb⟩
    have hk : Below w5.heap.size w5 w6 := by first | exact hb | exact bl_tr (bl_al (bl0 _) _) hb | exact bl_tr (bl_dr (bl_al (bl0 _) _)) hb | exact bl_tr (bl_al (bl_al (bl0 _) _) _) hb | exact bl_tr (bl_dr (bl_al (bl_al (bl0 _) _) _)) hb | exact bl_tr (bl_al (bl_al (bl_al (bl0 _) _) _) _) hb | exact bl_tr (bl_dr (bl_al (bl_al (bl_al (bl0 _) _) _) _)) hb | exact bl_tr (bl_al (bl_al (bl_al (bl_al (bl0 _) _) _) _) _) hb | exact bl_tr (bl_dr (bl_al (bl_al (bl_al (bl_al (bl0 _) _) _) _) _)) hb | exact bl_tr (bl_al (bl_al (bl_al (bl_al (bl_al (bl0 _) _) _) _) _) _) hb | exact bl_tr (bl_dr (bl_al (bl_al (bl_al (bl_al (bl_al (bl0 _) _) _) _) _) _)) hb | exact bl_tr (bl_al (bl_al (bl_al (bl_al (bl_al (bl_al (bl0 _) _) _) _) _) _) _) hb | exact bl_tr (bl_dr (bl_al (bl_al (bl_al (bl_al (bl_al (bl_al (bl0 _) _) _) _) _) _) _)) hb | exact bl_tr (bl_dr (bl0 _)) hb
    replace hA := bl_tr hA hk
    clear hb hk
    go_wp2
    go_ret
    exact ⟨rfl, hA⟩
end Go.Proofs.YtgbhafadibdmcaaDoor
