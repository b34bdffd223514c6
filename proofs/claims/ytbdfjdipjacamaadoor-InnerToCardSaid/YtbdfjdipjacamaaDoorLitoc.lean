/- InnerTo: the law's walk where the cell lies within. -/
import Derived.Test.YtbdfjdipjacamaaDoorLitob
namespace Go.Proofs.YtbdfjdipjacamaaDoor
open Go.RowKit

/-- Two may come. -/
theorem ordS_two {F : Fence} {n : Nat} {P : Program} {ops : Array Oper} {Q : Exit → Act → World → Prop} {md : Region.Mode} {S : World → Prop} {i j : Nat} {o o2 : Oper} {k : Nat} {l : Array Bool} {a : Act} {w : World} (hr : Region.ready md ops l = [i, j]) (ho : ops[i]? = some o) (hw : Region.wanted o (yielded ops a.tmps) = true) (ho2 : ops[j]? = some o2) (hw2 : Region.wanted o2 (yielded ops a.tmps) = true)
    (h : ∀ K : Act → World → Prop, (∀ a1 w1, S w1 → OrdS F n P md ops Q S k (l.setIfInBounds i true) a1 w1 → K a1 w1) → Oper.wpIn F n P o a w K Q)
    (h2 : ∀ K : Act → World → Prop, (∀ a1 w1, S w1 → OrdS F n P md ops Q S k (l.setIfInBounds j true) a1 w1 → K a1 w1) → Oper.wpIn F n P o2 a w K Q) : OrdS F n P md ops Q S (k + 1) l a w := by
  refine ⟨fun h0 => absurd (hr.symm.trans h0) (by simp), fun x hx => ?_⟩
  rw [hr] at hx
  rcases List.mem_cons.1 hx with rfl | hx
  · refine wpOpIn_step ho fun K' hK' => ?_
    rw [if_pos hw]
    exact h K' fun a1 w1 hs hrest => hK' a1 w1 ⟨hs, hrest⟩
  · obtain rfl := List.mem_singleton.1 hx
    refine wpOpIn_step ho2 fun K' hK' => ?_
    rw [if_pos hw2]
    exact h2 K' fun a1 w1 hs hrest => hK' a1 w1 ⟨hs, hrest⟩
/-- A stronger condition will do. -/
theorem OrdS.sub {F : Fence} {n : Nat} {P : Program} {ops : Array Oper} {Q : Exit → Act → World → Prop} {md : Region.Mode} {S S' : World → Prop} (hSS : ∀ W, S' W → S W) (k : Nat) : ∀ (l : Array Bool) (a : Act) (w : World), OrdS F n P md ops Q S' k l a w → OrdS F n P md ops Q S k l a w := by
  induction k with
  | zero => intro l a w h; exact h
  | succ k ih => intro l a w h; exact ⟨h.1, fun i hi => wpOpIn_mono (fun a1 w1 h1 => ⟨hSS _ h1.1, ih _ a1 w1 h1.2⟩) (h.2 i hi)⟩
set_option maxRecDepth 100000 in
set_option maxHeartbeats 8000000 in
/-- Where the cell lies within. -/
theorem ito_yes (A B : Int) (a : Option Addr) (cap : Nat) (zs : List Int) (S : Int) (k0 : Nat) (ca : Option Addr) (cc : Nat) (cs : List IC) (p : IC) (w : World) (hs : Stp w) (hr : RowH w a zs) (hz : AllH zs) (hc : zs.length ≤ cap) (hcs : RowC w ca cs) (hw : AllW cs) (hp : wf64 p.1 ∧ wf64 p.2) (hsm : zs.length ≤ 260 ∧ cs.length ≤ 60) (h0 : chkI A B zs.length A B S k0 cs = 0) (h1 : hasI A B S k0 p = true) :
    Calls Tryd.prog 7 #[.agg #[.int .i64 A, .int .i64 B, .slice a zs.length cap], .agg #[.int .i64 A, .int .i64 B, .int .i64 S], .agg #[.int .i64 k0, .slice ca cs.length cc, .int .i64 p.1, .int .i64 p.2]] w fun e w' => e = .returned (.bool true) ∧ Below w.heap.size w w' := by
  have hA := bl0 w
  have H1 := Lib.hid (fun w => small13_any A B a zs.length cap k0 ca cs.length cc p w)
  rw [decide_eq_true hsm.1, decide_eq_true hsm.2] at H1
  have hl : cs.length ≤ 1048576 := by omega
  have H2 := Lib.hid (fun w hr hcs hs => to_i A B a cap zs A B S k0 ca cc cs none 0 0 p w hr hz hc hcs hl hs)
  have H3 := Lib.hid (fun w hr hcs hs => back_i A B a cap zs A B S k0 ca cc cs none 0 0 p w hr hz hc hcs hl hs)
  have H4 := Lib.hid (fun w hcs => may13_any A B a zs.length cap A B S k0 ca cc cs w hcs hl hw)
  unfold ToR at H2 H3
  have hx : toXi A B zs.length A B S k0 cs p = 0 := by unfold toXi; rw [if_neg (fun q => q h0), if_pos h1]
  have hT : toLi A B zs A B S k0 cs p = rowO A (bxB A B S k0) zs p cs := by unfold toLi; rw [hx, if_pos rfl]
  have hK : backLi A B zs A B S k0 cs p = backO A (bxB A B S k0) zs p cs := by unfold backLi; rw [hx, if_pos rfl]
  rw [hx, hT] at H2
  rw [hx, hK] at H3
  rw [h0] at H4
  obtain ⟨hchk, _, _, hpl, hwr⟩ := chkI_ok h0
  obtain ⟨BX', BY', U, V, hbb, ⟨b0, b1, b2, b3⟩, hbx, hhas⟩ := clu_box hpl
  rw [hbb] at H2 H3
  have hpin : inBx (BX', BY', (U : Int), (V : Int)) p = true := by rw [← hhas]; exact h1
  have hcin : ∀ d ∈ cs, inBx (BX', BY', (U : Int), (V : Int)) d = true := fun d hd => by rw [← hhas]; exact wrg_in hwr d hd
  obtain ⟨hmay, hn⟩ := chkF_may hchk
  have HR1 := Lib.hid (fun w hr hcs => row13_any A B BX' BY' U V a cap zs p ca cc cs w hr hz hn hbx hpin hcs hcin hl)
  have HR2 := Lib.hid (fun (d : IC) (hd : d ∈ cs) (pa : Option Addr) (pc : Nat) w hr (hcs : RowC w pa [p]) => row13_any A B BX' BY' U V a cap zs d pa pc [p] w hr hz hn hbx (hcin d hd) hcs (fun q hq => by rw [List.mem_singleton.1 hq]; exact hpin) (by simp))
  unfold Row13R at HR1 HR2
  have HBK := Lib.hid (show ∀ (k : Nat) (hk : k < cs.length), (backO A (BX', BY', (U : Int), (V : Int)) zs p cs).take (k + 1) = (backO A (BX', BY', (U : Int), (V : Int)) zs p cs).take k ++ [atD (farO A (BX', BY', (U : Int), (V : Int)) zs cs[k]) (numN A p)] from fun k hk => by
    rw [List.take_succ_eq_append_getElem (by simp [backO]; exact hk)]
    congr 2
    simp [backO])
  have HR3 := Lib.hid (show ∀ d : IC, rowO A (BX', BY', (U : Int), (V : Int)) zs d [p] = [atD (farO A (BX', BY', (U : Int), (V : Int)) zs d) (numN A p)] from fun d => rfl)
  have hbkl : (backO A (BX', BY', (U : Int), (V : Int)) zs p cs).length = cs.length := by simp [backO]
  have hrol : (rowO A (BX', BY', (U : Int), (V : Int)) zs p cs).length = cs.length := rowO_len A _ zs p cs
  obtain ⟨FO, hFO⟩ : ∃ FO : IC → Int, (fun d => atD (farO A (BX', BY', (U : Int), (V : Int)) zs d) (numN A p)) = FO := ⟨_, rfl⟩
  have hFO2 : ∀ d, atD (farO A (BX', BY', (U : Int), (V : Int)) zs d) (numN A p) = FO d := fun d => congrFun hFO d
  simp only [hFO2] at HBK HR3
  simp only [HR3.out, List.length_singleton] at HR2
  obtain ⟨RO, hRO⟩ : ∃ RO, rowO A (BX', BY', (U : Int), (V : Int)) zs p cs = RO := ⟨_, rfl⟩
  obtain ⟨BK, hBK⟩ : ∃ BK, backO A (BX', BY', (U : Int), (V : Int)) zs p cs = BK := ⟨_, rfl⟩
  rw [hRO] at H2 HR1 hrol
  rw [hBK] at H3 HBK hbkl
  have HBL := Lib.hid hbkl
  have HROL := Lib.hid hrol
  have hl60 : (cs.length : Int) ≤ 60 := by omega
  have HSA := Lib.hid (fun a a2 c c2 w h1 h2 => (show Calls Tryd.prog 42 #[.slice a RO.length c, .slice a2 RO.length c2] w (fun e w' => e = .returned (.bool true) ∧ Below w.heap.size w w') by
    have := same13_any a a2 c c2 RO RO w h1 h2 (by omega)
    rw [decide_eq_true rfl] at this
    exact this))
  have HSB := Lib.hid (fun a a2 c c2 w h1 h2 => (show Calls Tryd.prog 42 #[.slice a BK.length c, .slice a2 cs.length c2] w (fun e w' => e = .returned (.bool true) ∧ Below w.heap.size w w') by
    have := same13_any a a2 c c2 BK BK w h1 h2 (by omega)
    rw [decide_eq_true rfl] at this
    rw [← hbkl]
    exact this))
  obtain ⟨hrt, hk0, hk1⟩ := plcX_yes.1 hpl
  have HBX := Lib.hid (fun w => boxes11 A B S w hrt)
  unfold BxsR at HBX
  have hkb : k0 < (boxL A B S).length := by rw [boxL_len]; have := (cntN_eq hrt).1; omega
  have hat := boxL_at hkb
  have hbf : bxF A B S k0 = ((BX', BY'), ((U : Int), (V : Int))) := by unfold bxF; rw [b0, b1, b2, b3]
  rw [hbf] at hat
  have HHS := Lib.hid (fun w => rhas8_any BX' BY' U V p w (fitsB_iff.1 hbx.fits).1 ⟨hbx.x.1, hbx.y.1⟩ hp)
  rw [← hhas, h1] at HHS
  obtain ⟨BL, hB⟩ : ∃ BL, boxL A B S = BL := ⟨_, rfl⟩
  have hkB : k0 < BL.length := by rw [← hB]; exact hkb
  have HAT := Lib.hid (show BL[k0] = ((BX', BY'), ((U : Int), (V : Int))) by simp only [← hB]; exact hat)
  rw [hB] at HBX
  have hkB2 : (k0 : Int) < (BL.length : Int) := by omega
  have hkB0 : (0 : Int) ≤ (k0 : Int) := by omega
  clear hx hT hK h0 hsm hl hw hz hc hpl hbb b0 b1 b2 b3 hbx hhas hrt hk0 hk1 hkb hat hbf hB h1 hp hpin hcin hmay hn hchk hwr hbkl hrol hRO hBK hFO hFO2 HR3
  go_enter Tryd.func7, Tryd.ntmps7
  go_wp2_with fail
  refine (H1.out _).mono ?_
  rintro e w1 ⟨rfl, hb⟩
  have hk : Below w.heap.size w w1 := by first | exact hb | exact bl_tr (bl_al (bl0 _) _) hb | exact bl_tr (bl_dr (bl_al (bl0 _) _)) hb | exact bl_tr (bl_al (bl_al (bl0 _) _) _) hb | exact bl_tr (bl_dr (bl_al (bl_al (bl0 _) _) _)) hb | exact bl_tr (bl_al (bl_al (bl_al (bl0 _) _) _) _) hb | exact bl_tr (bl_dr (bl_al (bl_al (bl_al (bl0 _) _) _) _)) hb | exact bl_tr (bl_al (bl_al (bl_al (bl_al (bl0 _) _) _) _) _) hb | exact bl_tr (bl_dr (bl_al (bl_al (bl_al (bl_al (bl0 _) _) _) _) _)) hb | exact bl_tr (bl_al (bl_al (bl_al (bl_al (bl_al (bl0 _) _) _) _) _) _) hb | exact bl_tr (bl_dr (bl_al (bl_al (bl_al (bl_al (bl_al (bl0 _) _) _) _) _) _)) hb | exact bl_tr (bl_al (bl_al (bl_al (bl_al (bl_al (bl_al (bl0 _) _) _) _) _) _) _) hb | exact bl_tr (bl_dr (bl_al (bl_al (bl_al (bl_al (bl_al (bl_al (bl0 _) _) _) _) _) _) _)) hb | exact bl_tr (bl_dr (bl0 _)) hb
  replace hA := bl_tr hA hk
  have f0 := cell_later hb (v := .int .i64 A) (a := ⟨w.heap.size, 0, none⟩) (by simp [go_sem])
  have f1 := cell_later hb (v := .int .i64 B) (a := ⟨w.heap.size, 1, none⟩) (by simp [go_sem])
  have f2 := cell_later hb (v := .slice a zs.length cap) (a := ⟨w.heap.size, 2, none⟩) (by simp [go_sem])
  have p0 := cell_later hb (v := .int .i64 A) (a := ⟨w.heap.size + 1, 0, none⟩) (by simp [go_sem])
  have p1 := cell_later hb (v := .int .i64 B) (a := ⟨w.heap.size + 1, 1, none⟩) (by simp [go_sem])
  have p2 := cell_later hb (v := .int .i64 S) (a := ⟨w.heap.size + 1, 2, none⟩) (by simp [go_sem])
  have c0 := cell_later hb (v := .int .i64 k0) (a := ⟨w.heap.size + 1 + 1, 0, none⟩) (by simp [go_sem])
  have c1 := cell_later hb (v := .slice ca cs.length cc) (a := ⟨w.heap.size + 1 + 1, 1, none⟩) (by simp [go_sem])
  have c2 := cell_later hb (v := .int .i64 p.1) (a := ⟨w.heap.size + 1 + 1, 2, none⟩) (by simp [go_sem])
  have c3 := cell_later hb (v := .int .i64 p.2) (a := ⟨w.heap.size + 1 + 1, 3, none⟩) (by simp [go_sem])
  clear hb hk
  have zf0 := blk_lt f0
  have zf1 := blk_lt f1
  have zf2 := blk_lt f2
  have zp0 := blk_lt p0
  have zp1 := blk_lt p1
  have zp2 := blk_lt p2
  have zc0 := blk_lt c0
  have zc1 := blk_lt c1
  have zc2 := blk_lt c2
  have zc3 := blk_lt c3
  go_wp2_with fail
  refine (H2.out _ (hr.below (by first | exact hA | exact (bl_al hA _) | exact (bl_dr (bl_al hA _)) | exact (bl_al (bl_al hA _) _) | exact (bl_dr (bl_al (bl_al hA _) _)) | exact (bl_al (bl_al (bl_al hA _) _) _) | exact (bl_dr (bl_al (bl_al (bl_al hA _) _) _)) | exact (bl_al (bl_al (bl_al (bl_al hA _) _) _) _) | exact (bl_dr (bl_al (bl_al (bl_al (bl_al hA _) _) _) _)) | exact (bl_al (bl_al (bl_al (bl_al (bl_al hA _) _) _) _) _) | exact (bl_dr (bl_al (bl_al (bl_al (bl_al (bl_al hA _) _) _) _) _)) | exact (bl_al (bl_al (bl_al (bl_al (bl_al (bl_al hA _) _) _) _) _) _) | exact (bl_dr (bl_al (bl_al (bl_al (bl_al (bl_al (bl_al hA _) _) _) _) _) _)) | exact (bl_dr hA))) (hcs.below (by first | exact hA | exact (bl_al hA _) | exact (bl_dr (bl_al hA _)) | exact (bl_al (bl_al hA _) _) | exact (bl_dr (bl_al (bl_al hA _) _)) | exact (bl_al (bl_al (bl_al hA _) _) _) | exact (bl_dr (bl_al (bl_al (bl_al hA _) _) _)) | exact (bl_al (bl_al (bl_al (bl_al hA _) _) _) _) | exact (bl_dr (bl_al (bl_al (bl_al (bl_al hA _) _) _) _)) | exact (bl_al (bl_al (bl_al (bl_al (bl_al hA _) _) _) _) _) | exact (bl_dr (bl_al (bl_al (bl_al (bl_al (bl_al hA _) _) _) _) _)) | exact (bl_al (bl_al (bl_al (bl_al (bl_al (bl_al hA _) _) _) _) _) _) | exact (bl_dr (bl_al (bl_al (bl_al (bl_al (bl_al (bl_al hA _) _) _) _) _) _)) | exact (bl_dr hA))) (hs.below (by first | exact hA | exact (bl_al hA _) | exact (bl_dr (bl_al hA _)) | exact (bl_al (bl_al hA _) _) | exact (bl_dr (bl_al (bl_al hA _) _)) | exact (bl_al (bl_al (bl_al hA _) _) _) | exact (bl_dr (bl_al (bl_al (bl_al hA _) _) _)) | exact (bl_al (bl_al (bl_al (bl_al hA _) _) _) _) | exact (bl_dr (bl_al (bl_al (bl_al (bl_al hA _) _) _) _)) | exact (bl_al (bl_al (bl_al (bl_al (bl_al hA _) _) _) _) _) | exact (bl_dr (bl_al (bl_al (bl_al (bl_al (bl_al hA _) _) _) _) _)) | exact (bl_al (bl_al (bl_al (bl_al (bl_al (bl_al hA _) _) _) _) _) _) | exact (bl_dr (bl_al (bl_al (bl_al (bl_al (bl_al (bl_al hA _) _) _) _) _) _)) | exact (bl_dr hA)))).mono ?_
  rintro e w2 ⟨g1, k1, rfl, hq1, hb⟩
  have hk : Below w1.heap.size w1 w2 := by first | exact hb | exact bl_tr (bl_al (bl0 _) _) hb | exact bl_tr (bl_dr (bl_al (bl0 _) _)) hb | exact bl_tr (bl_al (bl_al (bl0 _) _) _) hb | exact bl_tr (bl_dr (bl_al (bl_al (bl0 _) _) _)) hb | exact bl_tr (bl_al (bl_al (bl_al (bl0 _) _) _) _) hb | exact bl_tr (bl_dr (bl_al (bl_al (bl_al (bl0 _) _) _) _)) hb | exact bl_tr (bl_al (bl_al (bl_al (bl_al (bl0 _) _) _) _) _) hb | exact bl_tr (bl_dr (bl_al (bl_al (bl_al (bl_al (bl0 _) _) _) _) _)) hb | exact bl_tr (bl_al (bl_al (bl_al (bl_al (bl_al (bl0 _) _) _) _) _) _) hb | exact bl_tr (bl_dr (bl_al (bl_al (bl_al (bl_al (bl_al (bl0 _) _) _) _) _) _)) hb | exact bl_tr (bl_al (bl_al (bl_al (bl_al (bl_al (bl_al (bl0 _) _) _) _) _) _) _) hb | exact bl_tr (bl_dr (bl_al (bl_al (bl_al (bl_al (bl_al (bl_al (bl0 _) _) _) _) _) _) _)) hb | exact bl_tr (bl_dr (bl0 _)) hb
  replace hA := bl_tr hA hk
  replace f0 := cell_later hk f0
  replace f1 := cell_later hk f1
  replace f2 := cell_later hk f2
  replace p0 := cell_later hk p0
  replace p1 := cell_later hk p1
  replace p2 := cell_later hk p2
  replace c0 := cell_later hk c0
  replace c1 := cell_later hk c1
  replace c2 := cell_later hk c2
  replace c3 := cell_later hk c3
  have t0 := cell_later hb (v := .slice ca cs.length cc) (a := ⟨w1.heap.size, 0, none⟩) (by simp [go_sem])
  have t1 := cell_later hb (v := .slice none 0 0) (a := ⟨w1.heap.size, 1, none⟩) (by simp [go_sem])
  clear hb hk
  have zf0 := blk_lt f0
  have zf1 := blk_lt f1
  have zf2 := blk_lt f2
  have zp0 := blk_lt p0
  have zp1 := blk_lt p1
  have zp2 := blk_lt p2
  have zc0 := blk_lt c0
  have zc1 := blk_lt c1
  have zc2 := blk_lt c2
  have zc3 := blk_lt c3
  have zt0 := blk_lt t0
  have zt1 := blk_lt t1
  have hra := rowU_or hq1
  clear hq1
  go_wp2_with fail
  refine (H3.out _ (hr.below (by first | exact hA | exact (bl_al hA _) | exact (bl_dr (bl_al hA _)) | exact (bl_al (bl_al hA _) _) | exact (bl_dr (bl_al (bl_al hA _) _)) | exact (bl_al (bl_al (bl_al hA _) _) _) | exact (bl_dr (bl_al (bl_al (bl_al hA _) _) _)) | exact (bl_al (bl_al (bl_al (bl_al hA _) _) _) _) | exact (bl_dr (bl_al (bl_al (bl_al (bl_al hA _) _) _) _)) | exact (bl_al (bl_al (bl_al (bl_al (bl_al hA _) _) _) _) _) | exact (bl_dr (bl_al (bl_al (bl_al (bl_al (bl_al hA _) _) _) _) _)) | exact (bl_al (bl_al (bl_al (bl_al (bl_al (bl_al hA _) _) _) _) _) _) | exact (bl_dr (bl_al (bl_al (bl_al (bl_al (bl_al (bl_al hA _) _) _) _) _) _)) | exact (bl_dr hA))) (hcs.below (by first | exact hA | exact (bl_al hA _) | exact (bl_dr (bl_al hA _)) | exact (bl_al (bl_al hA _) _) | exact (bl_dr (bl_al (bl_al hA _) _)) | exact (bl_al (bl_al (bl_al hA _) _) _) | exact (bl_dr (bl_al (bl_al (bl_al hA _) _) _)) | exact (bl_al (bl_al (bl_al (bl_al hA _) _) _) _) | exact (bl_dr (bl_al (bl_al (bl_al (bl_al hA _) _) _) _)) | exact (bl_al (bl_al (bl_al (bl_al (bl_al hA _) _) _) _) _) | exact (bl_dr (bl_al (bl_al (bl_al (bl_al (bl_al hA _) _) _) _) _)) | exact (bl_al (bl_al (bl_al (bl_al (bl_al (bl_al hA _) _) _) _) _) _) | exact (bl_dr (bl_al (bl_al (bl_al (bl_al (bl_al (bl_al hA _) _) _) _) _) _)) | exact (bl_dr hA))) (hs.below (by first | exact hA | exact (bl_al hA _) | exact (bl_dr (bl_al hA _)) | exact (bl_al (bl_al hA _) _) | exact (bl_dr (bl_al (bl_al hA _) _)) | exact (bl_al (bl_al (bl_al hA _) _) _) | exact (bl_dr (bl_al (bl_al (bl_al hA _) _) _)) | exact (bl_al (bl_al (bl_al (bl_al hA _) _) _) _) | exact (bl_dr (bl_al (bl_al (bl_al (bl_al hA _) _) _) _)) | exact (bl_al (bl_al (bl_al (bl_al (bl_al hA _) _) _) _) _) | exact (bl_dr (bl_al (bl_al (bl_al (bl_al (bl_al hA _) _) _) _) _)) | exact (bl_al (bl_al (bl_al (bl_al (bl_al (bl_al hA _) _) _) _) _) _) | exact (bl_dr (bl_al (bl_al (bl_al (bl_al (bl_al (bl_al hA _) _) _) _) _) _)) | exact (bl_dr hA)))).mono ?_
  rintro e w3 ⟨g2, k2, rfl, hq2, hb⟩
  have hk : Below w2.heap.size w2 w3 := by first | exact hb | exact bl_tr (bl_al (bl0 _) _) hb | exact bl_tr (bl_dr (bl_al (bl0 _) _)) hb | exact bl_tr (bl_al (bl_al (bl0 _) _) _) hb | exact bl_tr (bl_dr (bl_al (bl_al (bl0 _) _) _)) hb | exact bl_tr (bl_al (bl_al (bl_al (bl0 _) _) _) _) hb | exact bl_tr (bl_dr (bl_al (bl_al (bl_al (bl0 _) _) _) _)) hb | exact bl_tr (bl_al (bl_al (bl_al (bl_al (bl0 _) _) _) _) _) hb | exact bl_tr (bl_dr (bl_al (bl_al (bl_al (bl_al (bl0 _) _) _) _) _)) hb | exact bl_tr (bl_al (bl_al (bl_al (bl_al (bl_al (bl0 _) _) _) _) _) _) hb | exact bl_tr (bl_dr (bl_al (bl_al (bl_al (bl_al (bl_al (bl0 _) _) _) _) _) _)) hb | exact bl_tr (bl_al (bl_al (bl_al (bl_al (bl_al (bl_al (bl0 _) _) _) _) _) _) _) hb | exact bl_tr (bl_dr (bl_al (bl_al (bl_al (bl_al (bl_al (bl_al (bl0 _) _) _) _) _) _) _)) hb | exact bl_tr (bl_dr (bl0 _)) hb
  replace hA := bl_tr hA hk
  replace hra := hra.below hk
  replace f0 := cell_later hk f0
  replace f1 := cell_later hk f1
  replace f2 := cell_later hk f2
  replace p0 := cell_later hk p0
  replace p1 := cell_later hk p1
  replace p2 := cell_later hk p2
  replace c0 := cell_later hk c0
  replace c1 := cell_later hk c1
  replace c2 := cell_later hk c2
  replace c3 := cell_later hk c3
  replace t0 := cell_later hk t0
  replace t1 := cell_later hk t1
  clear hb hk
  have zf0 := blk_lt f0
  have zf1 := blk_lt f1
  have zf2 := blk_lt f2
  have zp0 := blk_lt p0
  have zp1 := blk_lt p1
  have zp2 := blk_lt p2
  have zc0 := blk_lt c0
  have zc1 := blk_lt c1
  have zc2 := blk_lt c2
  have zc3 := blk_lt c3
  have zt0 := blk_lt t0
  have zt1 := blk_lt t1
  have hrb := rowU_or hq2
  clear hq2
  go_wp2_with fail
  refine (H4.out _ (hcs.below (by first | exact hA | exact (bl_al hA _) | exact (bl_dr (bl_al hA _)) | exact (bl_al (bl_al hA _) _) | exact (bl_dr (bl_al (bl_al hA _) _)) | exact (bl_al (bl_al (bl_al hA _) _) _) | exact (bl_dr (bl_al (bl_al (bl_al hA _) _) _)) | exact (bl_al (bl_al (bl_al (bl_al hA _) _) _) _) | exact (bl_dr (bl_al (bl_al (bl_al (bl_al hA _) _) _) _)) | exact (bl_al (bl_al (bl_al (bl_al (bl_al hA _) _) _) _) _) | exact (bl_dr (bl_al (bl_al (bl_al (bl_al (bl_al hA _) _) _) _) _)) | exact (bl_al (bl_al (bl_al (bl_al (bl_al (bl_al hA _) _) _) _) _) _) | exact (bl_dr (bl_al (bl_al (bl_al (bl_al (bl_al (bl_al hA _) _) _) _) _) _)) | exact (bl_dr hA)))).mono ?_
  rintro e w4 ⟨rfl, hb⟩
  have hk : Below w3.heap.size w3 w4 := by first | exact hb | exact bl_tr (bl_al (bl0 _) _) hb | exact bl_tr (bl_dr (bl_al (bl0 _) _)) hb | exact bl_tr (bl_al (bl_al (bl0 _) _) _) hb | exact bl_tr (bl_dr (bl_al (bl_al (bl0 _) _) _)) hb | exact bl_tr (bl_al (bl_al (bl_al (bl0 _) _) _) _) hb | exact bl_tr (bl_dr (bl_al (bl_al (bl_al (bl0 _) _) _) _)) hb | exact bl_tr (bl_al (bl_al (bl_al (bl_al (bl0 _) _) _) _) _) hb | exact bl_tr (bl_dr (bl_al (bl_al (bl_al (bl_al (bl0 _) _) _) _) _)) hb | exact bl_tr (bl_al (bl_al (bl_al (bl_al (bl_al (bl0 _) _) _) _) _) _) hb | exact bl_tr (bl_dr (bl_al (bl_al (bl_al (bl_al (bl_al (bl0 _) _) _) _) _) _)) hb | exact bl_tr (bl_al (bl_al (bl_al (bl_al (bl_al (bl_al (bl0 _) _) _) _) _) _) _) hb | exact bl_tr (bl_dr (bl_al (bl_al (bl_al (bl_al (bl_al (bl_al (bl0 _) _) _) _) _) _) _)) hb | exact bl_tr (bl_dr (bl0 _)) hb
  replace hA := bl_tr hA hk
  replace hra := hra.below hk
  replace hrb := hrb.below hk
  replace f0 := cell_later hk f0
  replace f1 := cell_later hk f1
  replace f2 := cell_later hk f2
  replace p0 := cell_later hk p0
  replace p1 := cell_later hk p1
  replace p2 := cell_later hk p2
  replace c0 := cell_later hk c0
  replace c1 := cell_later hk c1
  replace c2 := cell_later hk c2
  replace c3 := cell_later hk c3
  clear hb hk
  have zf0 := blk_lt f0
  have zf1 := blk_lt f1
  have zf2 := blk_lt f2
  have zp0 := blk_lt p0
  have zp1 := blk_lt p1
  have zp2 := blk_lt p2
  have zc0 := blk_lt c0
  have zc1 := blk_lt c1
  have zc2 := blk_lt c2
  have zc3 := blk_lt c3
  have HRA := Lib.hid hra
  have HRB := Lib.hid hrb
  have HA4 := Lib.hid hA
  clear hra hrb
  go_upto_region 7 with fail
  have hB := bl_dr (bl0 w4)
  have hS := And.intro (cell_later hB p0) (And.intro (cell_later hB p1) (And.intro (cell_later hB p2) (And.intro (cell_later hB c0) (And.intro (cell_later hB c2) (cell_later hB c3)))))
  refine (wpIn_wide (n := 11)).1 ?_
  refine ordS_begin (S := (fun W9 : World => W9.cell? ⟨w.heap.size + 1, 0, none⟩ = some (.int .i64 A) ∧ W9.cell? ⟨w.heap.size + 1, 1, none⟩ = some (.int .i64 B) ∧ W9.cell? ⟨w.heap.size + 1, 2, none⟩ = some (.int .i64 S) ∧ W9.cell? ⟨w.heap.size + 1 + 1, 0, none⟩ = some (.int .i64 k0) ∧ W9.cell? ⟨w.heap.size + 1 + 1, 2, none⟩ = some (.int .i64 p.1) ∧ W9.cell? ⟨w.heap.size + 1 + 1, 3, none⟩ = some (.int .i64 p.2))) (by kernel_rfl) hS (fun hH => ?_)
  refine' ordS_take (i := 0) (oi := { dst := some 56, op := Op.move (Operand.tmp 12), type := 34, pos := _, after := #[], guard := none }) (v := _) rfl (by kernel_rfl) (by kernel_rfl) (by kernel_rfl) (by kernel_rfl) (fun _ _ _ h => h) (by assumption) (Or.inl ⟨by rfl, ?hy140⟩) (fun _ => rfl) ?rest140
  case hy140 => (intro w hSw; (try dsimp only at hSw); go_simp; try with_reducible rfl)
  try simp only [Act.put, List.setIfInBounds_toArray, List.set_cons_zero, List.set_cons_succ]
  refine' ordS_take (i := 1) (oi := { dst := some 57, op := Op.binOp BinOp.eql 34 (Operand.tmp 56) (Operand.const (Value.int IntKind.i64 0)) 34, type := 4, pos := _, after := #[{ on := 0, ground := Ground.data }], guard := none }) (v := _) rfl (by kernel_rfl) (by kernel_rfl) (by kernel_rfl) (by kernel_rfl) (fun _ _ _ h => h) (by assumption) (Or.inl ⟨by rfl, ?hy141⟩) (fun _ => rfl) ?rest141
  case hy141 => (intro w hSw; (try dsimp only at hSw); go_simp; try with_reducible rfl)
  try simp only [Act.put, List.setIfInBounds_toArray, List.set_cons_zero, List.set_cons_succ]
  refine' ordS_take (i := 2) (oi := { dst := some 58, op := Op.move (Operand.tmp 57), type := 4, pos := _, after := #[{ on := 1, ground := Ground.data }], guard := none }) (v := _) rfl (by kernel_rfl) (by kernel_rfl) (by kernel_rfl) (by kernel_rfl) (fun _ _ _ h => h) (by assumption) (Or.inl ⟨by rfl, ?hy142⟩) (fun _ => rfl) ?rest142
  case hy142 => (intro w hSw; (try dsimp only at hSw); go_simp; try with_reducible rfl)
  try simp only [Act.put, List.setIfInBounds_toArray, List.set_cons_zero, List.set_cons_succ]
  refine' ordS_take (i := 3) (oi := { dst := some 59, op := Op.fieldAddr 53 (Operand.tmp 4) 0, type := 0, pos := _, after := #[{ on := 2, ground := Ground.guard }], guard := some (2, true) }) (v := _) rfl (by kernel_rfl) (by kernel_rfl) (by kernel_rfl) (by kernel_rfl) (fun _ _ _ h => h) (by assumption) (Or.inl ⟨by rfl, ?hy143⟩) (fun _ => rfl) ?rest143
  case hy143 => (intro w hSw; (try dsimp only at hSw); go_simp; try with_reducible rfl)
  try simp only [Act.put, List.setIfInBounds_toArray, List.set_cons_zero, List.set_cons_succ]
  refine' ordS_take (i := 4) (oi := { dst := some 60, op := Op.load 23 (Operand.tmp 59), type := 23, pos := _, after := #[{ on := 3, ground := Ground.data }, { on := 2, ground := Ground.guard }], guard := some (2, true) }) (v := _) rfl (by kernel_rfl) (by kernel_rfl) (by kernel_rfl) (by kernel_rfl) (fun _ _ _ h => h) (by assumption) (Or.inl ⟨by rfl, ?hy144⟩) (fun _ => rfl) ?rest144
  case hy144 => (intro w hSw; (try dsimp only at hSw); go_simp; try with_reducible rfl)
  try simp only [Act.put, List.setIfInBounds_toArray, List.set_cons_zero, List.set_cons_succ]
  refine' ordS_take (i := 5) (oi := { dst := some 61, op := Op.fieldAddr 53 (Operand.tmp 4) 1, type := 0, pos := _, after := #[{ on := 2, ground := Ground.guard }], guard := some (2, true) }) (v := _) rfl (by kernel_rfl) (by kernel_rfl) (by kernel_rfl) (by kernel_rfl) (fun _ _ _ h => h) (by assumption) (Or.inl ⟨by rfl, ?hy145⟩) (fun _ => rfl) ?rest145
  case hy145 => (intro w hSw; (try dsimp only at hSw); go_simp; try with_reducible rfl)
  try simp only [Act.put, List.setIfInBounds_toArray, List.set_cons_zero, List.set_cons_succ]
  refine' ordS_take (i := 6) (oi := { dst := some 62, op := Op.load 3 (Operand.tmp 61), type := 3, pos := _, after := #[{ on := 5, ground := Ground.data }, { on := 2, ground := Ground.guard }], guard := some (2, true) }) (v := _) rfl (by kernel_rfl) (by kernel_rfl) (by kernel_rfl) (by kernel_rfl) (fun _ _ _ h => h) (by assumption) (Or.inl ⟨by rfl, ?hy146⟩) (fun _ => rfl) ?rest146
  case hy146 => (intro w hSw; (try dsimp only at hSw); go_simp; try with_reducible rfl)
  try simp only [Act.put, List.setIfInBounds_toArray, List.set_cons_zero, List.set_cons_succ]
  refine' ordS_take (i := 8) (oi := { dst := some 64, op := Op.fieldAddr 68 (Operand.tmp 5) 0, type := 0, pos := _, after := #[{ on := 2, ground := Ground.guard }], guard := some (2, true) }) (v := _) rfl (by kernel_rfl) (by kernel_rfl) (by kernel_rfl) (by kernel_rfl) (fun _ _ _ h => h) (by assumption) (Or.inl ⟨by rfl, ?hy147⟩) (fun _ => rfl) ?rest147
  case hy147 => (intro w hSw; (try dsimp only at hSw); go_simp; try with_reducible rfl)
  try simp only [Act.put, List.setIfInBounds_toArray, List.set_cons_zero, List.set_cons_succ]
  refine' ordS_take (i := 9) (oi := { dst := some 65, op := Op.load 3 (Operand.tmp 64), type := 3, pos := _, after := #[{ on := 8, ground := Ground.data }, { on := 2, ground := Ground.guard }], guard := some (2, true) }) (v := _) rfl (by kernel_rfl) (by kernel_rfl) (by kernel_rfl) (by kernel_rfl) (fun _ _ _ h => h) (by assumption) (Or.inl ⟨by rfl, ?hy148⟩) (fun _ => rfl) ?rest148
  case hy148 => (intro w hSw; (try dsimp only at hSw); go_simp; try with_reducible rfl)
  try simp only [Act.put, List.setIfInBounds_toArray, List.set_cons_zero, List.set_cons_succ]
  refine' ordS_take (i := 12) (oi := { dst := some 68, op := Op.fieldAddr 68 (Operand.tmp 5) 2, type := 0, pos := _, after := #[{ on := 2, ground := Ground.guard }], guard := some (2, true) }) (v := _) rfl (by kernel_rfl) (by kernel_rfl) (by kernel_rfl) (by kernel_rfl) (fun _ _ _ h => h) (by assumption) (Or.inl ⟨by rfl, ?hy149⟩) (fun _ => rfl) ?rest149
  case hy149 => (intro w hSw; (try dsimp only at hSw); go_simp; try with_reducible rfl)
  try simp only [Act.put, List.setIfInBounds_toArray, List.set_cons_zero, List.set_cons_succ]
  refine' ordS_take (i := 13) (oi := { dst := some 69, op := Op.load 30 (Operand.tmp 68), type := 30, pos := _, after := #[{ on := 12, ground := Ground.data }, { on := 2, ground := Ground.guard }], guard := some (2, true) }) (v := _) rfl (by kernel_rfl) (by kernel_rfl) (by kernel_rfl) (by kernel_rfl) (fun _ _ _ h => h) (by assumption) (Or.inl ⟨by rfl, ?hy150⟩) (fun _ => rfl) ?rest150
  case hy150 => (intro w hSw; (try dsimp only at hSw); go_simp; try with_reducible rfl)
  try simp only [Act.put, List.setIfInBounds_toArray, List.set_cons_zero, List.set_cons_succ]
  obtain ⟨W2, hW2⟩ : ∃ W2, w4.drew = W2 := ⟨_, rfl⟩
  rw [hW2] at hB hS
  rw [hW2]
  clear hW2 hH
  refine ordS_one (i := 7) (o := { dst := some 63, op := Op.call { callee := Callee.value (Operand.func 29), args := #[Operand.tmp 60, Operand.tmp 62], argTypes := #[23, 3] }, type := 63, pos := _, after := #[{ on := 4, ground := Ground.data }, { on := 6, ground := Ground.data }, { on := 2, ground := Ground.chain }, { on := 2, ground := Ground.guard }], guard := some (2, true) }) (by kernel_rfl) rfl (by rfl) (fun K hK => ?_)
  go_simp
  refine ⟨trivial, ?_⟩
  with_reducible refine (callsIn_wide.2 (HBX.out _)).mono ?_
  rintro e W3 ⟨ba, bc, rfl, hbr, hb3⟩
  replace hB := bl_tr hB hb3
  have hS3 := And.intro (cell_later hb3 hS.1) (And.intro (cell_later hb3 hS.2.1) (And.intro (cell_later hb3 hS.2.2.1) (And.intro (cell_later hb3 hS.2.2.2.1) (And.intro (cell_later hb3 hS.2.2.2.2.1) (cell_later hb3 hS.2.2.2.2.2)))))
  refine hK _ _ hS3 ?_
  clear hK K hb3 hS
  try simp only [Act.put, List.setIfInBounds_toArray, List.set_cons_zero, List.set_cons_succ]
  obtain ⟨gb, go, rfl, ⟨u0, u1⟩, u2, u3⟩ := hbr.cell hkB
  rw [HAT.out] at u0 u1 u2 u3
  simp only at u0 u1 u2 u3
  refine ordS_one (i := 10) (o := { dst := some 66, op := Op.indexAddr 63 (Operand.tmp 63) (Operand.tmp 65), type := 0, pos := _, after := #[{ on := 7, ground := Ground.data }, { on := 9, ground := Ground.data }, { on := 2, ground := Ground.guard }], guard := some (2, true) }) (by kernel_rfl) rfl (by rfl) (fun K hK => ?_)
  go_simp
  refine hK _ _ hS3 ?_
  clear hK K
  try simp only [Act.put, List.setIfInBounds_toArray, List.set_cons_zero, List.set_cons_succ]
  refine ordS_one (i := 11) (o := { dst := some 67, op := Op.load 28 (Operand.tmp 66), type := 28, pos := _, after := #[{ on := 10, ground := Ground.data }, { on := 2, ground := Ground.guard }], guard := some (2, true) }) (by kernel_rfl) rfl (by rfl) (fun K hK => ?_)
  go_simp
  refine hK _ _ hS3 ?_
  clear hK K u0 u1 u2 u3
  try simp only [Act.put, List.setIfInBounds_toArray, List.set_cons_zero, List.set_cons_succ]
  refine ordS_one (i := 14) (o := { dst := some 70, op := Op.call { callee := Callee.value (Operand.func 19), args := #[Operand.tmp 67, Operand.tmp 69], argTypes := #[28, 30] }, type := 4, pos := _, after := #[{ on := 11, ground := Ground.data }, { on := 13, ground := Ground.data }, { on := 7, ground := Ground.chain }, { on := 2, ground := Ground.guard }], guard := some (2, true) }) (by kernel_rfl) rfl (by rfl) (fun K hK => ?_)
  go_simp
  refine ⟨trivial, ?_⟩
  with_reducible refine (callsIn_wide.2 (HHS.out _)).mono ?_
  rintro e W4 ⟨rfl, hb4⟩
  replace hB := bl_tr hB hb4
  have hS4 := And.intro (cell_later hb4 hS3.1) (And.intro (cell_later hb4 hS3.2.1) (And.intro (cell_later hb4 hS3.2.2.1) (And.intro (cell_later hb4 hS3.2.2.2.1) (And.intro (cell_later hb4 hS3.2.2.2.2.1) (cell_later hb4 hS3.2.2.2.2.2)))))
  refine hK _ _ hS4 ?_
  clear hK K hb4 hS3 hbr
  try simp only [Act.put, List.setIfInBounds_toArray, List.set_cons_zero, List.set_cons_succ]
  refine' ordS_take (i := 15) (oi := { dst := some 71, op := Op.unOp UnOp.not 4 (Operand.tmp 70), type := 4, pos := _, after := #[{ on := 14, ground := Ground.data }, { on := 2, ground := Ground.guard }], guard := some (2, true) }) (v := _) rfl (by kernel_rfl) (by kernel_rfl) (by kernel_rfl) (by kernel_rfl) (fun _ _ _ h => h) (by assumption) (Or.inl ⟨by rfl, ?hy151⟩) (fun _ => rfl) ?rest151
  case hy151 => (intro w hSw; (try dsimp only at hSw); go_simp; try with_reducible rfl)
  try simp only [Act.put, List.setIfInBounds_toArray, List.set_cons_zero, List.set_cons_succ]
  refine' ordS_take (i := 16) (oi := { dst := some 72, op := Op.pick (Operand.tmp 58) (Operand.tmp 71) (Operand.const (Value.bool false)), type := 4, pos := _, after := #[{ on := 2, ground := Ground.data }, { on := 15, ground := Ground.data }], guard := none }) (v := _) rfl (by kernel_rfl) (by kernel_rfl) (by kernel_rfl) (by kernel_rfl) (fun _ _ _ h => h) (by assumption) (Or.inl ⟨by rfl, ?hy152⟩) (fun _ => rfl) ?rest152
  case hy152 => (intro w hSw; (try dsimp only at hSw); go_simp; try with_reducible rfl)
  try simp only [Act.put, List.setIfInBounds_toArray, List.set_cons_zero, List.set_cons_succ]
  refine ordS_done (by kernel_rfl) ?_
  replace hA := bl_tr hA hB
  have HA5 := Lib.hid hB
  have HS5 := Lib.hid hS4
  replace f0 := cell_later hB f0; replace f1 := cell_later hB f1; replace f2 := cell_later hB f2; replace c1 := cell_later hB c1
  clear hB hS4 p0 p1 p2 c0 c2 c3 HHS
  have HF5 := Lib.hid (And.intro f0 (And.intro f1 (And.intro f2 c1)))
  clear f0 f1 f2 c1
  go_upto_region 11 with fail
  have hB := bl_dr (bl0 W4)
  have HSS := Lib.hid (show ∀ W', Below W4.heap.size W4 W' → W'.cell? ⟨w.heap.size + 1, 0, none⟩ = some (.int .i64 A) ∧ W'.cell? ⟨w.heap.size + 1, 1, none⟩ = some (.int .i64 B) ∧ W'.cell? ⟨w.heap.size + 1, 2, none⟩ = some (.int .i64 S) ∧ W'.cell? ⟨w.heap.size + 1 + 1, 0, none⟩ = some (.int .i64 k0) from fun W' h => ⟨cell_later h HS5.out.1, cell_later h HS5.out.2.1, cell_later h HS5.out.2.2.1, cell_later h HS5.out.2.2.2.1⟩)
  go_cut [13] from 94 to 102 (fun s wx => ∃ k : Nat, s = .pointer (some ⟨k, 0, none⟩) ∧ W4.heap.size ≤ k ∧ Below W4.heap.size W4 wx ∧ wx.cell? ⟨k, 0, none⟩ = some (.int .i64 BX') ∧ wx.cell? ⟨k, 1, none⟩ = some (.int .i64 BY') ∧ wx.cell? ⟨k, 2, none⟩ = some (.int .i64 U) ∧ wx.cell? ⟨k, 3, none⟩ = some (.int .i64 V))
  case first =>
    refine (wpIn_wide (n := 11)).1 ?_
    refine ordS_begin (S := (fun W9 : World => W9.cell? ⟨w.heap.size + 1, 0, none⟩ = some (.int .i64 A) ∧ W9.cell? ⟨w.heap.size + 1, 1, none⟩ = some (.int .i64 B) ∧ W9.cell? ⟨w.heap.size + 1, 2, none⟩ = some (.int .i64 S) ∧ W9.cell? ⟨w.heap.size + 1 + 1, 0, none⟩ = some (.int .i64 k0))) (by kernel_rfl) (HSS.out _ hB) (fun hH => ?_)
    refine' ordS_take (i := 0) (oi := { dst := some 94, op := Op.fieldAddr 53 (Operand.tmp 4) 0, type := 0, pos := _, after := #[], guard := none }) (v := _) rfl (by kernel_rfl) (by kernel_rfl) (by kernel_rfl) (by kernel_rfl) (fun _ _ _ h => h) (by assumption) (Or.inl ⟨by rfl, ?hy153⟩) (fun _ => rfl) ?rest153
    case hy153 => (intro w hSw; (try dsimp only at hSw); go_simp; try with_reducible rfl)
    try simp only [Act.put, List.setIfInBounds_toArray, List.set_cons_zero, List.set_cons_succ]
    refine' ordS_take (i := 1) (oi := { dst := some 95, op := Op.load 23 (Operand.tmp 94), type := 23, pos := _, after := #[{ on := 0, ground := Ground.data }], guard := none }) (v := _) rfl (by kernel_rfl) (by kernel_rfl) (by kernel_rfl) (by kernel_rfl) (fun _ _ _ h => h) (by assumption) (Or.inl ⟨by rfl, ?hy154⟩) (fun _ => rfl) ?rest154
    case hy154 => (intro w hSw; (try dsimp only at hSw); go_simp; try with_reducible rfl)
    try simp only [Act.put, List.setIfInBounds_toArray, List.set_cons_zero, List.set_cons_succ]
    refine' ordS_take (i := 2) (oi := { dst := some 96, op := Op.fieldAddr 53 (Operand.tmp 4) 1, type := 0, pos := _, after := #[], guard := none }) (v := _) rfl (by kernel_rfl) (by kernel_rfl) (by kernel_rfl) (by kernel_rfl) (fun _ _ _ h => h) (by assumption) (Or.inl ⟨by rfl, ?hy155⟩) (fun _ => rfl) ?rest155
    case hy155 => (intro w hSw; (try dsimp only at hSw); go_simp; try with_reducible rfl)
    try simp only [Act.put, List.setIfInBounds_toArray, List.set_cons_zero, List.set_cons_succ]
    refine' ordS_take (i := 3) (oi := { dst := some 97, op := Op.load 3 (Operand.tmp 96), type := 3, pos := _, after := #[{ on := 2, ground := Ground.data }], guard := none }) (v := _) rfl (by kernel_rfl) (by kernel_rfl) (by kernel_rfl) (by kernel_rfl) (fun _ _ _ h => h) (by assumption) (Or.inl ⟨by rfl, ?hy156⟩) (fun _ => rfl) ?rest156
    case hy156 => (intro w hSw; (try dsimp only at hSw); go_simp; try with_reducible rfl)
    try simp only [Act.put, List.setIfInBounds_toArray, List.set_cons_zero, List.set_cons_succ]
    refine' ordS_take (i := 5) (oi := { dst := some 99, op := Op.fieldAddr 68 (Operand.tmp 5) 0, type := 0, pos := _, after := #[], guard := none }) (v := _) rfl (by kernel_rfl) (by kernel_rfl) (by kernel_rfl) (by kernel_rfl) (fun _ _ _ h => h) (by assumption) (Or.inl ⟨by rfl, ?hy157⟩) (fun _ => rfl) ?rest157
    case hy157 => (intro w hSw; (try dsimp only at hSw); go_simp; try with_reducible rfl)
    try simp only [Act.put, List.setIfInBounds_toArray, List.set_cons_zero, List.set_cons_succ]
    refine' ordS_take (i := 6) (oi := { dst := some 100, op := Op.load 3 (Operand.tmp 99), type := 3, pos := _, after := #[{ on := 5, ground := Ground.data }], guard := none }) (v := _) rfl (by kernel_rfl) (by kernel_rfl) (by kernel_rfl) (by kernel_rfl) (fun _ _ _ h => h) (by assumption) (Or.inl ⟨by rfl, ?hy158⟩) (fun _ => rfl) ?rest158
    case hy158 => (intro w hSw; (try dsimp only at hSw); go_simp; try with_reducible rfl)
    try simp only [Act.put, List.setIfInBounds_toArray, List.set_cons_zero, List.set_cons_succ]
    obtain ⟨W2, hW2⟩ : ∃ W2, W4.drew = W2 := ⟨_, rfl⟩
    rw [hW2] at hB
    rw [hW2]
    clear hW2 hH
    refine ordS_two (i := 4) (j := 9) (o := { dst := some 98, op := Op.call { callee := Callee.value (Operand.func 29), args := #[Operand.tmp 95, Operand.tmp 97], argTypes := #[23, 3] }, type := 63, pos := _, after := #[{ on := 1, ground := Ground.data }, { on := 3, ground := Ground.data }], guard := none }) (o2 := { dst := some 13, op := Op.alloc 28, type := 0, pos := _, after := #[], guard := none }) (by kernel_rfl) rfl (by rfl) rfl (by rfl) (fun K hK => ?_) (fun K hK => ?_)
    · go_simp
      refine ⟨trivial, ?_⟩
      with_reducible refine (callsIn_wide.2 (HBX.out _)).mono ?_
      rintro e W3 ⟨ba, bc, rfl, hbr, hb3⟩
      replace hB := bl_tr hB hb3
      refine hK _ _ (HSS.out _ hB) ?_
      clear hK K hb3
      try simp only [Act.put, List.setIfInBounds_toArray, List.set_cons_zero, List.set_cons_succ]
      obtain ⟨gb, go, rfl, ⟨u0, u1⟩, u2, u3⟩ := hbr.cell hkB
      rw [HAT.out] at u0 u1 u2 u3
      simp only at u0 u1 u2 u3
      clear hbr
      have hS3 := And.intro u0 (And.intro u1 (And.intro u2 (And.intro u3 (HSS.out _ hB))))
      refine OrdS.sub (S' := (fun W9 : World => W9.cell? ⟨gb, go + k0 * 4, none⟩ = some (.int .i64 BX') ∧ W9.cell? ⟨gb, go + k0 * 4 + 1, none⟩ = some (.int .i64 BY') ∧ W9.cell? ⟨gb, go + k0 * 4 + 2, none⟩ = some (.int .i64 U) ∧ W9.cell? ⟨gb, go + k0 * 4 + 3, none⟩ = some (.int .i64 V) ∧ W9.cell? ⟨w.heap.size + 1, 0, none⟩ = some (.int .i64 A) ∧ W9.cell? ⟨w.heap.size + 1, 1, none⟩ = some (.int .i64 B) ∧ W9.cell? ⟨w.heap.size + 1, 2, none⟩ = some (.int .i64 S) ∧ W9.cell? ⟨w.heap.size + 1 + 1, 0, none⟩ = some (.int .i64 k0))) (fun W h => h.2.2.2.2) _ _ _ _ ?_
      refine' ordS_take (i := 7) (oi := { dst := some 101, op := Op.indexAddr 63 (Operand.tmp 98) (Operand.tmp 100), type := 0, pos := _, after := #[{ on := 4, ground := Ground.data }, { on := 6, ground := Ground.data }], guard := none }) (v := _) rfl (by kernel_rfl) (by kernel_rfl) (by kernel_rfl) (by kernel_rfl) (fun _ _ _ h => h) (by assumption) (Or.inl ⟨by rfl, ?hy159⟩) (fun _ => rfl) ?rest159
      case hy159 => (intro w hSw; (try dsimp only at hSw); go_simp; try with_reducible rfl)
      try simp only [Act.put, List.setIfInBounds_toArray, List.set_cons_zero, List.set_cons_succ]
      refine' ordS_take (i := 8) (oi := { dst := some 102, op := Op.load 28 (Operand.tmp 101), type := 28, pos := _, after := #[{ on := 7, ground := Ground.data }], guard := none }) (v := _) rfl (by kernel_rfl) (by kernel_rfl) (by kernel_rfl) (by kernel_rfl) (fun _ _ _ h => h) (by assumption) (Or.inl ⟨by rfl, ?hy160⟩) (fun _ => rfl) ?rest160
      case hy160 => (intro w hSw; (try dsimp only at hSw); go_simp; try with_reducible rfl)
      try simp only [Act.put, List.setIfInBounds_toArray, List.set_cons_zero, List.set_cons_succ]
      refine ordS_one (i := 9) (o := { dst := some 13, op := Op.alloc 28, type := 0, pos := _, after := #[], guard := none }) (by kernel_rfl) rfl (by rfl) (fun K hK => ?_)
      go_simp
      have hb := bl_al (bl0 W3) (.cells #[.int .i64 0, .int .i64 0, .int .i64 0, .int .i64 0] 28)
      have HS3 := Lib.hid (show ∀ W', Below W3.heap.size W3 W' → _ from fun W' h => And.intro (cell_later h u0) (And.intro (cell_later h u1) (And.intro (cell_later h u2) (And.intro (cell_later h u3) (HSS.out _ (bl_tr hB h))))))
      refine hK _ _ (HS3.out _ hb) ?_
      clear hK K
      try simp only [Act.put, List.setIfInBounds_toArray, List.set_cons_zero, List.set_cons_succ]
      refine ordS_one (i := 10) (o := { dst := none, op := Op.store 28 (Operand.tmp 13) (Operand.tmp 102), type := 0, pos := _, after := #[{ on := 9, ground := Ground.data }, { on := 8, ground := Ground.data }, { on := 4, ground := Ground.chain }, { on := 0, ground := Ground.phase }, { on := 1, ground := Ground.phase }, { on := 2, ground := Ground.phase }, { on := 3, ground := Ground.phase }, { on := 4, ground := Ground.phase }, { on := 5, ground := Ground.phase }, { on := 6, ground := Ground.phase }, { on := 7, ground := Ground.phase }, { on := 8, ground := Ground.phase }, { on := 9, ground := Ground.phase }], guard := none }) (by kernel_rfl) rfl (by rfl) (fun K hK => ?_)
      go_simp
      have hb4 := bl_al (bl0 W3) (.cells #[.int .i64 BX', .int .i64 BY', .int .i64 U, .int .i64 V] 28)
      refine hK _ _ (HS3.out _ hb4) ?_
      clear hK K
      try simp only [Act.put, List.setIfInBounds_toArray, List.set_cons_zero, List.set_cons_succ]
      refine ordS_done (by kernel_rfl) ?_
      go_wp2_with fail
      go_meet
      exact ⟨W3.heap.size, rfl, hB.size, bl_tr hB hb4, by simp [go_sem], by simp [go_sem], by simp [go_sem], by simp [go_sem]⟩
    · go_simp
      have hb := bl_al (bl0 W2) (.cells #[.int .i64 0, .int .i64 0, .int .i64 0, .int .i64 0] 28)
      refine hK _ _ (HSS.out _ (bl_tr hB hb)) ?_
      clear hK K
      try simp only [Act.put, List.setIfInBounds_toArray, List.set_cons_zero, List.set_cons_succ]
      refine ordS_one (i := 4) (o := { dst := some 98, op := Op.call { callee := Callee.value (Operand.func 29), args := #[Operand.tmp 95, Operand.tmp 97], argTypes := #[23, 3] }, type := 63, pos := _, after := #[{ on := 1, ground := Ground.data }, { on := 3, ground := Ground.data }], guard := none }) (by kernel_rfl) rfl (by rfl) (fun K hK => ?_)
      go_simp
      refine ⟨trivial, ?_⟩
      with_reducible refine (callsIn_wide.2 (HBX.out _)).mono ?_
      rintro e W3 ⟨ba, bc, rfl, hbr, hb3⟩
      have hBB := bl_tr (bl_tr hB hb) hb3
      have m0 := cell_later hb3 (v := .int .i64 0) (a := ⟨W2.heap.size, 0, none⟩) (by simp [go_sem])
      have m1 := cell_later hb3 (v := .int .i64 0) (a := ⟨W2.heap.size, 1, none⟩) (by simp [go_sem])
      have m2 := cell_later hb3 (v := .int .i64 0) (a := ⟨W2.heap.size, 2, none⟩) (by simp [go_sem])
      have m3 := cell_later hb3 (v := .int .i64 0) (a := ⟨W2.heap.size, 3, none⟩) (by simp [go_sem])
      have fz0 : W3.frozen? ⟨W2.heap.size, 0, none⟩ = false := (hb3.frozen (p := ⟨W2.heap.size, 0, none⟩) (by simp)).trans (by simp [go_sem])
      have fz1 : W3.frozen? ⟨W2.heap.size, 1, none⟩ = false := (hb3.frozen (p := ⟨W2.heap.size, 1, none⟩) (by simp)).trans (by simp [go_sem])
      have fz2 : W3.frozen? ⟨W2.heap.size, 2, none⟩ = false := (hb3.frozen (p := ⟨W2.heap.size, 2, none⟩) (by simp)).trans (by simp [go_sem])
      have fz3 : W3.frozen? ⟨W2.heap.size, 3, none⟩ = false := (hb3.frozen (p := ⟨W2.heap.size, 3, none⟩) (by simp)).trans (by simp [go_sem])
      have zm := blk_lt m0
      refine hK _ _ (HSS.out _ hBB) ?_
      clear hK K hb3
      try simp only [Act.put, List.setIfInBounds_toArray, List.set_cons_zero, List.set_cons_succ]
      obtain ⟨gb, go, rfl, ⟨u0, u1⟩, u2, u3⟩ := hbr.cell hkB
      rw [HAT.out] at u0 u1 u2 u3
      simp only at u0 u1 u2 u3
      clear hbr
      refine ordS_one (i := 7) (o := { dst := some 101, op := Op.indexAddr 63 (Operand.tmp 98) (Operand.tmp 100), type := 0, pos := _, after := #[{ on := 4, ground := Ground.data }, { on := 6, ground := Ground.data }], guard := none }) (by kernel_rfl) rfl (by rfl) (fun K hK => ?_)
      go_simp
      refine hK _ _ (HSS.out _ hBB) ?_
      clear hK K
      try simp only [Act.put, List.setIfInBounds_toArray, List.set_cons_zero, List.set_cons_succ]
      refine ordS_one (i := 8) (o := { dst := some 102, op := Op.load 28 (Operand.tmp 101), type := 28, pos := _, after := #[{ on := 7, ground := Ground.data }], guard := none }) (by kernel_rfl) rfl (by rfl) (fun K hK => ?_)
      go_simp
      refine hK _ _ (HSS.out _ hBB) ?_
      clear hK K
      try simp only [Act.put, List.setIfInBounds_toArray, List.set_cons_zero, List.set_cons_succ]
      refine ordS_one (i := 10) (o := { dst := none, op := Op.store 28 (Operand.tmp 13) (Operand.tmp 102), type := 0, pos := _, after := #[{ on := 9, ground := Ground.data }, { on := 8, ground := Ground.data }, { on := 4, ground := Ground.chain }, { on := 0, ground := Ground.phase }, { on := 1, ground := Ground.phase }, { on := 2, ground := Ground.phase }, { on := 3, ground := Ground.phase }, { on := 4, ground := Ground.phase }, { on := 5, ground := Ground.phase }, { on := 6, ground := Ground.phase }, { on := 7, ground := Ground.phase }, { on := 8, ground := Ground.phase }, { on := 9, ground := Ground.phase }], guard := none }) (by kernel_rfl) rfl (by rfl) (fun K hK => ?_)
      go_simp
      have hb4 := bl_st (bl_st (bl_st (bl_st hBB hB.size (o := 0) (.int .i64 BX')) hB.size (o := 1) (.int .i64 BY')) hB.size (o := 2) (.int .i64 U)) hB.size (o := 3) (.int .i64 V)
      refine hK _ _ (HSS.out _ hb4) ?_
      clear hK K
      try simp only [Act.put, List.setIfInBounds_toArray, List.set_cons_zero, List.set_cons_succ]
      refine ordS_done (by kernel_rfl) ?_
      go_wp2_with fail
      go_meet
      exact ⟨W2.heap.size, rfl, hB.size, hb4, by simp [go_sem, *], by simp [go_sem, *], by simp [go_sem, *], by simp [go_sem, *]⟩
  case rest =>
    obtain ⟨kb, rfl, hkb1, hB6, b0, b1, b2, b3⟩ := hcut
    replace hA := bl_tr hA hB6
    have f0 := cell_later hB6 HF5.out.1; have f1 := cell_later hB6 HF5.out.2.1; have f2 := cell_later hB6 HF5.out.2.2.1; have c1 := cell_later hB6 HF5.out.2.2.2
    have c2 := cell_later hB6 HS5.out.2.2.2.2.1; have c3 := cell_later hB6 HS5.out.2.2.2.2.2
    have HRA6 := Lib.hid (HRA.out.below (bl_tr HA5.out hB6))
    have HRB6 := Lib.hid (HRB.out.below (bl_tr HA5.out hB6))
    have HRH := Lib.hid (hr.below hA)
    have HRC := Lib.hid (hcs.below hA)
    have HR0 := Lib.hid hr
    have HC0 := Lib.hid hcs
    have HS0 := Lib.hid hs
    have HA6 := Lib.hid hA
    have HF6 := Lib.hid (show ∀ W', Below wc.heap.size wc W' → W'.cell? ⟨w.heap.size, 0, none⟩ = some (.int .i64 A) ∧ W'.cell? ⟨w.heap.size, 1, none⟩ = some (.int .i64 B) ∧ W'.cell? ⟨w.heap.size, 2, none⟩ = some (.slice a zs.length cap) ∧ W'.cell? ⟨w.heap.size + 1 + 1, 1, none⟩ = some (.slice ca cs.length cc) ∧ W'.cell? ⟨w.heap.size + 1 + 1, 2, none⟩ = some (.int .i64 p.1) ∧ W'.cell? ⟨w.heap.size + 1 + 1, 3, none⟩ = some (.int .i64 p.2) ∧ W'.cell? ⟨kb, 0, none⟩ = some (.int .i64 BX') ∧ W'.cell? ⟨kb, 1, none⟩ = some (.int .i64 BY') ∧ W'.cell? ⟨kb, 2, none⟩ = some (.int .i64 U) ∧ W'.cell? ⟨kb, 3, none⟩ = some (.int .i64 V) from fun W' h => ⟨cell_later h f0, cell_later h f1, cell_later h f2, cell_later h c1, cell_later h c2, cell_later h c3, cell_later h b0, cell_later h b1, cell_later h b2, cell_later h b3⟩)
    have HZ := Lib.hid (own_emptyU (w := wc) (B := wc.heap.size) 45 (Nat.le_refl _))
    obtain ⟨i0, hi0, hz0, hz1, hz2⟩ := info_parts Tryd.infoU
    clear hB HSS HF5 HS5 HRA HRB HA4 HA5 hr hcs hs hA hkb1 hB6 b0 b1 b2 b3 f0 f1 f2 c1 c2 c3 HBX HAT hkB hkB2 hkB0 H1 H2 H3 H4
    go_wp2_with fail
    go_loopw [14, 15] (fun ov iv wr => ∃ k : Nat, k ≤ cs.length ∧ iv = .int .i64 k ∧ wr.ownsRow wc.heap.size 45 1 ov k (cellsU (BK.take k)) ∧ Below wc.heap.size wc wr) (fun _ iv _ => cs.length - (intOf iv).toNat)
    case atStart => exact ⟨0, Nat.zero_le _, rfl, HZ.out, bl_al (bl0 _) _⟩
    case round =>
      obtain ⟨k, hk, rfl, hown, hB⟩ := hrel
      have hk0 : (0 : Int) ≤ (k : Int) := by omega
      obtain ⟨va, vc, rfl⟩ := own_shU hown
      obtain ⟨f0, f1, f2, c1, c2, c3, b0, b1, b2, b3⟩ := HF6.out _ hB
      have zf := blk_lt f0
      have zc := blk_lt c1
      have zb := blk_lt b0
      by_cases hlt : k < cs.length
      · have hlt2 : (k : Int) < (cs.length : Int) := by omega
        have hbk := HBK.out k hlt
        have hdm : cs[k] ∈ cs := List.getElem_mem hlt
        obtain ⟨cb, co, rfl, u0, u1⟩ := HRC.out.cell hlt
        obtain ⟨d, hd⟩ : ∃ d, cs[k] = d := ⟨_, rfl⟩
        rw [hd] at u0 u1 hbk hdm
        have HR2d := Lib.hid (fun pa pc w hr hcs => HR2.out d hdm pa pc w hr hcs)
        have HF7 := Lib.hid (show ∀ W9, Below wc.heap.size wc W9 → W9.cell? ⟨w.heap.size, 0, none⟩ = some (.int .i64 A) ∧ W9.cell? ⟨w.heap.size, 1, none⟩ = some (.int .i64 B) ∧ W9.cell? ⟨w.heap.size, 2, none⟩ = some (.slice a zs.length cap) ∧ W9.cell? ⟨w.heap.size + 1 + 1, 1, none⟩ = some (.slice (some ⟨cb, co, none⟩) cs.length cc) ∧ W9.cell? ⟨w.heap.size + 1 + 1, 2, none⟩ = some (.int .i64 p.1) ∧ W9.cell? ⟨w.heap.size + 1 + 1, 3, none⟩ = some (.int .i64 p.2) ∧ W9.cell? ⟨kb, 0, none⟩ = some (.int .i64 BX') ∧ W9.cell? ⟨kb, 1, none⟩ = some (.int .i64 BY') ∧ W9.cell? ⟨kb, 2, none⟩ = some (.int .i64 U) ∧ W9.cell? ⟨kb, 3, none⟩ = some (.int .i64 V) ∧ W9.cell? ⟨cb, co + k * 2, none⟩ = some (.int .i64 d.1) ∧ W9.cell? ⟨cb, co + k * 2 + 1, none⟩ = some (.int .i64 d.2) from fun W9 h => by
          obtain ⟨q0, q1, q2, q3, q4, q5, q6, q7, q8, q9⟩ := HF6.out W9 h
          exact ⟨q0, q1, q2, q3, q4, q5, q6, q7, q8, q9, cell_later h u0, cell_later h u1⟩)
        have HBK2 := Lib.hid hbk
        clear hbk hdm hd u0 u1
        go_upto_region 16 with fail
        have hD := bl_tr hB (bl_dr (bl0 wr))
        have hown2 := own_later hown (bl_dr (bl0 wr))
        refine (wpIn_wide (n := 11)).1 ?_
        refine ordS_begin (S := (fun W9 : World => W9.cell? ⟨w.heap.size, 0, none⟩ = some (.int .i64 A) ∧ W9.cell? ⟨w.heap.size, 1, none⟩ = some (.int .i64 B) ∧ W9.cell? ⟨w.heap.size, 2, none⟩ = some (.slice a zs.length cap) ∧ W9.cell? ⟨w.heap.size + 1 + 1, 1, none⟩ = some (.slice (some ⟨cb, co, none⟩) cs.length cc) ∧ W9.cell? ⟨w.heap.size + 1 + 1, 2, none⟩ = some (.int .i64 p.1) ∧ W9.cell? ⟨w.heap.size + 1 + 1, 3, none⟩ = some (.int .i64 p.2) ∧ W9.cell? ⟨kb, 0, none⟩ = some (.int .i64 BX') ∧ W9.cell? ⟨kb, 1, none⟩ = some (.int .i64 BY') ∧ W9.cell? ⟨kb, 2, none⟩ = some (.int .i64 U) ∧ W9.cell? ⟨kb, 3, none⟩ = some (.int .i64 V) ∧ W9.cell? ⟨cb, co + k * 2, none⟩ = some (.int .i64 d.1) ∧ W9.cell? ⟨cb, co + k * 2 + 1, none⟩ = some (.int .i64 d.2))) (by kernel_rfl) (HF7.out _ hD) (fun hH => ?_)
        refine' ordS_take (i := 0) (oi := { dst := some 111, op := Op.move (Operand.tmp 14), type := 33, pos := _, after := #[], guard := none }) (v := _) rfl (by kernel_rfl) (by kernel_rfl) (by kernel_rfl) (by kernel_rfl) (fun _ _ _ h => h) (by assumption) (Or.inl ⟨by rfl, ?hy161⟩) (fun _ => rfl) ?rest161
        case hy161 => (intro w hSw; (try dsimp only at hSw); go_simp; try with_reducible rfl)
        try simp only [Act.put, List.setIfInBounds_toArray, List.set_cons_zero, List.set_cons_succ]
        refine' ordS_take (i := 1) (oi := { dst := some 112, op := Op.load 26 (Operand.tmp 3), type := 26, pos := _, after := #[], guard := none }) (v := _) rfl (by kernel_rfl) (by kernel_rfl) (by kernel_rfl) (by kernel_rfl) (fun _ _ _ h => h) (by assumption) (Or.inl ⟨by rfl, ?hy162⟩) (fun _ => rfl) ?rest162
        case hy162 => (intro w hSw; (try dsimp only at hSw); go_simp; try with_reducible rfl)
        try simp only [Act.put, List.setIfInBounds_toArray, List.set_cons_zero, List.set_cons_succ]
        refine' ordS_take (i := 2) (oi := { dst := some 113, op := Op.load 28 (Operand.tmp 13), type := 28, pos := _, after := #[], guard := none }) (v := _) rfl (by kernel_rfl) (by kernel_rfl) (by kernel_rfl) (by kernel_rfl) (fun _ _ _ h => h) (by assumption) (Or.inl ⟨by rfl, ?hy163⟩) (fun _ => rfl) ?rest163
        case hy163 => (intro w hSw; (try dsimp only at hSw); go_simp; try with_reducible rfl)
        try simp only [Act.put, List.setIfInBounds_toArray, List.set_cons_zero, List.set_cons_succ]
        refine' ordS_take (i := 3) (oi := { dst := some 114, op := Op.fieldAddr 68 (Operand.tmp 5) 1, type := 0, pos := _, after := #[], guard := none }) (v := _) rfl (by kernel_rfl) (by kernel_rfl) (by kernel_rfl) (by kernel_rfl) (fun _ _ _ h => h) (by assumption) (Or.inl ⟨by rfl, ?hy164⟩) (fun _ => rfl) ?rest164
        case hy164 => (intro w hSw; (try dsimp only at hSw); go_simp; try with_reducible rfl)
        try simp only [Act.put, List.setIfInBounds_toArray, List.set_cons_zero, List.set_cons_succ]
        refine' ordS_take (i := 4) (oi := { dst := some 115, op := Op.load 44 (Operand.tmp 114), type := 44, pos := _, after := #[{ on := 3, ground := Ground.data }], guard := none }) (v := _) rfl (by kernel_rfl) (by kernel_rfl) (by kernel_rfl) (by kernel_rfl) (fun _ _ _ h => h) (by assumption) (Or.inl ⟨by rfl, ?hy165⟩) (fun _ => rfl) ?rest165
        case hy165 => (intro w hSw; (try dsimp only at hSw); go_simp; try with_reducible rfl)
        try simp only [Act.put, List.setIfInBounds_toArray, List.set_cons_zero, List.set_cons_succ]
        refine' ordS_take (i := 5) (oi := { dst := some 116, op := Op.move (Operand.tmp 15), type := 3, pos := _, after := #[], guard := none }) (v := _) rfl (by kernel_rfl) (by kernel_rfl) (by kernel_rfl) (by kernel_rfl) (fun _ _ _ h => h) (by assumption) (Or.inl ⟨by rfl, ?hy166⟩) (fun _ => rfl) ?rest166
        case hy166 => (intro w hSw; (try dsimp only at hSw); go_simp; try with_reducible rfl)
        try simp only [Act.put, List.setIfInBounds_toArray, List.set_cons_zero, List.set_cons_succ]
        refine' ordS_take (i := 6) (oi := { dst := some 117, op := Op.indexAddr 44 (Operand.tmp 115) (Operand.tmp 116), type := 0, pos := _, after := #[{ on := 4, ground := Ground.data }, { on := 5, ground := Ground.data }], guard := none }) (v := _) rfl (by kernel_rfl) (by kernel_rfl) (by kernel_rfl) (by kernel_rfl) (fun _ _ _ h => h) (by assumption) (Or.inl ⟨by rfl, ?hy167⟩) (fun _ => rfl) ?rest167
        case hy167 => (intro w hSw; (try dsimp only at hSw); go_simp; try with_reducible rfl)
        try simp only [Act.put, List.setIfInBounds_toArray, List.set_cons_zero, List.set_cons_succ]
        refine' ordS_take (i := 7) (oi := { dst := some 118, op := Op.load 30 (Operand.tmp 117), type := 30, pos := _, after := #[{ on := 6, ground := Ground.data }], guard := none }) (v := _) rfl (by kernel_rfl) (by kernel_rfl) (by kernel_rfl) (by kernel_rfl) (fun _ _ _ h => h) (by assumption) (Or.inl ⟨by rfl, ?hy168⟩) (fun _ => rfl) ?rest168
        case hy168 => (intro w hSw; (try dsimp only at hSw); go_simp; try with_reducible rfl)
        try simp only [Act.put, List.setIfInBounds_toArray, List.set_cons_zero, List.set_cons_succ]
        refine' ordS_take (i := 8) (oi := { dst := some 119, op := Op.fieldAddr 68 (Operand.tmp 5) 2, type := 0, pos := _, after := #[], guard := none }) (v := _) rfl (by kernel_rfl) (by kernel_rfl) (by kernel_rfl) (by kernel_rfl) (fun _ _ _ h => h) (by assumption) (Or.inl ⟨by rfl, ?hy169⟩) (fun _ => rfl) ?rest169
        case hy169 => (intro w hSw; (try dsimp only at hSw); go_simp; try with_reducible rfl)
        try simp only [Act.put, List.setIfInBounds_toArray, List.set_cons_zero, List.set_cons_succ]
        refine' ordS_take (i := 9) (oi := { dst := some 120, op := Op.load 30 (Operand.tmp 119), type := 30, pos := _, after := #[{ on := 8, ground := Ground.data }], guard := none }) (v := _) rfl (by kernel_rfl) (by kernel_rfl) (by kernel_rfl) (by kernel_rfl) (fun _ _ _ h => h) (by assumption) (Or.inl ⟨by rfl, ?hy170⟩) (fun _ => rfl) ?rest170
        case hy170 => (intro w hSw; (try dsimp only at hSw); go_simp; try with_reducible rfl)
        try simp only [Act.put, List.setIfInBounds_toArray, List.set_cons_zero, List.set_cons_succ]
        obtain ⟨W2, hW2⟩ : ∃ W2, wr.drew = W2 := ⟨_, rfl⟩
        rw [hW2] at hD hown2
        rw [hW2]
        clear hW2 hH hown f0 f1 f2 c1 c2 c3 b0 b1 b2 b3 zf zc zb
        refine ordS_one (i := 10) (o := { dst := some 121, op := Op.buildSlice 44 1 #[(0, Operand.tmp 120)], type := 44, pos := _, after := #[{ on := 9, ground := Ground.data }], guard := none }) (by kernel_rfl) rfl (by rfl) (fun K hK => ?_)
        go_simp
        have hb := bl_al (bl0 W2) (.cells #[.int .i64 p.1, .int .i64 p.2] 30)
        have hpr : RowC (W2.alloc (.cells #[.int .i64 p.1, .int .i64 p.2] 30)) (some ⟨W2.heap.size, 0, none⟩) [p] := rowC_lit (heap_alloc_new W2 _) rfl
        have hown3 := own_later hown2 hb
        have hD3 := bl_tr hD hb
        refine hK _ _ (HF7.out _ hD3) ?_
        clear hK K
        try simp only [Act.put, List.setIfInBounds_toArray, List.set_cons_zero, List.set_cons_succ]
        refine ordS_one (i := 11) (o := { dst := some 122, op := Op.call { callee := Callee.value (Operand.func 41), args := #[Operand.tmp 112, Operand.tmp 113, Operand.tmp 118, Operand.tmp 121], argTypes := #[26, 28, 30, 44] }, type := 33, pos := _, after := #[{ on := 1, ground := Ground.data }, { on := 2, ground := Ground.data }, { on := 7, ground := Ground.data }, { on := 10, ground := Ground.data }], guard := none }) (by kernel_rfl) rfl (by rfl) (fun K hK => ?_)
        go_simp
        refine ⟨trivial, ?_⟩
        with_reducible refine (callsIn_wide.2 (HR2d.out _ _ _ (HRH.out.below hD3) hpr)).mono ?_
        rintro e W4 ⟨a7, c7, rfl, hq, hb4⟩
        have hD4 := bl_tr hD3 hb4
        have hown4 := own_later hown3 hb4
        obtain ⟨fb, fo, rfl, qv⟩ := hq.cell (k := 0) (by simp)
        have qv2 : W4.cell? ⟨fb, fo, none⟩ = some (.int .u64 (FO d)) := qv
        refine hK _ _ (HF7.out _ hD4) ?_
        clear hK K qv hq hb4 hb hpr hown3 hown2 hD hD3
        try simp only [Act.put, List.setIfInBounds_toArray, List.set_cons_zero, List.set_cons_succ]
        refine ordS_one (i := 12) (o := { dst := some 123, op := Op.indexAddr 33 (Operand.tmp 122) (Operand.const (Value.int IntKind.i64 0)), type := 0, pos := _, after := #[{ on := 11, ground := Ground.data }], guard := none }) (by kernel_rfl) rfl (by rfl) (fun K hK => ?_)
        go_simp
        refine hK _ _ (HF7.out _ hD4) ?_
        clear hK K
        try simp only [Act.put, List.setIfInBounds_toArray, List.set_cons_zero, List.set_cons_succ]
        refine ordS_one (i := 13) (o := { dst := some 124, op := Op.load 45 (Operand.tmp 123), type := 45, pos := _, after := #[{ on := 12, ground := Ground.data }], guard := none }) (by kernel_rfl) rfl (by rfl) (fun K hK => ?_)
        go_simp
        refine hK _ _ (HF7.out _ hD4) ?_
        clear hK K qv2
        try simp only [Act.put, List.setIfInBounds_toArray, List.set_cons_zero, List.set_cons_succ]
        refine ordS_one (i := 14) (o := { dst := some 125, op := Op.buildSlice 33 1 #[(0, Operand.tmp 124)], type := 33, pos := _, after := #[{ on := 13, ground := Ground.data }], guard := none }) (by kernel_rfl) rfl (by rfl) (fun K hK => ?_)
        go_simp
        have hb := bl_al (bl0 W4) (.cells #[.int .u64 (FO d)] 45)
        refine hK _ _ (HF7.out _ (bl_tr hD4 hb)) ?_
        clear hK K
        try simp only [Act.put, List.setIfInBounds_toArray, List.set_cons_zero, List.set_cons_succ]
        refine ordS_append (i := 15) (o := { dst := some 126, op := Op.call { callee := Callee.builtin Builtin.append, args := #[Operand.tmp 111, Operand.tmp 125], argTypes := #[33, 33] }, type := 33, pos := _, after := #[{ on := 0, ground := Ground.data }, { on := 14, ground := Ground.data }, { on := 11, ground := Ground.chain }], guard := none }) _ (by kernel_rfl) rfl (by rfl) _ _ 33 rfl wc.heap.size 45 i0 (.int .u64 0) 1 8 Tryd.underlying33 hi0 hz0 hz1 hz2 rfl (by decide) _ _ _ rfl (own_later hown4 hb) ⟨W4.heap.size, 0, none⟩ 1 1 [.int .u64 (FO d)] rfl rfl ?c1 ?c2 ?c3 ?c4 ?c5 ?_
        case c1 =>
          intro j u hu
          match j with
          | 0 => simp at hu; subst hu; simp [go_sem]
          | j + 1 => simp at hu
        case c2 => intro u' hu; simp at hu; rcases hu with rfl; rfl
        case c3 => unfold maxLen; omega
        case c4 => omega
        case c5 => (have := hD4.size; first | (simp; omega) | omega)
        intro v2 w10 hown' hgrow
        have hB5 : Below wc.heap.size wc w10 := (bl_al hD4 (.cells #[.int .u64 (FO d)] 45)).grown hgrow (by have := hD4.size; simp; omega) (fun j hj => by have := ((own_later hown4 hb).lt j hj).1; omega)
        have hS10 := HF7.out _ hB5
        refine ⟨hS10, ?_⟩
        try simp only [Act.put, List.setIfInBounds_toArray, List.set_cons_zero, List.set_cons_succ]
        first
          | (refine' ordS_take (i := 16) (oi := { dst := some 14, op := Op.assign (Operand.tmp 126), type := 33, pos := _, after := #[{ on := 15, ground := Ground.data }, { on := 15, ground := Ground.chain }, { on := 0, ground := Ground.phase }, { on := 1, ground := Ground.phase }, { on := 2, ground := Ground.phase }, { on := 3, ground := Ground.phase }, { on := 4, ground := Ground.phase }, { on := 5, ground := Ground.phase }, { on := 6, ground := Ground.phase }, { on := 7, ground := Ground.phase }, { on := 8, ground := Ground.phase }, { on := 9, ground := Ground.phase }, { on := 10, ground := Ground.phase }, { on := 11, ground := Ground.phase }, { on := 12, ground := Ground.phase }, { on := 13, ground := Ground.phase }, { on := 14, ground := Ground.phase }, { on := 15, ground := Ground.phase }], guard := none }) (v := _) rfl (by kernel_rfl) (by kernel_rfl) (by kernel_rfl) (by kernel_rfl) (fun _ _ _ h => h) (by assumption) (Or.inl ⟨by rfl, ?hy171⟩) (fun _ => rfl) ?rest171
             case hy171 => (intro w hSw; (try dsimp only at hSw); go_simp; try with_reducible rfl))
          | (refine ordS_take (i := 16) (oi := { dst := some 14, op := Op.assign (Operand.tmp 126), type := 33, pos := _, after := #[{ on := 15, ground := Ground.data }, { on := 15, ground := Ground.chain }, { on := 0, ground := Ground.phase }, { on := 1, ground := Ground.phase }, { on := 2, ground := Ground.phase }, { on := 3, ground := Ground.phase }, { on := 4, ground := Ground.phase }, { on := 5, ground := Ground.phase }, { on := 6, ground := Ground.phase }, { on := 7, ground := Ground.phase }, { on := 8, ground := Ground.phase }, { on := 9, ground := Ground.phase }, { on := 10, ground := Ground.phase }, { on := 11, ground := Ground.phase }, { on := 12, ground := Ground.phase }, { on := 13, ground := Ground.phase }, { on := 14, ground := Ground.phase }, { on := 15, ground := Ground.phase }], guard := none }) (v := undef) rfl (by kernel_rfl) (by kernel_rfl) (by kernel_rfl) (by kernel_rfl) (fun _ _ _ h => h) (by assumption) (Or.inr ⟨by rfl, rfl⟩) (fun _ => rfl) ?_)
        try simp only [Act.put, List.setIfInBounds_toArray, List.set_cons_zero, List.set_cons_succ]
        refine ordS_done (by kernel_rfl) ?_
        have e : cellsU (BK.take k) ++ [.int .u64 (FO d)] = cellsU (BK.take (k + 1)) := by rw [HBK2.out]; simp [cellsU]
        rw [e] at hown'
        clear hgrow hown4 hD4 hb e hB hS10
        go_wp2
        go_roundw
        case rel => exact ⟨k + 1, by omega, by go_num, hown', hB5⟩
        case measure => simp [intOf]; omega
      · obtain rfl : k = cs.length := by omega
        have hge : ¬ (cs.length : Int) < (cs.length : Int) := by omega
        have hall : BK.take cs.length = BK := by rw [← HBL.out]; exact List.take_length
        rw [hall] at hown
        have hru := rowU_own2 hown HBL.out
        have hra := HRA6.out.below hB
        have hrb := HRB6.out.below hB
        have hr := HR0.out
        have hcs := HC0.out
        have hs := HS0.out
        have hA := bl_tr HA6.out hB
        clear hown hall
        go_wp2_with fail
        refine (HR1.out _ (hr.below (by first | exact hA | exact (bl_al hA _) | exact (bl_dr (bl_al hA _)) | exact (bl_al (bl_al hA _) _) | exact (bl_dr (bl_al (bl_al hA _) _)) | exact (bl_al (bl_al (bl_al hA _) _) _) | exact (bl_dr (bl_al (bl_al (bl_al hA _) _) _)) | exact (bl_al (bl_al (bl_al (bl_al hA _) _) _) _) | exact (bl_dr (bl_al (bl_al (bl_al (bl_al hA _) _) _) _)) | exact (bl_al (bl_al (bl_al (bl_al (bl_al hA _) _) _) _) _) | exact (bl_dr (bl_al (bl_al (bl_al (bl_al (bl_al hA _) _) _) _) _)) | exact (bl_al (bl_al (bl_al (bl_al (bl_al (bl_al hA _) _) _) _) _) _) | exact (bl_dr (bl_al (bl_al (bl_al (bl_al (bl_al (bl_al hA _) _) _) _) _) _)) | exact (bl_dr hA))) (hcs.below (by first | exact hA | exact (bl_al hA _) | exact (bl_dr (bl_al hA _)) | exact (bl_al (bl_al hA _) _) | exact (bl_dr (bl_al (bl_al hA _) _)) | exact (bl_al (bl_al (bl_al hA _) _) _) | exact (bl_dr (bl_al (bl_al (bl_al hA _) _) _)) | exact (bl_al (bl_al (bl_al (bl_al hA _) _) _) _) | exact (bl_dr (bl_al (bl_al (bl_al (bl_al hA _) _) _) _)) | exact (bl_al (bl_al (bl_al (bl_al (bl_al hA _) _) _) _) _) | exact (bl_dr (bl_al (bl_al (bl_al (bl_al (bl_al hA _) _) _) _) _)) | exact (bl_al (bl_al (bl_al (bl_al (bl_al (bl_al hA _) _) _) _) _) _) | exact (bl_dr (bl_al (bl_al (bl_al (bl_al (bl_al (bl_al hA _) _) _) _) _) _)) | exact (bl_dr hA)))).mono ?_
        rintro e v1 ⟨a7, c7, rfl, hq, hb⟩
        have hk : Below wr.heap.size wr v1 := by first | exact hb | exact bl_tr (bl_al (bl0 _) _) hb | exact bl_tr (bl_dr (bl_al (bl0 _) _)) hb | exact bl_tr (bl_al (bl_al (bl0 _) _) _) hb | exact bl_tr (bl_dr (bl_al (bl_al (bl0 _) _) _)) hb | exact bl_tr (bl_al (bl_al (bl_al (bl0 _) _) _) _) hb | exact bl_tr (bl_dr (bl_al (bl_al (bl_al (bl0 _) _) _) _)) hb | exact bl_tr (bl_al (bl_al (bl_al (bl_al (bl0 _) _) _) _) _) hb | exact bl_tr (bl_dr (bl_al (bl_al (bl_al (bl_al (bl0 _) _) _) _) _)) hb | exact bl_tr (bl_al (bl_al (bl_al (bl_al (bl_al (bl0 _) _) _) _) _) _) hb | exact bl_tr (bl_dr (bl_al (bl_al (bl_al (bl_al (bl_al (bl0 _) _) _) _) _) _)) hb | exact bl_tr (bl_al (bl_al (bl_al (bl_al (bl_al (bl_al (bl0 _) _) _) _) _) _) _) hb | exact bl_tr (bl_dr (bl_al (bl_al (bl_al (bl_al (bl_al (bl_al (bl0 _) _) _) _) _) _) _)) hb | exact bl_tr (bl_dr (bl0 _)) hb
        replace hA := bl_tr hA hk
        replace hra := hra.below hk
        replace hrb := hrb.below hk
        replace hru := hru.below hk
        clear hb hk
        go_wp2_with fail
        refine (HSA.out _ _ _ _ _ hra hq).mono ?_
        rintro e v2 ⟨rfl, hb⟩
        have hk : Below v1.heap.size v1 v2 := by first | exact hb | exact bl_tr (bl_al (bl0 _) _) hb | exact bl_tr (bl_dr (bl_al (bl0 _) _)) hb | exact bl_tr (bl_al (bl_al (bl0 _) _) _) hb | exact bl_tr (bl_dr (bl_al (bl_al (bl0 _) _) _)) hb | exact bl_tr (bl_al (bl_al (bl_al (bl0 _) _) _) _) hb | exact bl_tr (bl_dr (bl_al (bl_al (bl_al (bl0 _) _) _) _)) hb | exact bl_tr (bl_al (bl_al (bl_al (bl_al (bl0 _) _) _) _) _) hb | exact bl_tr (bl_dr (bl_al (bl_al (bl_al (bl_al (bl0 _) _) _) _) _)) hb | exact bl_tr (bl_al (bl_al (bl_al (bl_al (bl_al (bl0 _) _) _) _) _) _) hb | exact bl_tr (bl_dr (bl_al (bl_al (bl_al (bl_al (bl_al (bl0 _) _) _) _) _) _)) hb | exact bl_tr (bl_al (bl_al (bl_al (bl_al (bl_al (bl_al (bl0 _) _) _) _) _) _) _) hb | exact bl_tr (bl_dr (bl_al (bl_al (bl_al (bl_al (bl_al (bl_al (bl0 _) _) _) _) _) _) _)) hb | exact bl_tr (bl_dr (bl0 _)) hb
        replace hA := bl_tr hA hk
        replace hrb := hrb.below hk
        replace hru := hru.below hk
        clear hb hk
        go_wp2_with fail
        refine (HSB.out _ _ _ _ _ hrb hru).mono ?_
        rintro e v3 ⟨rfl, hb⟩
        have hk : Below v2.heap.size v2 v3 := by first | exact hb | exact bl_tr (bl_al (bl0 _) _) hb | exact bl_tr (bl_dr (bl_al (bl0 _) _)) hb | exact bl_tr (bl_al (bl_al (bl0 _) _) _) hb | exact bl_tr (bl_dr (bl_al (bl_al (bl0 _) _) _)) hb | exact bl_tr (bl_al (bl_al (bl_al (bl0 _) _) _) _) hb | exact bl_tr (bl_dr (bl_al (bl_al (bl_al (bl0 _) _) _) _)) hb | exact bl_tr (bl_al (bl_al (bl_al (bl_al (bl0 _) _) _) _) _) hb | exact bl_tr (bl_dr (bl_al (bl_al (bl_al (bl_al (bl0 _) _) _) _) _)) hb | exact bl_tr (bl_al (bl_al (bl_al (bl_al (bl_al (bl0 _) _) _) _) _) _) hb | exact bl_tr (bl_dr (bl_al (bl_al (bl_al (bl_al (bl_al (bl0 _) _) _) _) _) _)) hb | exact bl_tr (bl_al (bl_al (bl_al (bl_al (bl_al (bl_al (bl0 _) _) _) _) _) _) _) hb | exact bl_tr (bl_dr (bl_al (bl_al (bl_al (bl_al (bl_al (bl_al (bl0 _) _) _) _) _) _) _)) hb | exact bl_tr (bl_dr (bl0 _)) hb
        replace hA := bl_tr hA hk
        clear hb hk
        go_wp2_with fail
        refine (awake13 _ (hs.below (by first | exact hA | exact (bl_al hA _) | exact (bl_dr (bl_al hA _)) | exact (bl_al (bl_al hA _) _) | exact (bl_dr (bl_al (bl_al hA _) _)) | exact (bl_al (bl_al (bl_al hA _) _) _) | exact (bl_dr (bl_al (bl_al (bl_al hA _) _) _)) | exact (bl_al (bl_al (bl_al (bl_al hA _) _) _) _) | exact (bl_dr (bl_al (bl_al (bl_al (bl_al hA _) _) _) _)) | exact (bl_al (bl_al (bl_al (bl_al (bl_al hA _) _) _) _) _) | exact (bl_dr (bl_al (bl_al (bl_al (bl_al (bl_al hA _) _) _) _) _)) | exact (bl_al (bl_al (bl_al (bl_al (bl_al (bl_al hA _) _) _) _) _) _) | exact (bl_dr (bl_al (bl_al (bl_al (bl_al (bl_al (bl_al hA _) _) _) _) _) _)) | exact (bl_dr hA)))).mono ?_
        rintro e v4 ⟨rfl, hb⟩
        have hk : Below v3.heap.size v3 v4 := by first | exact hb | exact bl_tr (bl_al (bl0 _) _) hb | exact bl_tr (bl_dr (bl_al (bl0 _) _)) hb | exact bl_tr (bl_al (bl_al (bl0 _) _) _) hb | exact bl_tr (bl_dr (bl_al (bl_al (bl0 _) _) _)) hb | exact bl_tr (bl_al (bl_al (bl_al (bl0 _) _) _) _) hb | exact bl_tr (bl_dr (bl_al (bl_al (bl_al (bl0 _) _) _) _)) hb | exact bl_tr (bl_al (bl_al (bl_al (bl_al (bl0 _) _) _) _) _) hb | exact bl_tr (bl_dr (bl_al (bl_al (bl_al (bl_al (bl0 _) _) _) _) _)) hb | exact bl_tr (bl_al (bl_al (bl_al (bl_al (bl_al (bl0 _) _) _) _) _) _) hb | exact bl_tr (bl_dr (bl_al (bl_al (bl_al (bl_al (bl_al (bl0 _) _) _) _) _) _)) hb | exact bl_tr (bl_al (bl_al (bl_al (bl_al (bl_al (bl_al (bl0 _) _) _) _) _) _) _) hb | exact bl_tr (bl_dr (bl_al (bl_al (bl_al (bl_al (bl_al (bl_al (bl0 _) _) _) _) _) _) _)) hb | exact bl_tr (bl_dr (bl0 _)) hb
        replace hA := bl_tr hA hk
        clear hb hk
        go_wp2
        go_ret
        exact ⟨rfl, hA⟩
end Go.Proofs.YtbdfjdipjacamaaDoor
