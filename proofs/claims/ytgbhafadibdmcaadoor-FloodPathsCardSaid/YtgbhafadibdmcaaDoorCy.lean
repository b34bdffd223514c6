/- Least costs by definition: the reference's Path. -/
import Derived.Test.YtgbhafadibdmcaaDoorJ1
import Derived.Test.YtgbhafadibdmcaaDoorCw
namespace Go.Proofs.YtgbhafadibdmcaaDoor
open Go.RowKit

/-- What the reference's Path tells. -/
def RPathR (L : Nat) (l : List IC) (w : World) (e : Ending) (w' : World) : Prop := ∃ g c, e = .returned (.slice g L c) ∧ RowC w' g l ∧ Below w.heap.size w w'
set_option maxRecDepth 100000 in
set_option maxHeartbeats 8000000 in
theorem rpath_any (A B X Y : Int) (U V : Nat) (a : Option Addr) (cap : Nat) (zs : List Int) (fa : Option Addr) (fc : Nat) (ds : List Int) (t : IC) (L : Nat) (BL : Nat → List IC) (w : World) (hr : RowH w a zs) (hz : AllH zs) (hn : (zs.length : Int) = A * B) (hx : BoxOn A B X Y U V)
    (hdb : ∀ i, atD ds i = 18446744073709551615 ∨ 0 ≤ atD ds i ∧ atD ds i ≤ 4294967296) (hdl : ds.length = zs.length) (hru : RowU w fa ds) (hW : WayB A (X, Y, (U : Int), (V : Int)) zs ds t L BL) :
    Calls Tryd.prog 14 #[.agg #[.int .i64 A, .int .i64 B, .slice a zs.length cap], .agg #[.int .i64 X, .int .i64 Y, .int .i64 U, .int .i64 V], .slice fa ds.length fc, .agg #[.int .i64 t.1, .int .i64 t.2]] w (RPathR L (BL L) w) := by
  have hx' := hx
  obtain ⟨⟨a1, a2⟩, ⟨b1, b2⟩, ⟨x1, x2⟩, ⟨y1, y2⟩, u1, v1⟩ := hx'
  have hal := area_bd hx.may
  have hlen2 : (zs.length : Int) ≤ 65536 := by omega
  have hrt := (fitsB_iff.1 hx.fits).1
  have HCO := Lib.hid (fun (d : IC) (hd : onB A B d = true) w (h : RowH w a zs) => cost8_any A B a cap zs d w h hz hd hn)
  have HHA := Lib.hid (fun (d : IC) (hd : wf64 d.1 ∧ wf64 d.2) w => rhas8_any X Y U V d w hrt ⟨x1, y1⟩ hd)
  have HST := Lib.hid (fun (c : IC) (d : Nat) (hp : plainB c.1 c.2 = true) (hd : d < 4) w => rstep8_any c.1 c.2 (d : Int) w hp (by omega) (by omega))
  have HNU := Lib.hid (fun (d : IC) (hd : inBx (X, Y, (U : Int), (V : Int)) d = true) => (show (numN A d < zs.length ∧ IntKind.i64.wrap (d.2 * A) = d.2 * A ∧ IntKind.i64.wrap (d.2 * A + d.1) = (numN A d : Int) ∧ onB A B d = true) ∧ (0 ≤ d.1 ∧ d.1 ≤ 255) ∧ 0 ≤ d.2 ∧ d.2 ≤ 255 by
    obtain ⟨o1, _⟩ := hx.on hd
    obtain ⟨i1, i2⟩ := numN_int o1
    obtain ⟨j1, j2, j3, j4⟩ := hx.inb.1 hd
    obtain ⟨k1, k2⟩ := mul_bd (show 0 ≤ d.2 by omega) (by omega) a1 a2
    exact ⟨⟨by omega, IntWalk.i64_in _ (by omega), by rw [i1]; exact IntWalk.i64_in _ (by omega), o1⟩, by omega, by omega⟩))
  have HKB := Lib.hid (fun i => getD_in hz i)
  have HAT := Lib.hid hW.at_
  have HLN := Lib.hid hW.len
  have HON := Lib.hid hW.one
  obtain ⟨l1, l2⟩ := hW.pos
  have HDB := Lib.hid hdb
  have HDL := Lib.hid hdl
  have hA := bl0 w
  obtain ⟨W3, hW3⟩ : ∃ W3, ((w.alloc (.cells #[.int .i64 A, .int .i64 B, .slice a zs.length cap] 26)).alloc (.cells #[.int .i64 X, .int .i64 Y, .int .i64 U, .int .i64 V] 28)).alloc (.cells #[.int .i64 t.1, .int .i64 t.2] 30) = W3 := ⟨_, rfl⟩
  have hA3 : Below w.heap.size w W3 := by rw [← hW3]; exact bl_al (bl_al (bl_al hA _) _) _
  have f0 : W3.cell? ⟨w.heap.size, 0, none⟩ = some (.int .i64 A) := by rw [← hW3]; simp [go_sem]
  have f1 : W3.cell? ⟨w.heap.size, 1, none⟩ = some (.int .i64 B) := by rw [← hW3]; simp [go_sem]
  have f2 : W3.cell? ⟨w.heap.size, 2, none⟩ = some (.slice a zs.length cap) := by rw [← hW3]; simp [go_sem]
  have g0 : W3.cell? ⟨w.heap.size + 1, 0, none⟩ = some (.int .i64 X) := by rw [← hW3]; simp [go_sem]
  have g1 : W3.cell? ⟨w.heap.size + 1, 1, none⟩ = some (.int .i64 Y) := by rw [← hW3]; simp [go_sem]
  have g2 : W3.cell? ⟨w.heap.size + 1, 2, none⟩ = some (.int .i64 U) := by rw [← hW3]; simp [go_sem]
  have g3 : W3.cell? ⟨w.heap.size + 1, 3, none⟩ = some (.int .i64 V) := by rw [← hW3]; simp [go_sem]
  have t0 : W3.cell? ⟨w.heap.size + 1 + 1, 0, none⟩ = some (.int .i64 t.1) := by rw [← hW3]; simp [go_sem]
  have t1 : W3.cell? ⟨w.heap.size + 1 + 1, 1, none⟩ = some (.int .i64 t.2) := by rw [← hW3]; simp [go_sem]
  have zt0 := blk_lt t0
  have HF := Lib.hid (show ∀ W9, Below W3.heap.size W3 W9 → W9.cell? ⟨w.heap.size, 0, none⟩ = some (.int .i64 A) ∧ W9.cell? ⟨w.heap.size, 1, none⟩ = some (.int .i64 B) ∧ W9.cell? ⟨w.heap.size, 2, none⟩ = some (.slice a zs.length cap) ∧ W9.cell? ⟨w.heap.size + 1, 0, none⟩ = some (.int .i64 X) ∧ W9.cell? ⟨w.heap.size + 1, 1, none⟩ = some (.int .i64 Y) ∧ W9.cell? ⟨w.heap.size + 1, 2, none⟩ = some (.int .i64 U) ∧ W9.cell? ⟨w.heap.size + 1, 3, none⟩ = some (.int .i64 V) from fun W9 h => ⟨cell_later h f0, cell_later h f1, cell_later h f2, cell_later h g0, cell_later h g1, cell_later h g2, cell_later h g3⟩)
  have HRW := Lib.hid (show ∀ W9, Below W3.heap.size W3 W9 → RowH W9 a zs from fun W9 h => (hr.below hA3).below h)
  have HFU := Lib.hid (show ∀ W9, Below W3.heap.size W3 W9 → RowU W9 fa ds from fun W9 h => (hru.below hA3).below h)
  have HBW := Lib.hid (show ∀ W9, Below W3.heap.size W3 W9 → Below w.heap.size w W9 from fun W9 h => bl_tr hA3 h)
  have HW3 := Lib.hid hW3
  have HR1 := Lib.hid (show RowC (W3.alloc (.cells #[.int .i64 t.1, .int .i64 t.2] 30)) (some ⟨W3.heap.size, 0, none⟩) (BL 1) by rw [HON.out]; exact rowC_lit (heap_alloc_new W3 _) rfl)
  rw [hdl]
  clear hW3 f0 f1 f2 g0 g1 g2 g3 hA hA3 hr hru hdb hdl hx hW hal hrt hn hz
  go_enter Tryd.func14, Tryd.ntmps14
  go_upto_region 1 with fail
  rw [HW3.out]
  go_wp2_with fail
  go_loopw [9, 10, 11, 12, 13, 14] (fun ov nv _ _ _ _ wr => ∃ (k : Nat) (oa : Option Addr) (oc : Nat), k < L ∧ nv = .int .i64 k ∧ ov = .slice oa (k + 1 : Nat) oc ∧ RowC wr oa (BL (k + 1)) ∧ Below W3.heap.size W3 wr) (fun _ nv _ _ _ _ _ => zs.length - (intOf nv).toNat)
  case atStart => exact ⟨0, _, _, by omega, rfl, rfl, HR1.out, bl_al (bl0 _) _⟩
  case round =>
    clear t0 t1 zt0
    obtain ⟨k, oa, oc, hk, rfl, rfl, hrow, hB0⟩ := hrel
    have hk0 : (0 : Int) ≤ (k : Int) := by omega
    have hlt : k < zs.length := by omega
    have hlt2 : (k : Int) < (zs.length : Int) := by omega
    obtain ⟨x, q1, q2, q3, q4, q5, q6, q7⟩ := HAT.out k hk
    obtain ⟨⟨n1, n2, n3, n4⟩, n5, n6⟩ := HNU.out _ q5
    rw [q3] at n3
    have hblen := HLN.out (k + 1) hk
    have hrow0 := hrow
    rw [q2] at hrow0
    obtain ⟨ob, oo, rfl, o0, o1⟩ := hrow0.cell (k := 0) (by simp)
    simp only [List.getElem_cons_zero, Nat.zero_mul, Nat.add_zero] at o0 o1
    obtain ⟨C, hC⟩ : ∃ C, cellN A x = C := ⟨_, rfl⟩
    rw [hC] at o0 o1 n2 n3 n4 n5 n6
    have hfu := HFU.out _ hB0
    obtain ⟨gb, go, e, qf⟩ := hfu.cell (show x < ds.length by rw [HDL.out]; exact q1)
    subst e
    obtain ⟨h, hh⟩ : ∃ h, atD ds x = h := ⟨_, rfl⟩
    rw [hh] at qf q4 q6 q7
    rw [hC] at q7
    have hx0 : (0 : Int) ≤ (x : Int) := by omega
    have hx1 : (x : Int) < (zs.length : Int) := by omega
    obtain ⟨f0, f1, f2, g0, g1, g2, g3⟩ := HF.out _ hB0
    have hpl : plainB C.1 C.2 = true := plainB_iff.2 (by omega)
    have HCC := Lib.hid (HCO.out C n4)
    have hnC : numN A C = x := by rw [← hC]; exact q3
    rw [hnC] at HCC
    have HHIT := Lib.hid (show ∀ d : Nat, hitO A (X, Y, (U : Int), (V : Int)) zs ds x (d : Int) = (inBx (X, Y, (U : Int), (V : Int)) (stepI C (d : Int)) && (decide (atD ds (numN A (stepI C (d : Int))) ≠ 18446744073709551615) && decide (atD ds (numN A (stepI C (d : Int))) + zs.getD x 0 = h))) from fun d => by unfold hitO; rw [hC, hh])
    obtain ⟨kc, hkc⟩ : ∃ kc, zs.getD x 0 = kc := ⟨_, rfl⟩
    have hkb := HKB.out x
    rw [hkc] at HCC HHIT hkb
    have zf0 := blk_lt f0
    have zo := blk_lt o0
    have zq := blk_lt qf
    have hll : (0 : Int) < ((k + 1 : Nat) : Int) := by omega
    have HQ6 := Lib.hid q6
    have HQ7 := Lib.hid q7
    have HROW := Lib.hid hrow
    have HHB := Lib.hid hB0
    have HQF := Lib.hid qf
    have HN := Lib.hid (show numN A C = x from hnC)
    clear q2 q3 q5 q6 q7 hrow hrow0 hC hh hkc hfu hnC g0 g1 g2 g3 n4
    go_upto_region 7 with fail
    obtain ⟨W5, hW5⟩ : ∃ W5, wr.alloc (.cells #[.int .i64 C.1, .int .i64 C.2] 30) = W5 := ⟨_, rfl⟩
    have hB5 : Below W3.heap.size W3 W5 := by rw [← hW5]; exact bl_al hB0 _
    have hrw5 : RowC W5 (some ⟨ob, oo, none⟩) (BL (k + 1)) := by rw [← hW5]; exact HROW.out.below (bl_al (bl0 _) _)
    have p0 : W5.cell? ⟨wr.heap.size, 0, none⟩ = some (.int .i64 C.1) := by rw [← hW5]; simp [go_sem]
    have p1 : W5.cell? ⟨wr.heap.size, 1, none⟩ = some (.int .i64 C.2) := by rw [← hW5]; simp [go_sem]
    obtain ⟨cp, hcp⟩ : ∃ cp, wr.heap.size = cp := ⟨_, rfl⟩
    rw [hW5]
    rw [hcp] at p0 p1 ⊢
    have HB5 := Lib.hid hB5
    have HR5 := Lib.hid hrw5
    clear hW5 hcp hB5 hrw5 hB0 f0 f1 f2 o0 o1 qf zf0 zo zq HROW HQF HHB
    by_cases h0 : h = 0
    · obtain rfl : L = k + 1 := (HQ6.out h0).symm
      have he : (h == 0) = true := by rw [h0]; rfl
      clear h0 p0 p1
      go_wp2
      go_ret
      exact ⟨_, _, rfl, HR5.out, HBW.out _ HB5.out⟩
    · obtain ⟨hk1, D, hD4, hDh, hDn, hBL⟩ := HQ7.out h0
      rw [HHIT.out] at hDh
      have he : (h == 0) = false := by rw [beq_eq_false_iff_ne]; exact h0
      have HDH := Lib.hid hDh
      have hDN := Lib.hid hDn
      have HBL := Lib.hid hBL
      have P0 := Lib.hid p0
      have P1 := Lib.hid p1
      clear hDh hDn hBL p0 p1 h0
      go_wp2_with fail
      go_loopw [9, 13, 14] (fun ov dv _ wr => ∃ d : Nat, d ≤ D ∧ dv = .int .i64 d ∧ ov = .slice (some ⟨ob, oo, none⟩) (k + 1 : Nat) oc ∧ Below W5.heap.size W5 wr) (fun _ dv _ _ => 4 - (intOf dv).toNat)
      case atStart => exact ⟨0, Nat.zero_le _, rfl, rfl, bl0 _⟩
      case round =>
        obtain ⟨d, hd, rfl, rfl, hBr⟩ := hrel
        have hd0 : (0 : Int) ≤ (d : Int) := by omega
        have hld : d < 4 := by omega
        have hld2 : (d : Int) < 4 := by omega
        have hdw : IntKind.i64.wrap ((d : Int) + 1) = ((d + 1 : Nat) : Int) := by rw [IntWalk.i64_in _ (by omega)]; omega
        have p0 := cell_later hBr P0.out
        have p1 := cell_later hBr P1.out
        have zp0 := blk_lt p0
        have HST2 := Lib.hid (HST.out C d hpl hld)
        have hM := step_pl (x := C.1) (y := C.2) (d := (d : Int)) (by omega) (by omega) (by omega) (by omega) (by omega) (by omega)
        have HNH := Lib.hid (show (inBx (X, Y, (U : Int), (V : Int)) (stepI C (d : Int)) && (decide (atD ds (numN A (stepI C (d : Int))) ≠ 18446744073709551615) && decide (atD ds (numN A (stepI C (d : Int))) + kc = h))) = false → d + 1 ≤ D from fun q => by
          rcases Nat.lt_or_eq_of_le hd with e | rfl
          · exact e
          · rw [HDH.out] at q; cases q)
        have HYH := Lib.hid (show (inBx (X, Y, (U : Int), (V : Int)) (stepI C (d : Int)) && (decide (atD ds (numN A (stepI C (d : Int))) ≠ 18446744073709551615) && decide (atD ds (numN A (stepI C (d : Int))) + kc = h))) = true → BL (k + 2) = stepI C (d : Int) :: BL (k + 1) from fun q => by
          have e : D = d := by
            rcases Nat.lt_or_eq_of_le hd with e | e
            · have := hDN.out d e
              rw [HHIT.out, q] at this
              cases this
            · exact e.symm
          rw [← e]
          exact HBL.out)
        obtain ⟨M, hME⟩ : ∃ M, stepI C (d : Int) = M := ⟨_, rfl⟩
        have hME2 : stepI (C.1, C.2) (d : Int) = M := hME
        rw [hME] at HST2 HNH HYH
        rw [hME2] at hM
        have HHB := Lib.hid (HHA.out M (by unfold wf64; omega))
        clear hME hME2
        go_wp2_with fail
        refine (HST2.out _).mono ?_
        rintro e w8 ⟨rfl, hb8⟩
        go_upto_region 12 with fail
        obtain ⟨W1, hW1⟩ : ∃ W1, w8.alloc (.cells #[.int .i64 M.1, .int .i64 M.2] 30) = W1 := ⟨_, rfl⟩
        have km0 : W1.cell? ⟨w8.heap.size, 0, none⟩ = some (.int .i64 M.1) := by rw [← hW1]; simp [go_sem]
        have km1 : W1.cell? ⟨w8.heap.size, 1, none⟩ = some (.int .i64 M.2) := by rw [← hW1]; simp [go_sem]
        have hb1 : Below W5.heap.size W5 W1 := by rw [← hW1]; exact bl_al (bl_tr hBr hb8) _
        rw [hW1]
        obtain ⟨mp, hmp⟩ : ∃ mp, w8.heap.size = mp := ⟨_, rfl⟩
        rw [hmp] at km0 km1 ⊢
        have hB31 : Below W3.heap.size W3 W1 := bl_tr HB5.out hb1
        obtain ⟨kf0, kf1, kf2, kx0, kx1, kx2, kx3⟩ := HF.out _ hB31
        have kp0 := cell_later hb1 P0.out
        have kp1 := cell_later hb1 P1.out
        have HB31 := Lib.hid hB31
        have HB51 := Lib.hid hb1
        have HRWW := Lib.hid (fun W (hq : Below W1.heap.size W1 W) => HRW.out W (bl_tr hB31 hq))
        have zk0 := blk_lt kp0; have zk1 := blk_lt kf0; have zk2 := blk_lt kx0; have zk3 := blk_lt km0
        clear hW1 hmp hb8 hb1 p0 p1 zp0 hBr hB31
        cases hin : inBx (X, Y, (U : Int), (V : Int)) M
        · rw [hin] at HHB
          have HEQ := Lib.hid (HNH.out (by rw [hin]; rfl))
          clear hin
          have hB := bl_dr (bl0 W1)
          have hS : (fun W9 : World => W9.cell? ⟨w.heap.size, 0, none⟩ = some (.int .i64 A) ∧ W9.cell? ⟨w.heap.size, 1, none⟩ = some (.int .i64 B) ∧ W9.cell? ⟨w.heap.size, 2, none⟩ = some (.slice a zs.length cap) ∧ W9.cell? ⟨w.heap.size + 1, 0, none⟩ = some (.int .i64 X) ∧ W9.cell? ⟨w.heap.size + 1, 1, none⟩ = some (.int .i64 Y) ∧ W9.cell? ⟨w.heap.size + 1, 2, none⟩ = some (.int .i64 U) ∧ W9.cell? ⟨w.heap.size + 1, 3, none⟩ = some (.int .i64 V) ∧ W9.cell? ⟨cp, 0, none⟩ = some (.int .i64 C.1) ∧ W9.cell? ⟨cp, 1, none⟩ = some (.int .i64 C.2) ∧ W9.cell? ⟨mp, 0, none⟩ = some (.int .i64 M.1) ∧ W9.cell? ⟨mp, 1, none⟩ = some (.int .i64 M.2)) W1.drew := ⟨cell_later hB kf0, cell_later hB kf1, cell_later hB kf2, cell_later hB kx0, cell_later hB kx1, cell_later hB kx2, cell_later hB kx3, cell_later hB kp0, cell_later hB kp1, cell_later hB km0, cell_later hB km1⟩
          refine (wpIn_wide (n := 11)).1 ?_
          refine ordS_begin (S := (fun W9 : World => W9.cell? ⟨w.heap.size, 0, none⟩ = some (.int .i64 A) ∧ W9.cell? ⟨w.heap.size, 1, none⟩ = some (.int .i64 B) ∧ W9.cell? ⟨w.heap.size, 2, none⟩ = some (.slice a zs.length cap) ∧ W9.cell? ⟨w.heap.size + 1, 0, none⟩ = some (.int .i64 X) ∧ W9.cell? ⟨w.heap.size + 1, 1, none⟩ = some (.int .i64 Y) ∧ W9.cell? ⟨w.heap.size + 1, 2, none⟩ = some (.int .i64 U) ∧ W9.cell? ⟨w.heap.size + 1, 3, none⟩ = some (.int .i64 V) ∧ W9.cell? ⟨cp, 0, none⟩ = some (.int .i64 C.1) ∧ W9.cell? ⟨cp, 1, none⟩ = some (.int .i64 C.2) ∧ W9.cell? ⟨mp, 0, none⟩ = some (.int .i64 M.1) ∧ W9.cell? ⟨mp, 1, none⟩ = some (.int .i64 M.2))) (by kernel_rfl) hS (fun hH => ?_)
          refine' ordS_take (i := 0) (oi := { dst := some 47, op := Op.load 28 (Operand.tmp 5), type := 28, pos := _, after := #[], guard := none }) (v := _) rfl (by kernel_rfl) (by kernel_rfl) (by kernel_rfl) (by kernel_rfl) (fun _ _ _ h => h) (by assumption) (Or.inl ⟨by rfl, ?hy347⟩) (fun _ => rfl) ?rest347
          case hy347 => (intro w hSw; (try dsimp only at hSw); go_simp; try with_reducible rfl)
          try simp only [Act.put, List.setIfInBounds_toArray, List.set_cons_zero, List.set_cons_succ]
          refine' ordS_take (i := 1) (oi := { dst := some 48, op := Op.load 30 (Operand.tmp 14), type := 30, pos := _, after := #[], guard := none }) (v := _) rfl (by kernel_rfl) (by kernel_rfl) (by kernel_rfl) (by kernel_rfl) (fun _ _ _ h => h) (by assumption) (Or.inl ⟨by rfl, ?hy348⟩) (fun _ => rfl) ?rest348
          case hy348 => (intro w hSw; (try dsimp only at hSw); go_simp; try with_reducible rfl)
          try simp only [Act.put, List.setIfInBounds_toArray, List.set_cons_zero, List.set_cons_succ]
          obtain ⟨W2, hW2⟩ : ∃ W2, W1.drew = W2 := ⟨_, rfl⟩
          rw [hW2] at hB hS
          rw [hW2]
          clear hW2 hH
          refine ordS_one (i := 2) (o := { dst := some 49, op := Op.call { callee := Callee.value (Operand.func 11), args := #[Operand.tmp 47, Operand.tmp 48], argTypes := #[28, 30] }, type := 4, pos := _, after := #[{ on := 0, ground := Ground.data }, { on := 1, ground := Ground.data }], guard := none }) (by kernel_rfl) rfl (by rfl) (fun K hK => ?_)
          go_simp
          refine ⟨trivial, ?_⟩
          with_reducible refine (callsIn_wide.2 (HHB.out _)).mono ?_
          rintro e V3 ⟨rfl, hbV3⟩
          replace hB := bl_tr hB hbV3
          have hS3 : (fun W9 : World => W9.cell? ⟨w.heap.size, 0, none⟩ = some (.int .i64 A) ∧ W9.cell? ⟨w.heap.size, 1, none⟩ = some (.int .i64 B) ∧ W9.cell? ⟨w.heap.size, 2, none⟩ = some (.slice a zs.length cap) ∧ W9.cell? ⟨w.heap.size + 1, 0, none⟩ = some (.int .i64 X) ∧ W9.cell? ⟨w.heap.size + 1, 1, none⟩ = some (.int .i64 Y) ∧ W9.cell? ⟨w.heap.size + 1, 2, none⟩ = some (.int .i64 U) ∧ W9.cell? ⟨w.heap.size + 1, 3, none⟩ = some (.int .i64 V) ∧ W9.cell? ⟨cp, 0, none⟩ = some (.int .i64 C.1) ∧ W9.cell? ⟨cp, 1, none⟩ = some (.int .i64 C.2) ∧ W9.cell? ⟨mp, 0, none⟩ = some (.int .i64 M.1) ∧ W9.cell? ⟨mp, 1, none⟩ = some (.int .i64 M.2)) V3 := ⟨cell_later hbV3 hS.1, cell_later hbV3 hS.2.1, cell_later hbV3 hS.2.2.1, cell_later hbV3 hS.2.2.2.1, cell_later hbV3 hS.2.2.2.2.1, cell_later hbV3 hS.2.2.2.2.2.1, cell_later hbV3 hS.2.2.2.2.2.2.1, cell_later hbV3 hS.2.2.2.2.2.2.2.1, cell_later hbV3 hS.2.2.2.2.2.2.2.2.1, cell_later hbV3 hS.2.2.2.2.2.2.2.2.2.1, cell_later hbV3 hS.2.2.2.2.2.2.2.2.2.2⟩
          refine hK _ _ hS3 ?_
          clear hK K
          try simp only [Act.put, List.setIfInBounds_toArray, List.set_cons_zero, List.set_cons_succ]
          refine' ordS_take (i := 3) (oi := { dst := some 50, op := Op.move (Operand.tmp 49), type := 4, pos := _, after := #[{ on := 2, ground := Ground.data }, { on := 2, ground := Ground.chain }], guard := none }) (v := _) rfl (by kernel_rfl) (by kernel_rfl) (by kernel_rfl) (by kernel_rfl) (fun _ _ _ h => h) (by assumption) (Or.inl ⟨by rfl, ?hy349⟩) (fun _ => rfl) ?rest349
          case hy349 => (intro w hSw; (try dsimp only at hSw); go_simp; try with_reducible rfl)
          try simp only [Act.put, List.setIfInBounds_toArray, List.set_cons_zero, List.set_cons_succ]
          refine ordS_take (i := 4) (oi := { dst := some 51, op := Op.move (Operand.tmp 2), type := 42, pos := _, after := #[{ on := 3, ground := Ground.guard }], guard := some (3, true) }) (v := undef) rfl (by kernel_rfl) (by kernel_rfl) (by kernel_rfl) (by kernel_rfl) (fun _ _ _ h => h) (by assumption) (Or.inr ⟨by rfl, rfl⟩) (fun _ => rfl) ?_
          try simp only [Act.put, List.setIfInBounds_toArray, List.set_cons_zero, List.set_cons_succ]
          refine ordS_take (i := 5) (oi := { dst := some 52, op := Op.fieldAddr 30 (Operand.tmp 14) 1, type := 0, pos := _, after := #[{ on := 3, ground := Ground.guard }], guard := some (3, true) }) (v := undef) rfl (by kernel_rfl) (by kernel_rfl) (by kernel_rfl) (by kernel_rfl) (fun _ _ _ h => h) (by assumption) (Or.inr ⟨by rfl, rfl⟩) (fun _ => rfl) ?_
          try simp only [Act.put, List.setIfInBounds_toArray, List.set_cons_zero, List.set_cons_succ]
          refine ordS_take (i := 6) (oi := { dst := some 53, op := Op.load 3 (Operand.tmp 52), type := 3, pos := _, after := #[{ on := 5, ground := Ground.data }, { on := 3, ground := Ground.guard }], guard := some (3, true) }) (v := undef) rfl (by kernel_rfl) (by kernel_rfl) (by kernel_rfl) (by kernel_rfl) (fun _ _ _ h => h) (by assumption) (Or.inr ⟨by rfl, rfl⟩) (fun _ => rfl) ?_
          try simp only [Act.put, List.setIfInBounds_toArray, List.set_cons_zero, List.set_cons_succ]
          refine ordS_take (i := 7) (oi := { dst := some 54, op := Op.fieldAddr 26 (Operand.tmp 4) 0, type := 0, pos := _, after := #[{ on := 3, ground := Ground.guard }], guard := some (3, true) }) (v := undef) rfl (by kernel_rfl) (by kernel_rfl) (by kernel_rfl) (by kernel_rfl) (fun _ _ _ h => h) (by assumption) (Or.inr ⟨by rfl, rfl⟩) (fun _ => rfl) ?_
          try simp only [Act.put, List.setIfInBounds_toArray, List.set_cons_zero, List.set_cons_succ]
          refine ordS_take (i := 8) (oi := { dst := some 55, op := Op.fieldAddr 23 (Operand.tmp 54) 0, type := 0, pos := _, after := #[{ on := 7, ground := Ground.data }, { on := 3, ground := Ground.guard }], guard := some (3, true) }) (v := undef) rfl (by kernel_rfl) (by kernel_rfl) (by kernel_rfl) (by kernel_rfl) (fun _ _ _ h => h) (by assumption) (Or.inr ⟨by rfl, rfl⟩) (fun _ => rfl) ?_
          try simp only [Act.put, List.setIfInBounds_toArray, List.set_cons_zero, List.set_cons_succ]
          refine ordS_take (i := 9) (oi := { dst := some 56, op := Op.load 3 (Operand.tmp 55), type := 3, pos := _, after := #[{ on := 8, ground := Ground.data }, { on := 3, ground := Ground.guard }], guard := some (3, true) }) (v := undef) rfl (by kernel_rfl) (by kernel_rfl) (by kernel_rfl) (by kernel_rfl) (fun _ _ _ h => h) (by assumption) (Or.inr ⟨by rfl, rfl⟩) (fun _ => rfl) ?_
          try simp only [Act.put, List.setIfInBounds_toArray, List.set_cons_zero, List.set_cons_succ]
          refine ordS_take (i := 10) (oi := { dst := some 57, op := Op.binOp BinOp.mul 3 (Operand.tmp 53) (Operand.tmp 56) 3, type := 3, pos := _, after := #[{ on := 6, ground := Ground.data }, { on := 9, ground := Ground.data }, { on := 3, ground := Ground.guard }], guard := some (3, true) }) (v := undef) rfl (by kernel_rfl) (by kernel_rfl) (by kernel_rfl) (by kernel_rfl) (fun _ _ _ h => h) (by assumption) (Or.inr ⟨by rfl, rfl⟩) (fun _ => rfl) ?_
          try simp only [Act.put, List.setIfInBounds_toArray, List.set_cons_zero, List.set_cons_succ]
          refine ordS_take (i := 11) (oi := { dst := some 58, op := Op.fieldAddr 30 (Operand.tmp 14) 0, type := 0, pos := _, after := #[{ on := 3, ground := Ground.guard }], guard := some (3, true) }) (v := undef) rfl (by kernel_rfl) (by kernel_rfl) (by kernel_rfl) (by kernel_rfl) (fun _ _ _ h => h) (by assumption) (Or.inr ⟨by rfl, rfl⟩) (fun _ => rfl) ?_
          try simp only [Act.put, List.setIfInBounds_toArray, List.set_cons_zero, List.set_cons_succ]
          refine ordS_take (i := 12) (oi := { dst := some 59, op := Op.load 3 (Operand.tmp 58), type := 3, pos := _, after := #[{ on := 11, ground := Ground.data }, { on := 3, ground := Ground.guard }], guard := some (3, true) }) (v := undef) rfl (by kernel_rfl) (by kernel_rfl) (by kernel_rfl) (by kernel_rfl) (fun _ _ _ h => h) (by assumption) (Or.inr ⟨by rfl, rfl⟩) (fun _ => rfl) ?_
          try simp only [Act.put, List.setIfInBounds_toArray, List.set_cons_zero, List.set_cons_succ]
          refine ordS_take (i := 13) (oi := { dst := some 60, op := Op.binOp BinOp.add 3 (Operand.tmp 57) (Operand.tmp 59) 3, type := 3, pos := _, after := #[{ on := 10, ground := Ground.data }, { on := 12, ground := Ground.data }, { on := 3, ground := Ground.guard }], guard := some (3, true) }) (v := undef) rfl (by kernel_rfl) (by kernel_rfl) (by kernel_rfl) (by kernel_rfl) (fun _ _ _ h => h) (by assumption) (Or.inr ⟨by rfl, rfl⟩) (fun _ => rfl) ?_
          try simp only [Act.put, List.setIfInBounds_toArray, List.set_cons_zero, List.set_cons_succ]
          refine ordS_take (i := 14) (oi := { dst := some 61, op := Op.indexAddr 42 (Operand.tmp 51) (Operand.tmp 60), type := 0, pos := _, after := #[{ on := 4, ground := Ground.data }, { on := 13, ground := Ground.data }, { on := 3, ground := Ground.guard }], guard := some (3, true) }) (v := undef) rfl (by kernel_rfl) (by kernel_rfl) (by kernel_rfl) (by kernel_rfl) (fun _ _ _ h => h) (by assumption) (Or.inr ⟨by rfl, rfl⟩) (fun _ => rfl) ?_
          try simp only [Act.put, List.setIfInBounds_toArray, List.set_cons_zero, List.set_cons_succ]
          refine ordS_take (i := 15) (oi := { dst := some 62, op := Op.load 36 (Operand.tmp 61), type := 36, pos := _, after := #[{ on := 14, ground := Ground.data }, { on := 3, ground := Ground.guard }], guard := some (3, true) }) (v := undef) rfl (by kernel_rfl) (by kernel_rfl) (by kernel_rfl) (by kernel_rfl) (fun _ _ _ h => h) (by assumption) (Or.inr ⟨by rfl, rfl⟩) (fun _ => rfl) ?_
          try simp only [Act.put, List.setIfInBounds_toArray, List.set_cons_zero, List.set_cons_succ]
          refine ordS_take (i := 16) (oi := { dst := some 63, op := Op.binOp BinOp.neq 36 (Operand.tmp 62) (Operand.const (Value.int IntKind.u64 18446744073709551615)) 36, type := 4, pos := _, after := #[{ on := 15, ground := Ground.data }, { on := 3, ground := Ground.guard }], guard := some (3, true) }) (v := undef) rfl (by kernel_rfl) (by kernel_rfl) (by kernel_rfl) (by kernel_rfl) (fun _ _ _ h => h) (by assumption) (Or.inr ⟨by rfl, rfl⟩) (fun _ => rfl) ?_
          try simp only [Act.put, List.setIfInBounds_toArray, List.set_cons_zero, List.set_cons_succ]
          refine' ordS_take (i := 17) (oi := { dst := some 64, op := Op.pick (Operand.tmp 50) (Operand.tmp 63) (Operand.const (Value.bool false)), type := 4, pos := _, after := #[{ on := 3, ground := Ground.data }, { on := 16, ground := Ground.data }], guard := none }) (v := _) rfl (by kernel_rfl) (by kernel_rfl) (by kernel_rfl) (by kernel_rfl) (fun _ _ _ h => h) (by assumption) (Or.inl ⟨by rfl, ?hy363⟩) (fun _ => rfl) ?rest363
          case hy363 => (intro w hSw; (try dsimp only at hSw); go_simp; try with_reducible rfl)
          try simp only [Act.put, List.setIfInBounds_toArray, List.set_cons_zero, List.set_cons_succ]
          refine' ordS_take (i := 18) (oi := { dst := some 65, op := Op.move (Operand.tmp 64), type := 4, pos := _, after := #[{ on := 17, ground := Ground.data }, { on := 3, ground := Ground.chain }], guard := none }) (v := _) rfl (by kernel_rfl) (by kernel_rfl) (by kernel_rfl) (by kernel_rfl) (fun _ _ _ h => h) (by assumption) (Or.inl ⟨by rfl, ?hy364⟩) (fun _ => rfl) ?rest364
          case hy364 => (intro w hSw; (try dsimp only at hSw); go_simp; try with_reducible rfl)
          try simp only [Act.put, List.setIfInBounds_toArray, List.set_cons_zero, List.set_cons_succ]
          refine ordS_take (i := 19) (oi := { dst := some 66, op := Op.move (Operand.tmp 2), type := 42, pos := _, after := #[{ on := 18, ground := Ground.guard }], guard := some (18, true) }) (v := undef) rfl (by kernel_rfl) (by kernel_rfl) (by kernel_rfl) (by kernel_rfl) (fun _ _ _ h => h) (by assumption) (Or.inr ⟨by rfl, rfl⟩) (fun _ => rfl) ?_
          try simp only [Act.put, List.setIfInBounds_toArray, List.set_cons_zero, List.set_cons_succ]
          refine ordS_take (i := 20) (oi := { dst := some 67, op := Op.fieldAddr 30 (Operand.tmp 14) 1, type := 0, pos := _, after := #[{ on := 18, ground := Ground.guard }], guard := some (18, true) }) (v := undef) rfl (by kernel_rfl) (by kernel_rfl) (by kernel_rfl) (by kernel_rfl) (fun _ _ _ h => h) (by assumption) (Or.inr ⟨by rfl, rfl⟩) (fun _ => rfl) ?_
          try simp only [Act.put, List.setIfInBounds_toArray, List.set_cons_zero, List.set_cons_succ]
          refine ordS_take (i := 21) (oi := { dst := some 68, op := Op.load 3 (Operand.tmp 67), type := 3, pos := _, after := #[{ on := 20, ground := Ground.data }, { on := 18, ground := Ground.guard }], guard := some (18, true) }) (v := undef) rfl (by kernel_rfl) (by kernel_rfl) (by kernel_rfl) (by kernel_rfl) (fun _ _ _ h => h) (by assumption) (Or.inr ⟨by rfl, rfl⟩) (fun _ => rfl) ?_
          try simp only [Act.put, List.setIfInBounds_toArray, List.set_cons_zero, List.set_cons_succ]
          refine ordS_take (i := 22) (oi := { dst := some 69, op := Op.fieldAddr 26 (Operand.tmp 4) 0, type := 0, pos := _, after := #[{ on := 18, ground := Ground.guard }], guard := some (18, true) }) (v := undef) rfl (by kernel_rfl) (by kernel_rfl) (by kernel_rfl) (by kernel_rfl) (fun _ _ _ h => h) (by assumption) (Or.inr ⟨by rfl, rfl⟩) (fun _ => rfl) ?_
          try simp only [Act.put, List.setIfInBounds_toArray, List.set_cons_zero, List.set_cons_succ]
          refine ordS_take (i := 23) (oi := { dst := some 70, op := Op.fieldAddr 23 (Operand.tmp 69) 0, type := 0, pos := _, after := #[{ on := 22, ground := Ground.data }, { on := 18, ground := Ground.guard }], guard := some (18, true) }) (v := undef) rfl (by kernel_rfl) (by kernel_rfl) (by kernel_rfl) (by kernel_rfl) (fun _ _ _ h => h) (by assumption) (Or.inr ⟨by rfl, rfl⟩) (fun _ => rfl) ?_
          try simp only [Act.put, List.setIfInBounds_toArray, List.set_cons_zero, List.set_cons_succ]
          refine ordS_take (i := 24) (oi := { dst := some 71, op := Op.load 3 (Operand.tmp 70), type := 3, pos := _, after := #[{ on := 23, ground := Ground.data }, { on := 18, ground := Ground.guard }], guard := some (18, true) }) (v := undef) rfl (by kernel_rfl) (by kernel_rfl) (by kernel_rfl) (by kernel_rfl) (fun _ _ _ h => h) (by assumption) (Or.inr ⟨by rfl, rfl⟩) (fun _ => rfl) ?_
          try simp only [Act.put, List.setIfInBounds_toArray, List.set_cons_zero, List.set_cons_succ]
          refine ordS_take (i := 25) (oi := { dst := some 72, op := Op.binOp BinOp.mul 3 (Operand.tmp 68) (Operand.tmp 71) 3, type := 3, pos := _, after := #[{ on := 21, ground := Ground.data }, { on := 24, ground := Ground.data }, { on := 18, ground := Ground.guard }], guard := some (18, true) }) (v := undef) rfl (by kernel_rfl) (by kernel_rfl) (by kernel_rfl) (by kernel_rfl) (fun _ _ _ h => h) (by assumption) (Or.inr ⟨by rfl, rfl⟩) (fun _ => rfl) ?_
          try simp only [Act.put, List.setIfInBounds_toArray, List.set_cons_zero, List.set_cons_succ]
          refine ordS_take (i := 26) (oi := { dst := some 73, op := Op.fieldAddr 30 (Operand.tmp 14) 0, type := 0, pos := _, after := #[{ on := 18, ground := Ground.guard }], guard := some (18, true) }) (v := undef) rfl (by kernel_rfl) (by kernel_rfl) (by kernel_rfl) (by kernel_rfl) (fun _ _ _ h => h) (by assumption) (Or.inr ⟨by rfl, rfl⟩) (fun _ => rfl) ?_
          try simp only [Act.put, List.setIfInBounds_toArray, List.set_cons_zero, List.set_cons_succ]
          refine ordS_take (i := 27) (oi := { dst := some 74, op := Op.load 3 (Operand.tmp 73), type := 3, pos := _, after := #[{ on := 26, ground := Ground.data }, { on := 18, ground := Ground.guard }], guard := some (18, true) }) (v := undef) rfl (by kernel_rfl) (by kernel_rfl) (by kernel_rfl) (by kernel_rfl) (fun _ _ _ h => h) (by assumption) (Or.inr ⟨by rfl, rfl⟩) (fun _ => rfl) ?_
          try simp only [Act.put, List.setIfInBounds_toArray, List.set_cons_zero, List.set_cons_succ]
          refine ordS_take (i := 28) (oi := { dst := some 75, op := Op.binOp BinOp.add 3 (Operand.tmp 72) (Operand.tmp 74) 3, type := 3, pos := _, after := #[{ on := 25, ground := Ground.data }, { on := 27, ground := Ground.data }, { on := 18, ground := Ground.guard }], guard := some (18, true) }) (v := undef) rfl (by kernel_rfl) (by kernel_rfl) (by kernel_rfl) (by kernel_rfl) (fun _ _ _ h => h) (by assumption) (Or.inr ⟨by rfl, rfl⟩) (fun _ => rfl) ?_
          try simp only [Act.put, List.setIfInBounds_toArray, List.set_cons_zero, List.set_cons_succ]
          refine ordS_take (i := 29) (oi := { dst := some 76, op := Op.indexAddr 42 (Operand.tmp 66) (Operand.tmp 75), type := 0, pos := _, after := #[{ on := 19, ground := Ground.data }, { on := 28, ground := Ground.data }, { on := 18, ground := Ground.guard }], guard := some (18, true) }) (v := undef) rfl (by kernel_rfl) (by kernel_rfl) (by kernel_rfl) (by kernel_rfl) (fun _ _ _ h => h) (by assumption) (Or.inr ⟨by rfl, rfl⟩) (fun _ => rfl) ?_
          try simp only [Act.put, List.setIfInBounds_toArray, List.set_cons_zero, List.set_cons_succ]
          refine ordS_take (i := 30) (oi := { dst := some 77, op := Op.load 36 (Operand.tmp 76), type := 36, pos := _, after := #[{ on := 29, ground := Ground.data }, { on := 18, ground := Ground.guard }], guard := some (18, true) }) (v := undef) rfl (by kernel_rfl) (by kernel_rfl) (by kernel_rfl) (by kernel_rfl) (fun _ _ _ h => h) (by assumption) (Or.inr ⟨by rfl, rfl⟩) (fun _ => rfl) ?_
          try simp only [Act.put, List.setIfInBounds_toArray, List.set_cons_zero, List.set_cons_succ]
          refine ordS_take (i := 31) (oi := { dst := some 78, op := Op.load 26 (Operand.tmp 4), type := 26, pos := _, after := #[{ on := 18, ground := Ground.guard }], guard := some (18, true) }) (v := undef) rfl (by kernel_rfl) (by kernel_rfl) (by kernel_rfl) (by kernel_rfl) (fun _ _ _ h => h) (by assumption) (Or.inr ⟨by rfl, rfl⟩) (fun _ => rfl) ?_
          try simp only [Act.put, List.setIfInBounds_toArray, List.set_cons_zero, List.set_cons_succ]
          refine ordS_take (i := 32) (oi := { dst := some 79, op := Op.load 30 (Operand.tmp 11), type := 30, pos := _, after := #[{ on := 18, ground := Ground.guard }], guard := some (18, true) }) (v := undef) rfl (by kernel_rfl) (by kernel_rfl) (by kernel_rfl) (by kernel_rfl) (fun _ _ _ h => h) (by assumption) (Or.inr ⟨by rfl, rfl⟩) (fun _ => rfl) ?_
          try simp only [Act.put, List.setIfInBounds_toArray, List.set_cons_zero, List.set_cons_succ]
          refine ordS_take (i := 35) (oi := { dst := some 82, op := Op.move (Operand.tmp 12), type := 36, pos := _, after := #[{ on := 18, ground := Ground.guard }], guard := some (18, true) }) (v := undef) rfl (by kernel_rfl) (by kernel_rfl) (by kernel_rfl) (by kernel_rfl) (fun _ _ _ h => h) (by assumption) (Or.inr ⟨by rfl, rfl⟩) (fun _ => rfl) ?_
          try simp only [Act.put, List.setIfInBounds_toArray, List.set_cons_zero, List.set_cons_succ]
          refine ordS_skip (i := 33) (o := { dst := some 80, op := Op.call { callee := Callee.value (Operand.func 36), args := #[Operand.tmp 78, Operand.tmp 79], argTypes := #[26, 30] }, type := 36, pos := _, after := #[{ on := 31, ground := Ground.data }, { on := 32, ground := Ground.data }, { on := 18, ground := Ground.chain }, { on := 18, ground := Ground.guard }], guard := some (18, true) }) (by kernel_rfl) rfl (by rfl) (fun _ => trivial) (by assumption) ?_
          try simp only [Act.put, List.setIfInBounds_toArray, List.set_cons_zero, List.set_cons_succ]
          refine ordS_take (i := 34) (oi := { dst := some 81, op := Op.binOp BinOp.add 36 (Operand.tmp 77) (Operand.tmp 80) 36, type := 36, pos := _, after := #[{ on := 30, ground := Ground.data }, { on := 33, ground := Ground.data }, { on := 18, ground := Ground.guard }], guard := some (18, true) }) (v := undef) rfl (by kernel_rfl) (by kernel_rfl) (by kernel_rfl) (by kernel_rfl) (fun _ _ _ h => h) (by assumption) (Or.inr ⟨by rfl, rfl⟩) (fun _ => rfl) ?_
          try simp only [Act.put, List.setIfInBounds_toArray, List.set_cons_zero, List.set_cons_succ]
          refine ordS_take (i := 36) (oi := { dst := some 83, op := Op.binOp BinOp.eql 36 (Operand.tmp 81) (Operand.tmp 82) 36, type := 4, pos := _, after := #[{ on := 34, ground := Ground.data }, { on := 35, ground := Ground.data }, { on := 18, ground := Ground.guard }], guard := some (18, true) }) (v := undef) rfl (by kernel_rfl) (by kernel_rfl) (by kernel_rfl) (by kernel_rfl) (fun _ _ _ h => h) (by assumption) (Or.inr ⟨by rfl, rfl⟩) (fun _ => rfl) ?_
          try simp only [Act.put, List.setIfInBounds_toArray, List.set_cons_zero, List.set_cons_succ]
          refine' ordS_take (i := 37) (oi := { dst := some 84, op := Op.pick (Operand.tmp 65) (Operand.tmp 83) (Operand.const (Value.bool false)), type := 4, pos := _, after := #[{ on := 18, ground := Ground.data }, { on := 36, ground := Ground.data }], guard := none }) (v := _) rfl (by kernel_rfl) (by kernel_rfl) (by kernel_rfl) (by kernel_rfl) (fun _ _ _ h => h) (by assumption) (Or.inl ⟨by rfl, ?hy382⟩) (fun _ => rfl) ?rest382
          case hy382 => (intro w hSw; (try dsimp only at hSw); go_simp; try with_reducible rfl)
          try simp only [Act.put, List.setIfInBounds_toArray, List.set_cons_zero, List.set_cons_succ]
          refine ordS_done (by kernel_rfl) ?_
          have HI9 := Lib.hid (bl_tr HB51.out hB)
          clear hS hS3 hB kp0 kp1 kf0 kf1 kf2 kx0 kx1 kx2 kx3 km0 km1 zk0 zk1 zk2 zk3
          go_wp2
          go_roundw
          case rel => exact ⟨d + 1, HEQ.out, by go_num, rfl, HI9.out⟩
          case measure => simp [intOf]; omega
        · rw [hin] at HHB
          obtain ⟨⟨hml, hmw1, hmw2, _⟩, _, _⟩ := HNU.out M hin
          have hdb := HDB.out (numN A M)
          obtain ⟨gb', go', e, kv⟩ := (HFU.out _ HB31.out).cell (show numN A M < ds.length by rw [HDL.out]; exact hml)
          cases e
          obtain ⟨v, hv⟩ : ∃ v, atD ds (numN A M) = v := ⟨_, rfl⟩
          rw [hv] at kv HNH HYH hdb
          rw [hin] at HNH HYH
          obtain ⟨mi, hmi⟩ : ∃ mi, numN A M = mi := ⟨_, rfl⟩
          rw [hmi] at kv hml hmw2
          have hmi0 : (0 : Int) ≤ (mi : Int) := by omega
          have hmi2 : (mi : Int) < (zs.length : Int) := by omega
          clear hv hmi hin
          by_cases hvi : v = 18446744073709551615
          · have HEQ := Lib.hid (HNH.out (by rw [decide_eq_false (fun q => q hvi)]; rfl))
            have hvb : (v != 18446744073709551615) = false := by rw [hvi]; rfl
            clear hvi hdb
            have hB := bl_dr (bl0 W1)
            have hS : (fun W9 : World => W9.cell? ⟨w.heap.size, 0, none⟩ = some (.int .i64 A) ∧ W9.cell? ⟨w.heap.size, 1, none⟩ = some (.int .i64 B) ∧ W9.cell? ⟨w.heap.size, 2, none⟩ = some (.slice a zs.length cap) ∧ W9.cell? ⟨w.heap.size + 1, 0, none⟩ = some (.int .i64 X) ∧ W9.cell? ⟨w.heap.size + 1, 1, none⟩ = some (.int .i64 Y) ∧ W9.cell? ⟨w.heap.size + 1, 2, none⟩ = some (.int .i64 U) ∧ W9.cell? ⟨w.heap.size + 1, 3, none⟩ = some (.int .i64 V) ∧ W9.cell? ⟨cp, 0, none⟩ = some (.int .i64 C.1) ∧ W9.cell? ⟨cp, 1, none⟩ = some (.int .i64 C.2) ∧ W9.cell? ⟨mp, 0, none⟩ = some (.int .i64 M.1) ∧ W9.cell? ⟨mp, 1, none⟩ = some (.int .i64 M.2) ∧ W9.cell? ⟨gb, go + mi, none⟩ = some (.int .u64 v)) W1.drew := ⟨cell_later hB kf0, cell_later hB kf1, cell_later hB kf2, cell_later hB kx0, cell_later hB kx1, cell_later hB kx2, cell_later hB kx3, cell_later hB kp0, cell_later hB kp1, cell_later hB km0, cell_later hB km1, cell_later hB kv⟩
            refine (wpIn_wide (n := 11)).1 ?_
            refine ordS_begin (S := (fun W9 : World => W9.cell? ⟨w.heap.size, 0, none⟩ = some (.int .i64 A) ∧ W9.cell? ⟨w.heap.size, 1, none⟩ = some (.int .i64 B) ∧ W9.cell? ⟨w.heap.size, 2, none⟩ = some (.slice a zs.length cap) ∧ W9.cell? ⟨w.heap.size + 1, 0, none⟩ = some (.int .i64 X) ∧ W9.cell? ⟨w.heap.size + 1, 1, none⟩ = some (.int .i64 Y) ∧ W9.cell? ⟨w.heap.size + 1, 2, none⟩ = some (.int .i64 U) ∧ W9.cell? ⟨w.heap.size + 1, 3, none⟩ = some (.int .i64 V) ∧ W9.cell? ⟨cp, 0, none⟩ = some (.int .i64 C.1) ∧ W9.cell? ⟨cp, 1, none⟩ = some (.int .i64 C.2) ∧ W9.cell? ⟨mp, 0, none⟩ = some (.int .i64 M.1) ∧ W9.cell? ⟨mp, 1, none⟩ = some (.int .i64 M.2) ∧ W9.cell? ⟨gb, go + mi, none⟩ = some (.int .u64 v))) (by kernel_rfl) hS (fun hH => ?_)
            refine' ordS_take (i := 0) (oi := { dst := some 47, op := Op.load 28 (Operand.tmp 5), type := 28, pos := _, after := #[], guard := none }) (v := _) rfl (by kernel_rfl) (by kernel_rfl) (by kernel_rfl) (by kernel_rfl) (fun _ _ _ h => h) (by assumption) (Or.inl ⟨by rfl, ?hy383⟩) (fun _ => rfl) ?rest383
            case hy383 => (intro w hSw; (try dsimp only at hSw); go_simp; try with_reducible rfl)
            try simp only [Act.put, List.setIfInBounds_toArray, List.set_cons_zero, List.set_cons_succ]
            refine' ordS_take (i := 1) (oi := { dst := some 48, op := Op.load 30 (Operand.tmp 14), type := 30, pos := _, after := #[], guard := none }) (v := _) rfl (by kernel_rfl) (by kernel_rfl) (by kernel_rfl) (by kernel_rfl) (fun _ _ _ h => h) (by assumption) (Or.inl ⟨by rfl, ?hy384⟩) (fun _ => rfl) ?rest384
            case hy384 => (intro w hSw; (try dsimp only at hSw); go_simp; try with_reducible rfl)
            try simp only [Act.put, List.setIfInBounds_toArray, List.set_cons_zero, List.set_cons_succ]
            obtain ⟨W2, hW2⟩ : ∃ W2, W1.drew = W2 := ⟨_, rfl⟩
            rw [hW2] at hB hS
            rw [hW2]
            clear hW2 hH
            refine ordS_one (i := 2) (o := { dst := some 49, op := Op.call { callee := Callee.value (Operand.func 11), args := #[Operand.tmp 47, Operand.tmp 48], argTypes := #[28, 30] }, type := 4, pos := _, after := #[{ on := 0, ground := Ground.data }, { on := 1, ground := Ground.data }], guard := none }) (by kernel_rfl) rfl (by rfl) (fun K hK => ?_)
            go_simp
            refine ⟨trivial, ?_⟩
            with_reducible refine (callsIn_wide.2 (HHB.out _)).mono ?_
            rintro e V3 ⟨rfl, hbV3⟩
            replace hB := bl_tr hB hbV3
            have hS3 : (fun W9 : World => W9.cell? ⟨w.heap.size, 0, none⟩ = some (.int .i64 A) ∧ W9.cell? ⟨w.heap.size, 1, none⟩ = some (.int .i64 B) ∧ W9.cell? ⟨w.heap.size, 2, none⟩ = some (.slice a zs.length cap) ∧ W9.cell? ⟨w.heap.size + 1, 0, none⟩ = some (.int .i64 X) ∧ W9.cell? ⟨w.heap.size + 1, 1, none⟩ = some (.int .i64 Y) ∧ W9.cell? ⟨w.heap.size + 1, 2, none⟩ = some (.int .i64 U) ∧ W9.cell? ⟨w.heap.size + 1, 3, none⟩ = some (.int .i64 V) ∧ W9.cell? ⟨cp, 0, none⟩ = some (.int .i64 C.1) ∧ W9.cell? ⟨cp, 1, none⟩ = some (.int .i64 C.2) ∧ W9.cell? ⟨mp, 0, none⟩ = some (.int .i64 M.1) ∧ W9.cell? ⟨mp, 1, none⟩ = some (.int .i64 M.2) ∧ W9.cell? ⟨gb, go + mi, none⟩ = some (.int .u64 v)) V3 := ⟨cell_later hbV3 hS.1, cell_later hbV3 hS.2.1, cell_later hbV3 hS.2.2.1, cell_later hbV3 hS.2.2.2.1, cell_later hbV3 hS.2.2.2.2.1, cell_later hbV3 hS.2.2.2.2.2.1, cell_later hbV3 hS.2.2.2.2.2.2.1, cell_later hbV3 hS.2.2.2.2.2.2.2.1, cell_later hbV3 hS.2.2.2.2.2.2.2.2.1, cell_later hbV3 hS.2.2.2.2.2.2.2.2.2.1, cell_later hbV3 hS.2.2.2.2.2.2.2.2.2.2.1, cell_later hbV3 hS.2.2.2.2.2.2.2.2.2.2.2⟩
            refine hK _ _ hS3 ?_
            clear hK K
            try simp only [Act.put, List.setIfInBounds_toArray, List.set_cons_zero, List.set_cons_succ]
            refine' ordS_take (i := 3) (oi := { dst := some 50, op := Op.move (Operand.tmp 49), type := 4, pos := _, after := #[{ on := 2, ground := Ground.data }, { on := 2, ground := Ground.chain }], guard := none }) (v := _) rfl (by kernel_rfl) (by kernel_rfl) (by kernel_rfl) (by kernel_rfl) (fun _ _ _ h => h) (by assumption) (Or.inl ⟨by rfl, ?hy385⟩) (fun _ => rfl) ?rest385
            case hy385 => (intro w hSw; (try dsimp only at hSw); go_simp; try with_reducible rfl)
            try simp only [Act.put, List.setIfInBounds_toArray, List.set_cons_zero, List.set_cons_succ]
            refine' ordS_take (i := 4) (oi := { dst := some 51, op := Op.move (Operand.tmp 2), type := 42, pos := _, after := #[{ on := 3, ground := Ground.guard }], guard := some (3, true) }) (v := _) rfl (by kernel_rfl) (by kernel_rfl) (by kernel_rfl) (by kernel_rfl) (fun _ _ _ h => h) (by assumption) (Or.inl ⟨by rfl, ?hy386⟩) (fun _ => rfl) ?rest386
            case hy386 => (intro w hSw; (try dsimp only at hSw); go_simp; try with_reducible rfl)
            try simp only [Act.put, List.setIfInBounds_toArray, List.set_cons_zero, List.set_cons_succ]
            refine' ordS_take (i := 5) (oi := { dst := some 52, op := Op.fieldAddr 30 (Operand.tmp 14) 1, type := 0, pos := _, after := #[{ on := 3, ground := Ground.guard }], guard := some (3, true) }) (v := _) rfl (by kernel_rfl) (by kernel_rfl) (by kernel_rfl) (by kernel_rfl) (fun _ _ _ h => h) (by assumption) (Or.inl ⟨by rfl, ?hy387⟩) (fun _ => rfl) ?rest387
            case hy387 => (intro w hSw; (try dsimp only at hSw); go_simp; try with_reducible rfl)
            try simp only [Act.put, List.setIfInBounds_toArray, List.set_cons_zero, List.set_cons_succ]
            refine' ordS_take (i := 6) (oi := { dst := some 53, op := Op.load 3 (Operand.tmp 52), type := 3, pos := _, after := #[{ on := 5, ground := Ground.data }, { on := 3, ground := Ground.guard }], guard := some (3, true) }) (v := _) rfl (by kernel_rfl) (by kernel_rfl) (by kernel_rfl) (by kernel_rfl) (fun _ _ _ h => h) (by assumption) (Or.inl ⟨by rfl, ?hy388⟩) (fun _ => rfl) ?rest388
            case hy388 => (intro w hSw; (try dsimp only at hSw); go_simp; try with_reducible rfl)
            try simp only [Act.put, List.setIfInBounds_toArray, List.set_cons_zero, List.set_cons_succ]
            refine' ordS_take (i := 7) (oi := { dst := some 54, op := Op.fieldAddr 26 (Operand.tmp 4) 0, type := 0, pos := _, after := #[{ on := 3, ground := Ground.guard }], guard := some (3, true) }) (v := _) rfl (by kernel_rfl) (by kernel_rfl) (by kernel_rfl) (by kernel_rfl) (fun _ _ _ h => h) (by assumption) (Or.inl ⟨by rfl, ?hy389⟩) (fun _ => rfl) ?rest389
            case hy389 => (intro w hSw; (try dsimp only at hSw); go_simp; try with_reducible rfl)
            try simp only [Act.put, List.setIfInBounds_toArray, List.set_cons_zero, List.set_cons_succ]
            refine' ordS_take (i := 8) (oi := { dst := some 55, op := Op.fieldAddr 23 (Operand.tmp 54) 0, type := 0, pos := _, after := #[{ on := 7, ground := Ground.data }, { on := 3, ground := Ground.guard }], guard := some (3, true) }) (v := _) rfl (by kernel_rfl) (by kernel_rfl) (by kernel_rfl) (by kernel_rfl) (fun _ _ _ h => h) (by assumption) (Or.inl ⟨by rfl, ?hy390⟩) (fun _ => rfl) ?rest390
            case hy390 => (intro w hSw; (try dsimp only at hSw); go_simp; try with_reducible rfl)
            try simp only [Act.put, List.setIfInBounds_toArray, List.set_cons_zero, List.set_cons_succ]
            refine' ordS_take (i := 9) (oi := { dst := some 56, op := Op.load 3 (Operand.tmp 55), type := 3, pos := _, after := #[{ on := 8, ground := Ground.data }, { on := 3, ground := Ground.guard }], guard := some (3, true) }) (v := _) rfl (by kernel_rfl) (by kernel_rfl) (by kernel_rfl) (by kernel_rfl) (fun _ _ _ h => h) (by assumption) (Or.inl ⟨by rfl, ?hy391⟩) (fun _ => rfl) ?rest391
            case hy391 => (intro w hSw; (try dsimp only at hSw); go_simp; try with_reducible rfl)
            try simp only [Act.put, List.setIfInBounds_toArray, List.set_cons_zero, List.set_cons_succ]
            refine' ordS_take (i := 10) (oi := { dst := some 57, op := Op.binOp BinOp.mul 3 (Operand.tmp 53) (Operand.tmp 56) 3, type := 3, pos := _, after := #[{ on := 6, ground := Ground.data }, { on := 9, ground := Ground.data }, { on := 3, ground := Ground.guard }], guard := some (3, true) }) (v := _) rfl (by kernel_rfl) (by kernel_rfl) (by kernel_rfl) (by kernel_rfl) (fun _ _ _ h => h) (by assumption) (Or.inl ⟨by rfl, ?hy392⟩) (fun _ => rfl) ?rest392
            case hy392 => (intro w hSw; (try dsimp only at hSw); go_simp; try with_reducible rfl)
            try simp only [Act.put, List.setIfInBounds_toArray, List.set_cons_zero, List.set_cons_succ]
            refine' ordS_take (i := 11) (oi := { dst := some 58, op := Op.fieldAddr 30 (Operand.tmp 14) 0, type := 0, pos := _, after := #[{ on := 3, ground := Ground.guard }], guard := some (3, true) }) (v := _) rfl (by kernel_rfl) (by kernel_rfl) (by kernel_rfl) (by kernel_rfl) (fun _ _ _ h => h) (by assumption) (Or.inl ⟨by rfl, ?hy393⟩) (fun _ => rfl) ?rest393
            case hy393 => (intro w hSw; (try dsimp only at hSw); go_simp; try with_reducible rfl)
            try simp only [Act.put, List.setIfInBounds_toArray, List.set_cons_zero, List.set_cons_succ]
            refine' ordS_take (i := 12) (oi := { dst := some 59, op := Op.load 3 (Operand.tmp 58), type := 3, pos := _, after := #[{ on := 11, ground := Ground.data }, { on := 3, ground := Ground.guard }], guard := some (3, true) }) (v := _) rfl (by kernel_rfl) (by kernel_rfl) (by kernel_rfl) (by kernel_rfl) (fun _ _ _ h => h) (by assumption) (Or.inl ⟨by rfl, ?hy394⟩) (fun _ => rfl) ?rest394
            case hy394 => (intro w hSw; (try dsimp only at hSw); go_simp; try with_reducible rfl)
            try simp only [Act.put, List.setIfInBounds_toArray, List.set_cons_zero, List.set_cons_succ]
            refine' ordS_take (i := 13) (oi := { dst := some 60, op := Op.binOp BinOp.add 3 (Operand.tmp 57) (Operand.tmp 59) 3, type := 3, pos := _, after := #[{ on := 10, ground := Ground.data }, { on := 12, ground := Ground.data }, { on := 3, ground := Ground.guard }], guard := some (3, true) }) (v := _) rfl (by kernel_rfl) (by kernel_rfl) (by kernel_rfl) (by kernel_rfl) (fun _ _ _ h => h) (by assumption) (Or.inl ⟨by rfl, ?hy395⟩) (fun _ => rfl) ?rest395
            case hy395 => (intro w hSw; (try dsimp only at hSw); go_simp; try with_reducible rfl)
            try simp only [Act.put, List.setIfInBounds_toArray, List.set_cons_zero, List.set_cons_succ]
            refine' ordS_take (i := 14) (oi := { dst := some 61, op := Op.indexAddr 42 (Operand.tmp 51) (Operand.tmp 60), type := 0, pos := _, after := #[{ on := 4, ground := Ground.data }, { on := 13, ground := Ground.data }, { on := 3, ground := Ground.guard }], guard := some (3, true) }) (v := _) rfl (by kernel_rfl) (by kernel_rfl) (by kernel_rfl) (by kernel_rfl) (fun _ _ _ h => h) (by assumption) (Or.inl ⟨by rfl, ?hy396⟩) (fun _ => rfl) ?rest396
            case hy396 => (intro w hSw; (try dsimp only at hSw); go_simp; try with_reducible rfl)
            try simp only [Act.put, List.setIfInBounds_toArray, List.set_cons_zero, List.set_cons_succ]
            refine' ordS_take (i := 15) (oi := { dst := some 62, op := Op.load 36 (Operand.tmp 61), type := 36, pos := _, after := #[{ on := 14, ground := Ground.data }, { on := 3, ground := Ground.guard }], guard := some (3, true) }) (v := _) rfl (by kernel_rfl) (by kernel_rfl) (by kernel_rfl) (by kernel_rfl) (fun _ _ _ h => h) (by assumption) (Or.inl ⟨by rfl, ?hy397⟩) (fun _ => rfl) ?rest397
            case hy397 => (intro w hSw; (try dsimp only at hSw); go_simp; try with_reducible rfl)
            try simp only [Act.put, List.setIfInBounds_toArray, List.set_cons_zero, List.set_cons_succ]
            refine' ordS_take (i := 16) (oi := { dst := some 63, op := Op.binOp BinOp.neq 36 (Operand.tmp 62) (Operand.const (Value.int IntKind.u64 18446744073709551615)) 36, type := 4, pos := _, after := #[{ on := 15, ground := Ground.data }, { on := 3, ground := Ground.guard }], guard := some (3, true) }) (v := _) rfl (by kernel_rfl) (by kernel_rfl) (by kernel_rfl) (by kernel_rfl) (fun _ _ _ h => h) (by assumption) (Or.inl ⟨by rfl, ?hy398⟩) (fun _ => rfl) ?rest398
            case hy398 => (intro w hSw; (try dsimp only at hSw); go_simp; try with_reducible rfl)
            try simp only [Act.put, List.setIfInBounds_toArray, List.set_cons_zero, List.set_cons_succ]
            refine' ordS_take (i := 17) (oi := { dst := some 64, op := Op.pick (Operand.tmp 50) (Operand.tmp 63) (Operand.const (Value.bool false)), type := 4, pos := _, after := #[{ on := 3, ground := Ground.data }, { on := 16, ground := Ground.data }], guard := none }) (v := _) rfl (by kernel_rfl) (by kernel_rfl) (by kernel_rfl) (by kernel_rfl) (fun _ _ _ h => h) (by assumption) (Or.inl ⟨by rfl, ?hy399⟩) (fun _ => rfl) ?rest399
            case hy399 => (intro w hSw; (try dsimp only at hSw); go_simp; try with_reducible rfl)
            try simp only [Act.put, List.setIfInBounds_toArray, List.set_cons_zero, List.set_cons_succ]
            refine' ordS_take (i := 18) (oi := { dst := some 65, op := Op.move (Operand.tmp 64), type := 4, pos := _, after := #[{ on := 17, ground := Ground.data }, { on := 3, ground := Ground.chain }], guard := none }) (v := _) rfl (by kernel_rfl) (by kernel_rfl) (by kernel_rfl) (by kernel_rfl) (fun _ _ _ h => h) (by assumption) (Or.inl ⟨by rfl, ?hy400⟩) (fun _ => rfl) ?rest400
            case hy400 => (intro w hSw; (try dsimp only at hSw); go_simp; try with_reducible rfl)
            try simp only [Act.put, List.setIfInBounds_toArray, List.set_cons_zero, List.set_cons_succ]
            refine ordS_take (i := 19) (oi := { dst := some 66, op := Op.move (Operand.tmp 2), type := 42, pos := _, after := #[{ on := 18, ground := Ground.guard }], guard := some (18, true) }) (v := undef) rfl (by kernel_rfl) (by kernel_rfl) (by kernel_rfl) (by kernel_rfl) (fun _ _ _ h => h) (by assumption) (Or.inr ⟨by rfl, rfl⟩) (fun _ => rfl) ?_
            try simp only [Act.put, List.setIfInBounds_toArray, List.set_cons_zero, List.set_cons_succ]
            refine ordS_take (i := 20) (oi := { dst := some 67, op := Op.fieldAddr 30 (Operand.tmp 14) 1, type := 0, pos := _, after := #[{ on := 18, ground := Ground.guard }], guard := some (18, true) }) (v := undef) rfl (by kernel_rfl) (by kernel_rfl) (by kernel_rfl) (by kernel_rfl) (fun _ _ _ h => h) (by assumption) (Or.inr ⟨by rfl, rfl⟩) (fun _ => rfl) ?_
            try simp only [Act.put, List.setIfInBounds_toArray, List.set_cons_zero, List.set_cons_succ]
            refine ordS_take (i := 21) (oi := { dst := some 68, op := Op.load 3 (Operand.tmp 67), type := 3, pos := _, after := #[{ on := 20, ground := Ground.data }, { on := 18, ground := Ground.guard }], guard := some (18, true) }) (v := undef) rfl (by kernel_rfl) (by kernel_rfl) (by kernel_rfl) (by kernel_rfl) (fun _ _ _ h => h) (by assumption) (Or.inr ⟨by rfl, rfl⟩) (fun _ => rfl) ?_
            try simp only [Act.put, List.setIfInBounds_toArray, List.set_cons_zero, List.set_cons_succ]
            refine ordS_take (i := 22) (oi := { dst := some 69, op := Op.fieldAddr 26 (Operand.tmp 4) 0, type := 0, pos := _, after := #[{ on := 18, ground := Ground.guard }], guard := some (18, true) }) (v := undef) rfl (by kernel_rfl) (by kernel_rfl) (by kernel_rfl) (by kernel_rfl) (fun _ _ _ h => h) (by assumption) (Or.inr ⟨by rfl, rfl⟩) (fun _ => rfl) ?_
            try simp only [Act.put, List.setIfInBounds_toArray, List.set_cons_zero, List.set_cons_succ]
            refine ordS_take (i := 23) (oi := { dst := some 70, op := Op.fieldAddr 23 (Operand.tmp 69) 0, type := 0, pos := _, after := #[{ on := 22, ground := Ground.data }, { on := 18, ground := Ground.guard }], guard := some (18, true) }) (v := undef) rfl (by kernel_rfl) (by kernel_rfl) (by kernel_rfl) (by kernel_rfl) (fun _ _ _ h => h) (by assumption) (Or.inr ⟨by rfl, rfl⟩) (fun _ => rfl) ?_
            try simp only [Act.put, List.setIfInBounds_toArray, List.set_cons_zero, List.set_cons_succ]
            refine ordS_take (i := 24) (oi := { dst := some 71, op := Op.load 3 (Operand.tmp 70), type := 3, pos := _, after := #[{ on := 23, ground := Ground.data }, { on := 18, ground := Ground.guard }], guard := some (18, true) }) (v := undef) rfl (by kernel_rfl) (by kernel_rfl) (by kernel_rfl) (by kernel_rfl) (fun _ _ _ h => h) (by assumption) (Or.inr ⟨by rfl, rfl⟩) (fun _ => rfl) ?_
            try simp only [Act.put, List.setIfInBounds_toArray, List.set_cons_zero, List.set_cons_succ]
            refine ordS_take (i := 25) (oi := { dst := some 72, op := Op.binOp BinOp.mul 3 (Operand.tmp 68) (Operand.tmp 71) 3, type := 3, pos := _, after := #[{ on := 21, ground := Ground.data }, { on := 24, ground := Ground.data }, { on := 18, ground := Ground.guard }], guard := some (18, true) }) (v := undef) rfl (by kernel_rfl) (by kernel_rfl) (by kernel_rfl) (by kernel_rfl) (fun _ _ _ h => h) (by assumption) (Or.inr ⟨by rfl, rfl⟩) (fun _ => rfl) ?_
            try simp only [Act.put, List.setIfInBounds_toArray, List.set_cons_zero, List.set_cons_succ]
            refine ordS_take (i := 26) (oi := { dst := some 73, op := Op.fieldAddr 30 (Operand.tmp 14) 0, type := 0, pos := _, after := #[{ on := 18, ground := Ground.guard }], guard := some (18, true) }) (v := undef) rfl (by kernel_rfl) (by kernel_rfl) (by kernel_rfl) (by kernel_rfl) (fun _ _ _ h => h) (by assumption) (Or.inr ⟨by rfl, rfl⟩) (fun _ => rfl) ?_
            try simp only [Act.put, List.setIfInBounds_toArray, List.set_cons_zero, List.set_cons_succ]
            refine ordS_take (i := 27) (oi := { dst := some 74, op := Op.load 3 (Operand.tmp 73), type := 3, pos := _, after := #[{ on := 26, ground := Ground.data }, { on := 18, ground := Ground.guard }], guard := some (18, true) }) (v := undef) rfl (by kernel_rfl) (by kernel_rfl) (by kernel_rfl) (by kernel_rfl) (fun _ _ _ h => h) (by assumption) (Or.inr ⟨by rfl, rfl⟩) (fun _ => rfl) ?_
            try simp only [Act.put, List.setIfInBounds_toArray, List.set_cons_zero, List.set_cons_succ]
            refine ordS_take (i := 28) (oi := { dst := some 75, op := Op.binOp BinOp.add 3 (Operand.tmp 72) (Operand.tmp 74) 3, type := 3, pos := _, after := #[{ on := 25, ground := Ground.data }, { on := 27, ground := Ground.data }, { on := 18, ground := Ground.guard }], guard := some (18, true) }) (v := undef) rfl (by kernel_rfl) (by kernel_rfl) (by kernel_rfl) (by kernel_rfl) (fun _ _ _ h => h) (by assumption) (Or.inr ⟨by rfl, rfl⟩) (fun _ => rfl) ?_
            try simp only [Act.put, List.setIfInBounds_toArray, List.set_cons_zero, List.set_cons_succ]
            refine ordS_take (i := 29) (oi := { dst := some 76, op := Op.indexAddr 42 (Operand.tmp 66) (Operand.tmp 75), type := 0, pos := _, after := #[{ on := 19, ground := Ground.data }, { on := 28, ground := Ground.data }, { on := 18, ground := Ground.guard }], guard := some (18, true) }) (v := undef) rfl (by kernel_rfl) (by kernel_rfl) (by kernel_rfl) (by kernel_rfl) (fun _ _ _ h => h) (by assumption) (Or.inr ⟨by rfl, rfl⟩) (fun _ => rfl) ?_
            try simp only [Act.put, List.setIfInBounds_toArray, List.set_cons_zero, List.set_cons_succ]
            refine ordS_take (i := 30) (oi := { dst := some 77, op := Op.load 36 (Operand.tmp 76), type := 36, pos := _, after := #[{ on := 29, ground := Ground.data }, { on := 18, ground := Ground.guard }], guard := some (18, true) }) (v := undef) rfl (by kernel_rfl) (by kernel_rfl) (by kernel_rfl) (by kernel_rfl) (fun _ _ _ h => h) (by assumption) (Or.inr ⟨by rfl, rfl⟩) (fun _ => rfl) ?_
            try simp only [Act.put, List.setIfInBounds_toArray, List.set_cons_zero, List.set_cons_succ]
            refine ordS_take (i := 31) (oi := { dst := some 78, op := Op.load 26 (Operand.tmp 4), type := 26, pos := _, after := #[{ on := 18, ground := Ground.guard }], guard := some (18, true) }) (v := undef) rfl (by kernel_rfl) (by kernel_rfl) (by kernel_rfl) (by kernel_rfl) (fun _ _ _ h => h) (by assumption) (Or.inr ⟨by rfl, rfl⟩) (fun _ => rfl) ?_
            try simp only [Act.put, List.setIfInBounds_toArray, List.set_cons_zero, List.set_cons_succ]
            refine ordS_take (i := 32) (oi := { dst := some 79, op := Op.load 30 (Operand.tmp 11), type := 30, pos := _, after := #[{ on := 18, ground := Ground.guard }], guard := some (18, true) }) (v := undef) rfl (by kernel_rfl) (by kernel_rfl) (by kernel_rfl) (by kernel_rfl) (fun _ _ _ h => h) (by assumption) (Or.inr ⟨by rfl, rfl⟩) (fun _ => rfl) ?_
            try simp only [Act.put, List.setIfInBounds_toArray, List.set_cons_zero, List.set_cons_succ]
            refine ordS_take (i := 35) (oi := { dst := some 82, op := Op.move (Operand.tmp 12), type := 36, pos := _, after := #[{ on := 18, ground := Ground.guard }], guard := some (18, true) }) (v := undef) rfl (by kernel_rfl) (by kernel_rfl) (by kernel_rfl) (by kernel_rfl) (fun _ _ _ h => h) (by assumption) (Or.inr ⟨by rfl, rfl⟩) (fun _ => rfl) ?_
            try simp only [Act.put, List.setIfInBounds_toArray, List.set_cons_zero, List.set_cons_succ]
            refine ordS_skip (i := 33) (o := { dst := some 80, op := Op.call { callee := Callee.value (Operand.func 36), args := #[Operand.tmp 78, Operand.tmp 79], argTypes := #[26, 30] }, type := 36, pos := _, after := #[{ on := 31, ground := Ground.data }, { on := 32, ground := Ground.data }, { on := 18, ground := Ground.chain }, { on := 18, ground := Ground.guard }], guard := some (18, true) }) (by kernel_rfl) rfl (by rfl) (fun _ => trivial) (by assumption) ?_
            try simp only [Act.put, List.setIfInBounds_toArray, List.set_cons_zero, List.set_cons_succ]
            refine ordS_take (i := 34) (oi := { dst := some 81, op := Op.binOp BinOp.add 36 (Operand.tmp 77) (Operand.tmp 80) 36, type := 36, pos := _, after := #[{ on := 30, ground := Ground.data }, { on := 33, ground := Ground.data }, { on := 18, ground := Ground.guard }], guard := some (18, true) }) (v := undef) rfl (by kernel_rfl) (by kernel_rfl) (by kernel_rfl) (by kernel_rfl) (fun _ _ _ h => h) (by assumption) (Or.inr ⟨by rfl, rfl⟩) (fun _ => rfl) ?_
            try simp only [Act.put, List.setIfInBounds_toArray, List.set_cons_zero, List.set_cons_succ]
            refine ordS_take (i := 36) (oi := { dst := some 83, op := Op.binOp BinOp.eql 36 (Operand.tmp 81) (Operand.tmp 82) 36, type := 4, pos := _, after := #[{ on := 34, ground := Ground.data }, { on := 35, ground := Ground.data }, { on := 18, ground := Ground.guard }], guard := some (18, true) }) (v := undef) rfl (by kernel_rfl) (by kernel_rfl) (by kernel_rfl) (by kernel_rfl) (fun _ _ _ h => h) (by assumption) (Or.inr ⟨by rfl, rfl⟩) (fun _ => rfl) ?_
            try simp only [Act.put, List.setIfInBounds_toArray, List.set_cons_zero, List.set_cons_succ]
            refine' ordS_take (i := 37) (oi := { dst := some 84, op := Op.pick (Operand.tmp 65) (Operand.tmp 83) (Operand.const (Value.bool false)), type := 4, pos := _, after := #[{ on := 18, ground := Ground.data }, { on := 36, ground := Ground.data }], guard := none }) (v := _) rfl (by kernel_rfl) (by kernel_rfl) (by kernel_rfl) (by kernel_rfl) (fun _ _ _ h => h) (by assumption) (Or.inl ⟨by rfl, ?hy418⟩) (fun _ => rfl) ?rest418
            case hy418 => (intro w hSw; (try dsimp only at hSw); go_simp; try with_reducible rfl)
            try simp only [Act.put, List.setIfInBounds_toArray, List.set_cons_zero, List.set_cons_succ]
            refine ordS_done (by kernel_rfl) ?_
            have HI9 := Lib.hid (bl_tr HB51.out hB)
            clear hS hS3 hB kp0 kp1 kf0 kf1 kf2 kx0 kx1 kx2 kx3 km0 km1 kv zk0 zk1 zk2 zk3
            go_wp2
            go_roundw
            case rel => exact ⟨d + 1, HEQ.out, by go_num, rfl, HI9.out⟩
            case measure => simp [intOf]; omega
          · have hvb : (v != 18446744073709551615) = true := by rw [bne_iff_ne]; exact hvi
            have hvw : IntKind.u64.wrap (v + kc) = v + kc := by rw [IntKind.wrap_u64]; omega
            by_cases heq : v + kc = h
            · have HY := Lib.hid (HYH.out (by rw [decide_eq_true hvi, decide_eq_true heq]; rfl))
              have hdl : (IntKind.u64.wrap (v + kc) == h) = true := by rw [hvw]; exact beq_iff_eq.2 heq
              clear hvw heq
              have hB := bl_dr (bl0 W1)
              have hS : (fun W9 : World => W9.cell? ⟨w.heap.size, 0, none⟩ = some (.int .i64 A) ∧ W9.cell? ⟨w.heap.size, 1, none⟩ = some (.int .i64 B) ∧ W9.cell? ⟨w.heap.size, 2, none⟩ = some (.slice a zs.length cap) ∧ W9.cell? ⟨w.heap.size + 1, 0, none⟩ = some (.int .i64 X) ∧ W9.cell? ⟨w.heap.size + 1, 1, none⟩ = some (.int .i64 Y) ∧ W9.cell? ⟨w.heap.size + 1, 2, none⟩ = some (.int .i64 U) ∧ W9.cell? ⟨w.heap.size + 1, 3, none⟩ = some (.int .i64 V) ∧ W9.cell? ⟨cp, 0, none⟩ = some (.int .i64 C.1) ∧ W9.cell? ⟨cp, 1, none⟩ = some (.int .i64 C.2) ∧ W9.cell? ⟨mp, 0, none⟩ = some (.int .i64 M.1) ∧ W9.cell? ⟨mp, 1, none⟩ = some (.int .i64 M.2) ∧ W9.cell? ⟨gb, go + mi, none⟩ = some (.int .u64 v)) W1.drew := ⟨cell_later hB kf0, cell_later hB kf1, cell_later hB kf2, cell_later hB kx0, cell_later hB kx1, cell_later hB kx2, cell_later hB kx3, cell_later hB kp0, cell_later hB kp1, cell_later hB km0, cell_later hB km1, cell_later hB kv⟩
              refine (wpIn_wide (n := 11)).1 ?_
              refine ordS_begin (S := (fun W9 : World => W9.cell? ⟨w.heap.size, 0, none⟩ = some (.int .i64 A) ∧ W9.cell? ⟨w.heap.size, 1, none⟩ = some (.int .i64 B) ∧ W9.cell? ⟨w.heap.size, 2, none⟩ = some (.slice a zs.length cap) ∧ W9.cell? ⟨w.heap.size + 1, 0, none⟩ = some (.int .i64 X) ∧ W9.cell? ⟨w.heap.size + 1, 1, none⟩ = some (.int .i64 Y) ∧ W9.cell? ⟨w.heap.size + 1, 2, none⟩ = some (.int .i64 U) ∧ W9.cell? ⟨w.heap.size + 1, 3, none⟩ = some (.int .i64 V) ∧ W9.cell? ⟨cp, 0, none⟩ = some (.int .i64 C.1) ∧ W9.cell? ⟨cp, 1, none⟩ = some (.int .i64 C.2) ∧ W9.cell? ⟨mp, 0, none⟩ = some (.int .i64 M.1) ∧ W9.cell? ⟨mp, 1, none⟩ = some (.int .i64 M.2) ∧ W9.cell? ⟨gb, go + mi, none⟩ = some (.int .u64 v))) (by kernel_rfl) hS (fun hH => ?_)
              refine' ordS_take (i := 0) (oi := { dst := some 47, op := Op.load 28 (Operand.tmp 5), type := 28, pos := _, after := #[], guard := none }) (v := _) rfl (by kernel_rfl) (by kernel_rfl) (by kernel_rfl) (by kernel_rfl) (fun _ _ _ h => h) (by assumption) (Or.inl ⟨by rfl, ?hy419⟩) (fun _ => rfl) ?rest419
              case hy419 => (intro w hSw; (try dsimp only at hSw); go_simp; try with_reducible rfl)
              try simp only [Act.put, List.setIfInBounds_toArray, List.set_cons_zero, List.set_cons_succ]
              refine' ordS_take (i := 1) (oi := { dst := some 48, op := Op.load 30 (Operand.tmp 14), type := 30, pos := _, after := #[], guard := none }) (v := _) rfl (by kernel_rfl) (by kernel_rfl) (by kernel_rfl) (by kernel_rfl) (fun _ _ _ h => h) (by assumption) (Or.inl ⟨by rfl, ?hy420⟩) (fun _ => rfl) ?rest420
              case hy420 => (intro w hSw; (try dsimp only at hSw); go_simp; try with_reducible rfl)
              try simp only [Act.put, List.setIfInBounds_toArray, List.set_cons_zero, List.set_cons_succ]
              obtain ⟨W2, hW2⟩ : ∃ W2, W1.drew = W2 := ⟨_, rfl⟩
              rw [hW2] at hB hS
              rw [hW2]
              clear hW2 hH
              refine ordS_one (i := 2) (o := { dst := some 49, op := Op.call { callee := Callee.value (Operand.func 11), args := #[Operand.tmp 47, Operand.tmp 48], argTypes := #[28, 30] }, type := 4, pos := _, after := #[{ on := 0, ground := Ground.data }, { on := 1, ground := Ground.data }], guard := none }) (by kernel_rfl) rfl (by rfl) (fun K hK => ?_)
              go_simp
              refine ⟨trivial, ?_⟩
              with_reducible refine (callsIn_wide.2 (HHB.out _)).mono ?_
              rintro e V3 ⟨rfl, hbV3⟩
              replace hB := bl_tr hB hbV3
              have hS3 : (fun W9 : World => W9.cell? ⟨w.heap.size, 0, none⟩ = some (.int .i64 A) ∧ W9.cell? ⟨w.heap.size, 1, none⟩ = some (.int .i64 B) ∧ W9.cell? ⟨w.heap.size, 2, none⟩ = some (.slice a zs.length cap) ∧ W9.cell? ⟨w.heap.size + 1, 0, none⟩ = some (.int .i64 X) ∧ W9.cell? ⟨w.heap.size + 1, 1, none⟩ = some (.int .i64 Y) ∧ W9.cell? ⟨w.heap.size + 1, 2, none⟩ = some (.int .i64 U) ∧ W9.cell? ⟨w.heap.size + 1, 3, none⟩ = some (.int .i64 V) ∧ W9.cell? ⟨cp, 0, none⟩ = some (.int .i64 C.1) ∧ W9.cell? ⟨cp, 1, none⟩ = some (.int .i64 C.2) ∧ W9.cell? ⟨mp, 0, none⟩ = some (.int .i64 M.1) ∧ W9.cell? ⟨mp, 1, none⟩ = some (.int .i64 M.2) ∧ W9.cell? ⟨gb, go + mi, none⟩ = some (.int .u64 v)) V3 := ⟨cell_later hbV3 hS.1, cell_later hbV3 hS.2.1, cell_later hbV3 hS.2.2.1, cell_later hbV3 hS.2.2.2.1, cell_later hbV3 hS.2.2.2.2.1, cell_later hbV3 hS.2.2.2.2.2.1, cell_later hbV3 hS.2.2.2.2.2.2.1, cell_later hbV3 hS.2.2.2.2.2.2.2.1, cell_later hbV3 hS.2.2.2.2.2.2.2.2.1, cell_later hbV3 hS.2.2.2.2.2.2.2.2.2.1, cell_later hbV3 hS.2.2.2.2.2.2.2.2.2.2.1, cell_later hbV3 hS.2.2.2.2.2.2.2.2.2.2.2⟩
              refine hK _ _ hS3 ?_
              clear hK K
              try simp only [Act.put, List.setIfInBounds_toArray, List.set_cons_zero, List.set_cons_succ]
              refine' ordS_take (i := 3) (oi := { dst := some 50, op := Op.move (Operand.tmp 49), type := 4, pos := _, after := #[{ on := 2, ground := Ground.data }, { on := 2, ground := Ground.chain }], guard := none }) (v := _) rfl (by kernel_rfl) (by kernel_rfl) (by kernel_rfl) (by kernel_rfl) (fun _ _ _ h => h) (by assumption) (Or.inl ⟨by rfl, ?hy421⟩) (fun _ => rfl) ?rest421
              case hy421 => (intro w hSw; (try dsimp only at hSw); go_simp; try with_reducible rfl)
              try simp only [Act.put, List.setIfInBounds_toArray, List.set_cons_zero, List.set_cons_succ]
              refine' ordS_take (i := 4) (oi := { dst := some 51, op := Op.move (Operand.tmp 2), type := 42, pos := _, after := #[{ on := 3, ground := Ground.guard }], guard := some (3, true) }) (v := _) rfl (by kernel_rfl) (by kernel_rfl) (by kernel_rfl) (by kernel_rfl) (fun _ _ _ h => h) (by assumption) (Or.inl ⟨by rfl, ?hy422⟩) (fun _ => rfl) ?rest422
              case hy422 => (intro w hSw; (try dsimp only at hSw); go_simp; try with_reducible rfl)
              try simp only [Act.put, List.setIfInBounds_toArray, List.set_cons_zero, List.set_cons_succ]
              refine' ordS_take (i := 5) (oi := { dst := some 52, op := Op.fieldAddr 30 (Operand.tmp 14) 1, type := 0, pos := _, after := #[{ on := 3, ground := Ground.guard }], guard := some (3, true) }) (v := _) rfl (by kernel_rfl) (by kernel_rfl) (by kernel_rfl) (by kernel_rfl) (fun _ _ _ h => h) (by assumption) (Or.inl ⟨by rfl, ?hy423⟩) (fun _ => rfl) ?rest423
              case hy423 => (intro w hSw; (try dsimp only at hSw); go_simp; try with_reducible rfl)
              try simp only [Act.put, List.setIfInBounds_toArray, List.set_cons_zero, List.set_cons_succ]
              refine' ordS_take (i := 6) (oi := { dst := some 53, op := Op.load 3 (Operand.tmp 52), type := 3, pos := _, after := #[{ on := 5, ground := Ground.data }, { on := 3, ground := Ground.guard }], guard := some (3, true) }) (v := _) rfl (by kernel_rfl) (by kernel_rfl) (by kernel_rfl) (by kernel_rfl) (fun _ _ _ h => h) (by assumption) (Or.inl ⟨by rfl, ?hy424⟩) (fun _ => rfl) ?rest424
              case hy424 => (intro w hSw; (try dsimp only at hSw); go_simp; try with_reducible rfl)
              try simp only [Act.put, List.setIfInBounds_toArray, List.set_cons_zero, List.set_cons_succ]
              refine' ordS_take (i := 7) (oi := { dst := some 54, op := Op.fieldAddr 26 (Operand.tmp 4) 0, type := 0, pos := _, after := #[{ on := 3, ground := Ground.guard }], guard := some (3, true) }) (v := _) rfl (by kernel_rfl) (by kernel_rfl) (by kernel_rfl) (by kernel_rfl) (fun _ _ _ h => h) (by assumption) (Or.inl ⟨by rfl, ?hy425⟩) (fun _ => rfl) ?rest425
              case hy425 => (intro w hSw; (try dsimp only at hSw); go_simp; try with_reducible rfl)
              try simp only [Act.put, List.setIfInBounds_toArray, List.set_cons_zero, List.set_cons_succ]
              refine' ordS_take (i := 8) (oi := { dst := some 55, op := Op.fieldAddr 23 (Operand.tmp 54) 0, type := 0, pos := _, after := #[{ on := 7, ground := Ground.data }, { on := 3, ground := Ground.guard }], guard := some (3, true) }) (v := _) rfl (by kernel_rfl) (by kernel_rfl) (by kernel_rfl) (by kernel_rfl) (fun _ _ _ h => h) (by assumption) (Or.inl ⟨by rfl, ?hy426⟩) (fun _ => rfl) ?rest426
              case hy426 => (intro w hSw; (try dsimp only at hSw); go_simp; try with_reducible rfl)
              try simp only [Act.put, List.setIfInBounds_toArray, List.set_cons_zero, List.set_cons_succ]
              refine' ordS_take (i := 9) (oi := { dst := some 56, op := Op.load 3 (Operand.tmp 55), type := 3, pos := _, after := #[{ on := 8, ground := Ground.data }, { on := 3, ground := Ground.guard }], guard := some (3, true) }) (v := _) rfl (by kernel_rfl) (by kernel_rfl) (by kernel_rfl) (by kernel_rfl) (fun _ _ _ h => h) (by assumption) (Or.inl ⟨by rfl, ?hy427⟩) (fun _ => rfl) ?rest427
              case hy427 => (intro w hSw; (try dsimp only at hSw); go_simp; try with_reducible rfl)
              try simp only [Act.put, List.setIfInBounds_toArray, List.set_cons_zero, List.set_cons_succ]
              refine' ordS_take (i := 10) (oi := { dst := some 57, op := Op.binOp BinOp.mul 3 (Operand.tmp 53) (Operand.tmp 56) 3, type := 3, pos := _, after := #[{ on := 6, ground := Ground.data }, { on := 9, ground := Ground.data }, { on := 3, ground := Ground.guard }], guard := some (3, true) }) (v := _) rfl (by kernel_rfl) (by kernel_rfl) (by kernel_rfl) (by kernel_rfl) (fun _ _ _ h => h) (by assumption) (Or.inl ⟨by rfl, ?hy428⟩) (fun _ => rfl) ?rest428
              case hy428 => (intro w hSw; (try dsimp only at hSw); go_simp; try with_reducible rfl)
              try simp only [Act.put, List.setIfInBounds_toArray, List.set_cons_zero, List.set_cons_succ]
              refine' ordS_take (i := 11) (oi := { dst := some 58, op := Op.fieldAddr 30 (Operand.tmp 14) 0, type := 0, pos := _, after := #[{ on := 3, ground := Ground.guard }], guard := some (3, true) }) (v := _) rfl (by kernel_rfl) (by kernel_rfl) (by kernel_rfl) (by kernel_rfl) (fun _ _ _ h => h) (by assumption) (Or.inl ⟨by rfl, ?hy429⟩) (fun _ => rfl) ?rest429
              case hy429 => (intro w hSw; (try dsimp only at hSw); go_simp; try with_reducible rfl)
              try simp only [Act.put, List.setIfInBounds_toArray, List.set_cons_zero, List.set_cons_succ]
              refine' ordS_take (i := 12) (oi := { dst := some 59, op := Op.load 3 (Operand.tmp 58), type := 3, pos := _, after := #[{ on := 11, ground := Ground.data }, { on := 3, ground := Ground.guard }], guard := some (3, true) }) (v := _) rfl (by kernel_rfl) (by kernel_rfl) (by kernel_rfl) (by kernel_rfl) (fun _ _ _ h => h) (by assumption) (Or.inl ⟨by rfl, ?hy430⟩) (fun _ => rfl) ?rest430
              case hy430 => (intro w hSw; (try dsimp only at hSw); go_simp; try with_reducible rfl)
              try simp only [Act.put, List.setIfInBounds_toArray, List.set_cons_zero, List.set_cons_succ]
              refine' ordS_take (i := 13) (oi := { dst := some 60, op := Op.binOp BinOp.add 3 (Operand.tmp 57) (Operand.tmp 59) 3, type := 3, pos := _, after := #[{ on := 10, ground := Ground.data }, { on := 12, ground := Ground.data }, { on := 3, ground := Ground.guard }], guard := some (3, true) }) (v := _) rfl (by kernel_rfl) (by kernel_rfl) (by kernel_rfl) (by kernel_rfl) (fun _ _ _ h => h) (by assumption) (Or.inl ⟨by rfl, ?hy431⟩) (fun _ => rfl) ?rest431
              case hy431 => (intro w hSw; (try dsimp only at hSw); go_simp; try with_reducible rfl)
              try simp only [Act.put, List.setIfInBounds_toArray, List.set_cons_zero, List.set_cons_succ]
              refine' ordS_take (i := 14) (oi := { dst := some 61, op := Op.indexAddr 42 (Operand.tmp 51) (Operand.tmp 60), type := 0, pos := _, after := #[{ on := 4, ground := Ground.data }, { on := 13, ground := Ground.data }, { on := 3, ground := Ground.guard }], guard := some (3, true) }) (v := _) rfl (by kernel_rfl) (by kernel_rfl) (by kernel_rfl) (by kernel_rfl) (fun _ _ _ h => h) (by assumption) (Or.inl ⟨by rfl, ?hy432⟩) (fun _ => rfl) ?rest432
              case hy432 => (intro w hSw; (try dsimp only at hSw); go_simp; try with_reducible rfl)
              try simp only [Act.put, List.setIfInBounds_toArray, List.set_cons_zero, List.set_cons_succ]
              refine' ordS_take (i := 15) (oi := { dst := some 62, op := Op.load 36 (Operand.tmp 61), type := 36, pos := _, after := #[{ on := 14, ground := Ground.data }, { on := 3, ground := Ground.guard }], guard := some (3, true) }) (v := _) rfl (by kernel_rfl) (by kernel_rfl) (by kernel_rfl) (by kernel_rfl) (fun _ _ _ h => h) (by assumption) (Or.inl ⟨by rfl, ?hy433⟩) (fun _ => rfl) ?rest433
              case hy433 => (intro w hSw; (try dsimp only at hSw); go_simp; try with_reducible rfl)
              try simp only [Act.put, List.setIfInBounds_toArray, List.set_cons_zero, List.set_cons_succ]
              refine' ordS_take (i := 16) (oi := { dst := some 63, op := Op.binOp BinOp.neq 36 (Operand.tmp 62) (Operand.const (Value.int IntKind.u64 18446744073709551615)) 36, type := 4, pos := _, after := #[{ on := 15, ground := Ground.data }, { on := 3, ground := Ground.guard }], guard := some (3, true) }) (v := _) rfl (by kernel_rfl) (by kernel_rfl) (by kernel_rfl) (by kernel_rfl) (fun _ _ _ h => h) (by assumption) (Or.inl ⟨by rfl, ?hy434⟩) (fun _ => rfl) ?rest434
              case hy434 => (intro w hSw; (try dsimp only at hSw); go_simp; try with_reducible rfl)
              try simp only [Act.put, List.setIfInBounds_toArray, List.set_cons_zero, List.set_cons_succ]
              refine' ordS_take (i := 17) (oi := { dst := some 64, op := Op.pick (Operand.tmp 50) (Operand.tmp 63) (Operand.const (Value.bool false)), type := 4, pos := _, after := #[{ on := 3, ground := Ground.data }, { on := 16, ground := Ground.data }], guard := none }) (v := _) rfl (by kernel_rfl) (by kernel_rfl) (by kernel_rfl) (by kernel_rfl) (fun _ _ _ h => h) (by assumption) (Or.inl ⟨by rfl, ?hy435⟩) (fun _ => rfl) ?rest435
              case hy435 => (intro w hSw; (try dsimp only at hSw); go_simp; try with_reducible rfl)
              try simp only [Act.put, List.setIfInBounds_toArray, List.set_cons_zero, List.set_cons_succ]
              refine' ordS_take (i := 18) (oi := { dst := some 65, op := Op.move (Operand.tmp 64), type := 4, pos := _, after := #[{ on := 17, ground := Ground.data }, { on := 3, ground := Ground.chain }], guard := none }) (v := _) rfl (by kernel_rfl) (by kernel_rfl) (by kernel_rfl) (by kernel_rfl) (fun _ _ _ h => h) (by assumption) (Or.inl ⟨by rfl, ?hy436⟩) (fun _ => rfl) ?rest436
              case hy436 => (intro w hSw; (try dsimp only at hSw); go_simp; try with_reducible rfl)
              try simp only [Act.put, List.setIfInBounds_toArray, List.set_cons_zero, List.set_cons_succ]
              refine' ordS_take (i := 19) (oi := { dst := some 66, op := Op.move (Operand.tmp 2), type := 42, pos := _, after := #[{ on := 18, ground := Ground.guard }], guard := some (18, true) }) (v := _) rfl (by kernel_rfl) (by kernel_rfl) (by kernel_rfl) (by kernel_rfl) (fun _ _ _ h => h) (by assumption) (Or.inl ⟨by rfl, ?hy437⟩) (fun _ => rfl) ?rest437
              case hy437 => (intro w hSw; (try dsimp only at hSw); go_simp; try with_reducible rfl)
              try simp only [Act.put, List.setIfInBounds_toArray, List.set_cons_zero, List.set_cons_succ]
              refine' ordS_take (i := 20) (oi := { dst := some 67, op := Op.fieldAddr 30 (Operand.tmp 14) 1, type := 0, pos := _, after := #[{ on := 18, ground := Ground.guard }], guard := some (18, true) }) (v := _) rfl (by kernel_rfl) (by kernel_rfl) (by kernel_rfl) (by kernel_rfl) (fun _ _ _ h => h) (by assumption) (Or.inl ⟨by rfl, ?hy438⟩) (fun _ => rfl) ?rest438
              case hy438 => (intro w hSw; (try dsimp only at hSw); go_simp; try with_reducible rfl)
              try simp only [Act.put, List.setIfInBounds_toArray, List.set_cons_zero, List.set_cons_succ]
              refine' ordS_take (i := 21) (oi := { dst := some 68, op := Op.load 3 (Operand.tmp 67), type := 3, pos := _, after := #[{ on := 20, ground := Ground.data }, { on := 18, ground := Ground.guard }], guard := some (18, true) }) (v := _) rfl (by kernel_rfl) (by kernel_rfl) (by kernel_rfl) (by kernel_rfl) (fun _ _ _ h => h) (by assumption) (Or.inl ⟨by rfl, ?hy439⟩) (fun _ => rfl) ?rest439
              case hy439 => (intro w hSw; (try dsimp only at hSw); go_simp; try with_reducible rfl)
              try simp only [Act.put, List.setIfInBounds_toArray, List.set_cons_zero, List.set_cons_succ]
              refine' ordS_take (i := 22) (oi := { dst := some 69, op := Op.fieldAddr 26 (Operand.tmp 4) 0, type := 0, pos := _, after := #[{ on := 18, ground := Ground.guard }], guard := some (18, true) }) (v := _) rfl (by kernel_rfl) (by kernel_rfl) (by kernel_rfl) (by kernel_rfl) (fun _ _ _ h => h) (by assumption) (Or.inl ⟨by rfl, ?hy440⟩) (fun _ => rfl) ?rest440
              case hy440 => (intro w hSw; (try dsimp only at hSw); go_simp; try with_reducible rfl)
              try simp only [Act.put, List.setIfInBounds_toArray, List.set_cons_zero, List.set_cons_succ]
              refine' ordS_take (i := 23) (oi := { dst := some 70, op := Op.fieldAddr 23 (Operand.tmp 69) 0, type := 0, pos := _, after := #[{ on := 22, ground := Ground.data }, { on := 18, ground := Ground.guard }], guard := some (18, true) }) (v := _) rfl (by kernel_rfl) (by kernel_rfl) (by kernel_rfl) (by kernel_rfl) (fun _ _ _ h => h) (by assumption) (Or.inl ⟨by rfl, ?hy441⟩) (fun _ => rfl) ?rest441
              case hy441 => (intro w hSw; (try dsimp only at hSw); go_simp; try with_reducible rfl)
              try simp only [Act.put, List.setIfInBounds_toArray, List.set_cons_zero, List.set_cons_succ]
              refine' ordS_take (i := 24) (oi := { dst := some 71, op := Op.load 3 (Operand.tmp 70), type := 3, pos := _, after := #[{ on := 23, ground := Ground.data }, { on := 18, ground := Ground.guard }], guard := some (18, true) }) (v := _) rfl (by kernel_rfl) (by kernel_rfl) (by kernel_rfl) (by kernel_rfl) (fun _ _ _ h => h) (by assumption) (Or.inl ⟨by rfl, ?hy442⟩) (fun _ => rfl) ?rest442
              case hy442 => (intro w hSw; (try dsimp only at hSw); go_simp; try with_reducible rfl)
              try simp only [Act.put, List.setIfInBounds_toArray, List.set_cons_zero, List.set_cons_succ]
              refine' ordS_take (i := 25) (oi := { dst := some 72, op := Op.binOp BinOp.mul 3 (Operand.tmp 68) (Operand.tmp 71) 3, type := 3, pos := _, after := #[{ on := 21, ground := Ground.data }, { on := 24, ground := Ground.data }, { on := 18, ground := Ground.guard }], guard := some (18, true) }) (v := _) rfl (by kernel_rfl) (by kernel_rfl) (by kernel_rfl) (by kernel_rfl) (fun _ _ _ h => h) (by assumption) (Or.inl ⟨by rfl, ?hy443⟩) (fun _ => rfl) ?rest443
              case hy443 => (intro w hSw; (try dsimp only at hSw); go_simp; try with_reducible rfl)
              try simp only [Act.put, List.setIfInBounds_toArray, List.set_cons_zero, List.set_cons_succ]
              refine' ordS_take (i := 26) (oi := { dst := some 73, op := Op.fieldAddr 30 (Operand.tmp 14) 0, type := 0, pos := _, after := #[{ on := 18, ground := Ground.guard }], guard := some (18, true) }) (v := _) rfl (by kernel_rfl) (by kernel_rfl) (by kernel_rfl) (by kernel_rfl) (fun _ _ _ h => h) (by assumption) (Or.inl ⟨by rfl, ?hy444⟩) (fun _ => rfl) ?rest444
              case hy444 => (intro w hSw; (try dsimp only at hSw); go_simp; try with_reducible rfl)
              try simp only [Act.put, List.setIfInBounds_toArray, List.set_cons_zero, List.set_cons_succ]
              refine' ordS_take (i := 27) (oi := { dst := some 74, op := Op.load 3 (Operand.tmp 73), type := 3, pos := _, after := #[{ on := 26, ground := Ground.data }, { on := 18, ground := Ground.guard }], guard := some (18, true) }) (v := _) rfl (by kernel_rfl) (by kernel_rfl) (by kernel_rfl) (by kernel_rfl) (fun _ _ _ h => h) (by assumption) (Or.inl ⟨by rfl, ?hy445⟩) (fun _ => rfl) ?rest445
              case hy445 => (intro w hSw; (try dsimp only at hSw); go_simp; try with_reducible rfl)
              try simp only [Act.put, List.setIfInBounds_toArray, List.set_cons_zero, List.set_cons_succ]
              refine' ordS_take (i := 28) (oi := { dst := some 75, op := Op.binOp BinOp.add 3 (Operand.tmp 72) (Operand.tmp 74) 3, type := 3, pos := _, after := #[{ on := 25, ground := Ground.data }, { on := 27, ground := Ground.data }, { on := 18, ground := Ground.guard }], guard := some (18, true) }) (v := _) rfl (by kernel_rfl) (by kernel_rfl) (by kernel_rfl) (by kernel_rfl) (fun _ _ _ h => h) (by assumption) (Or.inl ⟨by rfl, ?hy446⟩) (fun _ => rfl) ?rest446
              case hy446 => (intro w hSw; (try dsimp only at hSw); go_simp; try with_reducible rfl)
              try simp only [Act.put, List.setIfInBounds_toArray, List.set_cons_zero, List.set_cons_succ]
              refine' ordS_take (i := 29) (oi := { dst := some 76, op := Op.indexAddr 42 (Operand.tmp 66) (Operand.tmp 75), type := 0, pos := _, after := #[{ on := 19, ground := Ground.data }, { on := 28, ground := Ground.data }, { on := 18, ground := Ground.guard }], guard := some (18, true) }) (v := _) rfl (by kernel_rfl) (by kernel_rfl) (by kernel_rfl) (by kernel_rfl) (fun _ _ _ h => h) (by assumption) (Or.inl ⟨by rfl, ?hy447⟩) (fun _ => rfl) ?rest447
              case hy447 => (intro w hSw; (try dsimp only at hSw); go_simp; try with_reducible rfl)
              try simp only [Act.put, List.setIfInBounds_toArray, List.set_cons_zero, List.set_cons_succ]
              refine' ordS_take (i := 30) (oi := { dst := some 77, op := Op.load 36 (Operand.tmp 76), type := 36, pos := _, after := #[{ on := 29, ground := Ground.data }, { on := 18, ground := Ground.guard }], guard := some (18, true) }) (v := _) rfl (by kernel_rfl) (by kernel_rfl) (by kernel_rfl) (by kernel_rfl) (fun _ _ _ h => h) (by assumption) (Or.inl ⟨by rfl, ?hy448⟩) (fun _ => rfl) ?rest448
              case hy448 => (intro w hSw; (try dsimp only at hSw); go_simp; try with_reducible rfl)
              try simp only [Act.put, List.setIfInBounds_toArray, List.set_cons_zero, List.set_cons_succ]
              refine' ordS_take (i := 31) (oi := { dst := some 78, op := Op.load 26 (Operand.tmp 4), type := 26, pos := _, after := #[{ on := 18, ground := Ground.guard }], guard := some (18, true) }) (v := _) rfl (by kernel_rfl) (by kernel_rfl) (by kernel_rfl) (by kernel_rfl) (fun _ _ _ h => h) (by assumption) (Or.inl ⟨by rfl, ?hy449⟩) (fun _ => rfl) ?rest449
              case hy449 => (intro w hSw; (try dsimp only at hSw); go_simp; try with_reducible rfl)
              try simp only [Act.put, List.setIfInBounds_toArray, List.set_cons_zero, List.set_cons_succ]
              refine' ordS_take (i := 32) (oi := { dst := some 79, op := Op.load 30 (Operand.tmp 11), type := 30, pos := _, after := #[{ on := 18, ground := Ground.guard }], guard := some (18, true) }) (v := _) rfl (by kernel_rfl) (by kernel_rfl) (by kernel_rfl) (by kernel_rfl) (fun _ _ _ h => h) (by assumption) (Or.inl ⟨by rfl, ?hy450⟩) (fun _ => rfl) ?rest450
              case hy450 => (intro w hSw; (try dsimp only at hSw); go_simp; try with_reducible rfl)
              try simp only [Act.put, List.setIfInBounds_toArray, List.set_cons_zero, List.set_cons_succ]
              refine' ordS_take (i := 35) (oi := { dst := some 82, op := Op.move (Operand.tmp 12), type := 36, pos := _, after := #[{ on := 18, ground := Ground.guard }], guard := some (18, true) }) (v := _) rfl (by kernel_rfl) (by kernel_rfl) (by kernel_rfl) (by kernel_rfl) (fun _ _ _ h => h) (by assumption) (Or.inl ⟨by rfl, ?hy451⟩) (fun _ => rfl) ?rest451
              case hy451 => (intro w hSw; (try dsimp only at hSw); go_simp; try with_reducible rfl)
              try simp only [Act.put, List.setIfInBounds_toArray, List.set_cons_zero, List.set_cons_succ]
              refine ordS_one (i := 33) (o := { dst := some 80, op := Op.call { callee := Callee.value (Operand.func 36), args := #[Operand.tmp 78, Operand.tmp 79], argTypes := #[26, 30] }, type := 36, pos := _, after := #[{ on := 31, ground := Ground.data }, { on := 32, ground := Ground.data }, { on := 18, ground := Ground.chain }, { on := 18, ground := Ground.guard }], guard := some (18, true) }) (by kernel_rfl) rfl (by rfl) (fun K hK => ?_)
              go_simp
              refine ⟨trivial, ?_⟩
              with_reducible refine (callsIn_wide.2 (HCC.out _ (HRWW.out _ hB))).mono ?_
              rintro e V4 ⟨rfl, hbV4⟩
              replace hB := bl_tr hB hbV4
              have hS4 : (fun W9 : World => W9.cell? ⟨w.heap.size, 0, none⟩ = some (.int .i64 A) ∧ W9.cell? ⟨w.heap.size, 1, none⟩ = some (.int .i64 B) ∧ W9.cell? ⟨w.heap.size, 2, none⟩ = some (.slice a zs.length cap) ∧ W9.cell? ⟨w.heap.size + 1, 0, none⟩ = some (.int .i64 X) ∧ W9.cell? ⟨w.heap.size + 1, 1, none⟩ = some (.int .i64 Y) ∧ W9.cell? ⟨w.heap.size + 1, 2, none⟩ = some (.int .i64 U) ∧ W9.cell? ⟨w.heap.size + 1, 3, none⟩ = some (.int .i64 V) ∧ W9.cell? ⟨cp, 0, none⟩ = some (.int .i64 C.1) ∧ W9.cell? ⟨cp, 1, none⟩ = some (.int .i64 C.2) ∧ W9.cell? ⟨mp, 0, none⟩ = some (.int .i64 M.1) ∧ W9.cell? ⟨mp, 1, none⟩ = some (.int .i64 M.2) ∧ W9.cell? ⟨gb, go + mi, none⟩ = some (.int .u64 v)) V4 := ⟨cell_later hbV4 hS3.1, cell_later hbV4 hS3.2.1, cell_later hbV4 hS3.2.2.1, cell_later hbV4 hS3.2.2.2.1, cell_later hbV4 hS3.2.2.2.2.1, cell_later hbV4 hS3.2.2.2.2.2.1, cell_later hbV4 hS3.2.2.2.2.2.2.1, cell_later hbV4 hS3.2.2.2.2.2.2.2.1, cell_later hbV4 hS3.2.2.2.2.2.2.2.2.1, cell_later hbV4 hS3.2.2.2.2.2.2.2.2.2.1, cell_later hbV4 hS3.2.2.2.2.2.2.2.2.2.2.1, cell_later hbV4 hS3.2.2.2.2.2.2.2.2.2.2.2⟩
              refine hK _ _ hS4 ?_
              clear hK K
              try simp only [Act.put, List.setIfInBounds_toArray, List.set_cons_zero, List.set_cons_succ]
              refine' ordS_take (i := 34) (oi := { dst := some 81, op := Op.binOp BinOp.add 36 (Operand.tmp 77) (Operand.tmp 80) 36, type := 36, pos := _, after := #[{ on := 30, ground := Ground.data }, { on := 33, ground := Ground.data }, { on := 18, ground := Ground.guard }], guard := some (18, true) }) (v := _) rfl (by kernel_rfl) (by kernel_rfl) (by kernel_rfl) (by kernel_rfl) (fun _ _ _ h => h) (by assumption) (Or.inl ⟨by rfl, ?hy452⟩) (fun _ => rfl) ?rest452
              case hy452 => (intro w hSw; (try dsimp only at hSw); go_simp; try with_reducible rfl)
              try simp only [Act.put, List.setIfInBounds_toArray, List.set_cons_zero, List.set_cons_succ]
              refine' ordS_take (i := 36) (oi := { dst := some 83, op := Op.binOp BinOp.eql 36 (Operand.tmp 81) (Operand.tmp 82) 36, type := 4, pos := _, after := #[{ on := 34, ground := Ground.data }, { on := 35, ground := Ground.data }, { on := 18, ground := Ground.guard }], guard := some (18, true) }) (v := _) rfl (by kernel_rfl) (by kernel_rfl) (by kernel_rfl) (by kernel_rfl) (fun _ _ _ h => h) (by assumption) (Or.inl ⟨by rfl, ?hy453⟩) (fun _ => rfl) ?rest453
              case hy453 => (intro w hSw; (try dsimp only at hSw); go_simp; try with_reducible rfl)
              try simp only [Act.put, List.setIfInBounds_toArray, List.set_cons_zero, List.set_cons_succ]
              refine' ordS_take (i := 37) (oi := { dst := some 84, op := Op.pick (Operand.tmp 65) (Operand.tmp 83) (Operand.const (Value.bool false)), type := 4, pos := _, after := #[{ on := 18, ground := Ground.data }, { on := 36, ground := Ground.data }], guard := none }) (v := _) rfl (by kernel_rfl) (by kernel_rfl) (by kernel_rfl) (by kernel_rfl) (fun _ _ _ h => h) (by assumption) (Or.inl ⟨by rfl, ?hy454⟩) (fun _ => rfl) ?rest454
              case hy454 => (intro w hSw; (try dsimp only at hSw); go_simp; try with_reducible rfl)
              try simp only [Act.put, List.setIfInBounds_toArray, List.set_cons_zero, List.set_cons_succ]
              refine ordS_done (by kernel_rfl) ?_
              obtain ⟨W6, hW6⟩ : ∃ W6, W6 = V4 := ⟨_, rfl⟩
              have jm0 := cell_later hB km0
              have jm1 := cell_later hB km1
              have HB6 := Lib.hid (bl_tr HB5.out (bl_tr HB51.out hB))
              have HR6 := Lib.hid (HR5.out.below (bl_tr HB51.out hB))
              rw [← hW6] at jm0 jm1 HB6 HR6 ⊢
              have zj := blk_lt jm0
              have hbl := HLN.out (k + 1) (by omega)
              have hown0 := own_litC (w := W6) (B := W6.heap.size) (c := M) (t := 30) (Nat.le_refl _)
              have hb7 := bl_al (bl0 W6) (.cells #[.int .i64 M.1, .int .i64 M.2] 30)
              have hrc := HR6.out.below hb7
              clear hW6 hS hS3 hS4 hB kp0 kp1 kf0 kf1 kf2 kx0 kx1 kx2 kx3 km0 km1 kv zk0 zk1 zk2 zk3 hbV3 hbV4
              go_wp2_with (at_builtin; refine wpList_append_rowN rfl _ _ rfl W6.heap.size _ _ _ rfl hown0 _ (k + 1) oc (BL (k + 1)) hbl rfl hrc ?c3 ?c5 ?_)
              case c3 => omega
              case c5 => rw [World.size_alloc]; omega
              intro v' W7 hown' hgrow
              have hB7 : Below W3.heap.size W3 W7 := (bl_al HB6.out (.cells #[.int .i64 M.1, .int .i64 M.2] 30)).grown hgrow (by have := HB6.out.size; rw [World.size_alloc]; omega) (fun j hj => by have := HB6.out.size; simp [Value.ownBlock] at hj; omega)
              rw [flatC_appQ, List.singleton_append, ← HY.out, show 1 + (k + 1) = k + 1 + 1 by omega] at hown'
              obtain ⟨na, nc, rfl⟩ : ∃ na nc, v' = .slice na (k + 1 + 1) nc := by
                rcases hown'.2 with ⟨_, h⟩ | ⟨g, cap, cur, h, _⟩
                · omega
                · exact ⟨_, _, h⟩
              have HRN := Lib.hid (own_rowC hown' (HLN.out (k + 2) (by omega)))
              clear hown' hgrow hown0 hb7 hrc jm0 jm1 zj hbl
              go_wp2
              go_roundw
              case rel => exact ⟨k + 1, na, nc, by omega, by go_num, by first | rfl | go_num, HRN.out, hB7⟩
              case measure => simp [intOf]; omega
            · have HEQ := Lib.hid (HNH.out (by rw [decide_eq_false heq, Bool.and_false]; rfl))
              have hdl : (IntKind.u64.wrap (v + kc) == h) = false := by rw [hvw]; exact beq_eq_false_iff_ne.2 heq
              clear hvw heq
              have hB := bl_dr (bl0 W1)
              have hS : (fun W9 : World => W9.cell? ⟨w.heap.size, 0, none⟩ = some (.int .i64 A) ∧ W9.cell? ⟨w.heap.size, 1, none⟩ = some (.int .i64 B) ∧ W9.cell? ⟨w.heap.size, 2, none⟩ = some (.slice a zs.length cap) ∧ W9.cell? ⟨w.heap.size + 1, 0, none⟩ = some (.int .i64 X) ∧ W9.cell? ⟨w.heap.size + 1, 1, none⟩ = some (.int .i64 Y) ∧ W9.cell? ⟨w.heap.size + 1, 2, none⟩ = some (.int .i64 U) ∧ W9.cell? ⟨w.heap.size + 1, 3, none⟩ = some (.int .i64 V) ∧ W9.cell? ⟨cp, 0, none⟩ = some (.int .i64 C.1) ∧ W9.cell? ⟨cp, 1, none⟩ = some (.int .i64 C.2) ∧ W9.cell? ⟨mp, 0, none⟩ = some (.int .i64 M.1) ∧ W9.cell? ⟨mp, 1, none⟩ = some (.int .i64 M.2) ∧ W9.cell? ⟨gb, go + mi, none⟩ = some (.int .u64 v)) W1.drew := ⟨cell_later hB kf0, cell_later hB kf1, cell_later hB kf2, cell_later hB kx0, cell_later hB kx1, cell_later hB kx2, cell_later hB kx3, cell_later hB kp0, cell_later hB kp1, cell_later hB km0, cell_later hB km1, cell_later hB kv⟩
              refine (wpIn_wide (n := 11)).1 ?_
              refine ordS_begin (S := (fun W9 : World => W9.cell? ⟨w.heap.size, 0, none⟩ = some (.int .i64 A) ∧ W9.cell? ⟨w.heap.size, 1, none⟩ = some (.int .i64 B) ∧ W9.cell? ⟨w.heap.size, 2, none⟩ = some (.slice a zs.length cap) ∧ W9.cell? ⟨w.heap.size + 1, 0, none⟩ = some (.int .i64 X) ∧ W9.cell? ⟨w.heap.size + 1, 1, none⟩ = some (.int .i64 Y) ∧ W9.cell? ⟨w.heap.size + 1, 2, none⟩ = some (.int .i64 U) ∧ W9.cell? ⟨w.heap.size + 1, 3, none⟩ = some (.int .i64 V) ∧ W9.cell? ⟨cp, 0, none⟩ = some (.int .i64 C.1) ∧ W9.cell? ⟨cp, 1, none⟩ = some (.int .i64 C.2) ∧ W9.cell? ⟨mp, 0, none⟩ = some (.int .i64 M.1) ∧ W9.cell? ⟨mp, 1, none⟩ = some (.int .i64 M.2) ∧ W9.cell? ⟨gb, go + mi, none⟩ = some (.int .u64 v))) (by kernel_rfl) hS (fun hH => ?_)
              refine' ordS_take (i := 0) (oi := { dst := some 47, op := Op.load 28 (Operand.tmp 5), type := 28, pos := _, after := #[], guard := none }) (v := _) rfl (by kernel_rfl) (by kernel_rfl) (by kernel_rfl) (by kernel_rfl) (fun _ _ _ h => h) (by assumption) (Or.inl ⟨by rfl, ?hy455⟩) (fun _ => rfl) ?rest455
              case hy455 => (intro w hSw; (try dsimp only at hSw); go_simp; try with_reducible rfl)
              try simp only [Act.put, List.setIfInBounds_toArray, List.set_cons_zero, List.set_cons_succ]
              refine' ordS_take (i := 1) (oi := { dst := some 48, op := Op.load 30 (Operand.tmp 14), type := 30, pos := _, after := #[], guard := none }) (v := _) rfl (by kernel_rfl) (by kernel_rfl) (by kernel_rfl) (by kernel_rfl) (fun _ _ _ h => h) (by assumption) (Or.inl ⟨by rfl, ?hy456⟩) (fun _ => rfl) ?rest456
              case hy456 => (intro w hSw; (try dsimp only at hSw); go_simp; try with_reducible rfl)
              try simp only [Act.put, List.setIfInBounds_toArray, List.set_cons_zero, List.set_cons_succ]
              obtain ⟨W2, hW2⟩ : ∃ W2, W1.drew = W2 := ⟨_, rfl⟩
              rw [hW2] at hB hS
              rw [hW2]
              clear hW2 hH
              refine ordS_one (i := 2) (o := { dst := some 49, op := Op.call { callee := Callee.value (Operand.func 11), args := #[Operand.tmp 47, Operand.tmp 48], argTypes := #[28, 30] }, type := 4, pos := _, after := #[{ on := 0, ground := Ground.data }, { on := 1, ground := Ground.data }], guard := none }) (by kernel_rfl) rfl (by rfl) (fun K hK => ?_)
              go_simp
              refine ⟨trivial, ?_⟩
              with_reducible refine (callsIn_wide.2 (HHB.out _)).mono ?_
              rintro e V3 ⟨rfl, hbV3⟩
              replace hB := bl_tr hB hbV3
              have hS3 : (fun W9 : World => W9.cell? ⟨w.heap.size, 0, none⟩ = some (.int .i64 A) ∧ W9.cell? ⟨w.heap.size, 1, none⟩ = some (.int .i64 B) ∧ W9.cell? ⟨w.heap.size, 2, none⟩ = some (.slice a zs.length cap) ∧ W9.cell? ⟨w.heap.size + 1, 0, none⟩ = some (.int .i64 X) ∧ W9.cell? ⟨w.heap.size + 1, 1, none⟩ = some (.int .i64 Y) ∧ W9.cell? ⟨w.heap.size + 1, 2, none⟩ = some (.int .i64 U) ∧ W9.cell? ⟨w.heap.size + 1, 3, none⟩ = some (.int .i64 V) ∧ W9.cell? ⟨cp, 0, none⟩ = some (.int .i64 C.1) ∧ W9.cell? ⟨cp, 1, none⟩ = some (.int .i64 C.2) ∧ W9.cell? ⟨mp, 0, none⟩ = some (.int .i64 M.1) ∧ W9.cell? ⟨mp, 1, none⟩ = some (.int .i64 M.2) ∧ W9.cell? ⟨gb, go + mi, none⟩ = some (.int .u64 v)) V3 := ⟨cell_later hbV3 hS.1, cell_later hbV3 hS.2.1, cell_later hbV3 hS.2.2.1, cell_later hbV3 hS.2.2.2.1, cell_later hbV3 hS.2.2.2.2.1, cell_later hbV3 hS.2.2.2.2.2.1, cell_later hbV3 hS.2.2.2.2.2.2.1, cell_later hbV3 hS.2.2.2.2.2.2.2.1, cell_later hbV3 hS.2.2.2.2.2.2.2.2.1, cell_later hbV3 hS.2.2.2.2.2.2.2.2.2.1, cell_later hbV3 hS.2.2.2.2.2.2.2.2.2.2.1, cell_later hbV3 hS.2.2.2.2.2.2.2.2.2.2.2⟩
              refine hK _ _ hS3 ?_
              clear hK K
              try simp only [Act.put, List.setIfInBounds_toArray, List.set_cons_zero, List.set_cons_succ]
              refine' ordS_take (i := 3) (oi := { dst := some 50, op := Op.move (Operand.tmp 49), type := 4, pos := _, after := #[{ on := 2, ground := Ground.data }, { on := 2, ground := Ground.chain }], guard := none }) (v := _) rfl (by kernel_rfl) (by kernel_rfl) (by kernel_rfl) (by kernel_rfl) (fun _ _ _ h => h) (by assumption) (Or.inl ⟨by rfl, ?hy457⟩) (fun _ => rfl) ?rest457
              case hy457 => (intro w hSw; (try dsimp only at hSw); go_simp; try with_reducible rfl)
              try simp only [Act.put, List.setIfInBounds_toArray, List.set_cons_zero, List.set_cons_succ]
              refine' ordS_take (i := 4) (oi := { dst := some 51, op := Op.move (Operand.tmp 2), type := 42, pos := _, after := #[{ on := 3, ground := Ground.guard }], guard := some (3, true) }) (v := _) rfl (by kernel_rfl) (by kernel_rfl) (by kernel_rfl) (by kernel_rfl) (fun _ _ _ h => h) (by assumption) (Or.inl ⟨by rfl, ?hy458⟩) (fun _ => rfl) ?rest458
              case hy458 => (intro w hSw; (try dsimp only at hSw); go_simp; try with_reducible rfl)
              try simp only [Act.put, List.setIfInBounds_toArray, List.set_cons_zero, List.set_cons_succ]
              refine' ordS_take (i := 5) (oi := { dst := some 52, op := Op.fieldAddr 30 (Operand.tmp 14) 1, type := 0, pos := _, after := #[{ on := 3, ground := Ground.guard }], guard := some (3, true) }) (v := _) rfl (by kernel_rfl) (by kernel_rfl) (by kernel_rfl) (by kernel_rfl) (fun _ _ _ h => h) (by assumption) (Or.inl ⟨by rfl, ?hy459⟩) (fun _ => rfl) ?rest459
              case hy459 => (intro w hSw; (try dsimp only at hSw); go_simp; try with_reducible rfl)
              try simp only [Act.put, List.setIfInBounds_toArray, List.set_cons_zero, List.set_cons_succ]
              refine' ordS_take (i := 6) (oi := { dst := some 53, op := Op.load 3 (Operand.tmp 52), type := 3, pos := _, after := #[{ on := 5, ground := Ground.data }, { on := 3, ground := Ground.guard }], guard := some (3, true) }) (v := _) rfl (by kernel_rfl) (by kernel_rfl) (by kernel_rfl) (by kernel_rfl) (fun _ _ _ h => h) (by assumption) (Or.inl ⟨by rfl, ?hy460⟩) (fun _ => rfl) ?rest460
              case hy460 => (intro w hSw; (try dsimp only at hSw); go_simp; try with_reducible rfl)
              try simp only [Act.put, List.setIfInBounds_toArray, List.set_cons_zero, List.set_cons_succ]
              refine' ordS_take (i := 7) (oi := { dst := some 54, op := Op.fieldAddr 26 (Operand.tmp 4) 0, type := 0, pos := _, after := #[{ on := 3, ground := Ground.guard }], guard := some (3, true) }) (v := _) rfl (by kernel_rfl) (by kernel_rfl) (by kernel_rfl) (by kernel_rfl) (fun _ _ _ h => h) (by assumption) (Or.inl ⟨by rfl, ?hy461⟩) (fun _ => rfl) ?rest461
              case hy461 => (intro w hSw; (try dsimp only at hSw); go_simp; try with_reducible rfl)
              try simp only [Act.put, List.setIfInBounds_toArray, List.set_cons_zero, List.set_cons_succ]
              refine' ordS_take (i := 8) (oi := { dst := some 55, op := Op.fieldAddr 23 (Operand.tmp 54) 0, type := 0, pos := _, after := #[{ on := 7, ground := Ground.data }, { on := 3, ground := Ground.guard }], guard := some (3, true) }) (v := _) rfl (by kernel_rfl) (by kernel_rfl) (by kernel_rfl) (by kernel_rfl) (fun _ _ _ h => h) (by assumption) (Or.inl ⟨by rfl, ?hy462⟩) (fun _ => rfl) ?rest462
              case hy462 => (intro w hSw; (try dsimp only at hSw); go_simp; try with_reducible rfl)
              try simp only [Act.put, List.setIfInBounds_toArray, List.set_cons_zero, List.set_cons_succ]
              refine' ordS_take (i := 9) (oi := { dst := some 56, op := Op.load 3 (Operand.tmp 55), type := 3, pos := _, after := #[{ on := 8, ground := Ground.data }, { on := 3, ground := Ground.guard }], guard := some (3, true) }) (v := _) rfl (by kernel_rfl) (by kernel_rfl) (by kernel_rfl) (by kernel_rfl) (fun _ _ _ h => h) (by assumption) (Or.inl ⟨by rfl, ?hy463⟩) (fun _ => rfl) ?rest463
              case hy463 => (intro w hSw; (try dsimp only at hSw); go_simp; try with_reducible rfl)
              try simp only [Act.put, List.setIfInBounds_toArray, List.set_cons_zero, List.set_cons_succ]
              refine' ordS_take (i := 10) (oi := { dst := some 57, op := Op.binOp BinOp.mul 3 (Operand.tmp 53) (Operand.tmp 56) 3, type := 3, pos := _, after := #[{ on := 6, ground := Ground.data }, { on := 9, ground := Ground.data }, { on := 3, ground := Ground.guard }], guard := some (3, true) }) (v := _) rfl (by kernel_rfl) (by kernel_rfl) (by kernel_rfl) (by kernel_rfl) (fun _ _ _ h => h) (by assumption) (Or.inl ⟨by rfl, ?hy464⟩) (fun _ => rfl) ?rest464
              case hy464 => (intro w hSw; (try dsimp only at hSw); go_simp; try with_reducible rfl)
              try simp only [Act.put, List.setIfInBounds_toArray, List.set_cons_zero, List.set_cons_succ]
              refine' ordS_take (i := 11) (oi := { dst := some 58, op := Op.fieldAddr 30 (Operand.tmp 14) 0, type := 0, pos := _, after := #[{ on := 3, ground := Ground.guard }], guard := some (3, true) }) (v := _) rfl (by kernel_rfl) (by kernel_rfl) (by kernel_rfl) (by kernel_rfl) (fun _ _ _ h => h) (by assumption) (Or.inl ⟨by rfl, ?hy465⟩) (fun _ => rfl) ?rest465
              case hy465 => (intro w hSw; (try dsimp only at hSw); go_simp; try with_reducible rfl)
              try simp only [Act.put, List.setIfInBounds_toArray, List.set_cons_zero, List.set_cons_succ]
              refine' ordS_take (i := 12) (oi := { dst := some 59, op := Op.load 3 (Operand.tmp 58), type := 3, pos := _, after := #[{ on := 11, ground := Ground.data }, { on := 3, ground := Ground.guard }], guard := some (3, true) }) (v := _) rfl (by kernel_rfl) (by kernel_rfl) (by kernel_rfl) (by kernel_rfl) (fun _ _ _ h => h) (by assumption) (Or.inl ⟨by rfl, ?hy466⟩) (fun _ => rfl) ?rest466
              case hy466 => (intro w hSw; (try dsimp only at hSw); go_simp; try with_reducible rfl)
              try simp only [Act.put, List.setIfInBounds_toArray, List.set_cons_zero, List.set_cons_succ]
              refine' ordS_take (i := 13) (oi := { dst := some 60, op := Op.binOp BinOp.add 3 (Operand.tmp 57) (Operand.tmp 59) 3, type := 3, pos := _, after := #[{ on := 10, ground := Ground.data }, { on := 12, ground := Ground.data }, { on := 3, ground := Ground.guard }], guard := some (3, true) }) (v := _) rfl (by kernel_rfl) (by kernel_rfl) (by kernel_rfl) (by kernel_rfl) (fun _ _ _ h => h) (by assumption) (Or.inl ⟨by rfl, ?hy467⟩) (fun _ => rfl) ?rest467
              case hy467 => (intro w hSw; (try dsimp only at hSw); go_simp; try with_reducible rfl)
              try simp only [Act.put, List.setIfInBounds_toArray, List.set_cons_zero, List.set_cons_succ]
              refine' ordS_take (i := 14) (oi := { dst := some 61, op := Op.indexAddr 42 (Operand.tmp 51) (Operand.tmp 60), type := 0, pos := _, after := #[{ on := 4, ground := Ground.data }, { on := 13, ground := Ground.data }, { on := 3, ground := Ground.guard }], guard := some (3, true) }) (v := _) rfl (by kernel_rfl) (by kernel_rfl) (by kernel_rfl) (by kernel_rfl) (fun _ _ _ h => h) (by assumption) (Or.inl ⟨by rfl, ?hy468⟩) (fun _ => rfl) ?rest468
              case hy468 => (intro w hSw; (try dsimp only at hSw); go_simp; try with_reducible rfl)
              try simp only [Act.put, List.setIfInBounds_toArray, List.set_cons_zero, List.set_cons_succ]
              refine' ordS_take (i := 15) (oi := { dst := some 62, op := Op.load 36 (Operand.tmp 61), type := 36, pos := _, after := #[{ on := 14, ground := Ground.data }, { on := 3, ground := Ground.guard }], guard := some (3, true) }) (v := _) rfl (by kernel_rfl) (by kernel_rfl) (by kernel_rfl) (by kernel_rfl) (fun _ _ _ h => h) (by assumption) (Or.inl ⟨by rfl, ?hy469⟩) (fun _ => rfl) ?rest469
              case hy469 => (intro w hSw; (try dsimp only at hSw); go_simp; try with_reducible rfl)
              try simp only [Act.put, List.setIfInBounds_toArray, List.set_cons_zero, List.set_cons_succ]
              refine' ordS_take (i := 16) (oi := { dst := some 63, op := Op.binOp BinOp.neq 36 (Operand.tmp 62) (Operand.const (Value.int IntKind.u64 18446744073709551615)) 36, type := 4, pos := _, after := #[{ on := 15, ground := Ground.data }, { on := 3, ground := Ground.guard }], guard := some (3, true) }) (v := _) rfl (by kernel_rfl) (by kernel_rfl) (by kernel_rfl) (by kernel_rfl) (fun _ _ _ h => h) (by assumption) (Or.inl ⟨by rfl, ?hy470⟩) (fun _ => rfl) ?rest470
              case hy470 => (intro w hSw; (try dsimp only at hSw); go_simp; try with_reducible rfl)
              try simp only [Act.put, List.setIfInBounds_toArray, List.set_cons_zero, List.set_cons_succ]
              refine' ordS_take (i := 17) (oi := { dst := some 64, op := Op.pick (Operand.tmp 50) (Operand.tmp 63) (Operand.const (Value.bool false)), type := 4, pos := _, after := #[{ on := 3, ground := Ground.data }, { on := 16, ground := Ground.data }], guard := none }) (v := _) rfl (by kernel_rfl) (by kernel_rfl) (by kernel_rfl) (by kernel_rfl) (fun _ _ _ h => h) (by assumption) (Or.inl ⟨by rfl, ?hy471⟩) (fun _ => rfl) ?rest471
              case hy471 => (intro w hSw; (try dsimp only at hSw); go_simp; try with_reducible rfl)
              try simp only [Act.put, List.setIfInBounds_toArray, List.set_cons_zero, List.set_cons_succ]
              refine' ordS_take (i := 18) (oi := { dst := some 65, op := Op.move (Operand.tmp 64), type := 4, pos := _, after := #[{ on := 17, ground := Ground.data }, { on := 3, ground := Ground.chain }], guard := none }) (v := _) rfl (by kernel_rfl) (by kernel_rfl) (by kernel_rfl) (by kernel_rfl) (fun _ _ _ h => h) (by assumption) (Or.inl ⟨by rfl, ?hy472⟩) (fun _ => rfl) ?rest472
              case hy472 => (intro w hSw; (try dsimp only at hSw); go_simp; try with_reducible rfl)
              try simp only [Act.put, List.setIfInBounds_toArray, List.set_cons_zero, List.set_cons_succ]
              refine' ordS_take (i := 19) (oi := { dst := some 66, op := Op.move (Operand.tmp 2), type := 42, pos := _, after := #[{ on := 18, ground := Ground.guard }], guard := some (18, true) }) (v := _) rfl (by kernel_rfl) (by kernel_rfl) (by kernel_rfl) (by kernel_rfl) (fun _ _ _ h => h) (by assumption) (Or.inl ⟨by rfl, ?hy473⟩) (fun _ => rfl) ?rest473
              case hy473 => (intro w hSw; (try dsimp only at hSw); go_simp; try with_reducible rfl)
              try simp only [Act.put, List.setIfInBounds_toArray, List.set_cons_zero, List.set_cons_succ]
              refine' ordS_take (i := 20) (oi := { dst := some 67, op := Op.fieldAddr 30 (Operand.tmp 14) 1, type := 0, pos := _, after := #[{ on := 18, ground := Ground.guard }], guard := some (18, true) }) (v := _) rfl (by kernel_rfl) (by kernel_rfl) (by kernel_rfl) (by kernel_rfl) (fun _ _ _ h => h) (by assumption) (Or.inl ⟨by rfl, ?hy474⟩) (fun _ => rfl) ?rest474
              case hy474 => (intro w hSw; (try dsimp only at hSw); go_simp; try with_reducible rfl)
              try simp only [Act.put, List.setIfInBounds_toArray, List.set_cons_zero, List.set_cons_succ]
              refine' ordS_take (i := 21) (oi := { dst := some 68, op := Op.load 3 (Operand.tmp 67), type := 3, pos := _, after := #[{ on := 20, ground := Ground.data }, { on := 18, ground := Ground.guard }], guard := some (18, true) }) (v := _) rfl (by kernel_rfl) (by kernel_rfl) (by kernel_rfl) (by kernel_rfl) (fun _ _ _ h => h) (by assumption) (Or.inl ⟨by rfl, ?hy475⟩) (fun _ => rfl) ?rest475
              case hy475 => (intro w hSw; (try dsimp only at hSw); go_simp; try with_reducible rfl)
              try simp only [Act.put, List.setIfInBounds_toArray, List.set_cons_zero, List.set_cons_succ]
              refine' ordS_take (i := 22) (oi := { dst := some 69, op := Op.fieldAddr 26 (Operand.tmp 4) 0, type := 0, pos := _, after := #[{ on := 18, ground := Ground.guard }], guard := some (18, true) }) (v := _) rfl (by kernel_rfl) (by kernel_rfl) (by kernel_rfl) (by kernel_rfl) (fun _ _ _ h => h) (by assumption) (Or.inl ⟨by rfl, ?hy476⟩) (fun _ => rfl) ?rest476
              case hy476 => (intro w hSw; (try dsimp only at hSw); go_simp; try with_reducible rfl)
              try simp only [Act.put, List.setIfInBounds_toArray, List.set_cons_zero, List.set_cons_succ]
              refine' ordS_take (i := 23) (oi := { dst := some 70, op := Op.fieldAddr 23 (Operand.tmp 69) 0, type := 0, pos := _, after := #[{ on := 22, ground := Ground.data }, { on := 18, ground := Ground.guard }], guard := some (18, true) }) (v := _) rfl (by kernel_rfl) (by kernel_rfl) (by kernel_rfl) (by kernel_rfl) (fun _ _ _ h => h) (by assumption) (Or.inl ⟨by rfl, ?hy477⟩) (fun _ => rfl) ?rest477
              case hy477 => (intro w hSw; (try dsimp only at hSw); go_simp; try with_reducible rfl)
              try simp only [Act.put, List.setIfInBounds_toArray, List.set_cons_zero, List.set_cons_succ]
              refine' ordS_take (i := 24) (oi := { dst := some 71, op := Op.load 3 (Operand.tmp 70), type := 3, pos := _, after := #[{ on := 23, ground := Ground.data }, { on := 18, ground := Ground.guard }], guard := some (18, true) }) (v := _) rfl (by kernel_rfl) (by kernel_rfl) (by kernel_rfl) (by kernel_rfl) (fun _ _ _ h => h) (by assumption) (Or.inl ⟨by rfl, ?hy478⟩) (fun _ => rfl) ?rest478
              case hy478 => (intro w hSw; (try dsimp only at hSw); go_simp; try with_reducible rfl)
              try simp only [Act.put, List.setIfInBounds_toArray, List.set_cons_zero, List.set_cons_succ]
              refine' ordS_take (i := 25) (oi := { dst := some 72, op := Op.binOp BinOp.mul 3 (Operand.tmp 68) (Operand.tmp 71) 3, type := 3, pos := _, after := #[{ on := 21, ground := Ground.data }, { on := 24, ground := Ground.data }, { on := 18, ground := Ground.guard }], guard := some (18, true) }) (v := _) rfl (by kernel_rfl) (by kernel_rfl) (by kernel_rfl) (by kernel_rfl) (fun _ _ _ h => h) (by assumption) (Or.inl ⟨by rfl, ?hy479⟩) (fun _ => rfl) ?rest479
              case hy479 => (intro w hSw; (try dsimp only at hSw); go_simp; try with_reducible rfl)
              try simp only [Act.put, List.setIfInBounds_toArray, List.set_cons_zero, List.set_cons_succ]
              refine' ordS_take (i := 26) (oi := { dst := some 73, op := Op.fieldAddr 30 (Operand.tmp 14) 0, type := 0, pos := _, after := #[{ on := 18, ground := Ground.guard }], guard := some (18, true) }) (v := _) rfl (by kernel_rfl) (by kernel_rfl) (by kernel_rfl) (by kernel_rfl) (fun _ _ _ h => h) (by assumption) (Or.inl ⟨by rfl, ?hy480⟩) (fun _ => rfl) ?rest480
              case hy480 => (intro w hSw; (try dsimp only at hSw); go_simp; try with_reducible rfl)
              try simp only [Act.put, List.setIfInBounds_toArray, List.set_cons_zero, List.set_cons_succ]
              refine' ordS_take (i := 27) (oi := { dst := some 74, op := Op.load 3 (Operand.tmp 73), type := 3, pos := _, after := #[{ on := 26, ground := Ground.data }, { on := 18, ground := Ground.guard }], guard := some (18, true) }) (v := _) rfl (by kernel_rfl) (by kernel_rfl) (by kernel_rfl) (by kernel_rfl) (fun _ _ _ h => h) (by assumption) (Or.inl ⟨by rfl, ?hy481⟩) (fun _ => rfl) ?rest481
              case hy481 => (intro w hSw; (try dsimp only at hSw); go_simp; try with_reducible rfl)
              try simp only [Act.put, List.setIfInBounds_toArray, List.set_cons_zero, List.set_cons_succ]
              refine' ordS_take (i := 28) (oi := { dst := some 75, op := Op.binOp BinOp.add 3 (Operand.tmp 72) (Operand.tmp 74) 3, type := 3, pos := _, after := #[{ on := 25, ground := Ground.data }, { on := 27, ground := Ground.data }, { on := 18, ground := Ground.guard }], guard := some (18, true) }) (v := _) rfl (by kernel_rfl) (by kernel_rfl) (by kernel_rfl) (by kernel_rfl) (fun _ _ _ h => h) (by assumption) (Or.inl ⟨by rfl, ?hy482⟩) (fun _ => rfl) ?rest482
              case hy482 => (intro w hSw; (try dsimp only at hSw); go_simp; try with_reducible rfl)
              try simp only [Act.put, List.setIfInBounds_toArray, List.set_cons_zero, List.set_cons_succ]
              refine' ordS_take (i := 29) (oi := { dst := some 76, op := Op.indexAddr 42 (Operand.tmp 66) (Operand.tmp 75), type := 0, pos := _, after := #[{ on := 19, ground := Ground.data }, { on := 28, ground := Ground.data }, { on := 18, ground := Ground.guard }], guard := some (18, true) }) (v := _) rfl (by kernel_rfl) (by kernel_rfl) (by kernel_rfl) (by kernel_rfl) (fun _ _ _ h => h) (by assumption) (Or.inl ⟨by rfl, ?hy483⟩) (fun _ => rfl) ?rest483
              case hy483 => (intro w hSw; (try dsimp only at hSw); go_simp; try with_reducible rfl)
              try simp only [Act.put, List.setIfInBounds_toArray, List.set_cons_zero, List.set_cons_succ]
              refine' ordS_take (i := 30) (oi := { dst := some 77, op := Op.load 36 (Operand.tmp 76), type := 36, pos := _, after := #[{ on := 29, ground := Ground.data }, { on := 18, ground := Ground.guard }], guard := some (18, true) }) (v := _) rfl (by kernel_rfl) (by kernel_rfl) (by kernel_rfl) (by kernel_rfl) (fun _ _ _ h => h) (by assumption) (Or.inl ⟨by rfl, ?hy484⟩) (fun _ => rfl) ?rest484
              case hy484 => (intro w hSw; (try dsimp only at hSw); go_simp; try with_reducible rfl)
              try simp only [Act.put, List.setIfInBounds_toArray, List.set_cons_zero, List.set_cons_succ]
              refine' ordS_take (i := 31) (oi := { dst := some 78, op := Op.load 26 (Operand.tmp 4), type := 26, pos := _, after := #[{ on := 18, ground := Ground.guard }], guard := some (18, true) }) (v := _) rfl (by kernel_rfl) (by kernel_rfl) (by kernel_rfl) (by kernel_rfl) (fun _ _ _ h => h) (by assumption) (Or.inl ⟨by rfl, ?hy485⟩) (fun _ => rfl) ?rest485
              case hy485 => (intro w hSw; (try dsimp only at hSw); go_simp; try with_reducible rfl)
              try simp only [Act.put, List.setIfInBounds_toArray, List.set_cons_zero, List.set_cons_succ]
              refine' ordS_take (i := 32) (oi := { dst := some 79, op := Op.load 30 (Operand.tmp 11), type := 30, pos := _, after := #[{ on := 18, ground := Ground.guard }], guard := some (18, true) }) (v := _) rfl (by kernel_rfl) (by kernel_rfl) (by kernel_rfl) (by kernel_rfl) (fun _ _ _ h => h) (by assumption) (Or.inl ⟨by rfl, ?hy486⟩) (fun _ => rfl) ?rest486
              case hy486 => (intro w hSw; (try dsimp only at hSw); go_simp; try with_reducible rfl)
              try simp only [Act.put, List.setIfInBounds_toArray, List.set_cons_zero, List.set_cons_succ]
              refine' ordS_take (i := 35) (oi := { dst := some 82, op := Op.move (Operand.tmp 12), type := 36, pos := _, after := #[{ on := 18, ground := Ground.guard }], guard := some (18, true) }) (v := _) rfl (by kernel_rfl) (by kernel_rfl) (by kernel_rfl) (by kernel_rfl) (fun _ _ _ h => h) (by assumption) (Or.inl ⟨by rfl, ?hy487⟩) (fun _ => rfl) ?rest487
              case hy487 => (intro w hSw; (try dsimp only at hSw); go_simp; try with_reducible rfl)
              try simp only [Act.put, List.setIfInBounds_toArray, List.set_cons_zero, List.set_cons_succ]
              refine ordS_one (i := 33) (o := { dst := some 80, op := Op.call { callee := Callee.value (Operand.func 36), args := #[Operand.tmp 78, Operand.tmp 79], argTypes := #[26, 30] }, type := 36, pos := _, after := #[{ on := 31, ground := Ground.data }, { on := 32, ground := Ground.data }, { on := 18, ground := Ground.chain }, { on := 18, ground := Ground.guard }], guard := some (18, true) }) (by kernel_rfl) rfl (by rfl) (fun K hK => ?_)
              go_simp
              refine ⟨trivial, ?_⟩
              with_reducible refine (callsIn_wide.2 (HCC.out _ (HRWW.out _ hB))).mono ?_
              rintro e V4 ⟨rfl, hbV4⟩
              replace hB := bl_tr hB hbV4
              have hS4 : (fun W9 : World => W9.cell? ⟨w.heap.size, 0, none⟩ = some (.int .i64 A) ∧ W9.cell? ⟨w.heap.size, 1, none⟩ = some (.int .i64 B) ∧ W9.cell? ⟨w.heap.size, 2, none⟩ = some (.slice a zs.length cap) ∧ W9.cell? ⟨w.heap.size + 1, 0, none⟩ = some (.int .i64 X) ∧ W9.cell? ⟨w.heap.size + 1, 1, none⟩ = some (.int .i64 Y) ∧ W9.cell? ⟨w.heap.size + 1, 2, none⟩ = some (.int .i64 U) ∧ W9.cell? ⟨w.heap.size + 1, 3, none⟩ = some (.int .i64 V) ∧ W9.cell? ⟨cp, 0, none⟩ = some (.int .i64 C.1) ∧ W9.cell? ⟨cp, 1, none⟩ = some (.int .i64 C.2) ∧ W9.cell? ⟨mp, 0, none⟩ = some (.int .i64 M.1) ∧ W9.cell? ⟨mp, 1, none⟩ = some (.int .i64 M.2) ∧ W9.cell? ⟨gb, go + mi, none⟩ = some (.int .u64 v)) V4 := ⟨cell_later hbV4 hS3.1, cell_later hbV4 hS3.2.1, cell_later hbV4 hS3.2.2.1, cell_later hbV4 hS3.2.2.2.1, cell_later hbV4 hS3.2.2.2.2.1, cell_later hbV4 hS3.2.2.2.2.2.1, cell_later hbV4 hS3.2.2.2.2.2.2.1, cell_later hbV4 hS3.2.2.2.2.2.2.2.1, cell_later hbV4 hS3.2.2.2.2.2.2.2.2.1, cell_later hbV4 hS3.2.2.2.2.2.2.2.2.2.1, cell_later hbV4 hS3.2.2.2.2.2.2.2.2.2.2.1, cell_later hbV4 hS3.2.2.2.2.2.2.2.2.2.2.2⟩
              refine hK _ _ hS4 ?_
              clear hK K
              try simp only [Act.put, List.setIfInBounds_toArray, List.set_cons_zero, List.set_cons_succ]
              refine' ordS_take (i := 34) (oi := { dst := some 81, op := Op.binOp BinOp.add 36 (Operand.tmp 77) (Operand.tmp 80) 36, type := 36, pos := _, after := #[{ on := 30, ground := Ground.data }, { on := 33, ground := Ground.data }, { on := 18, ground := Ground.guard }], guard := some (18, true) }) (v := _) rfl (by kernel_rfl) (by kernel_rfl) (by kernel_rfl) (by kernel_rfl) (fun _ _ _ h => h) (by assumption) (Or.inl ⟨by rfl, ?hy488⟩) (fun _ => rfl) ?rest488
              case hy488 => (intro w hSw; (try dsimp only at hSw); go_simp; try with_reducible rfl)
              try simp only [Act.put, List.setIfInBounds_toArray, List.set_cons_zero, List.set_cons_succ]
              refine' ordS_take (i := 36) (oi := { dst := some 83, op := Op.binOp BinOp.eql 36 (Operand.tmp 81) (Operand.tmp 82) 36, type := 4, pos := _, after := #[{ on := 34, ground := Ground.data }, { on := 35, ground := Ground.data }, { on := 18, ground := Ground.guard }], guard := some (18, true) }) (v := _) rfl (by kernel_rfl) (by kernel_rfl) (by kernel_rfl) (by kernel_rfl) (fun _ _ _ h => h) (by assumption) (Or.inl ⟨by rfl, ?hy489⟩) (fun _ => rfl) ?rest489
              case hy489 => (intro w hSw; (try dsimp only at hSw); go_simp; try with_reducible rfl)
              try simp only [Act.put, List.setIfInBounds_toArray, List.set_cons_zero, List.set_cons_succ]
              refine' ordS_take (i := 37) (oi := { dst := some 84, op := Op.pick (Operand.tmp 65) (Operand.tmp 83) (Operand.const (Value.bool false)), type := 4, pos := _, after := #[{ on := 18, ground := Ground.data }, { on := 36, ground := Ground.data }], guard := none }) (v := _) rfl (by kernel_rfl) (by kernel_rfl) (by kernel_rfl) (by kernel_rfl) (fun _ _ _ h => h) (by assumption) (Or.inl ⟨by rfl, ?hy490⟩) (fun _ => rfl) ?rest490
              case hy490 => (intro w hSw; (try dsimp only at hSw); go_simp; try with_reducible rfl)
              try simp only [Act.put, List.setIfInBounds_toArray, List.set_cons_zero, List.set_cons_succ]
              refine ordS_done (by kernel_rfl) ?_
              have HI9 := Lib.hid (bl_tr HB51.out hB)
              clear hS hS3 hS4 hB kp0 kp1 kf0 kf1 kf2 kx0 kx1 kx2 kx3 km0 km1 kv zk0 zk1 zk2 zk3
              go_wp2
              go_roundw
              case rel => exact ⟨d + 1, HEQ.out, by go_num, rfl, HI9.out⟩
              case measure => simp [intOf]; omega
end Go.Proofs.YtgbhafadibdmcaaDoor
