/- GateRuns: the law's walk. -/
import Derived.Test.YthmmmblkjgcchaaDoorQh
namespace Go.Proofs.YthmmmblkjgcchaaDoor
open Go.RowKit

def SinceB (w0 W : World) : Prop := Below w0.heap.size w0 W
theorem SinceB.below {w0 W W' : World} (h : SinceB w0 W) (hb : Below W.heap.size W W') : SinceB w0 W' := bl_tr h hb
theorem cell_ne {z p : IC × IC} (h : z ≠ p) : z.1.1 ≠ p.1.1 ∨ (z.1.1 = p.1.1 ∧ z.1.2 ≠ p.1.2) ∨ (z.1.1 = p.1.1 ∧ z.1.2 = p.1.2 ∧ z.2.1 ≠ p.2.1) ∨ (z.1.1 = p.1.1 ∧ z.1.2 = p.1.2 ∧ z.2.1 = p.2.1 ∧ z.2.2 ≠ p.2.2) := by
  obtain ⟨⟨a, b⟩, c, d⟩ := z
  obtain ⟨⟨e, f⟩, g, h'⟩ := p
  simp only [ne_eq, Prod.mk.injEq] at h ⊢
  omega
set_option maxRecDepth 100000 in
set_option maxHeartbeats 8000000 in
theorem qruns_loop (X Y : Int) (a : Option Addr) (cap : Nat) (zs : List Int) (S i j : Int) (w : World) (hr : RowH w a zs) (hin : AllH zs) (hs : Stp w) (hsm : zs.length ≤ 260) (hc : chkF X Y zs.length = 0) (hx : brdX X Y S i j = 0) :
    Calls Tryd.prog 6 #[.agg #[.int .i64 X, .int .i64 Y, .slice a zs.length cap], .agg #[.int .i64 X, .int .i64 Y, .int .i64 S], .agg #[.int .i64 i, .int .i64 j]] w fun e w' => e = .returned (.bool true) ∧ Below w.heap.size w w' := by
  have hA := bl0 w
  have H0 := Lib.hid (fun w => small_g X Y a zs.length cap w)
  rw [decide_eq_true hsm] at H0
  have H1 := Lib.hid (fun w => rcheck_any X Y a zs.length cap w)
  rw [hc] at H1
  have H2 := Lib.hid (fun w hr hs => btwn_any X Y a cap zs X Y S i j w hr hs)
  unfold BtwR at H2
  have hf : fitX X Y zs.length X Y = 0 := by unfold fitX; rw [hc, if_neg (fun h => h rfl), if_pos ⟨rfl, rfl⟩]
  have hbx : btwX X Y zs.length X Y S i j = 0 := by unfold btwX; rw [hf, if_neg (fun h => h rfl)]; exact hx
  have hbl : btwL X Y zs X Y S i j = gatesL (opnF X zs) (brdP X Y S i j) := by unfold btwL; rw [hbx, if_pos rfl]
  rw [hbx, hbl] at H2
  have H3 := Lib.hid (fun w hs => border_p X Y S i j w hs)
  unfold BorR at H3
  rw [hx] at H3
  obtain ⟨hrt, m1, m2, m3, _, hof⟩ := brd_facts hx
  have hon := brd_on hx
  have honce := brd_once hx
  have hle := brdP_le X Y S i j
  obtain ⟨hm, hn⟩ := chk_of hc
  obtain ⟨L, hL⟩ : ∃ L, brdP X Y S i j = L := ⟨_, rfl⟩
  rw [hL] at H2 H3 hof hon honce hle
  have hgl := gatesL_le (opnF X zs) L
  have HNG := Lib.hid (fun (k : Nat) (hk : k < L.length) => next_gate (op := opnF X zs) honce hk)
  have HOA := Lib.hid (fun (k : Nat) (hk : k < L.length) => opnAt_lt (op := opnF X zs) hk)
  have HGS := Lib.hid (fun (k : Nat) (hk : k < L.length) => gatesTo_succ (op := opnF X zs) hk)
  have HGZ := Lib.hid (fun (k : Nat) (h : opnAt (opnF X zs) L k = false) => gatesTo_no h)
  have HGL := Lib.hid (fun (k : Nat) => gatesTo_le (opnF X zs) L k)
  have HOP := Lib.hid (fun (k : Nat) (hk : k < L.length) => And.intro (hon _ (List.getElem_mem hk)) (hof _ (List.getElem_mem hk)))
  have HC := Lib.hid (fun (c : IC) (ho : onB X Y c = true) w hr => rcostG_any X Y a cap zs c w hr hin ho hn)
  have HOF := Lib.hid (fun (c : IC) (ho : onB X Y c = true) w => (show Calls Tryd.prog 24 #[.agg #[.int .i64 X, .int .i64 Y, .int .i64 S], .agg #[.int .i64 c.1, .int .i64 c.2]] w fun e w' => e = .returned (.tuple #[.int .i64 (ofP X S c), .int .i64 0]) ∧ Below w.heap.size w w' by
    have h := of_p X Y S c w
    have e := ofX_yes.2 ⟨hrt, ho⟩
    unfold ofV at h
    rw [e, if_pos rfl] at h
    exact h))
  have HCI := Lib.hid (fun c => costG_in (A := X) hin c)
  have HOPN := Lib.hid (fun p => (show opnF X zs p = (!(costAt X zs p.1 == 0) && !(costAt X zs p.2 == 0)) from rfl))
  obtain ⟨o, hoE⟩ : ∃ o, opnAt (opnF X zs) L = o := ⟨_, rfl⟩
  obtain ⟨G, hG⟩ : ∃ G, gatesTo (opnF X zs) L = G := ⟨_, rfl⟩
  have hgE : gatesL (opnF X zs) L = G L.length := by rw [← hG]; rfl
  rw [hoE, hG, hgE] at HNG
  rw [hoE] at HOA
  rw [hoE, hG] at HGS HGZ
  rw [hG] at HGL
  rw [hgE] at H2 hgl
  have hGZ : G 0 = [] := by rw [← hG]; rfl
  have HSZ := Lib.hid (fun (k : Nat) (h : k = L.length ∨ o k = false) => since_shut (n := L.length) h)
  have HSN := Lib.hid (fun (k : Nat) (h : o k = false) => since_next_no (n := L.length) h)
  have HSO := Lib.hid (fun (k : Nat) (hk : k < L.length) (h : o k = true) => since_open hk h)
  have HMM := Lib.hid m3
  generalize opnF X zs = op at HOA HOPN
  have ex : (X == X) = true := beq_self_eq_true _
  have ey : (Y == Y) = true := beq_self_eq_true _
  clear hf hbx hbl hof hon honce hm hn hL hoE hG hgE hsm hc hx hrt m1 m2 m3
  go_enter Tryd.func6, Tryd.ntmps6
  go_wp2_with fail
  refine (H0.out _).mono ?_
  rintro e w1 ⟨rfl, hb⟩
  have hk : Below w.heap.size w w1 := by first | exact hb | exact bl_tr (bl_al (bl0 _) _) hb | exact bl_tr (bl_dr (bl_al (bl0 _) _)) hb | exact bl_tr (bl_al (bl_al (bl0 _) _) _) hb | exact bl_tr (bl_dr (bl_al (bl_al (bl0 _) _) _)) hb | exact bl_tr (bl_al (bl_al (bl_al (bl0 _) _) _) _) hb | exact bl_tr (bl_dr (bl_al (bl_al (bl_al (bl0 _) _) _) _)) hb | exact bl_tr (bl_al (bl_al (bl_al (bl_al (bl0 _) _) _) _) _) hb | exact bl_tr (bl_dr (bl_al (bl_al (bl_al (bl_al (bl0 _) _) _) _) _)) hb | exact bl_tr (bl_al (bl_al (bl_al (bl_al (bl_al (bl0 _) _) _) _) _) _) hb | exact bl_tr (bl_dr (bl_al (bl_al (bl_al (bl_al (bl_al (bl0 _) _) _) _) _) _)) hb | exact bl_tr (bl_al (bl_al (bl_al (bl_al (bl_al (bl_al (bl0 _) _) _) _) _) _) _) hb | exact bl_tr (bl_dr (bl_al (bl_al (bl_al (bl_al (bl_al (bl_al (bl0 _) _) _) _) _) _) _)) hb | exact bl_tr (bl_dr (bl0 _)) hb
  replace hA := bl_tr hA hk
  have f0 := cell_later hb (v := .int .i64 X) (a := ⟨w.heap.size, 0, none⟩) (by simp [go_sem])
  have f1 := cell_later hb (v := .int .i64 Y) (a := ⟨w.heap.size, 1, none⟩) (by simp [go_sem])
  have f2 := cell_later hb (v := .slice a zs.length cap) (a := ⟨w.heap.size, 2, none⟩) (by simp [go_sem])
  have p0 := cell_later hb (v := .int .i64 X) (a := ⟨w.heap.size + 1, 0, none⟩) (by simp [go_sem])
  have p1 := cell_later hb (v := .int .i64 Y) (a := ⟨w.heap.size + 1, 1, none⟩) (by simp [go_sem])
  have p2 := cell_later hb (v := .int .i64 S) (a := ⟨w.heap.size + 1, 2, none⟩) (by simp [go_sem])
  have t0 := cell_later hb (v := .int .i64 i) (a := ⟨w.heap.size + 1 + 1, 0, none⟩) (by simp [go_sem])
  have t1 := cell_later hb (v := .int .i64 j) (a := ⟨w.heap.size + 1 + 1, 1, none⟩) (by simp [go_sem])
  clear hb hk
  have zf0 := blk_lt f0
  have zf1 := blk_lt f1
  have zf2 := blk_lt f2
  have zp0 := blk_lt p0
  have zp1 := blk_lt p1
  have zp2 := blk_lt p2
  have zt0 := blk_lt t0
  have zt1 := blk_lt t1
  go_wp2_with fail
  refine (H1.out _).mono ?_
  rintro e w2 ⟨rfl, hb⟩
  have hk : Below w1.heap.size w1 w2 := by first | exact hb | exact bl_tr (bl_al (bl0 _) _) hb | exact bl_tr (bl_dr (bl_al (bl0 _) _)) hb | exact bl_tr (bl_al (bl_al (bl0 _) _) _) hb | exact bl_tr (bl_dr (bl_al (bl_al (bl0 _) _) _)) hb | exact bl_tr (bl_al (bl_al (bl_al (bl0 _) _) _) _) hb | exact bl_tr (bl_dr (bl_al (bl_al (bl_al (bl0 _) _) _) _)) hb | exact bl_tr (bl_al (bl_al (bl_al (bl_al (bl0 _) _) _) _) _) hb | exact bl_tr (bl_dr (bl_al (bl_al (bl_al (bl_al (bl0 _) _) _) _) _)) hb | exact bl_tr (bl_al (bl_al (bl_al (bl_al (bl_al (bl0 _) _) _) _) _) _) hb | exact bl_tr (bl_dr (bl_al (bl_al (bl_al (bl_al (bl_al (bl0 _) _) _) _) _) _)) hb | exact bl_tr (bl_al (bl_al (bl_al (bl_al (bl_al (bl_al (bl0 _) _) _) _) _) _) _) hb | exact bl_tr (bl_dr (bl_al (bl_al (bl_al (bl_al (bl_al (bl_al (bl0 _) _) _) _) _) _) _)) hb | exact bl_tr (bl_dr (bl0 _)) hb
  replace hA := bl_tr hA hk
  replace f0 := cell_later hk f0
  replace f1 := cell_later hk f1
  replace f2 := cell_later hk f2
  replace p0 := cell_later hk p0
  replace p1 := cell_later hk p1
  replace p2 := cell_later hk p2
  replace t0 := cell_later hk t0
  replace t1 := cell_later hk t1
  clear hb hk
  have zf0 := blk_lt f0
  have zf1 := blk_lt f1
  have zf2 := blk_lt f2
  have zp0 := blk_lt p0
  have zp1 := blk_lt p1
  have zp2 := blk_lt p2
  have zt0 := blk_lt t0
  have zt1 := blk_lt t1
  go_wp2_with fail
  refine (H2.out _ (hr.below (by first | exact hA | exact (bl_al hA _) | exact (bl_dr (bl_al hA _)) | exact (bl_al (bl_al hA _) _) | exact (bl_dr (bl_al (bl_al hA _) _)) | exact (bl_al (bl_al (bl_al hA _) _) _) | exact (bl_dr (bl_al (bl_al (bl_al hA _) _) _)) | exact (bl_al (bl_al (bl_al (bl_al hA _) _) _) _) | exact (bl_dr (bl_al (bl_al (bl_al (bl_al hA _) _) _) _)) | exact (bl_al (bl_al (bl_al (bl_al (bl_al hA _) _) _) _) _) | exact (bl_dr (bl_al (bl_al (bl_al (bl_al (bl_al hA _) _) _) _) _)) | exact (bl_al (bl_al (bl_al (bl_al (bl_al (bl_al hA _) _) _) _) _) _) | exact (bl_dr (bl_al (bl_al (bl_al (bl_al (bl_al (bl_al hA _) _) _) _) _) _)) | exact (bl_dr hA))) (hs.below (by first | exact hA | exact (bl_al hA _) | exact (bl_dr (bl_al hA _)) | exact (bl_al (bl_al hA _) _) | exact (bl_dr (bl_al (bl_al hA _) _)) | exact (bl_al (bl_al (bl_al hA _) _) _) | exact (bl_dr (bl_al (bl_al (bl_al hA _) _) _)) | exact (bl_al (bl_al (bl_al (bl_al hA _) _) _) _) | exact (bl_dr (bl_al (bl_al (bl_al (bl_al hA _) _) _) _)) | exact (bl_al (bl_al (bl_al (bl_al (bl_al hA _) _) _) _) _) | exact (bl_dr (bl_al (bl_al (bl_al (bl_al (bl_al hA _) _) _) _) _)) | exact (bl_al (bl_al (bl_al (bl_al (bl_al (bl_al hA _) _) _) _) _) _) | exact (bl_dr (bl_al (bl_al (bl_al (bl_al (bl_al (bl_al hA _) _) _) _) _) _)) | exact (bl_dr hA)))).mono ?_
  rintro e w3 ⟨va, vc, rfl, hvc, hrow, hb⟩
  have hk : Below w2.heap.size w2 w3 := by first | exact hb | exact bl_tr (bl_al (bl0 _) _) hb | exact bl_tr (bl_dr (bl_al (bl0 _) _)) hb | exact bl_tr (bl_al (bl_al (bl0 _) _) _) hb | exact bl_tr (bl_dr (bl_al (bl_al (bl0 _) _) _)) hb | exact bl_tr (bl_al (bl_al (bl_al (bl0 _) _) _) _) hb | exact bl_tr (bl_dr (bl_al (bl_al (bl_al (bl0 _) _) _) _)) hb | exact bl_tr (bl_al (bl_al (bl_al (bl_al (bl0 _) _) _) _) _) hb | exact bl_tr (bl_dr (bl_al (bl_al (bl_al (bl_al (bl0 _) _) _) _) _)) hb | exact bl_tr (bl_al (bl_al (bl_al (bl_al (bl_al (bl0 _) _) _) _) _) _) hb | exact bl_tr (bl_dr (bl_al (bl_al (bl_al (bl_al (bl_al (bl0 _) _) _) _) _) _)) hb | exact bl_tr (bl_al (bl_al (bl_al (bl_al (bl_al (bl_al (bl0 _) _) _) _) _) _) _) hb | exact bl_tr (bl_dr (bl_al (bl_al (bl_al (bl_al (bl_al (bl_al (bl0 _) _) _) _) _) _) _)) hb | exact bl_tr (bl_dr (bl0 _)) hb
  replace hA := bl_tr hA hk
  replace f0 := cell_later hk f0
  replace f1 := cell_later hk f1
  replace f2 := cell_later hk f2
  replace p0 := cell_later hk p0
  replace p1 := cell_later hk p1
  replace p2 := cell_later hk p2
  replace t0 := cell_later hk t0
  replace t1 := cell_later hk t1
  clear hb hk
  have zf0 := blk_lt f0
  have zf1 := blk_lt f1
  have zf2 := blk_lt f2
  have zp0 := blk_lt p0
  have zp1 := blk_lt p1
  have zp2 := blk_lt p2
  have zt0 := blk_lt t0
  have zt1 := blk_lt t1
  go_wp2_with fail
  refine (H3.out _ (hs.below (by first | exact hA | exact (bl_al hA _) | exact (bl_dr (bl_al hA _)) | exact (bl_al (bl_al hA _) _) | exact (bl_dr (bl_al (bl_al hA _) _)) | exact (bl_al (bl_al (bl_al hA _) _) _) | exact (bl_dr (bl_al (bl_al (bl_al hA _) _) _)) | exact (bl_al (bl_al (bl_al (bl_al hA _) _) _) _) | exact (bl_dr (bl_al (bl_al (bl_al (bl_al hA _) _) _) _)) | exact (bl_al (bl_al (bl_al (bl_al (bl_al hA _) _) _) _) _) | exact (bl_dr (bl_al (bl_al (bl_al (bl_al (bl_al hA _) _) _) _) _)) | exact (bl_al (bl_al (bl_al (bl_al (bl_al (bl_al hA _) _) _) _) _) _) | exact (bl_dr (bl_al (bl_al (bl_al (bl_al (bl_al (bl_al hA _) _) _) _) _) _)) | exact (bl_dr hA)))).mono ?_
  rintro e w4 ⟨ba, bc, rfl, hbr, hb, hbc⟩
  have hk : Below w3.heap.size w3 w4 := by first | exact hb | exact bl_tr (bl_al (bl0 _) _) hb | exact bl_tr (bl_dr (bl_al (bl0 _) _)) hb | exact bl_tr (bl_al (bl_al (bl0 _) _) _) hb | exact bl_tr (bl_dr (bl_al (bl_al (bl0 _) _) _)) hb | exact bl_tr (bl_al (bl_al (bl_al (bl0 _) _) _) _) hb | exact bl_tr (bl_dr (bl_al (bl_al (bl_al (bl0 _) _) _) _)) hb | exact bl_tr (bl_al (bl_al (bl_al (bl_al (bl0 _) _) _) _) _) hb | exact bl_tr (bl_dr (bl_al (bl_al (bl_al (bl_al (bl0 _) _) _) _) _)) hb | exact bl_tr (bl_al (bl_al (bl_al (bl_al (bl_al (bl0 _) _) _) _) _) _) hb | exact bl_tr (bl_dr (bl_al (bl_al (bl_al (bl_al (bl_al (bl0 _) _) _) _) _) _)) hb | exact bl_tr (bl_al (bl_al (bl_al (bl_al (bl_al (bl_al (bl0 _) _) _) _) _) _) _) hb | exact bl_tr (bl_dr (bl_al (bl_al (bl_al (bl_al (bl_al (bl_al (bl0 _) _) _) _) _) _) _)) hb | exact bl_tr (bl_dr (bl0 _)) hb
  replace hA := bl_tr hA hk
  replace hrow := hrow.below hk
  replace f0 := cell_later hk f0
  replace f1 := cell_later hk f1
  replace f2 := cell_later hk f2
  replace p0 := cell_later hk p0
  replace p1 := cell_later hk p1
  replace p2 := cell_later hk p2
  replace t0 := cell_later hk t0
  replace t1 := cell_later hk t1
  clear hb hk
  have zf0 := blk_lt f0
  have zf1 := blk_lt f1
  have zf2 := blk_lt f2
  have zp0 := blk_lt p0
  have zp1 := blk_lt p1
  have zp2 := blk_lt p2
  have zt0 := blk_lt t0
  have zt1 := blk_lt t1
  have HR := Lib.hid hbr
  have HG := Lib.hid hrow
  have HA := Lib.hid hA
  have F0 := Lib.hid f0; have F1 := Lib.hid f1; have F2 := Lib.hid f2; have P0 := Lib.hid p0; have P1 := Lib.hid p1; have P2 := Lib.hid p2
  clear t0 t1 zt0 zt1 hvc hbc
  go_wp2_with fail
  clear hA f0 f1 f2 p0 p1 p2 hbr hrow zf0 zf1 zf2 zp0 zp1 zp2
  go_loopw [11, 12, 13, 14, 15, 16, 17, 18, 19, 20] (fun nv sv iv _ _ _ _ _ _ _ wr => ∃ k : Nat, k ≤ L.length ∧ iv = .int .i64 k ∧ nv = .int .i64 (G k).length ∧ sv = .int .i64 (sinceV o L.length k) ∧ Below w4.heap.size w4 wr) (fun _ _ iv _ _ _ _ _ _ _ _ => L.length - (intOf iv).toNat)
  case atStart => exact ⟨0, Nat.zero_le _, rfl, by rw [hGZ]; rfl, rfl, bl0 _⟩
  case round =>
    obtain ⟨k, hk, rfl, rfl, rfl, hB⟩ := hrel
    have hA := bl_tr HA.out hB
    have f0 := cell_later hB F0.out; have f1 := cell_later hB F1.out; have f2 := cell_later hB F2.out
    have p0 := cell_later hB P0.out; have p1 := cell_later hB P1.out; have p2 := cell_later hB P2.out
    have zf0 := blk_lt f0
    have zp0 := blk_lt p0
    have hk0 : (0 : Int) ≤ (k : Int) := by omega
    obtain ⟨sv, hsv⟩ : ∃ sv, sinceV o L.length k = sv := ⟨_, rfl⟩
    rw [hsv]
    have HSV := Lib.hid hsv
    clear hsv
    by_cases hlt : k < L.length
    case neg =>
      obtain rfl : k = L.length := by omega
      have hge : ¬ (L.length : Int) < (L.length : Int) := by omega
      have hs1 := HSZ.out L.length (.inl rfl)
      rw [HSV.out] at hs1
      have e1 : (((G L.length).length : Int) == ((G L.length).length : Int)) = true := beq_self_eq_true _
      have e2 : ((sv : Int) != 1) = true := by rw [bne_iff_ne]; omega
      clear hs1
      go_wp2_with fail
      refine (awake12 _ (hs.below (by first | exact hA | exact (bl_al hA _) | exact (bl_dr (bl_al hA _)) | exact (bl_al (bl_al hA _) _) | exact (bl_dr (bl_al (bl_al hA _) _)) | exact (bl_al (bl_al (bl_al hA _) _) _) | exact (bl_dr (bl_al (bl_al (bl_al hA _) _) _)) | exact (bl_al (bl_al (bl_al (bl_al hA _) _) _) _) | exact (bl_dr (bl_al (bl_al (bl_al (bl_al hA _) _) _) _)) | exact (bl_al (bl_al (bl_al (bl_al (bl_al hA _) _) _) _) _) | exact (bl_dr (bl_al (bl_al (bl_al (bl_al (bl_al hA _) _) _) _) _)) | exact (bl_al (bl_al (bl_al (bl_al (bl_al (bl_al hA _) _) _) _) _) _) | exact (bl_dr (bl_al (bl_al (bl_al (bl_al (bl_al (bl_al hA _) _) _) _) _) _)) | exact (bl_dr hA)))).mono ?_
      rintro e w8 ⟨rfl, hb⟩
      have hk : Below wr.heap.size wr w8 := by first | exact hb | exact bl_tr (bl_al (bl0 _) _) hb | exact bl_tr (bl_dr (bl_al (bl0 _) _)) hb | exact bl_tr (bl_al (bl_al (bl0 _) _) _) hb | exact bl_tr (bl_dr (bl_al (bl_al (bl0 _) _) _)) hb | exact bl_tr (bl_al (bl_al (bl_al (bl0 _) _) _) _) hb | exact bl_tr (bl_dr (bl_al (bl_al (bl_al (bl0 _) _) _) _)) hb | exact bl_tr (bl_al (bl_al (bl_al (bl_al (bl0 _) _) _) _) _) hb | exact bl_tr (bl_dr (bl_al (bl_al (bl_al (bl_al (bl0 _) _) _) _) _)) hb | exact bl_tr (bl_al (bl_al (bl_al (bl_al (bl_al (bl0 _) _) _) _) _) _) hb | exact bl_tr (bl_dr (bl_al (bl_al (bl_al (bl_al (bl_al (bl0 _) _) _) _) _) _)) hb | exact bl_tr (bl_al (bl_al (bl_al (bl_al (bl_al (bl_al (bl0 _) _) _) _) _) _) _) hb | exact bl_tr (bl_dr (bl_al (bl_al (bl_al (bl_al (bl_al (bl_al (bl0 _) _) _) _) _) _) _)) hb | exact bl_tr (bl_dr (bl0 _)) hb
      replace hA := bl_tr hA hk
      clear hb hk
      go_wp2
      go_ret
      exact ⟨rfl, hA⟩
    case pos =>
      have hlt2 : (k : Int) < (L.length : Int) := by omega
      obtain ⟨gb, go, rfl, ⟨q0, q1⟩, q2, q3⟩ := (HR.out.below hB).cell hlt
      have hop := HOP.out k hlt
      have hho := HOA.out k hlt
      obtain ⟨p, hp⟩ : ∃ p, L[k] = p := ⟨_, rfl⟩
      rw [hp] at q0 q1 q2 q3 hop hho
      have HPE := Lib.hid hp
      clear hp
      obtain ⟨⟨on1, on2⟩, of1, of2⟩ := hop
      have HO1 := Lib.hid (HOF.out p.1 on1)
      have HO2 := Lib.hid (HOF.out p.2 on2)
      have HC1 := Lib.hid (HC.out p.1 on1)
      have HC2 := Lib.hid (HC.out p.2 on2)
      obtain ⟨m5, m6, m7, m8, u1, u2, u3, u4⟩ := inB_iff.1 on1
      obtain ⟨_, _, _, _, v1, v2, v3, v4⟩ := inB_iff.1 on2
      have hmm := HMM.out
      rw [of1] at HO1
      rw [of2] at HO2
      have hne : (min i j == max i j) = false := by rw [beq_eq_false_iff_ne]; omega
      generalize min i j = g1 at *
      generalize max i j = g2 at *
      have zq0 := blk_lt q0
      have x1 : ¬ p.1.1 < 0 := by omega
      have x2 : ¬ p.1.2 < 0 := by omega
      have x3 : ¬ X ≤ p.2.1 := by omega
      have x4 : ¬ Y ≤ p.2.2 := by omega
      have x5 : ¬ p.2.1 < 0 := by omega
      have x6 : ¬ p.2.2 < 0 := by omega
      have x7 : ¬ X ≤ p.1.1 := by omega
      have x8 : ¬ Y ≤ p.1.2 := by omega
      clear u1 u2 u3 u4 v1 v2 v3 v4 m5 m6 m7 m8 hmm on1 on2 of1 of2
      have hopp := HOPN.out p
      rw [← hho] at hopp
      have HSH := Lib.hid (show o k = false → sv ≠ 1 from fun h => by rw [← HSV.out]; exact HSZ.out k (.inr h))
      have HNN := Lib.hid (show o k = false → sinceV o L.length (k + 1) = 0 from fun h => HSN.out k h)
      have HGN := Lib.hid (show o k = false → G (k + 1) = G k from fun h => HGZ.out k h)
      have hci1 := HCI.out p.1
      have hci2 := HCI.out p.2
      generalize costAt X zs p.1 = c1 at *
      generalize costAt X zs p.2 = c2 at *
      have hBB : SinceB w4 wr := hB
      clear hB
      go_wp2_with fail
      refine (HO1.out _).mono ?_
      rintro e w5 ⟨rfl, hb⟩
      have hk : Below wr.heap.size wr w5 := by first | exact hb | exact bl_tr (bl_al (bl0 _) _) hb | exact bl_tr (bl_dr (bl_al (bl0 _) _)) hb | exact bl_tr (bl_al (bl_al (bl0 _) _) _) hb | exact bl_tr (bl_dr (bl_al (bl_al (bl0 _) _) _)) hb | exact bl_tr (bl_al (bl_al (bl_al (bl0 _) _) _) _) hb | exact bl_tr (bl_dr (bl_al (bl_al (bl_al (bl0 _) _) _) _)) hb | exact bl_tr (bl_al (bl_al (bl_al (bl_al (bl0 _) _) _) _) _) hb | exact bl_tr (bl_dr (bl_al (bl_al (bl_al (bl_al (bl0 _) _) _) _) _)) hb | exact bl_tr (bl_al (bl_al (bl_al (bl_al (bl_al (bl0 _) _) _) _) _) _) hb | exact bl_tr (bl_dr (bl_al (bl_al (bl_al (bl_al (bl_al (bl0 _) _) _) _) _) _)) hb | exact bl_tr (bl_al (bl_al (bl_al (bl_al (bl_al (bl_al (bl0 _) _) _) _) _) _) _) hb | exact bl_tr (bl_dr (bl_al (bl_al (bl_al (bl_al (bl_al (bl_al (bl0 _) _) _) _) _) _) _)) hb | exact bl_tr (bl_dr (bl0 _)) hb
      replace hA := bl_tr hA hk
      replace hBB := hBB.below hk
      replace f0 := cell_later hk f0
      replace f1 := cell_later hk f1
      replace f2 := cell_later hk f2
      replace p0 := cell_later hk p0
      replace p1 := cell_later hk p1
      replace p2 := cell_later hk p2
      have a0 := cell_later hb (v := .int .i64 p.1.1) (a := ⟨wr.heap.size, 0, none⟩) (by simp [go_sem])
      have a1 := cell_later hb (v := .int .i64 p.1.2) (a := ⟨wr.heap.size, 1, none⟩) (by simp [go_sem])
      have b0 := cell_later hb (v := .int .i64 p.2.1) (a := ⟨wr.heap.size + 1, 0, none⟩) (by simp [go_sem])
      have b1 := cell_later hb (v := .int .i64 p.2.2) (a := ⟨wr.heap.size + 1, 1, none⟩) (by simp [go_sem])
      clear hb hk
      have zf0 := blk_lt f0
      have zf1 := blk_lt f1
      have zf2 := blk_lt f2
      have zp0 := blk_lt p0
      have zp1 := blk_lt p1
      have zp2 := blk_lt p2
      have za0 := blk_lt a0
      have za1 := blk_lt a1
      have zb0 := blk_lt b0
      have zb1 := blk_lt b1
      clear q0 q1 q2 q3 zq0
      go_wp2_with fail
      refine (HO2.out _).mono ?_
      rintro e w6 ⟨rfl, hb⟩
      have hk : Below w5.heap.size w5 w6 := by first | exact hb | exact bl_tr (bl_al (bl0 _) _) hb | exact bl_tr (bl_dr (bl_al (bl0 _) _)) hb | exact bl_tr (bl_al (bl_al (bl0 _) _) _) hb | exact bl_tr (bl_dr (bl_al (bl_al (bl0 _) _) _)) hb | exact bl_tr (bl_al (bl_al (bl_al (bl0 _) _) _) _) hb | exact bl_tr (bl_dr (bl_al (bl_al (bl_al (bl0 _) _) _) _)) hb | exact bl_tr (bl_al (bl_al (bl_al (bl_al (bl0 _) _) _) _) _) hb | exact bl_tr (bl_dr (bl_al (bl_al (bl_al (bl_al (bl0 _) _) _) _) _)) hb | exact bl_tr (bl_al (bl_al (bl_al (bl_al (bl_al (bl0 _) _) _) _) _) _) hb | exact bl_tr (bl_dr (bl_al (bl_al (bl_al (bl_al (bl_al (bl0 _) _) _) _) _) _)) hb | exact bl_tr (bl_al (bl_al (bl_al (bl_al (bl_al (bl_al (bl0 _) _) _) _) _) _) _) hb | exact bl_tr (bl_dr (bl_al (bl_al (bl_al (bl_al (bl_al (bl_al (bl0 _) _) _) _) _) _) _)) hb | exact bl_tr (bl_dr (bl0 _)) hb
      replace hA := bl_tr hA hk
      replace hBB := hBB.below hk
      replace f0 := cell_later hk f0
      replace f1 := cell_later hk f1
      replace f2 := cell_later hk f2
      replace p0 := cell_later hk p0
      replace p1 := cell_later hk p1
      replace p2 := cell_later hk p2
      replace a0 := cell_later hk a0
      replace a1 := cell_later hk a1
      replace b0 := cell_later hk b0
      replace b1 := cell_later hk b1
      clear hb hk
      have zf0 := blk_lt f0
      have zf1 := blk_lt f1
      have zf2 := blk_lt f2
      have zp0 := blk_lt p0
      have zp1 := blk_lt p1
      have zp2 := blk_lt p2
      have za0 := blk_lt a0
      have za1 := blk_lt a1
      have zb0 := blk_lt b0
      have zb1 := blk_lt b1
      go_wp2_with fail
      refine (HC1.out _ (hr.below (by first | exact hA | exact (bl_al hA _) | exact (bl_dr (bl_al hA _)) | exact (bl_al (bl_al hA _) _) | exact (bl_dr (bl_al (bl_al hA _) _)) | exact (bl_al (bl_al (bl_al hA _) _) _) | exact (bl_dr (bl_al (bl_al (bl_al hA _) _) _)) | exact (bl_al (bl_al (bl_al (bl_al hA _) _) _) _) | exact (bl_dr (bl_al (bl_al (bl_al (bl_al hA _) _) _) _)) | exact (bl_al (bl_al (bl_al (bl_al (bl_al hA _) _) _) _) _) | exact (bl_dr (bl_al (bl_al (bl_al (bl_al (bl_al hA _) _) _) _) _)) | exact (bl_al (bl_al (bl_al (bl_al (bl_al (bl_al hA _) _) _) _) _) _) | exact (bl_dr (bl_al (bl_al (bl_al (bl_al (bl_al (bl_al hA _) _) _) _) _) _)) | exact (bl_dr hA)))).mono ?_
      rintro e w7 ⟨rfl, hb⟩
      have hk : Below w6.heap.size w6 w7 := by first | exact hb | exact bl_tr (bl_al (bl0 _) _) hb | exact bl_tr (bl_dr (bl_al (bl0 _) _)) hb | exact bl_tr (bl_al (bl_al (bl0 _) _) _) hb | exact bl_tr (bl_dr (bl_al (bl_al (bl0 _) _) _)) hb | exact bl_tr (bl_al (bl_al (bl_al (bl0 _) _) _) _) hb | exact bl_tr (bl_dr (bl_al (bl_al (bl_al (bl0 _) _) _) _)) hb | exact bl_tr (bl_al (bl_al (bl_al (bl_al (bl0 _) _) _) _) _) hb | exact bl_tr (bl_dr (bl_al (bl_al (bl_al (bl_al (bl0 _) _) _) _) _)) hb | exact bl_tr (bl_al (bl_al (bl_al (bl_al (bl_al (bl0 _) _) _) _) _) _) hb | exact bl_tr (bl_dr (bl_al (bl_al (bl_al (bl_al (bl_al (bl0 _) _) _) _) _) _)) hb | exact bl_tr (bl_al (bl_al (bl_al (bl_al (bl_al (bl_al (bl0 _) _) _) _) _) _) _) hb | exact bl_tr (bl_dr (bl_al (bl_al (bl_al (bl_al (bl_al (bl_al (bl0 _) _) _) _) _) _) _)) hb | exact bl_tr (bl_dr (bl0 _)) hb
      replace hA := bl_tr hA hk
      replace hBB := hBB.below hk
      replace f0 := cell_later hk f0
      replace f1 := cell_later hk f1
      replace f2 := cell_later hk f2
      replace p0 := cell_later hk p0
      replace p1 := cell_later hk p1
      replace p2 := cell_later hk p2
      replace a0 := cell_later hk a0
      replace a1 := cell_later hk a1
      replace b0 := cell_later hk b0
      replace b1 := cell_later hk b1
      clear hb hk
      have zf0 := blk_lt f0
      have zf1 := blk_lt f1
      have zf2 := blk_lt f2
      have zp0 := blk_lt p0
      have zp1 := blk_lt p1
      have zp2 := blk_lt p2
      have za0 := blk_lt a0
      have za1 := blk_lt a1
      have zb0 := blk_lt b0
      have zb1 := blk_lt b1
      clear x1 x2 x3 x4 x5 x6 x7 x8 hne
      by_cases hc1 : c1 = 0
      case pos =>
        have ho : o k = false := by rw [hopp, hc1]; rfl
        have hd1 : ¬ 0 < c1 := by omega
        clear hc1 hopp hho hci1 hci2
        have hz1 : ((sv : Int) == 1) = false := by rw [beq_eq_false_iff_ne]; intro h; exact HSH.out ho (by omega)
        have hnx := HNN.out ho
        have hgn := HGN.out ho
        clear f0 f1 f2 p0 p1 p2 a0 a1 b0 b1 zf0 zf1 zf2 zp0 zp1 zp2 za0 za1 zb0 zb1
        go_wp2
        go_roundw
        case rel => exact ⟨k + 1, by omega, by go_num, by rw [hgn], by rw [hnx]; rfl, hBB⟩
        case measure => simp [intOf]; omega
      case neg =>
        have hd1 : 0 < c1 := by omega
        go_wp2_with fail
        refine (HC2.out _ (hr.below (by first | exact hA | exact (bl_al hA _) | exact (bl_dr (bl_al hA _)) | exact (bl_al (bl_al hA _) _) | exact (bl_dr (bl_al (bl_al hA _) _)) | exact (bl_al (bl_al (bl_al hA _) _) _) | exact (bl_dr (bl_al (bl_al (bl_al hA _) _) _)) | exact (bl_al (bl_al (bl_al (bl_al hA _) _) _) _) | exact (bl_dr (bl_al (bl_al (bl_al (bl_al hA _) _) _) _)) | exact (bl_al (bl_al (bl_al (bl_al (bl_al hA _) _) _) _) _) | exact (bl_dr (bl_al (bl_al (bl_al (bl_al (bl_al hA _) _) _) _) _)) | exact (bl_al (bl_al (bl_al (bl_al (bl_al (bl_al hA _) _) _) _) _) _) | exact (bl_dr (bl_al (bl_al (bl_al (bl_al (bl_al (bl_al hA _) _) _) _) _) _)) | exact (bl_dr hA)))).mono ?_
        rintro e w8 ⟨rfl, hb⟩
        have hk : Below w7.heap.size w7 w8 := by first | exact hb | exact bl_tr (bl_al (bl0 _) _) hb | exact bl_tr (bl_dr (bl_al (bl0 _) _)) hb | exact bl_tr (bl_al (bl_al (bl0 _) _) _) hb | exact bl_tr (bl_dr (bl_al (bl_al (bl0 _) _) _)) hb | exact bl_tr (bl_al (bl_al (bl_al (bl0 _) _) _) _) hb | exact bl_tr (bl_dr (bl_al (bl_al (bl_al (bl0 _) _) _) _)) hb | exact bl_tr (bl_al (bl_al (bl_al (bl_al (bl0 _) _) _) _) _) hb | exact bl_tr (bl_dr (bl_al (bl_al (bl_al (bl_al (bl0 _) _) _) _) _)) hb | exact bl_tr (bl_al (bl_al (bl_al (bl_al (bl_al (bl0 _) _) _) _) _) _) hb | exact bl_tr (bl_dr (bl_al (bl_al (bl_al (bl_al (bl_al (bl0 _) _) _) _) _) _)) hb | exact bl_tr (bl_al (bl_al (bl_al (bl_al (bl_al (bl_al (bl0 _) _) _) _) _) _) _) hb | exact bl_tr (bl_dr (bl_al (bl_al (bl_al (bl_al (bl_al (bl_al (bl0 _) _) _) _) _) _) _)) hb | exact bl_tr (bl_dr (bl0 _)) hb
        replace hA := bl_tr hA hk
        replace hBB := hBB.below hk
        replace f0 := cell_later hk f0
        replace f1 := cell_later hk f1
        replace f2 := cell_later hk f2
        replace p0 := cell_later hk p0
        replace p1 := cell_later hk p1
        replace p2 := cell_later hk p2
        replace a0 := cell_later hk a0
        replace a1 := cell_later hk a1
        replace b0 := cell_later hk b0
        replace b1 := cell_later hk b1
        clear hb hk
        have zf0 := blk_lt f0
        have zf1 := blk_lt f1
        have zf2 := blk_lt f2
        have zp0 := blk_lt p0
        have zp1 := blk_lt p1
        have zp2 := blk_lt p2
        have za0 := blk_lt a0
        have za1 := blk_lt a1
        have zb0 := blk_lt b0
        have zb1 := blk_lt b1
        by_cases hc2 : c2 = 0
        case pos =>
          have ho : o k = false := by rw [hopp, hc2]; simp
          clear hc1 hopp hho hci1 hci2
          subst hc2
          have hz1 : ((sv : Int) == 1) = false := by rw [beq_eq_false_iff_ne]; intro h; exact HSH.out ho (by omega)
          have hnx := HNN.out ho
          have hgn := HGN.out ho
          clear f0 f1 f2 p0 p1 p2 a0 a1 b0 b1 zf0 zf1 zf2 zp0 zp1 zp2 za0 za1 zb0 zb1
          go_wp2
          go_roundw
          case rel => exact ⟨k + 1, by omega, by go_num, by rw [hgn], by rw [hnx]; rfl, hBB⟩
          case measure => simp [intOf]; omega
        case neg =>
          have ho : o k = true := by rw [hopp]; simp [hc1, hc2]
          have hd2 : 0 < c2 := by omega
          obtain ⟨so1, so2⟩ := HSO.out k hlt ho
          rw [HSV.out] at so1 so2
          obtain ⟨g, hg⟩ : ∃ g, isG o L.length k = g := ⟨_, rfl⟩
          have hgs := HGS.out k hlt
          have hng := HNG.out k hlt
          rw [hg] at so1 so2 hgs hng
          rw [HPE.out] at hgs hng
          have S1 := Lib.hid so1; have S2 := Lib.hid so2; have GG := Lib.hid hgs
          have hrow := HG.out.below hBB
          obtain ⟨s2, hs2⟩ : ∃ s2, (if sv = 0 then 1 else sv) = s2 := ⟨_, rfl⟩
          have HS2 := Lib.hid hs2
          clear hc1 hc2 hopp hho hci1 hci2 so1 so2 hg hgs hs2 ho
          by_cases hz : sv = 0
          · have hz2 : ((sv : Int) == 0) = true := by rw [beq_iff_eq]; omega
            have h2 := HS2.out
            rw [if_pos hz] at h2
            have S3 := Lib.hid (show (1 : Int) = (s2 : Int) by rw [← h2]; rfl)
            have S4 := Lib.hid (show s2 = 2 → sv = 2 by omega)
            clear hz h2
            go_upto_region 27 with fail
            rw [S3.out]
            go_cut [209] from 188 to 208 (fun s wx => s = .bool g ∧ Below w8.heap.size w8 wx)
            case first =>
              by_cases hln : (G k).length < (G L.length).length
              · obtain ⟨gb2, go2, rfl, ⟨r0, r1⟩, r2, r3⟩ := hrow.cell hln
                obtain ⟨z, hzz⟩ : ∃ z, (G L.length)[(G k).length] = z := ⟨_, rfl⟩
                rw [hzz] at r0 r1 r2 r3
                have hzp : g = true ↔ z = p := by
                  cases g
                  · have := hng.2 rfl hln
                    rw [hzz] at this
                    exact ⟨fun h => (by cases h), fun h => absurd h this⟩
                  · obtain ⟨_, h2⟩ := hng.1 rfl
                    rw [hzz] at h2
                    exact ⟨fun _ => h2, fun _ => rfl⟩
                have hln2 : decide (((G k).length : Int) < ((G L.length).length : Int)) = true := decide_eq_true (by omega)
                have hln3 : ((G k).length : Int) < ((G L.length).length : Int) := by omega
                have hln4 : (0 : Int) ≤ ((G k).length : Int) := by omega
                have zr0 := blk_lt r0
                clear hng hzz hrow
                by_cases hzq : z = p
                · have hgt := hzp.2 hzq
                  subst hgt
                  subst hzq
                  have n0 : (z.1.1 == z.1.1) = true := beq_self_eq_true _
                  have n1 : (z.1.2 == z.1.2) = true := beq_self_eq_true _
                  have n2 : (z.2.1 == z.2.1) = true := beq_self_eq_true _
                  have n3 : (z.2.2 == z.2.2) = true := beq_self_eq_true _
                  clear hzp hln
                  go_quiet (fail)
                  go_wp2
                  go_meet
                  exact ⟨rfl, bl_drn _ _⟩
                · have hgt : g = false := by cases g; rfl; exact absurd (hzp.1 rfl) hzq
                  subst hgt
                  have hcs := cell_ne hzq
                  clear hzp hln hzq
                  rcases hcs with h1 | ⟨h1, h2⟩ | ⟨h1, h2, h3⟩ | ⟨h1, h2, h3, h4⟩
                  · have n0 : (z.1.1 == p.1.1) = false := by rw [beq_eq_false_iff_ne]; exact h1
                    clear h1
                    go_quiet (fail)
                    go_wp2
                    go_meet
                    exact ⟨rfl, bl_drn _ _⟩
                  · have n0 : (z.1.1 == p.1.1) = true := by rw [beq_iff_eq]; exact h1
                    have n1 : (z.1.2 == p.1.2) = false := by rw [beq_eq_false_iff_ne]; exact h2
                    clear h1 h2
                    go_quiet (fail)
                    go_wp2
                    go_meet
                    exact ⟨rfl, bl_drn _ _⟩
                  · have n0 : (z.1.1 == p.1.1) = true := by rw [beq_iff_eq]; exact h1
                    have n1 : (z.1.2 == p.1.2) = true := by rw [beq_iff_eq]; exact h2
                    have n2 : (z.2.1 == p.2.1) = false := by rw [beq_eq_false_iff_ne]; exact h3
                    clear h1 h2 h3
                    go_quiet (fail)
                    go_wp2
                    go_meet
                    exact ⟨rfl, bl_drn _ _⟩
                  · have n0 : (z.1.1 == p.1.1) = true := by rw [beq_iff_eq]; exact h1
                    have n1 : (z.1.2 == p.1.2) = true := by rw [beq_iff_eq]; exact h2
                    have n2 : (z.2.1 == p.2.1) = true := by rw [beq_iff_eq]; exact h3
                    have n3 : (z.2.2 == p.2.2) = false := by rw [beq_eq_false_iff_ne]; exact h4
                    clear h1 h2 h3 h4
                    go_quiet (fail)
                    go_wp2
                    go_meet
                    exact ⟨rfl, bl_drn _ _⟩
              · have hgt : g = false := by
                  cases g
                  · rfl
                  · exact absurd (hng.1 rfl).1 hln
                subst hgt
                have hln2 : decide (((G k).length : Int) < ((G L.length).length : Int)) = false := decide_eq_false (by omega)
                have hln6 : decide ((G k).length < (G L.length).length) = false := decide_eq_false hln
                clear hng hln
                refine (wpIn_wide (n := 11)).1 ?_
                have hS : (fun _ : World => True) w8.drew := trivial
                refine ordS_begin (S := (fun _ => True)) (by kernel_rfl) trivial (fun hH => ?_)
                first
                  | (refine' ordS_take (i := 0) (oi := { dst := some 188, op := Op.move (Operand.tmp 11), type := 3, pos := _, after := #[], guard := none }) (v := _) rfl (by kernel_rfl) (by kernel_rfl) (by kernel_rfl) (by kernel_rfl) (fun _ _ _ h => h) (by assumption) (Or.inl ⟨by rfl, ?hy1⟩) (fun _ => rfl) ?rest1
                     case hy1 => (intro w hSw; (try dsimp only at hSw); go_simp; try with_reducible rfl))
                  | (refine ordS_take (i := 0) (oi := { dst := some 188, op := Op.move (Operand.tmp 11), type := 3, pos := _, after := #[], guard := none }) (v := undef) rfl (by kernel_rfl) (by kernel_rfl) (by kernel_rfl) (by kernel_rfl) (fun _ _ _ h => h) (by assumption) (Or.inr ⟨by rfl, rfl⟩) (fun _ => rfl) ?_)
                try simp only [Act.put, List.setIfInBounds_toArray, List.set_cons_zero, List.set_cons_succ]
                first
                  | (refine' ordS_take (i := 1) (oi := { dst := some 189, op := Op.move (Operand.tmp 7), type := 32, pos := _, after := #[], guard := none }) (v := _) rfl (by kernel_rfl) (by kernel_rfl) (by kernel_rfl) (by kernel_rfl) (fun _ _ _ h => h) (by assumption) (Or.inl ⟨by rfl, ?hy2⟩) (fun _ => rfl) ?rest2
                     case hy2 => (intro w hSw; (try dsimp only at hSw); go_simp; try with_reducible rfl))
                  | (refine ordS_take (i := 1) (oi := { dst := some 189, op := Op.move (Operand.tmp 7), type := 32, pos := _, after := #[], guard := none }) (v := undef) rfl (by kernel_rfl) (by kernel_rfl) (by kernel_rfl) (by kernel_rfl) (fun _ _ _ h => h) (by assumption) (Or.inr ⟨by rfl, rfl⟩) (fun _ => rfl) ?_)
                try simp only [Act.put, List.setIfInBounds_toArray, List.set_cons_zero, List.set_cons_succ]
                first
                  | (refine' ordS_take (i := 2) (oi := { dst := some 190, op := Op.call { callee := Callee.builtin Builtin.len, args := #[Operand.tmp 189], argTypes := #[32] }, type := 3, pos := _, after := #[{ on := 1, ground := Ground.data }], guard := none }) (v := _) rfl (by kernel_rfl) (by kernel_rfl) (by kernel_rfl) (by kernel_rfl) (fun _ _ _ h => h) (by assumption) (Or.inl ⟨by rfl, ?hy3⟩) (fun _ => rfl) ?rest3
                     case hy3 => (intro w hSw; (try dsimp only at hSw); go_simp; try with_reducible rfl))
                  | (refine ordS_take (i := 2) (oi := { dst := some 190, op := Op.call { callee := Callee.builtin Builtin.len, args := #[Operand.tmp 189], argTypes := #[32] }, type := 3, pos := _, after := #[{ on := 1, ground := Ground.data }], guard := none }) (v := undef) rfl (by kernel_rfl) (by kernel_rfl) (by kernel_rfl) (by kernel_rfl) (fun _ _ _ h => h) (by assumption) (Or.inr ⟨by rfl, rfl⟩) (fun _ => rfl) ?_)
                try simp only [Act.put, List.setIfInBounds_toArray, List.set_cons_zero, List.set_cons_succ]
                first
                  | (refine' ordS_take (i := 3) (oi := { dst := some 191, op := Op.binOp BinOp.lss 3 (Operand.tmp 188) (Operand.tmp 190) 3, type := 4, pos := _, after := #[{ on := 0, ground := Ground.data }, { on := 2, ground := Ground.data }], guard := none }) (v := _) rfl (by kernel_rfl) (by kernel_rfl) (by kernel_rfl) (by kernel_rfl) (fun _ _ _ h => h) (by assumption) (Or.inl ⟨by rfl, ?hy4⟩) (fun _ => rfl) ?rest4
                     case hy4 => (intro w hSw; (try dsimp only at hSw); go_simp; try with_reducible rfl))
                  | (refine ordS_take (i := 3) (oi := { dst := some 191, op := Op.binOp BinOp.lss 3 (Operand.tmp 188) (Operand.tmp 190) 3, type := 4, pos := _, after := #[{ on := 0, ground := Ground.data }, { on := 2, ground := Ground.data }], guard := none }) (v := undef) rfl (by kernel_rfl) (by kernel_rfl) (by kernel_rfl) (by kernel_rfl) (fun _ _ _ h => h) (by assumption) (Or.inr ⟨by rfl, rfl⟩) (fun _ => rfl) ?_)
                try simp only [Act.put, List.setIfInBounds_toArray, List.set_cons_zero, List.set_cons_succ]
                try simp only [hln2, hln6]
                first
                  | (refine' ordS_take (i := 4) (oi := { dst := some 192, op := Op.move (Operand.tmp 191), type := 4, pos := _, after := #[{ on := 3, ground := Ground.data }], guard := none }) (v := _) rfl (by kernel_rfl) (by kernel_rfl) (by kernel_rfl) (by kernel_rfl) (fun _ _ _ h => h) (by assumption) (Or.inl ⟨by rfl, ?hy5⟩) (fun _ => rfl) ?rest5
                     case hy5 => (intro w hSw; (try dsimp only at hSw); go_simp; try with_reducible rfl))
                  | (refine ordS_take (i := 4) (oi := { dst := some 192, op := Op.move (Operand.tmp 191), type := 4, pos := _, after := #[{ on := 3, ground := Ground.data }], guard := none }) (v := undef) rfl (by kernel_rfl) (by kernel_rfl) (by kernel_rfl) (by kernel_rfl) (fun _ _ _ h => h) (by assumption) (Or.inr ⟨by rfl, rfl⟩) (fun _ => rfl) ?_)
                try simp only [Act.put, List.setIfInBounds_toArray, List.set_cons_zero, List.set_cons_succ]
                refine ordS_take (i := 5) (oi := { dst := some 193, op := Op.move (Operand.tmp 7), type := 32, pos := _, after := #[{ on := 4, ground := Ground.guard }], guard := some (4, true) }) (v := undef) rfl (by kernel_rfl) (by kernel_rfl) (by kernel_rfl) (by kernel_rfl) (fun _ _ _ h => h) (by assumption) (Or.inr ⟨by rfl, rfl⟩) (fun _ => rfl) ?_
                try simp only [Act.put, List.setIfInBounds_toArray, List.set_cons_zero, List.set_cons_succ]
                refine ordS_take (i := 6) (oi := { dst := some 194, op := Op.move (Operand.tmp 11), type := 3, pos := _, after := #[{ on := 4, ground := Ground.guard }], guard := some (4, true) }) (v := undef) rfl (by kernel_rfl) (by kernel_rfl) (by kernel_rfl) (by kernel_rfl) (fun _ _ _ h => h) (by assumption) (Or.inr ⟨by rfl, rfl⟩) (fun _ => rfl) ?_
                try simp only [Act.put, List.setIfInBounds_toArray, List.set_cons_zero, List.set_cons_succ]
                refine ordS_take (i := 7) (oi := { dst := some 195, op := Op.indexAddr 32 (Operand.tmp 193) (Operand.tmp 194), type := 0, pos := _, after := #[{ on := 5, ground := Ground.data }, { on := 6, ground := Ground.data }, { on := 4, ground := Ground.guard }], guard := some (4, true) }) (v := undef) rfl (by kernel_rfl) (by kernel_rfl) (by kernel_rfl) (by kernel_rfl) (fun _ _ _ h => h) (by assumption) (Or.inr ⟨by rfl, rfl⟩) (fun _ => rfl) ?_
                try simp only [Act.put, List.setIfInBounds_toArray, List.set_cons_zero, List.set_cons_succ]
                refine ordS_take (i := 8) (oi := { dst := some 196, op := Op.fieldAddr 59 (Operand.tmp 195) 0, type := 0, pos := _, after := #[{ on := 7, ground := Ground.data }, { on := 4, ground := Ground.guard }], guard := some (4, true) }) (v := undef) rfl (by kernel_rfl) (by kernel_rfl) (by kernel_rfl) (by kernel_rfl) (fun _ _ _ h => h) (by assumption) (Or.inr ⟨by rfl, rfl⟩) (fun _ => rfl) ?_
                try simp only [Act.put, List.setIfInBounds_toArray, List.set_cons_zero, List.set_cons_succ]
                refine ordS_take (i := 9) (oi := { dst := some 197, op := Op.load 57 (Operand.tmp 196), type := 57, pos := _, after := #[{ on := 8, ground := Ground.data }, { on := 4, ground := Ground.guard }], guard := some (4, true) }) (v := undef) rfl (by kernel_rfl) (by kernel_rfl) (by kernel_rfl) (by kernel_rfl) (fun _ _ _ h => h) (by assumption) (Or.inr ⟨by rfl, rfl⟩) (fun _ => rfl) ?_
                try simp only [Act.put, List.setIfInBounds_toArray, List.set_cons_zero, List.set_cons_succ]
                refine ordS_take (i := 10) (oi := { dst := some 198, op := Op.load 57 (Operand.tmp 14), type := 57, pos := _, after := #[{ on := 4, ground := Ground.guard }], guard := some (4, true) }) (v := undef) rfl (by kernel_rfl) (by kernel_rfl) (by kernel_rfl) (by kernel_rfl) (fun _ _ _ h => h) (by assumption) (Or.inr ⟨by rfl, rfl⟩) (fun _ => rfl) ?_
                try simp only [Act.put, List.setIfInBounds_toArray, List.set_cons_zero, List.set_cons_succ]
                refine ordS_take (i := 11) (oi := { dst := some 199, op := Op.binOp BinOp.eql 57 (Operand.tmp 197) (Operand.tmp 198) 57, type := 4, pos := _, after := #[{ on := 9, ground := Ground.data }, { on := 10, ground := Ground.data }, { on := 4, ground := Ground.guard }], guard := some (4, true) }) (v := undef) rfl (by kernel_rfl) (by kernel_rfl) (by kernel_rfl) (by kernel_rfl) (fun _ _ _ h => h) (by assumption) (Or.inr ⟨by rfl, rfl⟩) (fun _ => rfl) ?_
                try simp only [Act.put, List.setIfInBounds_toArray, List.set_cons_zero, List.set_cons_succ]
                first
                  | (refine' ordS_take (i := 12) (oi := { dst := some 200, op := Op.pick (Operand.tmp 192) (Operand.tmp 199) (Operand.const (Value.bool false)), type := 4, pos := _, after := #[{ on := 4, ground := Ground.data }, { on := 11, ground := Ground.data }], guard := none }) (v := _) rfl (by kernel_rfl) (by kernel_rfl) (by kernel_rfl) (by kernel_rfl) (fun _ _ _ h => h) (by assumption) (Or.inl ⟨by rfl, ?hy13⟩) (fun _ => rfl) ?rest13
                     case hy13 => (intro w hSw; (try dsimp only at hSw); go_simp; try with_reducible rfl))
                  | (refine ordS_take (i := 12) (oi := { dst := some 200, op := Op.pick (Operand.tmp 192) (Operand.tmp 199) (Operand.const (Value.bool false)), type := 4, pos := _, after := #[{ on := 4, ground := Ground.data }, { on := 11, ground := Ground.data }], guard := none }) (v := undef) rfl (by kernel_rfl) (by kernel_rfl) (by kernel_rfl) (by kernel_rfl) (fun _ _ _ h => h) (by assumption) (Or.inr ⟨by rfl, rfl⟩) (fun _ => rfl) ?_)
                try simp only [Act.put, List.setIfInBounds_toArray, List.set_cons_zero, List.set_cons_succ]
                first
                  | (refine' ordS_take (i := 13) (oi := { dst := some 201, op := Op.move (Operand.tmp 200), type := 4, pos := _, after := #[{ on := 12, ground := Ground.data }, { on := 4, ground := Ground.chain }], guard := none }) (v := _) rfl (by kernel_rfl) (by kernel_rfl) (by kernel_rfl) (by kernel_rfl) (fun _ _ _ h => h) (by assumption) (Or.inl ⟨by rfl, ?hy14⟩) (fun _ => rfl) ?rest14
                     case hy14 => (intro w hSw; (try dsimp only at hSw); go_simp; try with_reducible rfl))
                  | (refine ordS_take (i := 13) (oi := { dst := some 201, op := Op.move (Operand.tmp 200), type := 4, pos := _, after := #[{ on := 12, ground := Ground.data }, { on := 4, ground := Ground.chain }], guard := none }) (v := undef) rfl (by kernel_rfl) (by kernel_rfl) (by kernel_rfl) (by kernel_rfl) (fun _ _ _ h => h) (by assumption) (Or.inr ⟨by rfl, rfl⟩) (fun _ => rfl) ?_)
                try simp only [Act.put, List.setIfInBounds_toArray, List.set_cons_zero, List.set_cons_succ]
                refine ordS_take (i := 14) (oi := { dst := some 202, op := Op.move (Operand.tmp 7), type := 32, pos := _, after := #[{ on := 13, ground := Ground.guard }], guard := some (13, true) }) (v := undef) rfl (by kernel_rfl) (by kernel_rfl) (by kernel_rfl) (by kernel_rfl) (fun _ _ _ h => h) (by assumption) (Or.inr ⟨by rfl, rfl⟩) (fun _ => rfl) ?_
                try simp only [Act.put, List.setIfInBounds_toArray, List.set_cons_zero, List.set_cons_succ]
                refine ordS_take (i := 15) (oi := { dst := some 203, op := Op.move (Operand.tmp 11), type := 3, pos := _, after := #[{ on := 13, ground := Ground.guard }], guard := some (13, true) }) (v := undef) rfl (by kernel_rfl) (by kernel_rfl) (by kernel_rfl) (by kernel_rfl) (fun _ _ _ h => h) (by assumption) (Or.inr ⟨by rfl, rfl⟩) (fun _ => rfl) ?_
                try simp only [Act.put, List.setIfInBounds_toArray, List.set_cons_zero, List.set_cons_succ]
                refine ordS_take (i := 16) (oi := { dst := some 204, op := Op.indexAddr 32 (Operand.tmp 202) (Operand.tmp 203), type := 0, pos := _, after := #[{ on := 14, ground := Ground.data }, { on := 15, ground := Ground.data }, { on := 13, ground := Ground.guard }], guard := some (13, true) }) (v := undef) rfl (by kernel_rfl) (by kernel_rfl) (by kernel_rfl) (by kernel_rfl) (fun _ _ _ h => h) (by assumption) (Or.inr ⟨by rfl, rfl⟩) (fun _ => rfl) ?_
                try simp only [Act.put, List.setIfInBounds_toArray, List.set_cons_zero, List.set_cons_succ]
                refine ordS_take (i := 17) (oi := { dst := some 205, op := Op.fieldAddr 59 (Operand.tmp 204) 1, type := 0, pos := _, after := #[{ on := 16, ground := Ground.data }, { on := 13, ground := Ground.guard }], guard := some (13, true) }) (v := undef) rfl (by kernel_rfl) (by kernel_rfl) (by kernel_rfl) (by kernel_rfl) (fun _ _ _ h => h) (by assumption) (Or.inr ⟨by rfl, rfl⟩) (fun _ => rfl) ?_
                try simp only [Act.put, List.setIfInBounds_toArray, List.set_cons_zero, List.set_cons_succ]
                refine ordS_take (i := 18) (oi := { dst := some 206, op := Op.load 57 (Operand.tmp 205), type := 57, pos := _, after := #[{ on := 17, ground := Ground.data }, { on := 13, ground := Ground.guard }], guard := some (13, true) }) (v := undef) rfl (by kernel_rfl) (by kernel_rfl) (by kernel_rfl) (by kernel_rfl) (fun _ _ _ h => h) (by assumption) (Or.inr ⟨by rfl, rfl⟩) (fun _ => rfl) ?_
                try simp only [Act.put, List.setIfInBounds_toArray, List.set_cons_zero, List.set_cons_succ]
                refine ordS_take (i := 19) (oi := { dst := some 207, op := Op.load 57 (Operand.tmp 15), type := 57, pos := _, after := #[{ on := 13, ground := Ground.guard }], guard := some (13, true) }) (v := undef) rfl (by kernel_rfl) (by kernel_rfl) (by kernel_rfl) (by kernel_rfl) (fun _ _ _ h => h) (by assumption) (Or.inr ⟨by rfl, rfl⟩) (fun _ => rfl) ?_
                try simp only [Act.put, List.setIfInBounds_toArray, List.set_cons_zero, List.set_cons_succ]
                refine ordS_take (i := 20) (oi := { dst := some 208, op := Op.binOp BinOp.eql 57 (Operand.tmp 206) (Operand.tmp 207) 57, type := 4, pos := _, after := #[{ on := 18, ground := Ground.data }, { on := 19, ground := Ground.data }, { on := 13, ground := Ground.guard }], guard := some (13, true) }) (v := undef) rfl (by kernel_rfl) (by kernel_rfl) (by kernel_rfl) (by kernel_rfl) (fun _ _ _ h => h) (by assumption) (Or.inr ⟨by rfl, rfl⟩) (fun _ => rfl) ?_
                try simp only [Act.put, List.setIfInBounds_toArray, List.set_cons_zero, List.set_cons_succ]
                first
                  | (refine' ordS_take (i := 21) (oi := { dst := some 209, op := Op.pick (Operand.tmp 201) (Operand.tmp 208) (Operand.const (Value.bool false)), type := 4, pos := _, after := #[{ on := 13, ground := Ground.data }, { on := 20, ground := Ground.data }], guard := none }) (v := _) rfl (by kernel_rfl) (by kernel_rfl) (by kernel_rfl) (by kernel_rfl) (fun _ _ _ h => h) (by assumption) (Or.inl ⟨by rfl, ?hy22⟩) (fun _ => rfl) ?rest22
                     case hy22 => (intro w hSw; (try dsimp only at hSw); go_simp; try with_reducible rfl))
                  | (refine ordS_take (i := 21) (oi := { dst := some 209, op := Op.pick (Operand.tmp 201) (Operand.tmp 208) (Operand.const (Value.bool false)), type := 4, pos := _, after := #[{ on := 13, ground := Ground.data }, { on := 20, ground := Ground.data }], guard := none }) (v := undef) rfl (by kernel_rfl) (by kernel_rfl) (by kernel_rfl) (by kernel_rfl) (fun _ _ _ h => h) (by assumption) (Or.inr ⟨by rfl, rfl⟩) (fun _ => rfl) ?_)
                try simp only [Act.put, List.setIfInBounds_toArray, List.set_cons_zero, List.set_cons_succ]
                refine ordS_done (by kernel_rfl) ?_
                go_wp2
                go_meet
                exact ⟨rfl, bl_dr (bl0 _)⟩
            case rest =>
            obtain ⟨rfl, hbw⟩ := hcut
            replace hBB := hBB.below hbw
            clear hbw hA f0 f1 f2 p0 p1 p2 a0 a1 b0 b1 zf0 zf1 zf2 zp0 zp1 zp2 za0 za1 zb0 zb1 hrow hng
            have hgl2 := HGL.out k
            cases g
            · have hgk : G (k + 1) = G k := by have := GG.out; rw [if_neg (by decide), List.append_nil] at this; exact this
              have hsk : sinceV o L.length (k + 1) = s2 := by rw [S2.out rfl, HS2.out]
              go_wp2
              go_roundw
              case rel => exact ⟨k + 1, by omega, by go_num, by rw [hgk], by rw [hsk], hBB⟩
              case measure => simp [intOf]; omega
            · have hgk : (G (k + 1)).length = (G k).length + 1 := by have := GG.out; rw [if_pos rfl] at this; rw [this, List.length_append]; rfl
              have hsk := (S1.out rfl).2
              have hs3 : ((s2 : Int) == 2) = false := by rw [beq_eq_false_iff_ne]; intro h; exact (S1.out rfl).1 (S4.out (by omega))
              go_wp2
              go_roundw
              case rel => exact ⟨k + 1, by omega, by go_num, by rw [hgk]; go_num, by rw [hsk]; rfl, hBB⟩
              case measure => simp [intOf]; omega
          · have hz2 : ((sv : Int) == 0) = false := by rw [beq_eq_false_iff_ne]; omega
            have h2 := HS2.out
            rw [if_neg hz] at h2
            have S3 := Lib.hid (show (sv : Int) = (s2 : Int) by rw [← h2])
            have S4 := Lib.hid (show s2 = 2 → sv = 2 by omega)
            clear hz h2
            go_upto_region 27 with fail
            rw [S3.out]
            go_cut [209] from 188 to 208 (fun s wx => s = .bool g ∧ Below w8.heap.size w8 wx)
            case first =>
              by_cases hln : (G k).length < (G L.length).length
              · obtain ⟨gb2, go2, rfl, ⟨r0, r1⟩, r2, r3⟩ := hrow.cell hln
                obtain ⟨z, hzz⟩ : ∃ z, (G L.length)[(G k).length] = z := ⟨_, rfl⟩
                rw [hzz] at r0 r1 r2 r3
                have hzp : g = true ↔ z = p := by
                  cases g
                  · have := hng.2 rfl hln
                    rw [hzz] at this
                    exact ⟨fun h => (by cases h), fun h => absurd h this⟩
                  · obtain ⟨_, h2⟩ := hng.1 rfl
                    rw [hzz] at h2
                    exact ⟨fun _ => h2, fun _ => rfl⟩
                have hln2 : decide (((G k).length : Int) < ((G L.length).length : Int)) = true := decide_eq_true (by omega)
                have hln3 : ((G k).length : Int) < ((G L.length).length : Int) := by omega
                have hln4 : (0 : Int) ≤ ((G k).length : Int) := by omega
                have zr0 := blk_lt r0
                clear hng hzz hrow
                by_cases hzq : z = p
                · have hgt := hzp.2 hzq
                  subst hgt
                  subst hzq
                  have n0 : (z.1.1 == z.1.1) = true := beq_self_eq_true _
                  have n1 : (z.1.2 == z.1.2) = true := beq_self_eq_true _
                  have n2 : (z.2.1 == z.2.1) = true := beq_self_eq_true _
                  have n3 : (z.2.2 == z.2.2) = true := beq_self_eq_true _
                  clear hzp hln
                  go_quiet (fail)
                  go_wp2
                  go_meet
                  exact ⟨rfl, bl_drn _ _⟩
                · have hgt : g = false := by cases g; rfl; exact absurd (hzp.1 rfl) hzq
                  subst hgt
                  have hcs := cell_ne hzq
                  clear hzp hln hzq
                  rcases hcs with h1 | ⟨h1, h2⟩ | ⟨h1, h2, h3⟩ | ⟨h1, h2, h3, h4⟩
                  · have n0 : (z.1.1 == p.1.1) = false := by rw [beq_eq_false_iff_ne]; exact h1
                    clear h1
                    go_quiet (fail)
                    go_wp2
                    go_meet
                    exact ⟨rfl, bl_drn _ _⟩
                  · have n0 : (z.1.1 == p.1.1) = true := by rw [beq_iff_eq]; exact h1
                    have n1 : (z.1.2 == p.1.2) = false := by rw [beq_eq_false_iff_ne]; exact h2
                    clear h1 h2
                    go_quiet (fail)
                    go_wp2
                    go_meet
                    exact ⟨rfl, bl_drn _ _⟩
                  · have n0 : (z.1.1 == p.1.1) = true := by rw [beq_iff_eq]; exact h1
                    have n1 : (z.1.2 == p.1.2) = true := by rw [beq_iff_eq]; exact h2
                    have n2 : (z.2.1 == p.2.1) = false := by rw [beq_eq_false_iff_ne]; exact h3
                    clear h1 h2 h3
                    go_quiet (fail)
                    go_wp2
                    go_meet
                    exact ⟨rfl, bl_drn _ _⟩
                  · have n0 : (z.1.1 == p.1.1) = true := by rw [beq_iff_eq]; exact h1
                    have n1 : (z.1.2 == p.1.2) = true := by rw [beq_iff_eq]; exact h2
                    have n2 : (z.2.1 == p.2.1) = true := by rw [beq_iff_eq]; exact h3
                    have n3 : (z.2.2 == p.2.2) = false := by rw [beq_eq_false_iff_ne]; exact h4
                    clear h1 h2 h3 h4
                    go_quiet (fail)
                    go_wp2
                    go_meet
                    exact ⟨rfl, bl_drn _ _⟩
              · have hgt : g = false := by
                  cases g
                  · rfl
                  · exact absurd (hng.1 rfl).1 hln
                subst hgt
                have hln2 : decide (((G k).length : Int) < ((G L.length).length : Int)) = false := decide_eq_false (by omega)
                have hln6 : decide ((G k).length < (G L.length).length) = false := decide_eq_false hln
                clear hng hln
                refine (wpIn_wide (n := 11)).1 ?_
                have hS : (fun _ : World => True) w8.drew := trivial
                refine ordS_begin (S := (fun _ => True)) (by kernel_rfl) trivial (fun hH => ?_)
                first
                  | (refine' ordS_take (i := 0) (oi := { dst := some 188, op := Op.move (Operand.tmp 11), type := 3, pos := _, after := #[], guard := none }) (v := _) rfl (by kernel_rfl) (by kernel_rfl) (by kernel_rfl) (by kernel_rfl) (fun _ _ _ h => h) (by assumption) (Or.inl ⟨by rfl, ?hy23⟩) (fun _ => rfl) ?rest23
                     case hy23 => (intro w hSw; (try dsimp only at hSw); go_simp; try with_reducible rfl))
                  | (refine ordS_take (i := 0) (oi := { dst := some 188, op := Op.move (Operand.tmp 11), type := 3, pos := _, after := #[], guard := none }) (v := undef) rfl (by kernel_rfl) (by kernel_rfl) (by kernel_rfl) (by kernel_rfl) (fun _ _ _ h => h) (by assumption) (Or.inr ⟨by rfl, rfl⟩) (fun _ => rfl) ?_)
                try simp only [Act.put, List.setIfInBounds_toArray, List.set_cons_zero, List.set_cons_succ]
                first
                  | (refine' ordS_take (i := 1) (oi := { dst := some 189, op := Op.move (Operand.tmp 7), type := 32, pos := _, after := #[], guard := none }) (v := _) rfl (by kernel_rfl) (by kernel_rfl) (by kernel_rfl) (by kernel_rfl) (fun _ _ _ h => h) (by assumption) (Or.inl ⟨by rfl, ?hy24⟩) (fun _ => rfl) ?rest24
                     case hy24 => (intro w hSw; (try dsimp only at hSw); go_simp; try with_reducible rfl))
                  | (refine ordS_take (i := 1) (oi := { dst := some 189, op := Op.move (Operand.tmp 7), type := 32, pos := _, after := #[], guard := none }) (v := undef) rfl (by kernel_rfl) (by kernel_rfl) (by kernel_rfl) (by kernel_rfl) (fun _ _ _ h => h) (by assumption) (Or.inr ⟨by rfl, rfl⟩) (fun _ => rfl) ?_)
                try simp only [Act.put, List.setIfInBounds_toArray, List.set_cons_zero, List.set_cons_succ]
                first
                  | (refine' ordS_take (i := 2) (oi := { dst := some 190, op := Op.call { callee := Callee.builtin Builtin.len, args := #[Operand.tmp 189], argTypes := #[32] }, type := 3, pos := _, after := #[{ on := 1, ground := Ground.data }], guard := none }) (v := _) rfl (by kernel_rfl) (by kernel_rfl) (by kernel_rfl) (by kernel_rfl) (fun _ _ _ h => h) (by assumption) (Or.inl ⟨by rfl, ?hy25⟩) (fun _ => rfl) ?rest25
                     case hy25 => (intro w hSw; (try dsimp only at hSw); go_simp; try with_reducible rfl))
                  | (refine ordS_take (i := 2) (oi := { dst := some 190, op := Op.call { callee := Callee.builtin Builtin.len, args := #[Operand.tmp 189], argTypes := #[32] }, type := 3, pos := _, after := #[{ on := 1, ground := Ground.data }], guard := none }) (v := undef) rfl (by kernel_rfl) (by kernel_rfl) (by kernel_rfl) (by kernel_rfl) (fun _ _ _ h => h) (by assumption) (Or.inr ⟨by rfl, rfl⟩) (fun _ => rfl) ?_)
                try simp only [Act.put, List.setIfInBounds_toArray, List.set_cons_zero, List.set_cons_succ]
                first
                  | (refine' ordS_take (i := 3) (oi := { dst := some 191, op := Op.binOp BinOp.lss 3 (Operand.tmp 188) (Operand.tmp 190) 3, type := 4, pos := _, after := #[{ on := 0, ground := Ground.data }, { on := 2, ground := Ground.data }], guard := none }) (v := _) rfl (by kernel_rfl) (by kernel_rfl) (by kernel_rfl) (by kernel_rfl) (fun _ _ _ h => h) (by assumption) (Or.inl ⟨by rfl, ?hy26⟩) (fun _ => rfl) ?rest26
                     case hy26 => (intro w hSw; (try dsimp only at hSw); go_simp; try with_reducible rfl))
                  | (refine ordS_take (i := 3) (oi := { dst := some 191, op := Op.binOp BinOp.lss 3 (Operand.tmp 188) (Operand.tmp 190) 3, type := 4, pos := _, after := #[{ on := 0, ground := Ground.data }, { on := 2, ground := Ground.data }], guard := none }) (v := undef) rfl (by kernel_rfl) (by kernel_rfl) (by kernel_rfl) (by kernel_rfl) (fun _ _ _ h => h) (by assumption) (Or.inr ⟨by rfl, rfl⟩) (fun _ => rfl) ?_)
                try simp only [Act.put, List.setIfInBounds_toArray, List.set_cons_zero, List.set_cons_succ]
                try simp only [hln2, hln6]
                first
                  | (refine' ordS_take (i := 4) (oi := { dst := some 192, op := Op.move (Operand.tmp 191), type := 4, pos := _, after := #[{ on := 3, ground := Ground.data }], guard := none }) (v := _) rfl (by kernel_rfl) (by kernel_rfl) (by kernel_rfl) (by kernel_rfl) (fun _ _ _ h => h) (by assumption) (Or.inl ⟨by rfl, ?hy27⟩) (fun _ => rfl) ?rest27
                     case hy27 => (intro w hSw; (try dsimp only at hSw); go_simp; try with_reducible rfl))
                  | (refine ordS_take (i := 4) (oi := { dst := some 192, op := Op.move (Operand.tmp 191), type := 4, pos := _, after := #[{ on := 3, ground := Ground.data }], guard := none }) (v := undef) rfl (by kernel_rfl) (by kernel_rfl) (by kernel_rfl) (by kernel_rfl) (fun _ _ _ h => h) (by assumption) (Or.inr ⟨by rfl, rfl⟩) (fun _ => rfl) ?_)
                try simp only [Act.put, List.setIfInBounds_toArray, List.set_cons_zero, List.set_cons_succ]
                refine ordS_take (i := 5) (oi := { dst := some 193, op := Op.move (Operand.tmp 7), type := 32, pos := _, after := #[{ on := 4, ground := Ground.guard }], guard := some (4, true) }) (v := undef) rfl (by kernel_rfl) (by kernel_rfl) (by kernel_rfl) (by kernel_rfl) (fun _ _ _ h => h) (by assumption) (Or.inr ⟨by rfl, rfl⟩) (fun _ => rfl) ?_
                try simp only [Act.put, List.setIfInBounds_toArray, List.set_cons_zero, List.set_cons_succ]
                refine ordS_take (i := 6) (oi := { dst := some 194, op := Op.move (Operand.tmp 11), type := 3, pos := _, after := #[{ on := 4, ground := Ground.guard }], guard := some (4, true) }) (v := undef) rfl (by kernel_rfl) (by kernel_rfl) (by kernel_rfl) (by kernel_rfl) (fun _ _ _ h => h) (by assumption) (Or.inr ⟨by rfl, rfl⟩) (fun _ => rfl) ?_
                try simp only [Act.put, List.setIfInBounds_toArray, List.set_cons_zero, List.set_cons_succ]
                refine ordS_take (i := 7) (oi := { dst := some 195, op := Op.indexAddr 32 (Operand.tmp 193) (Operand.tmp 194), type := 0, pos := _, after := #[{ on := 5, ground := Ground.data }, { on := 6, ground := Ground.data }, { on := 4, ground := Ground.guard }], guard := some (4, true) }) (v := undef) rfl (by kernel_rfl) (by kernel_rfl) (by kernel_rfl) (by kernel_rfl) (fun _ _ _ h => h) (by assumption) (Or.inr ⟨by rfl, rfl⟩) (fun _ => rfl) ?_
                try simp only [Act.put, List.setIfInBounds_toArray, List.set_cons_zero, List.set_cons_succ]
                refine ordS_take (i := 8) (oi := { dst := some 196, op := Op.fieldAddr 59 (Operand.tmp 195) 0, type := 0, pos := _, after := #[{ on := 7, ground := Ground.data }, { on := 4, ground := Ground.guard }], guard := some (4, true) }) (v := undef) rfl (by kernel_rfl) (by kernel_rfl) (by kernel_rfl) (by kernel_rfl) (fun _ _ _ h => h) (by assumption) (Or.inr ⟨by rfl, rfl⟩) (fun _ => rfl) ?_
                try simp only [Act.put, List.setIfInBounds_toArray, List.set_cons_zero, List.set_cons_succ]
                refine ordS_take (i := 9) (oi := { dst := some 197, op := Op.load 57 (Operand.tmp 196), type := 57, pos := _, after := #[{ on := 8, ground := Ground.data }, { on := 4, ground := Ground.guard }], guard := some (4, true) }) (v := undef) rfl (by kernel_rfl) (by kernel_rfl) (by kernel_rfl) (by kernel_rfl) (fun _ _ _ h => h) (by assumption) (Or.inr ⟨by rfl, rfl⟩) (fun _ => rfl) ?_
                try simp only [Act.put, List.setIfInBounds_toArray, List.set_cons_zero, List.set_cons_succ]
                refine ordS_take (i := 10) (oi := { dst := some 198, op := Op.load 57 (Operand.tmp 14), type := 57, pos := _, after := #[{ on := 4, ground := Ground.guard }], guard := some (4, true) }) (v := undef) rfl (by kernel_rfl) (by kernel_rfl) (by kernel_rfl) (by kernel_rfl) (fun _ _ _ h => h) (by assumption) (Or.inr ⟨by rfl, rfl⟩) (fun _ => rfl) ?_
                try simp only [Act.put, List.setIfInBounds_toArray, List.set_cons_zero, List.set_cons_succ]
                refine ordS_take (i := 11) (oi := { dst := some 199, op := Op.binOp BinOp.eql 57 (Operand.tmp 197) (Operand.tmp 198) 57, type := 4, pos := _, after := #[{ on := 9, ground := Ground.data }, { on := 10, ground := Ground.data }, { on := 4, ground := Ground.guard }], guard := some (4, true) }) (v := undef) rfl (by kernel_rfl) (by kernel_rfl) (by kernel_rfl) (by kernel_rfl) (fun _ _ _ h => h) (by assumption) (Or.inr ⟨by rfl, rfl⟩) (fun _ => rfl) ?_
                try simp only [Act.put, List.setIfInBounds_toArray, List.set_cons_zero, List.set_cons_succ]
                first
                  | (refine' ordS_take (i := 12) (oi := { dst := some 200, op := Op.pick (Operand.tmp 192) (Operand.tmp 199) (Operand.const (Value.bool false)), type := 4, pos := _, after := #[{ on := 4, ground := Ground.data }, { on := 11, ground := Ground.data }], guard := none }) (v := _) rfl (by kernel_rfl) (by kernel_rfl) (by kernel_rfl) (by kernel_rfl) (fun _ _ _ h => h) (by assumption) (Or.inl ⟨by rfl, ?hy35⟩) (fun _ => rfl) ?rest35
                     case hy35 => (intro w hSw; (try dsimp only at hSw); go_simp; try with_reducible rfl))
                  | (refine ordS_take (i := 12) (oi := { dst := some 200, op := Op.pick (Operand.tmp 192) (Operand.tmp 199) (Operand.const (Value.bool false)), type := 4, pos := _, after := #[{ on := 4, ground := Ground.data }, { on := 11, ground := Ground.data }], guard := none }) (v := undef) rfl (by kernel_rfl) (by kernel_rfl) (by kernel_rfl) (by kernel_rfl) (fun _ _ _ h => h) (by assumption) (Or.inr ⟨by rfl, rfl⟩) (fun _ => rfl) ?_)
                try simp only [Act.put, List.setIfInBounds_toArray, List.set_cons_zero, List.set_cons_succ]
                first
                  | (refine' ordS_take (i := 13) (oi := { dst := some 201, op := Op.move (Operand.tmp 200), type := 4, pos := _, after := #[{ on := 12, ground := Ground.data }, { on := 4, ground := Ground.chain }], guard := none }) (v := _) rfl (by kernel_rfl) (by kernel_rfl) (by kernel_rfl) (by kernel_rfl) (fun _ _ _ h => h) (by assumption) (Or.inl ⟨by rfl, ?hy36⟩) (fun _ => rfl) ?rest36
                     case hy36 => (intro w hSw; (try dsimp only at hSw); go_simp; try with_reducible rfl))
                  | (refine ordS_take (i := 13) (oi := { dst := some 201, op := Op.move (Operand.tmp 200), type := 4, pos := _, after := #[{ on := 12, ground := Ground.data }, { on := 4, ground := Ground.chain }], guard := none }) (v := undef) rfl (by kernel_rfl) (by kernel_rfl) (by kernel_rfl) (by kernel_rfl) (fun _ _ _ h => h) (by assumption) (Or.inr ⟨by rfl, rfl⟩) (fun _ => rfl) ?_)
                try simp only [Act.put, List.setIfInBounds_toArray, List.set_cons_zero, List.set_cons_succ]
                refine ordS_take (i := 14) (oi := { dst := some 202, op := Op.move (Operand.tmp 7), type := 32, pos := _, after := #[{ on := 13, ground := Ground.guard }], guard := some (13, true) }) (v := undef) rfl (by kernel_rfl) (by kernel_rfl) (by kernel_rfl) (by kernel_rfl) (fun _ _ _ h => h) (by assumption) (Or.inr ⟨by rfl, rfl⟩) (fun _ => rfl) ?_
                try simp only [Act.put, List.setIfInBounds_toArray, List.set_cons_zero, List.set_cons_succ]
                refine ordS_take (i := 15) (oi := { dst := some 203, op := Op.move (Operand.tmp 11), type := 3, pos := _, after := #[{ on := 13, ground := Ground.guard }], guard := some (13, true) }) (v := undef) rfl (by kernel_rfl) (by kernel_rfl) (by kernel_rfl) (by kernel_rfl) (fun _ _ _ h => h) (by assumption) (Or.inr ⟨by rfl, rfl⟩) (fun _ => rfl) ?_
                try simp only [Act.put, List.setIfInBounds_toArray, List.set_cons_zero, List.set_cons_succ]
                refine ordS_take (i := 16) (oi := { dst := some 204, op := Op.indexAddr 32 (Operand.tmp 202) (Operand.tmp 203), type := 0, pos := _, after := #[{ on := 14, ground := Ground.data }, { on := 15, ground := Ground.data }, { on := 13, ground := Ground.guard }], guard := some (13, true) }) (v := undef) rfl (by kernel_rfl) (by kernel_rfl) (by kernel_rfl) (by kernel_rfl) (fun _ _ _ h => h) (by assumption) (Or.inr ⟨by rfl, rfl⟩) (fun _ => rfl) ?_
                try simp only [Act.put, List.setIfInBounds_toArray, List.set_cons_zero, List.set_cons_succ]
                refine ordS_take (i := 17) (oi := { dst := some 205, op := Op.fieldAddr 59 (Operand.tmp 204) 1, type := 0, pos := _, after := #[{ on := 16, ground := Ground.data }, { on := 13, ground := Ground.guard }], guard := some (13, true) }) (v := undef) rfl (by kernel_rfl) (by kernel_rfl) (by kernel_rfl) (by kernel_rfl) (fun _ _ _ h => h) (by assumption) (Or.inr ⟨by rfl, rfl⟩) (fun _ => rfl) ?_
                try simp only [Act.put, List.setIfInBounds_toArray, List.set_cons_zero, List.set_cons_succ]
                refine ordS_take (i := 18) (oi := { dst := some 206, op := Op.load 57 (Operand.tmp 205), type := 57, pos := _, after := #[{ on := 17, ground := Ground.data }, { on := 13, ground := Ground.guard }], guard := some (13, true) }) (v := undef) rfl (by kernel_rfl) (by kernel_rfl) (by kernel_rfl) (by kernel_rfl) (fun _ _ _ h => h) (by assumption) (Or.inr ⟨by rfl, rfl⟩) (fun _ => rfl) ?_
                try simp only [Act.put, List.setIfInBounds_toArray, List.set_cons_zero, List.set_cons_succ]
                refine ordS_take (i := 19) (oi := { dst := some 207, op := Op.load 57 (Operand.tmp 15), type := 57, pos := _, after := #[{ on := 13, ground := Ground.guard }], guard := some (13, true) }) (v := undef) rfl (by kernel_rfl) (by kernel_rfl) (by kernel_rfl) (by kernel_rfl) (fun _ _ _ h => h) (by assumption) (Or.inr ⟨by rfl, rfl⟩) (fun _ => rfl) ?_
                try simp only [Act.put, List.setIfInBounds_toArray, List.set_cons_zero, List.set_cons_succ]
                refine ordS_take (i := 20) (oi := { dst := some 208, op := Op.binOp BinOp.eql 57 (Operand.tmp 206) (Operand.tmp 207) 57, type := 4, pos := _, after := #[{ on := 18, ground := Ground.data }, { on := 19, ground := Ground.data }, { on := 13, ground := Ground.guard }], guard := some (13, true) }) (v := undef) rfl (by kernel_rfl) (by kernel_rfl) (by kernel_rfl) (by kernel_rfl) (fun _ _ _ h => h) (by assumption) (Or.inr ⟨by rfl, rfl⟩) (fun _ => rfl) ?_
                try simp only [Act.put, List.setIfInBounds_toArray, List.set_cons_zero, List.set_cons_succ]
                first
                  | (refine' ordS_take (i := 21) (oi := { dst := some 209, op := Op.pick (Operand.tmp 201) (Operand.tmp 208) (Operand.const (Value.bool false)), type := 4, pos := _, after := #[{ on := 13, ground := Ground.data }, { on := 20, ground := Ground.data }], guard := none }) (v := _) rfl (by kernel_rfl) (by kernel_rfl) (by kernel_rfl) (by kernel_rfl) (fun _ _ _ h => h) (by assumption) (Or.inl ⟨by rfl, ?hy44⟩) (fun _ => rfl) ?rest44
                     case hy44 => (intro w hSw; (try dsimp only at hSw); go_simp; try with_reducible rfl))
                  | (refine ordS_take (i := 21) (oi := { dst := some 209, op := Op.pick (Operand.tmp 201) (Operand.tmp 208) (Operand.const (Value.bool false)), type := 4, pos := _, after := #[{ on := 13, ground := Ground.data }, { on := 20, ground := Ground.data }], guard := none }) (v := undef) rfl (by kernel_rfl) (by kernel_rfl) (by kernel_rfl) (by kernel_rfl) (fun _ _ _ h => h) (by assumption) (Or.inr ⟨by rfl, rfl⟩) (fun _ => rfl) ?_)
                try simp only [Act.put, List.setIfInBounds_toArray, List.set_cons_zero, List.set_cons_succ]
                refine ordS_done (by kernel_rfl) ?_
                go_wp2
                go_meet
                exact ⟨rfl, bl_dr (bl0 _)⟩
            case rest =>
            obtain ⟨rfl, hbw⟩ := hcut
            replace hBB := hBB.below hbw
            clear hbw hA f0 f1 f2 p0 p1 p2 a0 a1 b0 b1 zf0 zf1 zf2 zp0 zp1 zp2 za0 za1 zb0 zb1 hrow hng
            have hgl2 := HGL.out k
            cases g
            · have hgk : G (k + 1) = G k := by have := GG.out; rw [if_neg (by decide), List.append_nil] at this; exact this
              have hsk : sinceV o L.length (k + 1) = s2 := by rw [S2.out rfl, HS2.out]
              go_wp2
              go_roundw
              case rel => exact ⟨k + 1, by omega, by go_num, by rw [hgk], by rw [hsk], hBB⟩
              case measure => simp [intOf]; omega
            · have hgk : (G (k + 1)).length = (G k).length + 1 := by have := GG.out; rw [if_pos rfl] at this; rw [this, List.length_append]; rfl
              have hsk := (S1.out rfl).2
              have hs3 : ((s2 : Int) == 2) = false := by rw [beq_eq_false_iff_ne]; intro h; exact (S1.out rfl).1 (S4.out (by omega))
              go_wp2
              go_roundw
              case rel => exact ⟨k + 1, by omega, by go_num, by rw [hgk]; go_num, by rw [hsk]; rfl, hBB⟩
              case measure => simp [intOf]; omega
end Go.Proofs.YthmmmblkjgcchaaDoor
