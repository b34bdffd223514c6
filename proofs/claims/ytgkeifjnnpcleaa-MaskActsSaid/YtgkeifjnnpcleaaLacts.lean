/- MaskActs: the law's walk. -/
import Derived.Test.YtgkeifjnnpcleaaNg
import Derived.Test.YtgkeifjnnpcleaaKj
import Derived.Test.YtgkeifjnnpcleaaJv
namespace Go.Proofs.Ytgkeifjnnpcleaa
open Go.RowKit

/-- The size in its box. -/
def HeldA (w : World) (A B : Int) (W : World) : Prop := Below w.heap.size w W ∧ W.cell? ⟨w.heap.size, 0, none⟩ = some (.int .i64 A) ∧ W.cell? ⟨w.heap.size, 1, none⟩ = some (.int .i64 B)
theorem HeldA.below {w W W' : World} {A B : Int} (h : HeldA w A B W) (hb : Below W.heap.size W W') : HeldA w A B W' := by
  obtain ⟨h0, h1, h2⟩ := h
  exact ⟨bl_tr h0 hb, cell_later hb h1, cell_later hb h2⟩
theorem HeldA.grown {w W W' : World} {A B : Int} {g : Nat} (h : HeldA w A B W) (hg : W.grownBy W' (some g)) (hl : w.heap.size + 1 ≤ g) : HeldA w A B W' := by
  obtain ⟨h0, h1, h2⟩ := h
  have n0 : some w.heap.size ≠ some g := fun e => by have := Option.some.inj e; omega
  exact ⟨h0.grown hg h0.size (fun r e => by have := Option.some.inj e; omega), hg.cell h1 n0, hg.cell h2 n0⟩
theorem HeldA.lt {w W : World} {A B : Int} (h : HeldA w A B W) : w.heap.size + 1 ≤ W.heap.size := blk_lt h.2.1
theorem HeldA.bel {w W : World} {A B : Int} (h : HeldA w A B W) : Below w.heap.size w W := h.1
theorem bytesAt_of {W : World} {g : Nat} {bs : List Nat} (h : W.heap[g]? = some (.cells (bs.map (fun x : Nat => Value.int .u8 (x : Int))).toArray 5 (0, 0))) : BytesAt W g 0 bs := by
  intro j x hj
  simp [World.cell?, h, hj]

set_option maxRecDepth 100000 in
set_option maxHeartbeats 4000000 in
theorem acts_walk (A B : Int) (a : Option Addr) (ca : Nat) (ls : List ((Int × Int) × Bool)) (w : World) (ra : ActsC w a ls) :
    Calls Try.prog 3 #[.agg #[.int .i64 A, .int .i64 B], .slice a ls.length ca] w fun e w' => e = .returned (.bool true) ∧ Below w.heap.size w w' := by
  have RA := Lib.hid ra
  clear ra
  go_enter Try.func3, Try.ntmps3
  go_wp2_with fail
  obtain ⟨w0, hw0⟩ : ∃ w0, w.alloc (.cells #[.int .i64 A, .int .i64 B] 23) = w0 := ⟨_, rfl⟩
  have hH : HeldA w A B w0 := by rw [← hw0]; exact ⟨bl_al (bl0 w) _, by simp [go_sem], by simp [go_sem]⟩
  have H := Lib.hid hH
  rw [hw0]
  clear hw0 hH
  obtain ⟨_, s0, s1⟩ := H.out
  refine (small_any _ _ _).mono ?_
  rintro e w1 ⟨rfl, hb⟩
  replace H := Lib.hid (H.out.below hb)
  clear s0 s1
  obtain ⟨_, s0, s1⟩ := H.out
  clear hb
  cases hsm : smallB A B
  · skip
    go_wp2_with fail
    refine (awake_any _).mono ?_
    rintro e w99 ⟨rfl, hb⟩
    replace H := Lib.hid (H.out.below hb)
    clear hb s0 s1
    go_wp2
    go_ret
    exact ⟨rfl, H.out.1⟩
  · by_cases l0 : (200 : Int) < (ls.length : Int)
    · skip
      go_wp2_with fail
      refine (awake_any _).mono ?_
      rintro e w99 ⟨rfl, hb⟩
      replace H := Lib.hid (H.out.below hb)
      clear hb s0 s1
      go_wp2
      go_ret
      exact ⟨rfl, H.out.1⟩
    · have SM := Lib.hid hsm
      have ll : (ls.length : Int) ≤ 200 := by omega
      clear hsm l0
      cases hma : mayB A B
      · have P1 := fun w => new_no A B w hma
        have P2 := fun w => rnew_no A B w hma
        clear hma
        go_wp2_with fail
        refine (P1 _).mono ?_
        rintro e w2 ⟨rfl, hb⟩
        replace H := Lib.hid (H.out.below hb)
        clear s0 s1
        obtain ⟨_, s0, s1⟩ := H.out
        clear hb
        go_wp2_with fail
        refine (P2 _).mono ?_
        rintro e w3 ⟨rfl, hb⟩
        replace H := Lib.hid (H.out.below hb)
        clear s0 s1
        obtain ⟨_, s0, s1⟩ := H.out
        clear hb P1 P2
        go_wp2_with fail
        refine (awake_any _).mono ?_
        rintro e w99 ⟨rfl, hb⟩
        replace H := Lib.hid (H.out.below hb)
        clear hb s0 s1
        go_wp2
        go_ret
        exact ⟨rfl, H.out.1⟩
      · have G0 := Lib.hid (good_zero hma)
        have hnew := fun w => new_yes A B w hma
        have hrnew := fun w => rnew_yes A B w hma
        rw [← fsOf_zero (A * B).toNat ((A * B + 7) / 8).toNat] at hrnew
        generalize List.replicate ((A * B + 7) / 8).toNat 0 = z0 at G0 hnew hrnew
        have NEW := Lib.hid hnew
        have RNEW := Lib.hid hrnew
        clear hnew hrnew hma
        go_wp2_with fail
        refine (NEW.out _).mono ?_
        rintro e w2 ⟨b, h, rfl, mk, _, hh1, hne, hb⟩
        have hhT : w.heap.size + 1 ≤ h := Nat.le_trans H.out.lt hh1
        have MK := Lib.hid mk
        have hlt1 := mk.lt
        replace H := Lib.hid (H.out.below hb)
        clear s0 s1
        obtain ⟨_, s0, s1⟩ := H.out
        clear hb mk hh1 NEW
        go_wp2_with fail
        refine (RNEW.out _).mono ?_
        rintro e w3 ⟨b2, h2, rfl, mr, hb3, hh3, hne2, hb⟩
        have hhT2 : w.heap.size + 1 ≤ h2 := Nat.le_trans H.out.lt hh3
        have n1 : b ≠ h2 := by omega
        have n2 : h ≠ h2 := by omega
        have n3 : b2 ≠ h := by omega
        have n4 : h2 ≠ h := by omega
        have MR := Lib.hid mr
        replace MK := Lib.hid (MK.out.below hb)
        replace H := Lib.hid (H.out.below hb)
        clear s0 s1
        obtain ⟨_, s0, s1⟩ := H.out
        clear hb mr hb3 hh3 RNEW hlt1
        go_upto_region 7 with fail
        have hA := bl_dr (bl0 w3)
        replace s0 := cell_later hA s0
        replace s1 := cell_later hA s1
        replace MK := Lib.hid (MK.out.below hA)
        replace MR := Lib.hid (MR.out.below hA)
        replace H := Lib.hid (H.out.below hA)
        clear hA
        go_region_held3 (fun w' => w'.cell? ⟨w.heap.size, 0, none⟩ = some (.int .i64 A) ∧ w'.cell? ⟨w.heap.size, 1, none⟩ = some (.int .i64 B))
          (exact ⟨s0, s1⟩)
          ((go_at_call 13; (with_reducible refine (size_any b h A B z0 _ MK.out).mono ?_); rintro e W4 ⟨rfl, hb⟩; replace s0 := cell_later hb s0; replace s1 := cell_later hb s1; replace MK := Lib.hid (MK.out.below hb); replace MR := Lib.hid (MR.out.below hb); replace H := Lib.hid (H.out.below hb); clear hb))
        go_wp2
        go_loopw [8] (fun i wr => ∃ k : Nat, k ≤ ls.length ∧ i = .int .i64 k ∧ MaskAt wr b h A B (actsM A B z0 (ls.take k)) ∧ RefAt wr b2 h2 A B (fsOf (A * B).toNat (actsM A B z0 (ls.take k))) ∧ HeldA w A B wr) (fun i _ => ls.length - (intOf i).toNat)
        case atStart => exact ⟨0, Nat.zero_le _, rfl, MK.out, MR.out, H.out⟩
        case round =>
          clear H MK MR s0 s1
          obtain ⟨k, hk, rfl, hmk, hmr, hH⟩ := hrel
          have MK := Lib.hid hmk
          have MR := Lib.hid hmr
          have H := Lib.hid hH
          clear hmk hmr hH
          have GK := Lib.hid (actsM_good G0.out (ls.take k))
          by_cases hlt : k < ls.length
          · have hlt2 : (k : Int) < (ls.length : Int) := by omega
            have hk0 : (0 : Int) ≤ (k : Int) := by omega
            have hra := RA.out
            rcases hra with e0 | ⟨gb, go, e0, hcell⟩
            · rw [e0] at hlt; simp at hlt
            subst e0
            obtain ⟨p0, p1, p2⟩ := hcell k _ (List.getElem?_eq_getElem hlt)
            have hgl := blk_lt p0
            have q0 := cell_later H.out.1 p0
            have q1 := cell_later H.out.1 p1
            have q2 := cell_later H.out.1 p2
            have HS := Lib.hid (actsM_succ A B z0 ls k hlt)
            clear hcell p0 p1 p2
            obtain ⟨x, hx⟩ : ∃ x, ls[k].1.1 = x := ⟨_, rfl⟩
            obtain ⟨y, hy⟩ : ∃ y, ls[k].1.2 = y := ⟨_, rfl⟩
            obtain ⟨v, hv⟩ : ∃ v, ls[k].2 = v := ⟨_, rfl⟩
            rw [hx] at q0 HS
            rw [hy] at q1 HS
            rw [hv] at q2 HS
            clear hx hy hv
            have hg1 : some gb ≠ some h := fun e => by have := Option.some.inj e; omega
            have hg2 : some gb ≠ some h2 := fun e => by have := Option.some.inj e; omega
            have HG1 := Lib.hid hg1
            have HG2 := Lib.hid hg2
            clear hg1 hg2
            obtain ⟨bn, hbn⟩ : ∃ bn, actsM A B z0 (ls.take (k + 1)) = bn := ⟨_, rfl⟩
            rw [hbn] at HS
            have HBN := Lib.hid hbn.symm
            clear hbn
            generalize actsM A B z0 (ls.take k) = bk at *
            have GN := Lib.hid (show Good A B bn by rw [HS.out]; exact setM_good GK.out x y v)
            have e1 : (setE A B x y != setE A B x y) = false := bne_self_eq_false _
            have e2 : (memB A B bn x y != memB A B bn x y) = false := bne_self_eq_false _
            have HSA := Lib.hid (fun w hm => set_all b h A B x y bk v w hm GK.out hne)
            have HRA := Lib.hid (fun w hm => rset_all b2 h2 A B x y bk v w hm GK.out hne2)
            rw [← HS.out] at HSA HRA
            go_upto_region 12 with fail
            have hA := bl_dr (bl0 wr)
            replace q0 := cell_later hA q0
            replace q1 := cell_later hA q1
            replace q2 := cell_later hA q2
            replace H := Lib.hid (H.out.below hA)
            replace MK := Lib.hid (MK.out.below hA)
            replace MR := Lib.hid (MR.out.below hA)
            clear hA
            go_region_held3 (fun w' => w'.cell? ⟨gb, go + k * 3, none⟩ = some (.int .i64 x) ∧ w'.cell? ⟨gb, go + k * 3 + 1, none⟩ = some (.int .i64 y) ∧ w'.cell? ⟨gb, go + k * 3 + 2, none⟩ = some (.bool v))
              (exact ⟨q0, q1, q2⟩)
              (first
                | (go_at_call 14; (with_reducible refine (HSA.out _ MK.out).mono ?_); rintro e W5 ⟨rfl, hm2, hg⟩; replace q0 := hg.cell q0 HG1.out; replace q1 := hg.cell q1 HG1.out; replace q2 := hg.cell q2 HG1.out; replace MK := Lib.hid hm2; replace MR := Lib.hid (MR.out.row hg n3 n4); replace H := Lib.hid (H.out.grown hg hhT); clear hg hm2)
                | (go_at_call 15; (with_reducible refine (HRA.out _ MR.out).mono ?_); rintro e W6 ⟨rfl, hm2, hg⟩; replace q0 := hg.cell q0 HG2.out; replace q1 := hg.cell q1 HG2.out; replace q2 := hg.cell q2 HG2.out; replace MR := Lib.hid hm2; replace MK := Lib.hid (MK.out.row hg n1 n2); replace H := Lib.hid (H.out.grown hg hhT2); clear hg hm2)
                | (go_at_call 16; (with_reducible refine (has_mem b h A B x y bn _ MK.out GN.out).mono ?_); rintro e W7 ⟨rfl, hb⟩; replace q0 := cell_later hb q0; replace q1 := cell_later hb q1; replace q2 := cell_later hb q2; replace MK := Lib.hid (MK.out.below hb); replace MR := Lib.hid (MR.out.below hb); replace H := Lib.hid (H.out.below hb); clear hb)
                | (go_at_call 17; (with_reducible refine (rhas_mem b2 h2 A B x y bn _ MR.out GN.out).mono ?_); rintro e W8 ⟨rfl, hb⟩; replace q0 := cell_later hb q0; replace q1 := cell_later hb q1; replace q2 := cell_later hb q2; replace MK := Lib.hid (MK.out.below hb); replace MR := Lib.hid (MR.out.below hb); replace H := Lib.hid (H.out.below hb); clear hb))
            clear q0 q1 q2 HSA HRA
            go_wp2
            go_roundw
            case rel => exact ⟨k + 1, by omega, by go_num, by rw [← HBN.out]; exact MK.out, by rw [← HBN.out]; exact MR.out, H.out⟩
            case measure => simp [intOf]; omega
          · have hge : (ls.length : Int) ≤ (k : Int) := by omega
            generalize actsM A B z0 (ls.take k) = bs at *
            obtain ⟨_, s0, s1⟩ := H.out
            have HT := Lib.hid (show (cellsM A B bs).take 600 = cellsM A B bs from List.take_of_length_le (by have := cellsM_small GK.out SM.out; omega))
            have LC := Lib.hid (show (cellsM A B bs).length ≤ 1048576 by have := cellsM_small GK.out SM.out; omega)
            have HLB := Lib.hid GK.out.small
            have HLB2 := Lib.hid (show bs.length ≤ 1048576 by have := GK.out.small; omega)
            have HLN := Lib.hid (show ((cellsM A B bs).length : Int) = ((ones bs : Nat) : Int) by rw [cellsM_len A B bs GK.out.2.2.1])
            have HCT := Lib.hid (fun w hm => count_any b h A B bs w hm GK.out.2.2.1 GK.out.small)
            rw [← HLN.out] at HCT
            have hX1 : 1 ≤ A := by have := mayB_iff.1 GK.out.1; omega
            have lfs : (fsOf (A * B).toNat bs).length ≤ 65536 := by
              have h0 := mayB_iff.1 GK.out.1
              have h1 : A * B ≤ 256 * B := Int.mul_le_mul_of_nonneg_right h0.2.1 (by omega)
              rw [fsOf_len]; omega
            have HRC := Lib.hid (fun w hm => rcells_any b2 h2 A B (fsOf (A * B).toNat bs) w hm hX1 lfs)
            rw [cells_same GK.out] at HRC
            have HRB := Lib.hid (fun w hm => rbytes_any b2 h2 A B (fsOf (A * B).toNat bs) w hm lfs)
            rw [bytes_same GK.out] at HRB
            have ec : (((cellsM A B bs).length : Int) == ((cellsM A B bs).length : Int)) = true := beq_self_eq_true _
            clear hX1 lfs HLN
            go_wp2_with fail
            refine (HRC.out _ MR.out).mono ?_
            rintro e w5 ⟨ay, cy, rfl, ry, hb⟩
            have RY := Lib.hid ry
            replace MK := Lib.hid (MK.out.below hb)
            replace MR := Lib.hid (MR.out.below hb)
            replace H := Lib.hid (H.out.below hb)
            clear s0 s1
            obtain ⟨_, s0, s1⟩ := H.out
            clear hb ry HRC
            go_wp2_with fail
            refine (HCT.out _ MK.out).mono ?_
            rintro e w' ⟨rfl, rfl⟩
            clear HCT
            go_wp2_with fail
            refine (lcells_any b h A B bs _ MK.out GK.out.2.2.1 HLB.out).mono ?_
            rintro e w6 ⟨az, cz, zs, hzs, rfl, rz, hb⟩
            rw [HT.out] at hzs
            subst hzs
            have RZ := Lib.hid rz
            replace RY := Lib.hid (RY.out.below hb)
            replace MK := Lib.hid (MK.out.below hb)
            replace MR := Lib.hid (MR.out.below hb)
            replace H := Lib.hid (H.out.below hb)
            clear s0 s1
            obtain ⟨_, s0, s1⟩ := H.out
            clear hb rz
            go_wp2_with fail
            refine (same_rows az ay cz cy (cellsM A B bs) _ RZ.out RY.out LC.out).mono ?_
            rintro e w7 ⟨rfl, hb⟩
            replace MK := Lib.hid (MK.out.below hb)
            replace MR := Lib.hid (MR.out.below hb)
            replace H := Lib.hid (H.out.below hb)
            clear s0 s1
            obtain ⟨_, s0, s1⟩ := H.out
            clear hb RZ RY ec
            go_wp2_with fail
            refine (bytes_any b h A B bs _ MK.out HLB.out).mono ?_
            rintro e w8 ⟨rfl, hby, hb⟩
            have BZ := Lib.hid (bytesAt_of hby)
            replace MR := Lib.hid (MR.out.below hb)
            replace H := Lib.hid (H.out.below hb)
            clear s0 s1
            obtain ⟨_, s0, s1⟩ := H.out
            clear hb hby MK
            go_wp2_with fail
            refine (HRB.out _ MR.out).mono ?_
            rintro e w9 ⟨rfl, hby, hb⟩
            have BY := Lib.hid hby
            replace BZ := Lib.hid (BZ.out.below hb)
            replace H := Lib.hid (H.out.below hb)
            clear s0 s1
            obtain ⟨_, s0, s1⟩ := H.out
            clear hb hby MR HRB
            go_wp2_with fail
            refine (bytes_rows w7.heap.size 0 w8.heap.size 0 bs.length bs.length bs _ BZ.out BY.out HLB2.out).mono ?_
            rintro e w10 ⟨rfl, hb⟩
            replace H := Lib.hid (H.out.below hb)
            clear s0 s1
            obtain ⟨_, s0, s1⟩ := H.out
            clear hb BZ BY
            go_wp2_with fail
            refine (awake_any _).mono ?_
            rintro e w99 ⟨rfl, hb⟩
            replace H := Lib.hid (H.out.below hb)
            clear hb s0 s1
            go_wp2
            go_ret
            exact ⟨rfl, H.out.1⟩
end Go.Proofs.Ytgkeifjnnpcleaa
