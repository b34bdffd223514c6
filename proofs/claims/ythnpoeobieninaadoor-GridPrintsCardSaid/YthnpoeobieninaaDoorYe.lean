/- The document's answer for texts: Print. -/
import Derived.Test.YthnpoeobieninaaDoorYd
namespace Go.Proofs.YthnpoeobieninaaDoor
open Go.RowKit

theorem str_blank (a d : List UInt8) : ((⟨a.toArray⟩ : ByteArray) ++ ⟨#[32]⟩) ++ ⟨d.toArray⟩ = ⟨(a ++ (32 :: d)).toArray⟩ := by
  apply ByteArray.ext
  simp
theorem str_row (a d : List UInt8) : ((⟨a.toArray⟩ : ByteArray) ++ ⟨d.toArray⟩) ++ ⟨#[10]⟩ = ⟨(a ++ (d ++ [10])).toArray⟩ := by
  apply ByteArray.ext
  simp
set_option maxHeartbeats 1600000 in
theorem rprint_no (X Y : Int) (a : Option Addr) (n c : Nat) (w : World) (hc : chkF X Y n ≠ 0) :
    Calls Tryd.prog 19 #[.agg #[.int .i64 X, .int .i64 Y, .slice a n c]] w fun e w' => e = .returned (.tuple #[.string ⟨#[]⟩, .int .i64 (chkF X Y n)]) ∧ Below w.heap.size w w' := by
  have hA := bl0 w
  obtain ⟨q, hq⟩ : ∃ q, chkF X Y n = q := ⟨_, rfl⟩
  have h5 : (q != 0) = true := by rw [bne_iff_ne, ← hq]; exact hc
  rw [hq]
  have HQ := Lib.hid hq
  clear hc hq
  go_enter Tryd.func19, Tryd.ntmps19
  go_wp2_with fail
  refine (rcheck_any _ _ _ _ _ _).mono ?_
  rintro e w1 ⟨rfl, hb⟩
  have hk : Below w.heap.size w w1 := by first | exact hb | exact bl_tr (bl_al (bl0 _) _) hb | exact bl_tr (bl_dr (bl_al (bl0 _) _)) hb | exact bl_tr (bl_al (bl_al (bl0 _) _) _) hb | exact bl_tr (bl_dr (bl_al (bl_al (bl0 _) _) _)) hb | exact bl_tr (bl_al (bl_al (bl_al (bl0 _) _) _) _) hb | exact bl_tr (bl_dr (bl_al (bl_al (bl_al (bl0 _) _) _) _)) hb | exact bl_tr (bl_al (bl_al (bl_al (bl_al (bl0 _) _) _) _) _) hb | exact bl_tr (bl_dr (bl_al (bl_al (bl_al (bl_al (bl0 _) _) _) _) _)) hb | exact bl_tr (bl_al (bl_al (bl_al (bl_al (bl_al (bl0 _) _) _) _) _) _) hb | exact bl_tr (bl_dr (bl_al (bl_al (bl_al (bl_al (bl_al (bl0 _) _) _) _) _) _)) hb | exact bl_tr (bl_al (bl_al (bl_al (bl_al (bl_al (bl_al (bl0 _) _) _) _) _) _) _) hb | exact bl_tr (bl_dr (bl_al (bl_al (bl_al (bl_al (bl_al (bl_al (bl0 _) _) _) _) _) _) _)) hb | exact bl_tr (bl_dr (bl0 _)) hb
  replace hA := bl_tr hA hk
  clear hb hk
  rw [HQ.out]
  go_wp2
  go_ret2
  exact ⟨rfl, hA⟩

set_option maxRecDepth 100000 in
set_option maxHeartbeats 4000000 in
theorem rprint_yes (k m N cap : Nat) (a : Option Addr) (zs : List Int) (w : World) (hr : RowH w a zs) (hin : AllH zs) (hN : m * k = N) (hl : zs.length = N) (hl6 : N ≤ 600) (hk : 1 ≤ k) (hm : 1 ≤ m) (hx : chkF k m (N : Int) = 0) :
    Calls Tryd.prog 19 #[.agg #[.int .i64 k, .int .i64 m, .slice a N cap]] w fun e w' => e = .returned (.tuple #[.string ⟨(textTo k zs m).toArray⟩, .int .i64 0]) ∧ Below w.heap.size w w' := by
  have hA := bl0 w
  have HX := Lib.hid hx
  have hNk : k ≤ N := by rw [← hN]; exact Nat.le_mul_of_pos_left k hm
  have hNm : m ≤ N := by rw [← hN]; exact Nat.le_mul_of_pos_right m hk
  have HIX := Lib.hid (show ∀ (j x : Nat), j < m → x < k → j * k + x < N from fun j x h1 h2 => by
    have h3 : (j + 1) * k ≤ m * k := Nat.mul_le_mul_right k h1
    rw [Nat.add_mul, Nat.one_mul] at h3
    omega)
  have HTL := Lib.hid (show ∀ j, j ≤ m → (textTo k zs j).length ≤ 20000 from fun j h1 => by
    have p1 := textTo_len hin k j
    have p3 : j * k ≤ N := by rw [← hN]; exact Nat.mul_le_mul_right k h1
    have p4 : j * (6 * k + 1) = 6 * (j * k) + j := by rw [Nat.mul_add, Nat.mul_one, ← Nat.mul_assoc, Nat.mul_comm j 6, Nat.mul_assoc]
    omega)
  clear hx
  go_enter Tryd.func19, Tryd.ntmps19
  go_wp2_with fail
  refine (rcheck_any _ _ _ _ _ _).mono ?_
  rintro e w1 ⟨rfl, hb⟩
  have hk : Below w.heap.size w w1 := by first | exact hb | exact bl_tr (bl_al (bl0 _) _) hb | exact bl_tr (bl_dr (bl_al (bl0 _) _)) hb | exact bl_tr (bl_al (bl_al (bl0 _) _) _) hb | exact bl_tr (bl_dr (bl_al (bl_al (bl0 _) _) _)) hb | exact bl_tr (bl_al (bl_al (bl_al (bl0 _) _) _) _) hb | exact bl_tr (bl_dr (bl_al (bl_al (bl_al (bl0 _) _) _) _)) hb | exact bl_tr (bl_al (bl_al (bl_al (bl_al (bl0 _) _) _) _) _) hb | exact bl_tr (bl_dr (bl_al (bl_al (bl_al (bl_al (bl0 _) _) _) _) _)) hb | exact bl_tr (bl_al (bl_al (bl_al (bl_al (bl_al (bl0 _) _) _) _) _) _) hb | exact bl_tr (bl_dr (bl_al (bl_al (bl_al (bl_al (bl_al (bl0 _) _) _) _) _) _)) hb | exact bl_tr (bl_al (bl_al (bl_al (bl_al (bl_al (bl_al (bl0 _) _) _) _) _) _) _) hb | exact bl_tr (bl_dr (bl_al (bl_al (bl_al (bl_al (bl_al (bl_al (bl0 _) _) _) _) _) _) _)) hb | exact bl_tr (bl_dr (bl0 _)) hb
  replace hA := bl_tr hA hk
  have f0 := cell_later hb (v := .int .i64 (k : Int)) (a := ⟨w.heap.size, 0, none⟩) (by simp [go_sem])
  have f1 := cell_later hb (v := .int .i64 (m : Int)) (a := ⟨w.heap.size, 1, none⟩) (by simp [go_sem])
  have f2 := cell_later hb (v := .slice a N cap) (a := ⟨w.heap.size, 2, none⟩) (by simp [go_sem])
  clear hb hk
  have zf0 := blk_lt f0
  have zf1 := blk_lt f1
  have zf2 := blk_lt f2
  rw [HX.out]
  have hr1 := hr.below hA
  clear hr
  go_wp2
  go_loopw [5, 6] (fun out y wr => ∃ j : Nat, j ≤ m ∧ y = .int .i64 j ∧ out = .string ⟨(textTo k zs j).toArray⟩ ∧ Below w1.heap.size w1 wr) (fun _ y _ => m - (intOf y).toNat)
  case atStart => exact ⟨0, Nat.zero_le _, rfl, rfl, bl0 w1⟩
  case round =>
    obtain ⟨j, hj, rfl, rfl, hB⟩ := hrel
    have g0 := cell_later hB f0
    have g1 := cell_later hB f1
    have g2 := cell_later hB f2
    have hj0 : (0 : Int) ≤ (j : Int) := by omega
    have hto := HTL.out j hj
    have HTS := Lib.hid (textTo_succ k zs j)
    obtain ⟨TO, hTO⟩ : ∃ TO, textTo k zs j = TO := ⟨_, rfl⟩
    rw [hTO] at hto
    have HTO := Lib.hid hTO
    rw [hTO]
    clear hTO
    by_cases hlt : j < m
    · have hlt2 : (j : Int) < (m : Int) := by omega
      go_wp2
      go_loopw [7, 8] (fun row x wx => ∃ i : Nat, i ≤ k ∧ x = .int .i64 i ∧ row = .string ⟨(rowTo k zs j i).toArray⟩ ∧ Below w1.heap.size w1 wx) (fun _ x _ => k - (intOf x).toNat)
      case atStart => exact ⟨0, Nat.zero_le _, rfl, rfl, hB⟩
      case round =>
        obtain ⟨i, hi, rfl, rfl, hB⟩ := hrel
        have g0 := cell_later hB f0
        have g1 := cell_later hB f1
        have g2 := cell_later hB f2
        have hi0 : (0 : Int) ≤ (i : Int) := by omega
        have hro := rowTo_len hin k j i
        have HRS := Lib.hid (rowTo_succ k zs j i)
        obtain ⟨RO, hRO⟩ : ∃ RO, rowTo k zs j i = RO := ⟨_, rfl⟩
        rw [hRO] at hro
        have HRO := Lib.hid hRO
        rw [hRO]
        clear hRO
        by_cases hlt3 : i < k
        · have hlt4 : (i : Int) < (k : Int) := by omega
          have hix := HIX.out j i hlt hlt3
          have hixl : j * k + i < zs.length := by omega
          obtain ⟨z1, z2⟩ := hin.at hixl
          obtain ⟨u, hu0⟩ : ∃ u : Nat, zs[j * k + i] = (u : Int) := ⟨zs[j * k + i].toNat, by omega⟩
          have hu : u ≤ 65535 := by omega
          have HU := Lib.hid hu0
          have hgd : zs.getD (j * k + i) 0 = (u : Int) := by rw [List.getD_eq_getElem?_getD, List.getElem?_eq_getElem hixl, ← hu0]; rfl
          have HGD := Lib.hid hgd
          have hdl := digits_lt 4 u (by omega)
          have hjk : j * k ≤ 600 := by omega
          have hjI : (j : Int) * (k : Int) + (i : Int) = ((j * k + i : Nat) : Int) := by rw [Int.natCast_add, Int.natCast_mul]
          have hjI0 : (0 : Int) ≤ (j : Int) * (k : Int) := by rw [← Int.natCast_mul]; omega
          have hjI1 : (j : Int) * (k : Int) ≤ 65536 := by rw [← Int.natCast_mul]; omega
          have HJ := Lib.hid (And.intro hjI (And.intro hjI0 hjI1))
          obtain ⟨D, hD⟩ : ∃ D, Lib.decDigits u = D := ⟨_, rfl⟩
          rw [hD] at hdl
          have HD := Lib.hid hD
          have s1 : ¬ 9223372036854775807 < RO.length + 1 := by omega
          have s2 : ¬ 9223372036854775807 < RO.length + D.length := by omega
          have s3 : ¬ 9223372036854775807 < RO.length + 1 + D.length := by omega
          have hrW := hr1.below hB
          clear hD hgd hu0 z1 z2 hjI hjI0 hjI1 hix
          by_cases hi1 : i = 0
          · have hx2 : ¬ (0 : Int) < (i : Int) := by omega
            have hx3 : (i : Int) ≤ 0 := by omega
            have HI0 := Lib.hid hi1
            clear hi1
            go_wp2_with fail
            rw [← hl]
            refine (rcost_at k m a cap zs i j _ wr hrW hin HJ.out.1 hixl HJ.out.2.1 HJ.out.2.2 (by omega)).mono ?_
            rw [HU.out]
            rintro e w5 ⟨rfl, hb⟩
            replace hB := bl_tr hB hb
            clear hb
            go_wp2_with fail
            refine (numeral_any (u + 1) u (by omega) hu _).mono ?_
            rw [HD.out]
            rintro e w6 ⟨rfl, hb⟩
            replace hB := bl_tr hB hb
            clear hb
            go_wp2
            go_roundw
            case rel =>
              refine ⟨i + 1, by omega, by go_num, ?_, hB⟩
              rw [HRS.out, HGD.out, HRO.out, str_app]
              simp [costT, HI0.out, HD.out]
            case measure => simp [intOf]; omega
          · have hx2 : (0 : Int) < (i : Int) := by omega
            have HI0 := Lib.hid hi1
            clear hi1
            go_wp2_with fail
            rw [← hl]
            refine (rcost_at k m a cap zs i j _ wr hrW hin HJ.out.1 hixl HJ.out.2.1 HJ.out.2.2 (by omega)).mono ?_
            rw [HU.out]
            rintro e w5 ⟨rfl, hb⟩
            replace hB := bl_tr hB hb
            clear hb
            go_wp2_with fail
            refine (numeral_any (u + 1) u (by omega) hu _).mono ?_
            rw [HD.out]
            rintro e w6 ⟨rfl, hb⟩
            replace hB := bl_tr hB hb
            clear hb
            go_wp2
            go_roundw
            case rel =>
              refine ⟨i + 1, by omega, by go_num, ?_, hB⟩
              rw [HRS.out, HGD.out, HRO.out, str_blank]
              simp [costT, HI0.out, HD.out]
            case measure => simp [intOf]; omega
        · obtain rfl : i = k := by omega
          have hge : (i : Int) ≤ (i : Int) := Int.le_refl _
          have s1 : ¬ 9223372036854775807 < TO.length + RO.length := by omega
          have s2 : ¬ 9223372036854775807 < TO.length + RO.length + 1 := by omega
          have s3 : ¬ (131072 : Int) < (TO.length : Int) + (RO.length : Int) + 1 := by omega
          have s4 : (TO.length : Int) + (RO.length : Int) + 1 ≤ 131072 := by omega
          have s5 : ¬ 131072 < TO.length + RO.length + 1 := by omega
          go_wp2
          go_roundw
          case rel =>
            refine ⟨j + 1, by omega, by go_num, ?_, hB⟩
            rw [HTS.out, HTO.out, HRO.out, str_row]
          case measure => simp [intOf]; omega
    · obtain rfl : j = m := by omega
      have hge : (j : Int) ≤ (j : Int) := Int.le_refl _
      have hF := hA.trans (hB.mono hA.size)
      go_wp2
      go_ret2
      rw [HTO.out]
      exact ⟨rfl, hF⟩
end Go.Proofs.YthnpoeobieninaaDoor
