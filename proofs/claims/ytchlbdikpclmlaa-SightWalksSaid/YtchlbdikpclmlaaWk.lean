/- What is seen along a line: Sees, and the document's answer. -/
import Derived.Test.YtchlbdikpclmlaaWj
namespace Go.Proofs.Ytchlbdikpclmlaa
open Go.RowKit

set_option maxHeartbeats 2000000 in
theorem sees_no (A B : Int) (a : Option Addr) (m cap : Nat) (X Y Z V : Int) (w : World) (he : errW A B m X Y Z V ≠ 0) :
    Calls Try.prog 18 #[.agg #[.int .i64 A, .int .i64 B, .slice a m cap], .agg #[.int .i64 X, .int .i64 Y], .agg #[.int .i64 Z, .int .i64 V]] w fun e w' => e = .returned (.tuple #[.bool false, .int .i64 (errW A B m X Y Z V)]) ∧ Below w.heap.size w w' := by
  have hA := bl0 w
  have HE := Lib.hid he
  have h5 : (errW A B m X Y Z V != 0) = true := by rw [bne_iff_ne]; exact he
  clear he
  obtain ⟨q, hq⟩ : ∃ q, errW A B m X Y Z V = q := ⟨_, rfl⟩
  rw [hq] at h5 ⊢
  have HQ := Lib.hid hq
  clear hq
  go_enter Try.func18, Try.ntmps18
  go_wp2_with fail
  refine (swalk_no _ _ _ _ _ _ _ _ _ _ HE.out).mono ?_
  rintro e w1 ⟨rfl, hb⟩
  have hk : Below w.heap.size w w1 := by first | exact hb | exact bl_tr (bl_al (bl0 _) _) hb | exact bl_tr (bl_dr (bl_al (bl0 _) _)) hb | exact bl_tr (bl_al (bl_al (bl0 _) _) _) hb | exact bl_tr (bl_dr (bl_al (bl_al (bl0 _) _) _)) hb | exact bl_tr (bl_al (bl_al (bl_al (bl0 _) _) _) _) hb | exact bl_tr (bl_dr (bl_al (bl_al (bl_al (bl0 _) _) _) _)) hb | exact bl_tr (bl_al (bl_al (bl_al (bl_al (bl0 _) _) _) _) _) hb | exact bl_tr (bl_dr (bl_al (bl_al (bl_al (bl_al (bl0 _) _) _) _) _)) hb | exact bl_tr (bl_al (bl_al (bl_al (bl_al (bl_al (bl0 _) _) _) _) _) _) hb | exact bl_tr (bl_dr (bl_al (bl_al (bl_al (bl_al (bl_al (bl0 _) _) _) _) _) _)) hb | exact bl_tr (bl_al (bl_al (bl_al (bl_al (bl_al (bl_al (bl0 _) _) _) _) _) _) _) hb | exact bl_tr (bl_dr (bl_al (bl_al (bl_al (bl_al (bl_al (bl_al (bl0 _) _) _) _) _) _) _)) hb | exact bl_tr (bl_dr (bl0 _)) hb
  replace hA := bl_tr hA hk
  clear hb hk
  rw [HQ.out]
  go_wp2
  go_ret2
  exact ⟨rfl, hA⟩
theorem seen_len (A : Int) (zs : List Int) (X Y Z V : Int) (n : Nat) : (seenF A zs X Y Z V n).length ≤ n + 1 := by
  have h := walkL_len (wallB A zs) (lineF X Y Z V n)
  rw [lineF_len] at h
  exact h
set_option maxHeartbeats 2000000 in
theorem sees_yes (A B : Int) (a : Option Addr) (cap : Nat) (zs : List Int) (X Y Z V : Int) (n : Nat) (w : World) (hr : RowH w a zs) (hc : chkF A B zs.length = 0) (h1 : inB A B X Y = true) (h2 : inB A B Z V = true) (hf : max (apartI X Z) (apartI Y V) = n) :
    Calls Try.prog 18 #[.agg #[.int .i64 A, .int .i64 B, .slice a zs.length cap], .agg #[.int .i64 X, .int .i64 Y], .agg #[.int .i64 Z, .int .i64 V]] w fun e w' => e = .returned (.tuple #[.bool (decide ((Z, V) ∈ seenF A zs X Y Z V n)), .int .i64 0]) ∧ Below w.heap.size w w' := by
  have hA := bl0 w
  have hn := far_in h1 h2
  have hsl := seen_len A zs X Y Z V n
  have HC := Lib.hid hc
  have H1 := Lib.hid h1
  have H2 := Lib.hid h2
  have HF := Lib.hid hf
  have hn2 : n ≤ 255 := by omega
  clear hc h1 h2 hf hn
  have hb0 := bl_al (bl_al (bl_al (bl0 w) (.cells #[.int .i64 A, .int .i64 B, .slice a zs.length cap] 38)) (.cells #[.int .i64 X, .int .i64 Y] 23)) (.cells #[.int .i64 Z, .int .i64 V] 23)
  have HR := Lib.hid (hr.below hb0)
  clear hb0
  go_enter Try.func18, Try.ntmps18
  go_wp2_with fail
  refine (swalk_yes A B a cap zs X Y Z V n _ HR.out HC.out H1.out H2.out HF.out).mono ?_
  rintro e w1 ⟨b, cap2, rfl, hrc, hb⟩
  have hk : Below w.heap.size w w1 := by first | exact hb | exact bl_tr (bl_al (bl0 _) _) hb | exact bl_tr (bl_dr (bl_al (bl0 _) _)) hb | exact bl_tr (bl_al (bl_al (bl0 _) _) _) hb | exact bl_tr (bl_dr (bl_al (bl_al (bl0 _) _) _)) hb | exact bl_tr (bl_al (bl_al (bl_al (bl0 _) _) _) _) hb | exact bl_tr (bl_dr (bl_al (bl_al (bl_al (bl0 _) _) _) _)) hb | exact bl_tr (bl_al (bl_al (bl_al (bl_al (bl0 _) _) _) _) _) hb | exact bl_tr (bl_dr (bl_al (bl_al (bl_al (bl_al (bl0 _) _) _) _) _)) hb | exact bl_tr (bl_al (bl_al (bl_al (bl_al (bl_al (bl0 _) _) _) _) _) _) hb | exact bl_tr (bl_dr (bl_al (bl_al (bl_al (bl_al (bl_al (bl0 _) _) _) _) _) _)) hb | exact bl_tr (bl_al (bl_al (bl_al (bl_al (bl_al (bl_al (bl0 _) _) _) _) _) _) _) hb | exact bl_tr (bl_dr (bl_al (bl_al (bl_al (bl_al (bl_al (bl_al (bl0 _) _) _) _) _) _) _)) hb | exact bl_tr (bl_dr (bl0 _)) hb
  replace hA := bl_tr hA hk
  have b0 := cell_later hb (v := .int .i64 Z) (a := ⟨w.heap.size + 1 + 1, 0, none⟩) (by simp [go_sem])
  have b1 := cell_later hb (v := .int .i64 V) (a := ⟨w.heap.size + 1 + 1, 1, none⟩) (by simp [go_sem])
  clear hb hk
  have zb0 := blk_lt b0
  have zb1 := blk_lt b1
  go_wp2_with fail
  refine (scontains_any b cap2 _ _ _ _ hrc (by omega)).mono ?_
  rintro e w2 ⟨rfl, hb⟩
  have hk : Below w1.heap.size w1 w2 := by first | exact hb | exact bl_tr (bl_al (bl0 _) _) hb | exact bl_tr (bl_dr (bl_al (bl0 _) _)) hb | exact bl_tr (bl_al (bl_al (bl0 _) _) _) hb | exact bl_tr (bl_dr (bl_al (bl_al (bl0 _) _) _)) hb | exact bl_tr (bl_al (bl_al (bl_al (bl0 _) _) _) _) hb | exact bl_tr (bl_dr (bl_al (bl_al (bl_al (bl0 _) _) _) _)) hb | exact bl_tr (bl_al (bl_al (bl_al (bl_al (bl0 _) _) _) _) _) hb | exact bl_tr (bl_dr (bl_al (bl_al (bl_al (bl_al (bl0 _) _) _) _) _)) hb | exact bl_tr (bl_al (bl_al (bl_al (bl_al (bl_al (bl0 _) _) _) _) _) _) hb | exact bl_tr (bl_dr (bl_al (bl_al (bl_al (bl_al (bl_al (bl0 _) _) _) _) _) _)) hb | exact bl_tr (bl_al (bl_al (bl_al (bl_al (bl_al (bl_al (bl0 _) _) _) _) _) _) _) hb | exact bl_tr (bl_dr (bl_al (bl_al (bl_al (bl_al (bl_al (bl_al (bl0 _) _) _) _) _) _) _)) hb | exact bl_tr (bl_dr (bl0 _)) hb
  replace hA := bl_tr hA hk
  clear hb hk
  go_wp2
  go_ret2
  exact ⟨rfl, hA⟩

set_option maxRecDepth 100000 in
set_option maxHeartbeats 2000000 in
theorem rcost_any (A B : Int) (a : Option Addr) (cap : Nat) (zs : List Int) (x y : Int) (w : World) (hr : RowH w a zs) (hin : AllH zs) (hi : inB A B x y = true) (hn : (zs.length : Int) = A * B) :
    Calls Try.prog 43 #[.agg #[.int .i64 A, .int .i64 B, .slice a zs.length cap], .agg #[.int .i64 x, .int .i64 y]] w fun e w' => (∃ z : Int, e = .returned (.int .i64 z) ∧ (z == 0) = wallB A zs (x, y)) ∧ Below w.heap.size w w' := by
  obtain ⟨j, hj, hl⟩ := num_of hi hn
  have hl' : j < zs.length := by omega
  have HW := Lib.hid (wallB_at hj hl')
  obtain ⟨h1, h2, h3, h4, h5, h6, h7, h8⟩ := inB_iff.1 hi
  obtain ⟨m1, m2⟩ := mul_bd h7 (by omega) h1 h2
  have hA := bl_al (bl_al (bl0 w) (.cells #[.int .i64 A, .int .i64 B, .slice a zs.length cap] 38)) (.cells #[.int .i64 x, .int .i64 y] 23)
  have hj0 : (0 : Int) ≤ (j : Int) := by omega
  obtain ⟨gb, go, rfl, q⟩ := hr.cell hl'
  have zq := blk_lt q
  have zq1 : gb < w.heap.size + 1 := by omega
  obtain ⟨z1, z2⟩ := hin.at hl'
  obtain ⟨z, hz⟩ : ∃ z, zs[j] = z := ⟨_, rfl⟩
  rw [hz] at q z1 z2
  have HZ := Lib.hid hz
  have hw : IntKind.i64.wrap z = z := by rw [IntKind.wrap_i64]; omega
  have e1 : IntKind.i64.wrap (y * A) = y * A := IntWalk.i64_in _ (by omega)
  have e2 : IntKind.i64.wrap (y * A + x) = j := by rw [hj]; exact IntWalk.i64_in _ (by omega)
  clear hr hin hi hz
  go_enter Try.func43, Try.ntmps43
  go_wp2
  go_ret
  refine ⟨⟨z, rfl, ?_⟩, hA⟩
  rw [HW.out, HZ.out]
end Go.Proofs.Ytchlbdikpclmlaa
