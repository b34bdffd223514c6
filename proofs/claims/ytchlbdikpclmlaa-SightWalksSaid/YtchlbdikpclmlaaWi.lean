/- What is seen along a line: Walk; the chapter's examples. -/
import Derived.Test.YtchlbdikpclmlaaWh
namespace Go.Proofs.Ytchlbdikpclmlaa
open Go.RowKit

/-- What is wrong with a field and two cells. -/
def errW (A B n X Y Z V : Int) : Int := if chkF A B n ≠ 0 then chkF A B n else if (inB A B X Y && inB A B Z V) = true then 0 else 10
theorem errW_ok {A B n X Y Z V : Int} (h : errW A B n X Y Z V = 0) : chkF A B n = 0 ∧ inB A B X Y = true ∧ inB A B Z V = true := by
  unfold errW at h
  split at h
  · rename_i h1
    exact absurd h h1
  · rename_i h1
    split at h
    · rename_i h2
      rw [Bool.and_eq_true] at h2
      exact ⟨by simpa using h1, h2.1, h2.2⟩
    · cases h
theorem chk_area {A B : Int} {n : Int} (h : chkF A B n = 0) : n = A * B := by
  unfold chkF at h
  split at h
  · split at h
    · rename_i hn; exact hn
    · cases h
  · cases h

set_option maxHeartbeats 2000000 in
theorem swalk_no (A B : Int) (a : Option Addr) (m cap : Nat) (X Y Z V : Int) (w : World) (he : errW A B m X Y Z V ≠ 0) :
    Calls Try.prog 17 #[.agg #[.int .i64 A, .int .i64 B, .slice a m cap], .agg #[.int .i64 X, .int .i64 Y], .agg #[.int .i64 Z, .int .i64 V]] w fun e w' => e = .returned (.tuple #[.slice none 0 0, .int .i64 (errW A B m X Y Z V)]) ∧ Below w.heap.size w w' := by
  have hA := bl0 w
  by_cases hc : chkF A B m = 0
  · have HC := Lib.hid hc
    have e10 : errW A B m X Y Z V = 10 := by
      unfold errW at he ⊢
      rw [if_neg (fun h => h hc)] at he ⊢
      split at he
      · exact absurd rfl he
      · rename_i h; rw [if_neg h]
    rw [e10]
    cases h1 : inB A B X Y
    · have H1 := Lib.hid h1
      clear he e10 hc h1
      go_enter Try.func17, Try.ntmps17
      go_wp2_with fail
      refine (check_any _ _ _ _ _ _).mono ?_
      rintro e w1 ⟨rfl, hb⟩
      have hk : Below w.heap.size w w1 := by first | exact hb | exact bl_tr (bl_al (bl0 _) _) hb | exact bl_tr (bl_dr (bl_al (bl0 _) _)) hb | exact bl_tr (bl_al (bl_al (bl0 _) _) _) hb | exact bl_tr (bl_dr (bl_al (bl_al (bl0 _) _) _)) hb | exact bl_tr (bl_al (bl_al (bl_al (bl0 _) _) _) _) hb | exact bl_tr (bl_dr (bl_al (bl_al (bl_al (bl0 _) _) _) _)) hb | exact bl_tr (bl_al (bl_al (bl_al (bl_al (bl0 _) _) _) _) _) hb | exact bl_tr (bl_dr (bl_al (bl_al (bl_al (bl_al (bl0 _) _) _) _) _)) hb | exact bl_tr (bl_al (bl_al (bl_al (bl_al (bl_al (bl0 _) _) _) _) _) _) hb | exact bl_tr (bl_dr (bl_al (bl_al (bl_al (bl_al (bl_al (bl0 _) _) _) _) _) _)) hb | exact bl_tr (bl_al (bl_al (bl_al (bl_al (bl_al (bl_al (bl0 _) _) _) _) _) _) _) hb | exact bl_tr (bl_dr (bl_al (bl_al (bl_al (bl_al (bl_al (bl_al (bl0 _) _) _) _) _) _) _)) hb | exact bl_tr (bl_dr (bl0 _)) hb
      replace hA := bl_tr hA hk
      have f0 := cell_later hb (v := .int .i64 A) (a := ⟨w.heap.size, 0, none⟩) (by simp [go_sem])
      have f1 := cell_later hb (v := .int .i64 B) (a := ⟨w.heap.size, 1, none⟩) (by simp [go_sem])
      have f2 := cell_later hb (v := .slice a m cap) (a := ⟨w.heap.size, 2, none⟩) (by simp [go_sem])
      have a0 := cell_later hb (v := .int .i64 X) (a := ⟨w.heap.size + 1, 0, none⟩) (by simp [go_sem])
      have a1 := cell_later hb (v := .int .i64 Y) (a := ⟨w.heap.size + 1, 1, none⟩) (by simp [go_sem])
      have b0 := cell_later hb (v := .int .i64 Z) (a := ⟨w.heap.size + 1 + 1, 0, none⟩) (by simp [go_sem])
      have b1 := cell_later hb (v := .int .i64 V) (a := ⟨w.heap.size + 1 + 1, 1, none⟩) (by simp [go_sem])
      clear hb hk
      have zf0 := blk_lt f0
      have zf1 := blk_lt f1
      have zf2 := blk_lt f2
      have za0 := blk_lt a0
      have za1 := blk_lt a1
      have zb0 := blk_lt b0
      have zb1 := blk_lt b1
      rw [HC.out]
      go_wp2_with fail
      refine (in_any _ _ _ _ _).mono ?_
      rintro e w2 ⟨rfl, hb⟩
      have hk : Below w1.heap.size w1 w2 := by first | exact hb | exact bl_tr (bl_al (bl0 _) _) hb | exact bl_tr (bl_dr (bl_al (bl0 _) _)) hb | exact bl_tr (bl_al (bl_al (bl0 _) _) _) hb | exact bl_tr (bl_dr (bl_al (bl_al (bl0 _) _) _)) hb | exact bl_tr (bl_al (bl_al (bl_al (bl0 _) _) _) _) hb | exact bl_tr (bl_dr (bl_al (bl_al (bl_al (bl0 _) _) _) _)) hb | exact bl_tr (bl_al (bl_al (bl_al (bl_al (bl0 _) _) _) _) _) hb | exact bl_tr (bl_dr (bl_al (bl_al (bl_al (bl_al (bl0 _) _) _) _) _)) hb | exact bl_tr (bl_al (bl_al (bl_al (bl_al (bl_al (bl0 _) _) _) _) _) _) hb | exact bl_tr (bl_dr (bl_al (bl_al (bl_al (bl_al (bl_al (bl0 _) _) _) _) _) _)) hb | exact bl_tr (bl_al (bl_al (bl_al (bl_al (bl_al (bl_al (bl0 _) _) _) _) _) _) _) hb | exact bl_tr (bl_dr (bl_al (bl_al (bl_al (bl_al (bl_al (bl_al (bl0 _) _) _) _) _) _) _)) hb | exact bl_tr (bl_dr (bl0 _)) hb
      replace hA := bl_tr hA hk
      clear hb hk
      rw [H1.out]
      go_wp2
      go_ret2
      exact ⟨rfl, hA⟩
    · cases h2 : inB A B Z V
      · have H1 := Lib.hid h1
        have H2 := Lib.hid h2
        clear he e10 hc h1 h2
        go_enter Try.func17, Try.ntmps17
        go_wp2_with fail
        refine (check_any _ _ _ _ _ _).mono ?_
        rintro e w1 ⟨rfl, hb⟩
        have hk : Below w.heap.size w w1 := by first | exact hb | exact bl_tr (bl_al (bl0 _) _) hb | exact bl_tr (bl_dr (bl_al (bl0 _) _)) hb | exact bl_tr (bl_al (bl_al (bl0 _) _) _) hb | exact bl_tr (bl_dr (bl_al (bl_al (bl0 _) _) _)) hb | exact bl_tr (bl_al (bl_al (bl_al (bl0 _) _) _) _) hb | exact bl_tr (bl_dr (bl_al (bl_al (bl_al (bl0 _) _) _) _)) hb | exact bl_tr (bl_al (bl_al (bl_al (bl_al (bl0 _) _) _) _) _) hb | exact bl_tr (bl_dr (bl_al (bl_al (bl_al (bl_al (bl0 _) _) _) _) _)) hb | exact bl_tr (bl_al (bl_al (bl_al (bl_al (bl_al (bl0 _) _) _) _) _) _) hb | exact bl_tr (bl_dr (bl_al (bl_al (bl_al (bl_al (bl_al (bl0 _) _) _) _) _) _)) hb | exact bl_tr (bl_al (bl_al (bl_al (bl_al (bl_al (bl_al (bl0 _) _) _) _) _) _) _) hb | exact bl_tr (bl_dr (bl_al (bl_al (bl_al (bl_al (bl_al (bl_al (bl0 _) _) _) _) _) _) _)) hb | exact bl_tr (bl_dr (bl0 _)) hb
        replace hA := bl_tr hA hk
        have f0 := cell_later hb (v := .int .i64 A) (a := ⟨w.heap.size, 0, none⟩) (by simp [go_sem])
        have f1 := cell_later hb (v := .int .i64 B) (a := ⟨w.heap.size, 1, none⟩) (by simp [go_sem])
        have f2 := cell_later hb (v := .slice a m cap) (a := ⟨w.heap.size, 2, none⟩) (by simp [go_sem])
        have a0 := cell_later hb (v := .int .i64 X) (a := ⟨w.heap.size + 1, 0, none⟩) (by simp [go_sem])
        have a1 := cell_later hb (v := .int .i64 Y) (a := ⟨w.heap.size + 1, 1, none⟩) (by simp [go_sem])
        have b0 := cell_later hb (v := .int .i64 Z) (a := ⟨w.heap.size + 1 + 1, 0, none⟩) (by simp [go_sem])
        have b1 := cell_later hb (v := .int .i64 V) (a := ⟨w.heap.size + 1 + 1, 1, none⟩) (by simp [go_sem])
        clear hb hk
        have zf0 := blk_lt f0
        have zf1 := blk_lt f1
        have zf2 := blk_lt f2
        have za0 := blk_lt a0
        have za1 := blk_lt a1
        have zb0 := blk_lt b0
        have zb1 := blk_lt b1
        rw [HC.out]
        go_wp2_with fail
        refine (in_any _ _ _ _ _).mono ?_
        rintro e w2 ⟨rfl, hb⟩
        have hk : Below w1.heap.size w1 w2 := by first | exact hb | exact bl_tr (bl_al (bl0 _) _) hb | exact bl_tr (bl_dr (bl_al (bl0 _) _)) hb | exact bl_tr (bl_al (bl_al (bl0 _) _) _) hb | exact bl_tr (bl_dr (bl_al (bl_al (bl0 _) _) _)) hb | exact bl_tr (bl_al (bl_al (bl_al (bl0 _) _) _) _) hb | exact bl_tr (bl_dr (bl_al (bl_al (bl_al (bl0 _) _) _) _)) hb | exact bl_tr (bl_al (bl_al (bl_al (bl_al (bl0 _) _) _) _) _) hb | exact bl_tr (bl_dr (bl_al (bl_al (bl_al (bl_al (bl0 _) _) _) _) _)) hb | exact bl_tr (bl_al (bl_al (bl_al (bl_al (bl_al (bl0 _) _) _) _) _) _) hb | exact bl_tr (bl_dr (bl_al (bl_al (bl_al (bl_al (bl_al (bl0 _) _) _) _) _) _)) hb | exact bl_tr (bl_al (bl_al (bl_al (bl_al (bl_al (bl_al (bl0 _) _) _) _) _) _) _) hb | exact bl_tr (bl_dr (bl_al (bl_al (bl_al (bl_al (bl_al (bl_al (bl0 _) _) _) _) _) _) _)) hb | exact bl_tr (bl_dr (bl0 _)) hb
        replace hA := bl_tr hA hk
        replace f0 := cell_later hk f0
        replace f1 := cell_later hk f1
        replace f2 := cell_later hk f2
        replace b0 := cell_later hk b0
        replace b1 := cell_later hk b1
        clear hb hk
        have zf0 := blk_lt f0
        have zf1 := blk_lt f1
        have zf2 := blk_lt f2
        have zb0 := blk_lt b0
        have zb1 := blk_lt b1
        rw [H1.out]
        go_wp2_with fail
        refine (in_any _ _ _ _ _).mono ?_
        rintro e w3 ⟨rfl, hb⟩
        have hk : Below w2.heap.size w2 w3 := by first | exact hb | exact bl_tr (bl_al (bl0 _) _) hb | exact bl_tr (bl_dr (bl_al (bl0 _) _)) hb | exact bl_tr (bl_al (bl_al (bl0 _) _) _) hb | exact bl_tr (bl_dr (bl_al (bl_al (bl0 _) _) _)) hb | exact bl_tr (bl_al (bl_al (bl_al (bl0 _) _) _) _) hb | exact bl_tr (bl_dr (bl_al (bl_al (bl_al (bl0 _) _) _) _)) hb | exact bl_tr (bl_al (bl_al (bl_al (bl_al (bl0 _) _) _) _) _) hb | exact bl_tr (bl_dr (bl_al (bl_al (bl_al (bl_al (bl0 _) _) _) _) _)) hb | exact bl_tr (bl_al (bl_al (bl_al (bl_al (bl_al (bl0 _) _) _) _) _) _) hb | exact bl_tr (bl_dr (bl_al (bl_al (bl_al (bl_al (bl_al (bl0 _) _) _) _) _) _)) hb | exact bl_tr (bl_al (bl_al (bl_al (bl_al (bl_al (bl_al (bl0 _) _) _) _) _) _) _) hb | exact bl_tr (bl_dr (bl_al (bl_al (bl_al (bl_al (bl_al (bl_al (bl0 _) _) _) _) _) _) _)) hb | exact bl_tr (bl_dr (bl0 _)) hb
        replace hA := bl_tr hA hk
        clear hb hk
        rw [H2.out]
        go_wp2
        go_ret2
        exact ⟨rfl, hA⟩
      · exfalso
        apply he
        unfold errW
        rw [if_neg (fun h => h hc), if_pos (by rw [h1, h2]; rfl)]
  · have e10 : errW A B m X Y Z V = chkF A B m := by unfold errW; rw [if_pos hc]
    rw [e10]
    have h5 : (chkF A B m != 0) = true := by rw [bne_iff_ne]; exact hc
    clear he e10 hc
    generalize hq : chkF A B m = q at *
    have HX := Lib.hid hq
    clear hq
    go_enter Try.func17, Try.ntmps17
    go_wp2_with fail
    refine (check_any _ _ _ _ _ _).mono ?_
    rintro e w1 ⟨rfl, hb⟩
    have hk : Below w.heap.size w w1 := by first | exact hb | exact bl_tr (bl_al (bl0 _) _) hb | exact bl_tr (bl_dr (bl_al (bl0 _) _)) hb | exact bl_tr (bl_al (bl_al (bl0 _) _) _) hb | exact bl_tr (bl_dr (bl_al (bl_al (bl0 _) _) _)) hb | exact bl_tr (bl_al (bl_al (bl_al (bl0 _) _) _) _) hb | exact bl_tr (bl_dr (bl_al (bl_al (bl_al (bl0 _) _) _) _)) hb | exact bl_tr (bl_al (bl_al (bl_al (bl_al (bl0 _) _) _) _) _) hb | exact bl_tr (bl_dr (bl_al (bl_al (bl_al (bl_al (bl0 _) _) _) _) _)) hb | exact bl_tr (bl_al (bl_al (bl_al (bl_al (bl_al (bl0 _) _) _) _) _) _) hb | exact bl_tr (bl_dr (bl_al (bl_al (bl_al (bl_al (bl_al (bl0 _) _) _) _) _) _)) hb | exact bl_tr (bl_al (bl_al (bl_al (bl_al (bl_al (bl_al (bl0 _) _) _) _) _) _) _) hb | exact bl_tr (bl_dr (bl_al (bl_al (bl_al (bl_al (bl_al (bl_al (bl0 _) _) _) _) _) _) _)) hb | exact bl_tr (bl_dr (bl0 _)) hb
    replace hA := bl_tr hA hk
    clear hb hk
    rw [HX.out]
    go_wp2
    go_ret2
    exact ⟨rfl, hA⟩
set_option maxHeartbeats 2000000 in
theorem swalk_yes (A B : Int) (a : Option Addr) (cap : Nat) (zs : List Int) (X Y Z V : Int) (n : Nat) (w : World) (hr : RowH w a zs) (hc : chkF A B zs.length = 0) (h1 : inB A B X Y = true) (h2 : inB A B Z V = true) (hf : max (apartI X Z) (apartI Y V) = n) :
    Calls Try.prog 17 #[.agg #[.int .i64 A, .int .i64 B, .slice a zs.length cap], .agg #[.int .i64 X, .int .i64 Y], .agg #[.int .i64 Z, .int .i64 V]] w fun e w' => ∃ b cap2, e = .returned (.tuple #[.slice b (seenF A zs X Y Z V n).length cap2, .int .i64 0]) ∧ RowC w' b (seenF A zs X Y Z V n) ∧ Below w.heap.size w w' := by
  have hA := bl0 w
  have hn := chk_area hc
  have HC := Lib.hid hc
  have H1 := Lib.hid h1
  have H2 := Lib.hid h2
  have HN := Lib.hid hn
  clear hc h1 h2 hn
  go_enter Try.func17, Try.ntmps17
  go_wp2_with fail
  refine (check_any _ _ _ _ _ _).mono ?_
  rintro e w1 ⟨rfl, hb⟩
  have hk : Below w.heap.size w w1 := by first | exact hb | exact bl_tr (bl_al (bl0 _) _) hb | exact bl_tr (bl_dr (bl_al (bl0 _) _)) hb | exact bl_tr (bl_al (bl_al (bl0 _) _) _) hb | exact bl_tr (bl_dr (bl_al (bl_al (bl0 _) _) _)) hb | exact bl_tr (bl_al (bl_al (bl_al (bl0 _) _) _) _) hb | exact bl_tr (bl_dr (bl_al (bl_al (bl_al (bl0 _) _) _) _)) hb | exact bl_tr (bl_al (bl_al (bl_al (bl_al (bl0 _) _) _) _) _) hb | exact bl_tr (bl_dr (bl_al (bl_al (bl_al (bl_al (bl0 _) _) _) _) _)) hb | exact bl_tr (bl_al (bl_al (bl_al (bl_al (bl_al (bl0 _) _) _) _) _) _) hb | exact bl_tr (bl_dr (bl_al (bl_al (bl_al (bl_al (bl_al (bl0 _) _) _) _) _) _)) hb | exact bl_tr (bl_al (bl_al (bl_al (bl_al (bl_al (bl_al (bl0 _) _) _) _) _) _) _) hb | exact bl_tr (bl_dr (bl_al (bl_al (bl_al (bl_al (bl_al (bl_al (bl0 _) _) _) _) _) _) _)) hb | exact bl_tr (bl_dr (bl0 _)) hb
  replace hA := bl_tr hA hk
  have f0 := cell_later hb (v := .int .i64 A) (a := ⟨w.heap.size, 0, none⟩) (by simp [go_sem])
  have f1 := cell_later hb (v := .int .i64 B) (a := ⟨w.heap.size, 1, none⟩) (by simp [go_sem])
  have f2 := cell_later hb (v := .slice a zs.length cap) (a := ⟨w.heap.size, 2, none⟩) (by simp [go_sem])
  have a0 := cell_later hb (v := .int .i64 X) (a := ⟨w.heap.size + 1, 0, none⟩) (by simp [go_sem])
  have a1 := cell_later hb (v := .int .i64 Y) (a := ⟨w.heap.size + 1, 1, none⟩) (by simp [go_sem])
  have b0 := cell_later hb (v := .int .i64 Z) (a := ⟨w.heap.size + 1 + 1, 0, none⟩) (by simp [go_sem])
  have b1 := cell_later hb (v := .int .i64 V) (a := ⟨w.heap.size + 1 + 1, 1, none⟩) (by simp [go_sem])
  clear hb hk
  have zf0 := blk_lt f0
  have zf1 := blk_lt f1
  have zf2 := blk_lt f2
  have za0 := blk_lt a0
  have za1 := blk_lt a1
  have zb0 := blk_lt b0
  have zb1 := blk_lt b1
  rw [HC.out]
  go_wp2_with fail
  refine (in_any _ _ _ _ _).mono ?_
  rintro e w2 ⟨rfl, hb⟩
  have hk : Below w1.heap.size w1 w2 := by first | exact hb | exact bl_tr (bl_al (bl0 _) _) hb | exact bl_tr (bl_dr (bl_al (bl0 _) _)) hb | exact bl_tr (bl_al (bl_al (bl0 _) _) _) hb | exact bl_tr (bl_dr (bl_al (bl_al (bl0 _) _) _)) hb | exact bl_tr (bl_al (bl_al (bl_al (bl0 _) _) _) _) hb | exact bl_tr (bl_dr (bl_al (bl_al (bl_al (bl0 _) _) _) _)) hb | exact bl_tr (bl_al (bl_al (bl_al (bl_al (bl0 _) _) _) _) _) hb | exact bl_tr (bl_dr (bl_al (bl_al (bl_al (bl_al (bl0 _) _) _) _) _)) hb | exact bl_tr (bl_al (bl_al (bl_al (bl_al (bl_al (bl0 _) _) _) _) _) _) hb | exact bl_tr (bl_dr (bl_al (bl_al (bl_al (bl_al (bl_al (bl0 _) _) _) _) _) _)) hb | exact bl_tr (bl_al (bl_al (bl_al (bl_al (bl_al (bl_al (bl0 _) _) _) _) _) _) _) hb | exact bl_tr (bl_dr (bl_al (bl_al (bl_al (bl_al (bl_al (bl_al (bl0 _) _) _) _) _) _) _)) hb | exact bl_tr (bl_dr (bl0 _)) hb
  replace hA := bl_tr hA hk
  replace f0 := cell_later hk f0
  replace f1 := cell_later hk f1
  replace f2 := cell_later hk f2
  replace a0 := cell_later hk a0
  replace a1 := cell_later hk a1
  replace b0 := cell_later hk b0
  replace b1 := cell_later hk b1
  clear hb hk
  have zf0 := blk_lt f0
  have zf1 := blk_lt f1
  have zf2 := blk_lt f2
  have za0 := blk_lt a0
  have za1 := blk_lt a1
  have zb0 := blk_lt b0
  have zb1 := blk_lt b1
  rw [H1.out]
  go_wp2_with fail
  refine (in_any _ _ _ _ _).mono ?_
  rintro e w3 ⟨rfl, hb⟩
  have hk : Below w2.heap.size w2 w3 := by first | exact hb | exact bl_tr (bl_al (bl0 _) _) hb | exact bl_tr (bl_dr (bl_al (bl0 _) _)) hb | exact bl_tr (bl_al (bl_al (bl0 _) _) _) hb | exact bl_tr (bl_dr (bl_al (bl_al (bl0 _) _) _)) hb | exact bl_tr (bl_al (bl_al (bl_al (bl0 _) _) _) _) hb | exact bl_tr (bl_dr (bl_al (bl_al (bl_al (bl0 _) _) _) _)) hb | exact bl_tr (bl_al (bl_al (bl_al (bl_al (bl0 _) _) _) _) _) hb | exact bl_tr (bl_dr (bl_al (bl_al (bl_al (bl_al (bl0 _) _) _) _) _)) hb | exact bl_tr (bl_al (bl_al (bl_al (bl_al (bl_al (bl0 _) _) _) _) _) _) hb | exact bl_tr (bl_dr (bl_al (bl_al (bl_al (bl_al (bl_al (bl0 _) _) _) _) _) _)) hb | exact bl_tr (bl_al (bl_al (bl_al (bl_al (bl_al (bl_al (bl0 _) _) _) _) _) _) _) hb | exact bl_tr (bl_dr (bl_al (bl_al (bl_al (bl_al (bl_al (bl_al (bl0 _) _) _) _) _) _) _)) hb | exact bl_tr (bl_dr (bl0 _)) hb
  replace hA := bl_tr hA hk
  replace f0 := cell_later hk f0
  replace f1 := cell_later hk f1
  replace f2 := cell_later hk f2
  replace a0 := cell_later hk a0
  replace a1 := cell_later hk a1
  replace b0 := cell_later hk b0
  replace b1 := cell_later hk b1
  clear hb hk
  have zf0 := blk_lt f0
  have zf1 := blk_lt f1
  have zf2 := blk_lt f2
  have za0 := blk_lt a0
  have za1 := blk_lt a1
  have zb0 := blk_lt b0
  have zb1 := blk_lt b1
  rw [H2.out]
  go_wp2_with fail
  refine (walk_any A B a cap zs X Y Z V n _ (hr.below hA) H1.out H2.out HN.out hf).mono ?_
  rintro e w4 ⟨b, cap2, rfl, hrc, hb⟩
  have hF := bl_tr hA hb
  go_wp2
  go_ret2
  exact ⟨_, _, rfl, hrc, hF⟩

set_option maxRecDepth 100000 in
set_option maxHeartbeats 4000000 in
theorem awake_any (w : World) :
    Calls Try.prog 12 #[] w fun e w' => e = .returned (.bool true) ∧ Below w.heap.size w w' := by
  have hA := bl0 w
  have l1 : (lineF 0 0 3 1 3) = [(0, 0), (1, 0), (2, 1), (3, 1)] := by decide
  have l2 : seenF 4 [1, 0, 1, 1, 1, 1, 1, 1] 0 0 3 1 3 = [(0, 0), (1, 0)] := by decide
  have L1 := Lib.hid l1
  have L2 := Lib.hid l2
  clear l1 l2
  go_enter Try.func12, Try.ntmps12
  go_wp2_with fail
  refine (line_yes 0 0 3 1 3 _ (by decide) (by decide) (by decide) (by decide)).mono ?_
  rw [L1.out]
  rintro e w1 ⟨a, cap, rfl, hr1, hb⟩
  have hA1 := bl_tr hA hb
  clear hb
  go_wp2_with fail
  obtain ⟨W2, hW2⟩ : ∃ W2, (w1.alloc (.cells #[.int .u16 1, .int .u16 0, .int .u16 1, .int .u16 1, .int .u16 1, .int .u16 1, .int .u16 1, .int .u16 1] 60)).alloc (.cells #[.int .i64 4, .int .i64 2, .slice (some ⟨w1.heap.size, 0, none⟩) 8 8] 38) = W2 := ⟨_, rfl⟩
  have hb2 : Below w1.heap.size w1 W2 := by rw [← hW2]; exact bl_al (bl_al (bl0 _) _) _
  have hrf : RowH W2 (some ⟨w1.heap.size, 0, none⟩) [1, 0, 1, 1, 1, 1, 1, 1] := .inr ⟨_, 0, rfl, fun i z hz => by
    have hi := (List.getElem?_eq_some_iff.1 hz).1
    simp at hi
    rw [← hW2]
    obtain rfl | rfl | rfl | rfl | rfl | rfl | rfl | rfl : i = 0 ∨ i = 1 ∨ i = 2 ∨ i = 3 ∨ i = 4 ∨ i = 5 ∨ i = 6 ∨ i = 7 := by omega
    all_goals
      simp at hz
      subst hz
      simp [go_sem]⟩
  rw [hW2]
  clear hW2
  have hr2 := hr1.below hb2
  have hA2 := bl_tr hA1 hb2
  refine (swalk_yes 4 2 (some ⟨w1.heap.size, 0, none⟩) 8 [1, 0, 1, 1, 1, 1, 1, 1] 0 0 3 1 3 _ hrf (by decide) (by decide) (by decide) (by decide)).mono ?_
  rw [L2.out]
  rintro e w3 ⟨a3, cap3, rfl, hr3, hb⟩
  have hr4 := hr2.below hb
  have hA3 := bl_tr hA2 hb
  clear hb hrf hr1 hr2 hb2 hA1 hA2 hA
  go_wp2_with fail
  obtain ⟨W4, hW4⟩ : ∃ W4, w3.alloc (.cells #[.int .i64 0, .int .i64 0, .int .i64 1, .int .i64 0, .int .i64 2, .int .i64 1, .int .i64 3, .int .i64 1] 23) = W4 := ⟨_, rfl⟩
  have hb4 : Below w3.heap.size w3 W4 := by rw [← hW4]; exact bl_al (bl0 _) _
  have hl4 : RowC W4 (some ⟨w3.heap.size, 0, none⟩) [(0, 0), (1, 0), (2, 1), (3, 1)] := .inr ⟨_, 0, rfl, fun i z hz => by
    have hi := (List.getElem?_eq_some_iff.1 hz).1
    simp at hi
    rw [← hW4]
    obtain rfl | rfl | rfl | rfl : i = 0 ∨ i = 1 ∨ i = 2 ∨ i = 3 := by omega
    all_goals
      simp at hz
      subst hz
      simp [go_sem]⟩
  rw [hW4]
  clear hW4
  replace hA3 := bl_tr hA3 hb4
  refine (samec_any a (some ⟨w3.heap.size, 0, none⟩) cap 4 [(0, 0), (1, 0), (2, 1), (3, 1)] [(0, 0), (1, 0), (2, 1), (3, 1)] _ (hr4.below hb4) hl4 (by decide)).mono ?_
  rintro e w5 ⟨rfl, hb⟩
  rw [show decide (([(0, 0), (1, 0), (2, 1), (3, 1)] : List (Int × Int)) = [(0, 0), (1, 0), (2, 1), (3, 1)]) = true from decide_eq_true rfl]
  have hr5 := (hr3.below hb4).below hb
  replace hA3 := bl_tr hA3 hb
  clear hb hr3 hr4 hl4 hb4
  go_wp2_with fail
  obtain ⟨W6, hW6⟩ : ∃ W6, w5.alloc (.cells #[.int .i64 0, .int .i64 0, .int .i64 1, .int .i64 0] 23) = W6 := ⟨_, rfl⟩
  have hb6 : Below w5.heap.size w5 W6 := by rw [← hW6]; exact bl_al (bl0 _) _
  have hl6 : RowC W6 (some ⟨w5.heap.size, 0, none⟩) [(0, 0), (1, 0)] := .inr ⟨_, 0, rfl, fun i z hz => by
    have hi := (List.getElem?_eq_some_iff.1 hz).1
    simp at hi
    rw [← hW6]
    obtain rfl | rfl : i = 0 ∨ i = 1 := by omega
    all_goals
      simp at hz
      subst hz
      simp [go_sem]⟩
  rw [hW6]
  clear hW6
  replace hA3 := bl_tr hA3 hb6
  refine (samec_any a3 (some ⟨w5.heap.size, 0, none⟩) cap3 2 [(0, 0), (1, 0)] [(0, 0), (1, 0)] _ (hr5.below hb6) hl6 (by decide)).mono ?_
  rintro e w7 ⟨rfl, hb⟩
  rw [show decide (([(0, 0), (1, 0)] : List (Int × Int)) = [(0, 0), (1, 0)]) = true from decide_eq_true rfl]
  replace hA3 := bl_tr hA3 hb
  clear hb hr5 hl6 hb6
  go_wp2
  go_ret
  exact ⟨rfl, hA3⟩
end Go.Proofs.Ytchlbdikpclmlaa
