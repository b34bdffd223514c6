/- Costs: contracts of Times, of the reference's Add and Times. -/
import Derived.Test.YtgkeifjnnpcleabUa
namespace Go.Proofs.Ytgkeifjnnpcleab
open Go.RowKit

theorem mul_over {x y : Nat} (h : ¬ x * y ≤ 18446744073709551615) : ((↑(x * y / 18446744073709551616) : Int) == (0 : Int)) = false ∧ ((↑(x * y / 18446744073709551616) : Int) != (0 : Int)) = true := by
  have : x * y / 18446744073709551616 ≠ 0 := by omega
  constructor
  · rw [beq_eq_false_iff_ne]; omega
  · rw [bne_iff_ne]; omega
theorem mul_under {x y : Nat} (h : x * y ≤ 18446744073709551615) : ((↑(x * y / 18446744073709551616) : Int) == (0 : Int)) = true ∧ ((↑(x * y / 18446744073709551616) : Int) != (0 : Int)) = false ∧ (↑(x * y % 18446744073709551616) : Int) = ↑(x * y) := by
  have e : x * y / 18446744073709551616 = 0 := by omega
  have e2 : x * y % 18446744073709551616 = x * y := by omega
  rw [e, e2]; exact ⟨rfl, rfl, rfl⟩

set_option maxHeartbeats 400000 in
theorem times_any (a n : Int) (w : World) (ha : inU a) (hn : n ≤ 9223372036854775807) :
    Calls Try.prog 13 #[.int .u64 a, .int .i64 n] w fun e w' => e = .returned (.int .u64 (timesC a n)) ∧ w = w' := by
  by_cases h0 : n < 1
  · have HE := Lib.hid (show timesC a n = 0 by unfold timesC; rw [if_pos h0])
    clear ha
    go_enter Try.func13, Try.ntmps13
    go_wp2
    go_ret
    exact ⟨ret_int (by rw [HE.out]), rfl⟩
  · obtain ⟨x, rfl⟩ := Int.eq_ofNat_of_zero_le ha.1
    obtain ⟨y, rfl⟩ := Int.eq_ofNat_of_zero_le (show 0 ≤ n by omega)
    have hx : x < 18446744073709551616 := by have := ha.2; omega
    have hm := Try.bits_Mul64 x y hx (by omega)
    have hc : (x : Int) * (y : Int) = ((x * y : Nat) : Int) := (Int.natCast_mul x y).symm
    have hw : IntKind.u64.wrap (y : Int) = (y : Int) := by rw [IntKind.wrap_u64]; omega
    have h1 : 1 ≤ (y : Int) := by omega
    by_cases h : x * y ≤ 18446744073709551615
    · obtain ⟨h3, h4, h5⟩ := mul_under h
      have HE := Lib.hid (show timesC x y = ↑(x * y) by unfold timesC; rw [if_neg h0, hc, if_pos (by omega)])
      have H5 := Lib.hid h5
      clear h5 h hc ha h0 hx
      generalize x * y / 18446744073709551616 = o at *
      generalize x * y % 18446744073709551616 = s at *
      go_enter Try.func13, Try.ntmps13
      go_wp2_with fail
      try rw [hw]
      refine (hm _).mono ?_
      rintro e w' ⟨rfl, hw'⟩
      subst hw'
      go_wp2
      go_ret
      exact ⟨ret_int (by rw [HE.out, H5.out]), rfl⟩
    · obtain ⟨h3, h4⟩ := mul_over h
      have HE := Lib.hid (show timesC x y = 18446744073709551615 by unfold timesC; rw [if_neg h0, hc, if_neg (by omega)])
      clear h hc ha h0 hx
      generalize x * y / 18446744073709551616 = o at *
      generalize x * y % 18446744073709551616 = s at *
      go_enter Try.func13, Try.ntmps13
      go_wp2_with fail
      try rw [hw]
      refine (hm _).mono ?_
      rintro e w' ⟨rfl, hw'⟩
      subst hw'
      go_wp2
      go_ret
      exact ⟨ret_int (by rw [HE.out]), rfl⟩

theorem halves (a b : Int) : addC a b = if 4294967295 < a / 4294967296 + b / 4294967296 + (a % 4294967296 + b % 4294967296) / 4294967296 then 18446744073709551615 else
    (a / 4294967296 + b / 4294967296 + (a % 4294967296 + b % 4294967296) / 4294967296) * 4294967296 + (a % 4294967296 + b % 4294967296) % 4294967296 := by
  unfold addC
  split <;> split <;> omega

set_option maxHeartbeats 400000 in
theorem radd_any (a b : Int) (w : World) (ha : inU a) (hb : inU b) :
    Calls Try.prog 10 #[.int .u64 a, .int .u64 b] w fun e w' => e = .returned (.int .u64 (addC a b)) ∧ w = w' := by
  have HE := Lib.hid (halves a b)
  have a0 := ha.1
  have b0 := hb.1
  have a1 : a / 4294967296 ≤ 4294967295 := by have := ha.2; omega
  have b1 : b / 4294967296 ≤ 4294967295 := by have := hb.2; omega
  clear ha hb
  go_enter Try.func10, Try.ntmps10
  go_wp2
  all_goals
    go_ret
    exact ⟨ret_int (by rw [HE.out]; first | (rw [if_pos (by assumption)]; done) | (rw [if_neg (by omega)]; omega)), rfl⟩

set_option maxHeartbeats 800000 in
theorem rtimes_any (a n : Int) (w : World) (ha : inU a) (hn : n ≤ 9223372036854775807) :
    Calls Try.prog 14 #[.int .u64 a, .int .i64 n] w fun e w' => e = .returned (.int .u64 (timesC a n)) ∧ w = w' := by
  have HT := Lib.hid (timesC_in (n := n) ha)
  go_enter Try.func14, Try.ntmps14
  go_wp2
  go_loopw [0, 1, 5] (fun x m o wr => ∃ b k p : Int, x = .int .u64 b ∧ m = .int .i64 k ∧ o = .int .u64 p ∧ inU b ∧ inU p ∧ k ≤ 9223372036854775807 ∧ (k < 0 → k = n) ∧ addC p (timesC b k) = timesC a n ∧ w = wr) (fun _ m _ _ => (intOf m).toNat)
  case atStart => exact ⟨a, n, 0, rfl, rfl, rfl, ha, inU0, hn, fun _ => rfl, zero_addC (timesC_in ha), rfl⟩
  case round =>
    obtain ⟨b, k, p, rfl, rfl, rfl, hb, hp, hk, hkn, he, rfl⟩ := hrel
    have HE := Lib.hid he
    clear he hkn
    by_cases h0 : 0 < k
    · have hq : (0 : Int) ≤ k / 2 := by omega
      by_cases ho : k % 2 = 1
      · have HO := Lib.hid ((timesC_odd hb (by omega) ho p hp).trans HE.out)
        have ho2 : (k % 2 == (1 : Int)) = true := by rw [ho]; rfl
        clear ho
        go_wp2_with (go_at_call 10; (with_reducible refine (radd_any _ _ _ (by assumption) (by assumption)).mono ?_); rintro e w' ⟨rfl, rfl⟩)
        go_roundw
        case rel => exact ⟨addC b b, k / 2, addC p b, rfl, rfl, rfl, addC_in hb hb, addC_in hp hb, by omega, by omega, HO.out, by trivial⟩
        case measure => simp [intOf]; omega
      · have HO := Lib.hid ((congrArg (addC p) (timesC_even hb (by omega) ho)).trans HE.out)
        have ho2 : (k % 2 == (1 : Int)) = false := by rw [beq_eq_false_iff_ne]; exact ho
        clear ho
        go_wp2_with (go_at_call 10; (with_reducible refine (radd_any _ _ _ (by assumption) (by assumption)).mono ?_); rintro e w' ⟨rfl, rfl⟩)
        go_roundw
        case rel => exact ⟨addC b b, k / 2, p, rfl, rfl, rfl, addC_in hb hb, hp, by omega, by omega, HO.out, by trivial⟩
        case measure => simp [intOf]; omega
    · have HF := Lib.hid (show p = timesC a n by rw [← HE.out, timesC_low (by omega), addC_zero hp])
      go_wp2
      go_ret
      exact ⟨ret_int HF.out, rfl⟩
end Go.Proofs.Ytgkeifjnnpcleab
