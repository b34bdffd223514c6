/- SatAdds: the law's walk. -/
import Derived.Test.YtgkeifjnnpcleabUl
namespace Go.Proofs.Ytgkeifjnnpcleab
open Go.RowKit

set_option maxRecDepth 100000 in
set_option maxHeartbeats 3200000 in
theorem adds_walk (a : Option Addr) (ca : Nat) (xs : List Int) (x y n : Int) (w : World) (ra : RowU w a xs) (ua : AllU xs) (ux : inU x) (uy : inU y) (hn : n ≤ 9223372036854775807) :
    Calls Try.prog 3 #[.slice a xs.length ca, .agg #[.int .u64 x, .int .u64 y], .int .i64 n] w fun e w' => e = .returned (.bool true) ∧ Below w.heap.size w w' := by
  have hA := bl_al (bl0 w) (.cells #[.int .u64 x, .int .u64 y] 24)
  go_enter Try.func3, Try.ntmps3
  by_cases l0 : (100 : Int) < (xs.length : Int)
  · have HA := Lib.hid hA
    clear hA
    go_wp2_with fail
    refine (awake_any _).mono ?_
    rintro e w9 ⟨rfl, hb⟩
    have HB := Lib.hid (bl_tr HA.out hb)
    clear hb
    go_wp2
    go_ret
    exact ⟨rfl, HB.out⟩
  · have hl2 : (xs.length : Int) ≤ 100 := by omega
    have ra1 := ra.below hA
    have c0 : (w.alloc (.cells #[.int .u64 x, .int .u64 y] 24)).cell? ⟨w.heap.size, 0, none⟩ = some (.int .u64 x) := by simp [go_sem]
    have c1 : (w.alloc (.cells #[.int .u64 x, .int .u64 y] 24)).cell? ⟨w.heap.size, 1, none⟩ = some (.int .u64 y) := by simp [go_sem]
    obtain ⟨w1, hw1⟩ : ∃ w1, w.alloc (.cells #[.int .u64 x, .int .u64 y] 24) = w1 := ⟨_, rfl⟩
    rw [hw1] at hA ra1 c0 c1
    have H1 := Lib.hid hw1
    clear hw1
    go_wp2
    rw [H1.out]
    go_loopw [7, 8] (fun s i wr => ∃ k : Nat, k ≤ xs.length ∧ i = .int .i64 k ∧ s = .int .u64 (sumC (xs.take k)) ∧ w1 = wr) (fun _ i _ => xs.length - (intOf i).toNat)
    case atStart => exact ⟨0, Nat.zero_le _, rfl, rfl, rfl⟩
    case round =>
      obtain ⟨k, hk, rfl, rfl, rfl⟩ := hrel
      by_cases hlt : k < xs.length
      · have hlt2 : (k : Int) < (xs.length : Int) := by omega
        have hk0 : (0 : Int) ≤ (k : Int) := by omega
        obtain ⟨gb, go, rfl, q⟩ := ra1.cell hlt
        have HS := Lib.hid (sumC_succ xs k hlt)
        have u1 := sumC_in (ua.take k)
        have u2 := ua.at hlt
        clear ra ra1
        go_wp2_with (go_at_call 10; (with_reducible refine (radd_any _ _ _ (by assumption) (by assumption)).mono ?_); rintro e w' ⟨rfl, rfl⟩)
        go_roundw
        case rel => exact ⟨k + 1, by omega, by go_num, by rw [HS.out], by trivial⟩
        case measure => simp [intOf]; omega
      · have HS := Lib.hid (show sumC (xs.take k) = sumC xs by rw [List.take_of_length_le (by omega)])
        have hge : (xs.length : Int) ≤ (k : Int) := by omega
        have hlen : xs.length ≤ 1048576 := by omega
        have e1 : (sumC xs == sumC xs) = true := beq_self_eq_true _
        have e2 : (addC x y == addC x y) = true := beq_self_eq_true _
        have e3 : (timesC x n == timesC x n) = true := beq_self_eq_true _
        go_wp2_with fail
        rw [HS.out]
        have hB := bl_dr (bl0 w1)
        go_region_held3 (fun w' => w'.cell? ⟨w.heap.size, 0, none⟩ = some (.int .u64 x) ∧ w'.cell? ⟨w.heap.size, 1, none⟩ = some (.int .u64 y))
          (exact ⟨cell_later hB c0, cell_later hB c1⟩)
          (first
            | (go_at_call 11; (with_reducible refine (sum_any a ca xs _ (ra1.below hB) ua hlen).mono ?_); rintro e W9 ⟨rfl, rfl⟩)
            | (go_at_call 12; (with_reducible refine (add_any x y _ ux uy).mono ?_); rintro e W9 ⟨rfl, rfl⟩)
            | (go_at_call 10; (with_reducible refine (radd_any x y _ ux uy).mono ?_); rintro e W9 ⟨rfl, rfl⟩)
            | (go_at_call 13; (with_reducible refine (times_any x n _ ux hn).mono ?_); rintro e W9 ⟨rfl, rfl⟩)
            | (go_at_call 14; (with_reducible refine (rtimes_any x n _ ux hn).mono ?_); rintro e W9 ⟨rfl, rfl⟩)
            | (go_at_call 9; (with_reducible refine (awake_any _).mono ?_); rintro e W9 ⟨rfl, hb⟩; replace hB := bl_tr hB hb; clear hb))
        go_wp2
        go_ret
        exact ⟨rfl, bl_tr hA hB⟩
end Go.Proofs.Ytgkeifjnnpcleab
