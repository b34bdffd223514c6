/- Straight lines: which whole number is nearest to a quotient. -/
import Derived.Test.YtchlbdikpclmlaaGc
import Derived.Test.YtchlbdikpclmlaaRa
import Derived.Lib.Hide
namespace Go.Proofs.Ytchlbdikpclmlaa
open Go.RowKit

/-- The greatest whole number that is not above v divided by n, and a half; of n 0: 0. -/
def pF (v n : Int) : Int := if n = 0 then 0 else (2 * v + n) / (2 * n)
theorem pF_nil (v : Int) : pF v 0 = 0 := by simp [pF]
theorem tmod_gt (t d : Int) (hd : 0 < d) : -d < t.tmod d := by
  rcases Int.le_total 0 t with h | h
  · have := Int.tmod_nonneg d h
    omega
  · have h1 : (-t).tmod d < d := Int.tmod_lt_of_pos _ hd
    rw [Int.neg_tmod] at h1
    omega
theorem div_low {t d : Int} (hd : 0 < d) (h : t.tmod d < 0) : t / d = t.tdiv d - 1 := by
  have h1 := Int.mul_tdiv_add_tmod t d
  have h2 := tmod_gt t d hd
  refine ((Int.ediv_emod_unique (r := t.tmod d + d) hd).2 ⟨?_, by omega, by omega⟩).1
  rw [Int.mul_sub, Int.mul_one]
  omega
theorem div_up {t d : Int} (hd : 0 < d) (h : 0 ≤ t.tmod d) : t / d = t.tdiv d := by
  have h1 := Int.mul_tdiv_add_tmod t d
  have h2 := Int.tmod_lt_of_pos t hd
  refine ((Int.ediv_emod_unique (r := t.tmod d) hd).2 ⟨?_, by omega, by omega⟩).1
  omega
theorem tdiv_bd {t : Int} (d : Int) (ht : -4194304 ≤ t ∧ t ≤ 4194304) : -4194304 ≤ t.tdiv d ∧ t.tdiv d ≤ 4194304 := by
  have hn : (t.tdiv d).natAbs ≤ t.natAbs := by rw [Int.natAbs_tdiv]; exact Nat.div_le_self _ _
  omega
theorem mul_back (t d : Int) : (t < d * t.tdiv d → t.tmod d < 0) ∧ (¬ t < d * t.tdiv d → 0 ≤ t.tmod d) := by
  have h1 := Int.mul_tdiv_add_tmod t d
  constructor <;> intro h <;> omega

set_option maxHeartbeats 1000000 in
theorem nearest_any (v n : Int) (w : World) (hv : -1048576 ≤ v ∧ v ≤ 1048576) (hn : 0 ≤ n ∧ n ≤ 4096) :
    Calls Try.prog 64 #[.int .i64 v, .int .i64 n] w fun e w' => e = .returned (.int .i64 (pF v n)) ∧ Below w.heap.size w w' := by
  by_cases h0 : n = 0
  · subst h0
    go_enter Try.func64, Try.ntmps64
    go_wp2
    go_ret
    exact ⟨by simp [pF], bl0 _⟩
  · have h0b : (n == 0) = false := by rw [beq_eq_false_iff_ne]; exact h0
    have hp : pF v n = (2 * v + n) / (2 * n) := by simp [pF, h0]
    have w1 : IntKind.i64.wrap (2 * v) = 2 * v := IntWalk.i64_in _ (by omega)
    have w2 : IntKind.i64.wrap (2 * v + n) = 2 * v + n := IntWalk.i64_in _ (by omega)
    have w3 : IntKind.i64.wrap (2 * n) = 2 * n := IntWalk.i64_in _ (by omega)
    have hd : 0 < 2 * n := by omega
    have hd2 : 2 * n ≠ 0 := by omega
    have hd3 : (2 * n == 0) = false := by rw [beq_eq_false_iff_ne]; exact hd2
    obtain ⟨q1, q2⟩ := tdiv_bd (2 * n) (t := 2 * v + n) (by omega)
    have w4 : IntKind.i64.wrap ((2 * v + n).tdiv (2 * n)) = (2 * v + n).tdiv (2 * n) := IntWalk.i64_in _ (by omega)
    by_cases hr : (2 * v + n).tmod (2 * n) < 0
    · have hq := div_low hd hr
      have HP := Lib.hid (hp.trans hq)
      clear hp hq
      go_enter Try.func64, Try.ntmps64
      go_wp2
      go_ret
      exact ⟨by rw [HP.out]; rfl, bl0 _⟩
    · have hq := div_up hd (t := 2 * v + n) (by omega)
      have hr2 : 0 ≤ (2 * v + n).tmod (2 * n) := by omega
      have HP := Lib.hid (hp.trans hq)
      clear hp hq
      go_enter Try.func64, Try.ntmps64
      go_wp2
      go_ret
      exact ⟨by rw [HP.out]; rfl, bl0 _⟩

set_option maxHeartbeats 1000000 in
theorem rnear_any (v n : Int) (w : World) (hv : -1048576 ≤ v ∧ v ≤ 1048576) (hn : 0 ≤ n ∧ n ≤ 4096) :
    Calls Try.prog 38 #[.int .i64 v, .int .i64 n] w fun e w' => e = .returned (.int .i64 (pF v n)) ∧ Below w.heap.size w w' := by
  by_cases h0 : n = 0
  · subst h0
    go_enter Try.func38, Try.ntmps38
    go_wp2
    go_ret
    exact ⟨by simp [pF], bl0 _⟩
  · have h0b : (n == 0) = false := by rw [beq_eq_false_iff_ne]; exact h0
    have hp : pF v n = (2 * v + n) / (2 * n) := by simp [pF, h0]
    have w1 : IntKind.i64.wrap (2 * v) = 2 * v := IntWalk.i64_in _ (by omega)
    have w2 : IntKind.i64.wrap (2 * v + n) = 2 * v + n := IntWalk.i64_in _ (by omega)
    have w3 : IntKind.i64.wrap (2 * n) = 2 * n := IntWalk.i64_in _ (by omega)
    have hd : 0 < 2 * n := by omega
    have hd2 : 2 * n ≠ 0 := by omega
    have hd3 : (2 * n == 0) = false := by rw [beq_eq_false_iff_ne]; exact hd2
    obtain ⟨q1, q2⟩ := tdiv_bd (2 * n) (t := 2 * v + n) (by omega)
    have w4 : IntKind.i64.wrap ((2 * v + n).tdiv (2 * n)) = (2 * v + n).tdiv (2 * n) := IntWalk.i64_in _ (by omega)
    have hmb := Int.mul_tdiv_add_tmod (2 * v + n) (2 * n)
    have b1 := tmod_gt (2 * v + n) (2 * n) hd
    have b2 := Int.tmod_lt_of_pos (2 * v + n) hd
    obtain ⟨p, hpm⟩ : ∃ p, 2 * n * (2 * v + n).tdiv (2 * n) = p := ⟨_, rfl⟩
    rw [hpm] at hmb
    have w5 : IntKind.i64.wrap (2 * n * (2 * v + n).tdiv (2 * n)) = 2 * n * (2 * v + n).tdiv (2 * n) := IntWalk.i64_in _ (by rw [hpm]; omega)
    by_cases hr : (2 * v + n).tmod (2 * n) < 0
    · have hq := div_low hd hr
      have HP := Lib.hid (hp.trans hq)
      have hgt : 2 * v + n < 2 * n * (2 * v + n).tdiv (2 * n) := by rw [hpm]; omega
      clear hp hq hmb b1 b2 hr hpm
      go_enter Try.func38, Try.ntmps38
      go_wp2
      go_ret
      exact ⟨by rw [HP.out]; rfl, bl0 _⟩
    · have hq := div_up hd (t := 2 * v + n) (by omega)
      have HP := Lib.hid (hp.trans hq)
      have hgt : 2 * n * (2 * v + n).tdiv (2 * n) ≤ 2 * v + n := by rw [hpm]; omega
      clear hp hq hmb b1 b2 hr hpm
      go_enter Try.func38, Try.ntmps38
      go_wp2
      go_ret
      exact ⟨by rw [HP.out]; rfl, bl0 _⟩
end Go.Proofs.Ytchlbdikpclmlaa
