/- Parts: structs compared whole. -/
import Derived.Test.YtbdfjdipjacamaaDoorDk
import Derived.ChangeKeysEq
namespace Go.Proofs.YtbdfjdipjacamaaDoor
open Go.RowKit

set_option maxRecDepth 100000 in
set_option maxHeartbeats 1600000 in
theorem eql_prt (a0 a1 a2 b0 b1 b2 : Int) (w : World) : (Op.equalIn 10000 53 (.agg #[.int .i64 a0, .int .i64 a1, .int .i64 a2]) (.agg #[.int .i64 b0, .int .i64 b1, .int .i64 b2])).run Tryd.prog w = .ok (decide (a0 = b0 ∧ a1 = b1 ∧ a2 = b2)) w := by
  have u0 := Tryd.underlying53
  have u1 := Tryd.underlying23
  have u2 := Tryd.underlying3
  obtain ⟨r, hr⟩ : ∃ r, decide (a0 = b0 ∧ a1 = b1 ∧ a2 = b2) = r := ⟨_, rfl⟩
  rw [hr]
  by_cases h0 : a0 = b0
  · have n0 : (a0 == b0) = true := by rw [beq_iff_eq]; exact h0
    by_cases h1 : a1 = b1
    · have n1 : (a1 == b1) = true := by rw [beq_iff_eq]; exact h1
      by_cases h2 : a2 = b2
      · have n2 : (a2 == b2) = true := by rw [beq_iff_eq]; exact h2
        have e : r = true := by rw [← hr]; simp [h0, h1, h2]
        subst e
        clear h0 h1 h2 hr
        go_simp
      · have n2 : (a2 == b2) = false := by rw [beq_eq_false_iff_ne]; exact h2
        have e : r = false := by rw [← hr]; simp [h2]
        subst e
        clear h0 h1 h2 hr
        go_simp
    · have n1 : (a1 == b1) = false := by rw [beq_eq_false_iff_ne]; exact h1
      have e : r = false := by rw [← hr]; simp [h1]
      subst e
      clear h0 h1 hr
      go_simp
  · have n0 : (a0 == b0) = false := by rw [beq_eq_false_iff_ne]; exact h0
    have e : r = false := by rw [← hr]; simp [h0]
    subst e
    clear h0 hr
    go_simp
set_option maxRecDepth 100000 in
set_option maxHeartbeats 1600000 in
theorem eql_box (a0 a1 a2 a3 b0 b1 b2 b3 : Int) (w : World) : (Op.equalIn 10000 28 (.agg #[.int .i64 a0, .int .i64 a1, .int .i64 a2, .int .i64 a3]) (.agg #[.int .i64 b0, .int .i64 b1, .int .i64 b2, .int .i64 b3])).run Tryd.prog w = .ok (decide (a0 = b0 ∧ a1 = b1 ∧ a2 = b2 ∧ a3 = b3)) w := by
  have u0 := Tryd.underlying28
  have u1 := Tryd.underlying3
  obtain ⟨r, hr⟩ : ∃ r, decide (a0 = b0 ∧ a1 = b1 ∧ a2 = b2 ∧ a3 = b3) = r := ⟨_, rfl⟩
  rw [hr]
  by_cases h0 : a0 = b0
  · have n0 : (a0 == b0) = true := by rw [beq_iff_eq]; exact h0
    by_cases h1 : a1 = b1
    · have n1 : (a1 == b1) = true := by rw [beq_iff_eq]; exact h1
      by_cases h2 : a2 = b2
      · have n2 : (a2 == b2) = true := by rw [beq_iff_eq]; exact h2
        by_cases h3 : a3 = b3
        · have n3 : (a3 == b3) = true := by rw [beq_iff_eq]; exact h3
          have e : r = true := by rw [← hr]; simp [h0, h1, h2, h3]
          subst e
          clear h0 h1 h2 h3 hr
          go_simp
        · have n3 : (a3 == b3) = false := by rw [beq_eq_false_iff_ne]; exact h3
          have e : r = false := by rw [← hr]; simp [h3]
          subst e
          clear h0 h1 h2 h3 hr
          go_simp
      · have n2 : (a2 == b2) = false := by rw [beq_eq_false_iff_ne]; exact h2
        have e : r = false := by rw [← hr]; simp [h2]
        subst e
        clear h0 h1 h2 hr
        go_simp
    · have n1 : (a1 == b1) = false := by rw [beq_eq_false_iff_ne]; exact h1
      have e : r = false := by rw [← hr]; simp [h1]
      subst e
      clear h0 h1 hr
      go_simp
  · have n0 : (a0 == b0) = false := by rw [beq_eq_false_iff_ne]; exact h0
    have e : r = false := by rw [← hr]; simp [h0]
    subst e
    clear h0 hr
    go_simp
set_option maxRecDepth 100000 in
set_option maxHeartbeats 1600000 in
theorem eql_cel (a0 a1 b0 b1 : Int) (w : World) : (Op.equalIn 10000 30 (.agg #[.int .i64 a0, .int .i64 a1]) (.agg #[.int .i64 b0, .int .i64 b1])).run Tryd.prog w = .ok (decide (a0 = b0 ∧ a1 = b1)) w := by
  have u0 := Tryd.underlying30
  have u1 := Tryd.underlying3
  obtain ⟨r, hr⟩ : ∃ r, decide (a0 = b0 ∧ a1 = b1) = r := ⟨_, rfl⟩
  rw [hr]
  by_cases h0 : a0 = b0
  · have n0 : (a0 == b0) = true := by rw [beq_iff_eq]; exact h0
    by_cases h1 : a1 = b1
    · have n1 : (a1 == b1) = true := by rw [beq_iff_eq]; exact h1
      have e : r = true := by rw [← hr]; simp [h0, h1]
      subst e
      clear h0 h1 hr
      go_simp
    · have n1 : (a1 == b1) = false := by rw [beq_eq_false_iff_ne]; exact h1
      have e : r = false := by rw [← hr]; simp [h1]
      subst e
      clear h0 h1 hr
      go_simp
  · have n0 : (a0 == b0) = false := by rw [beq_eq_false_iff_ne]; exact h0
    have e : r = false := by rw [← hr]; simp [h0]
    subst e
    clear h0 hr
    go_simp
set_option maxRecDepth 100000 in
set_option maxHeartbeats 1600000 in
theorem eql_cel9 (a0 a1 b0 b1 : Int) (w : World) : (Op.equalIn 9999 30 (.agg #[.int .i64 a0, .int .i64 a1]) (.agg #[.int .i64 b0, .int .i64 b1])).run Tryd.prog w = .ok (decide (a0 = b0 ∧ a1 = b1)) w := by
  have u0 := Tryd.underlying30
  have u1 := Tryd.underlying3
  obtain ⟨r, hr⟩ : ∃ r, decide (a0 = b0 ∧ a1 = b1) = r := ⟨_, rfl⟩
  rw [hr]
  by_cases h0 : a0 = b0
  · have n0 : (a0 == b0) = true := by rw [beq_iff_eq]; exact h0
    by_cases h1 : a1 = b1
    · have n1 : (a1 == b1) = true := by rw [beq_iff_eq]; exact h1
      have e : r = true := by rw [← hr]; simp [h0, h1]
      subst e
      clear h0 h1 hr
      go_simp
    · have n1 : (a1 == b1) = false := by rw [beq_eq_false_iff_ne]; exact h1
      have e : r = false := by rw [← hr]; simp [h1]
      subst e
      clear h0 h1 hr
      go_simp
  · have n0 : (a0 == b0) = false := by rw [beq_eq_false_iff_ne]; exact h0
    have e : r = false := by rw [← hr]; simp [h0]
    subst e
    clear h0 hr
    go_simp
theorem Tryd.infoCc : (Tryd.prog.info? 30).map (fun i => (i.zero, i.size, i.bytes)) = some (some (.agg #[.int .i64 0, .int .i64 0]), 2, 16) := by kernel_rfl
set_option maxRecDepth 100000 in
set_option maxHeartbeats 1600000 in
theorem eql_pp (a0 a1 a2 a3 b0 b1 b2 b3 : Int) (w : World) : (Op.equalIn 10000 117 (.agg #[.int .i64 a0, .int .i64 a1, .int .i64 a2, .int .i64 a3]) (.agg #[.int .i64 b0, .int .i64 b1, .int .i64 b2, .int .i64 b3])).run Tryd.prog w = .ok (decide (a0 = b0 ∧ a1 = b1 ∧ a2 = b2 ∧ a3 = b3)) w := by
  obtain ⟨i0, hi, hz0, hz1, hz2⟩ := info_parts Tryd.infoCc
  have p0 : ∀ (x0 x1 x2 x3 : Value) w, (part 30 #[x0, x1, x2, x3] (0 * Tryd.prog.cellsOf 30)).run Tryd.prog w = .ok (.agg #[x0, x1]) w := fun _ _ _ _ w => by kernel_rfl
  have p1 : ∀ (x0 x1 x2 x3 : Value) w, (part 30 #[x0, x1, x2, x3] (1 * Tryd.prog.cellsOf 30)).run Tryd.prog w = .ok (.agg #[x2, x3]) w := fun _ _ _ _ w => by kernel_rfl
  have p2 := p1
  simp only [Nat.one_mul] at p2
  rw [show (10000 : Nat) = 9999 + 1 from rfl, run_equalIn_array w 9999 _ _ Tryd.underlying117 hi]
  simp only [show List.range 2 = [0, 1] from rfl, Op.eqItems, Sem.run_bind, p0, Result.andThen_ok, eql_cel9]
  by_cases h : a0 = b0 ∧ a1 = b1
  · have e1 : decide (a0 = b0 ∧ a1 = b1) = true := decide_eq_true h
    rw [e1]
    by_cases g : a2 = b2 ∧ a3 = b3
    · have e2 : decide (a2 = b2 ∧ a3 = b3) = true := decide_eq_true g
      have e3 : decide (a0 = b0 ∧ a1 = b1 ∧ a2 = b2 ∧ a3 = b3) = true := decide_eq_true ⟨h.1, h.2, g⟩
      rw [e3]
      simp [e2, p2, eql_cel9]
    · have e2 : decide (a2 = b2 ∧ a3 = b3) = false := decide_eq_false g
      have e3 : decide (a0 = b0 ∧ a1 = b1 ∧ a2 = b2 ∧ a3 = b3) = false := decide_eq_false (fun k => g k.2.2)
      rw [e3]
      simp [e2, p2, eql_cel9]
  · have e1 : decide (a0 = b0 ∧ a1 = b1) = false := decide_eq_false h
    have e3 : decide (a0 = b0 ∧ a1 = b1 ∧ a2 = b2 ∧ a3 = b3) = false := decide_eq_false (fun k => h ⟨k.1, k.2.1⟩)
    rw [e1, e3]
    simp
end Go.Proofs.YtbdfjdipjacamaaDoor
