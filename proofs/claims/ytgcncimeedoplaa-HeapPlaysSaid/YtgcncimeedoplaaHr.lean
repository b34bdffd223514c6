/- Heap's laws: structs compared whole. -/
import Derived.Test.YtgcncimeedoplaaHq
namespace Go.Proofs.Ytgcncimeedoplaa
open Go.RowKit Go.Maps

set_option maxRecDepth 100000 in
set_option maxHeartbeats 1600000 in
theorem eql_key (a b : Th) (w : World) : (Op.equalIn 10000 24 (.agg #[.int .u64 a.F, .int .u64 a.H, .int .i64 a.Y, .int .i64 a.X]) (.agg #[.int .u64 b.F, .int .u64 b.H, .int .i64 b.Y, .int .i64 b.X])).run Try.prog w = .ok (sameK a b) w := by
  have u1 := Try.underlying24
  unfold sameK
  have u2 := Try.underlying22
  have u3 := Try.underlying3
  obtain ⟨r, hr⟩ : ∃ r, decide (a.F = b.F ∧ a.H = b.H ∧ a.Y = b.Y ∧ a.X = b.X) = r := ⟨_, rfl⟩
  rw [hr]
  by_cases h1 : a.F = b.F
  · have n1 : (a.F == b.F) = true := by rw [beq_iff_eq]; exact h1
    by_cases h2 : a.H = b.H
    · have n2 : (a.H == b.H) = true := by rw [beq_iff_eq]; exact h2
      by_cases h3 : a.Y = b.Y
      · have n3 : (a.Y == b.Y) = true := by rw [beq_iff_eq]; exact h3
        by_cases h4 : a.X = b.X
        · have n4 : (a.X == b.X) = true := by rw [beq_iff_eq]; exact h4
          have e : r = true := by rw [← hr]; simp [h1, h2, h3, h4]
          subst e
          clear h1 h2 h3 h4 hr
          go_simp
        · have n4 : (a.X == b.X) = false := by rw [beq_eq_false_iff_ne]; exact h4
          have e : r = false := by rw [← hr]; simp [h4]
          subst e
          clear h1 h2 h3 h4 hr
          go_simp
      · have n3 : (a.Y == b.Y) = false := by rw [beq_eq_false_iff_ne]; exact h3
        have e : r = false := by rw [← hr]; simp [h3]
        subst e
        clear h1 h2 h3 hr
        go_simp
    · have n2 : (a.H == b.H) = false := by rw [beq_eq_false_iff_ne]; exact h2
      have e : r = false := by rw [← hr]; simp [h2]
      subst e
      clear h1 h2 hr
      go_simp
  · have n1 : (a.F == b.F) = false := by rw [beq_eq_false_iff_ne]; exact h1
    have e : r = false := by rw [← hr]; simp [h1]
    subst e
    clear h1 hr
    go_simp
set_option maxRecDepth 100000 in
set_option maxHeartbeats 1600000 in
theorem eql_rkey (a b : Th) (w : World) : (Op.equalIn 10000 28 (.agg #[.int .u64 a.F, .int .u64 a.H, .int .i64 a.Y, .int .i64 a.X]) (.agg #[.int .u64 b.F, .int .u64 b.H, .int .i64 b.Y, .int .i64 b.X])).run Try.prog w = .ok (sameK a b) w := by
  have u1 := Try.underlying28
  unfold sameK
  have u2 := Try.underlying22
  have u3 := Try.underlying3
  obtain ⟨r, hr⟩ : ∃ r, decide (a.F = b.F ∧ a.H = b.H ∧ a.Y = b.Y ∧ a.X = b.X) = r := ⟨_, rfl⟩
  rw [hr]
  by_cases h1 : a.F = b.F
  · have n1 : (a.F == b.F) = true := by rw [beq_iff_eq]; exact h1
    by_cases h2 : a.H = b.H
    · have n2 : (a.H == b.H) = true := by rw [beq_iff_eq]; exact h2
      by_cases h3 : a.Y = b.Y
      · have n3 : (a.Y == b.Y) = true := by rw [beq_iff_eq]; exact h3
        by_cases h4 : a.X = b.X
        · have n4 : (a.X == b.X) = true := by rw [beq_iff_eq]; exact h4
          have e : r = true := by rw [← hr]; simp [h1, h2, h3, h4]
          subst e
          clear h1 h2 h3 h4 hr
          go_simp
        · have n4 : (a.X == b.X) = false := by rw [beq_eq_false_iff_ne]; exact h4
          have e : r = false := by rw [← hr]; simp [h4]
          subst e
          clear h1 h2 h3 h4 hr
          go_simp
      · have n3 : (a.Y == b.Y) = false := by rw [beq_eq_false_iff_ne]; exact h3
        have e : r = false := by rw [← hr]; simp [h3]
        subst e
        clear h1 h2 h3 hr
        go_simp
    · have n2 : (a.H == b.H) = false := by rw [beq_eq_false_iff_ne]; exact h2
      have e : r = false := by rw [← hr]; simp [h2]
      subst e
      clear h1 h2 hr
      go_simp
  · have n1 : (a.F == b.F) = false := by rw [beq_eq_false_iff_ne]; exact h1
    have e : r = false := by rw [← hr]; simp [h1]
    subst e
    clear h1 hr
    go_simp
set_option maxRecDepth 100000 in
set_option maxHeartbeats 1600000 in
theorem same_any (a b : Th) (w : World) :
    Calls Try.prog 20 #[.agg #[.int .u64 a.F, .int .u64 a.H, .int .i64 a.Y, .int .i64 a.X], .agg #[.int .u64 b.F, .int .u64 b.H, .int .i64 b.Y, .int .i64 b.X]] w fun e w' => e = .returned (.bool (sameK a b)) ∧ Below w.heap.size w w' := by
  have heq := fun w => eql_rkey a b w
  have hA := bl_al (bl_al (bl0 w) (.cells #[.int .u64 a.F, .int .u64 a.H, .int .i64 a.Y, .int .i64 a.X] 24)) (.cells #[.int .u64 b.F, .int .u64 b.H, .int .i64 b.Y, .int .i64 b.X] 28)
  go_enter Try.func20, Try.ntmps20
  go_upto_region 1 with fail
  generalize hW : World.alloc _ _ = W at *
  have x0 : W.cell? ⟨w.heap.size, 0, none⟩ = some (.int .u64 a.F) := by rw [← hW]; simp [go_sem]
  have x1 : W.cell? ⟨w.heap.size, 1, none⟩ = some (.int .u64 a.H) := by rw [← hW]; simp [go_sem]
  have x2 : W.cell? ⟨w.heap.size, 2, none⟩ = some (.int .i64 a.Y) := by rw [← hW]; simp [go_sem]
  have x3 : W.cell? ⟨w.heap.size, 3, none⟩ = some (.int .i64 a.X) := by rw [← hW]; simp [go_sem]
  have y0 : W.cell? ⟨w.heap.size + 1, 0, none⟩ = some (.int .u64 b.F) := by rw [← hW]; simp [go_sem]
  have y1 : W.cell? ⟨w.heap.size + 1, 1, none⟩ = some (.int .u64 b.H) := by rw [← hW]; simp [go_sem]
  have y2 : W.cell? ⟨w.heap.size + 1, 2, none⟩ = some (.int .i64 b.Y) := by rw [← hW]; simp [go_sem]
  have y3 : W.cell? ⟨w.heap.size + 1, 3, none⟩ = some (.int .i64 b.X) := by rw [← hW]; simp [go_sem]
  clear hW
  have hB := bl_dr (bl0 W)
  go_region_held3 (fun w' => w'.cell? ⟨w.heap.size, 0, none⟩ = some (.int .u64 a.F) ∧ w'.cell? ⟨w.heap.size, 1, none⟩ = some (.int .u64 a.H) ∧ w'.cell? ⟨w.heap.size, 2, none⟩ = some (.int .i64 a.Y) ∧ w'.cell? ⟨w.heap.size, 3, none⟩ = some (.int .i64 a.X) ∧ w'.cell? ⟨w.heap.size + 1, 0, none⟩ = some (.int .u64 b.F) ∧ w'.cell? ⟨w.heap.size + 1, 1, none⟩ = some (.int .u64 b.H) ∧ w'.cell? ⟨w.heap.size + 1, 2, none⟩ = some (.int .i64 b.Y) ∧ w'.cell? ⟨w.heap.size + 1, 3, none⟩ = some (.int .i64 b.X))
    (exact ⟨cell_later hB x0, cell_later hB x1, cell_later hB x2, cell_later hB x3, cell_later hB y0, cell_later hB y1, cell_later hB y2, cell_later hB y3⟩)
    ((go_at_call 11; (with_reducible refine (plain_any _ _).mono ?_); rintro e W2 ⟨rfl, hb⟩; replace hB := bl_tr hB hb; clear hb))
  all_goals
    have HB := Lib.hid (bl_tr hA hB)
    clear hB hA
    go_wp2
    go_ret
    exact ⟨rfl, HB.out⟩
end Go.Proofs.Ytgcncimeedoplaa
