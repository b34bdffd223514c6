/- A search by guess: the reference's small calls. -/
import Derived.Test.YtldpajfendkhbaaDoorN1
namespace Go.Proofs.YtldpajfendkhbaaDoor
open Go.RowKit

def inK10 (A H : Int) (c : IC) : Bool := decide (0 ≤ c.1 ∧ 0 ≤ c.2 ∧ c.1 < A ∧ c.2 < H)
set_option maxHeartbeats 2000000 in
theorem rin10_any (A H : Int) (c : IC) (w : World) :
    Calls Tryd.prog 16 #[.agg #[.int .i64 A, .int .i64 H], .agg #[.int .i64 c.1, .int .i64 c.2]] w fun e w' => e = .returned (.bool (inK10 A H c)) ∧ Below w.heap.size w w' := by
  obtain ⟨x, y⟩ := c
  unfold inK10
  simp only
  by_cases h1 : 0 ≤ x
  · have d1 : decide (0 ≤ x) = true := decide_eq_true h1
    by_cases h2 : 0 ≤ y
    · have d2 : decide (0 ≤ y) = true := decide_eq_true h2
      by_cases h3 : x < A
      · have d3 : decide (x < A) = true := decide_eq_true h3
        by_cases h4 : y < H
        · have d4 : decide (y < H) = true := decide_eq_true h4
          rw [decide_eq_true (show 0 ≤ x ∧ 0 ≤ y ∧ x < A ∧ y < H from ⟨h1, h2, h3, h4⟩)]
          clear h1 h2 h3 h4
          go_enter Tryd.func16, Tryd.ntmps16
          go_wp2
          go_ret
          exact ⟨rfl, bl_al (bl_al (bl0 _) _) _⟩
        · have d4 : decide (y < H) = false := decide_eq_false h4
          rw [decide_eq_false (show ¬ (0 ≤ x ∧ 0 ≤ y ∧ x < A ∧ y < H) from fun q => h4 q.2.2.2)]
          clear h1 h2 h3 h4
          go_enter Tryd.func16, Tryd.ntmps16
          go_wp2
          go_ret
          exact ⟨rfl, bl_al (bl_al (bl0 _) _) _⟩
      · have d3 : decide (x < A) = false := decide_eq_false h3
        rw [decide_eq_false (show ¬ (0 ≤ x ∧ 0 ≤ y ∧ x < A ∧ y < H) from fun q => h3 q.2.2.1)]
        clear h1 h2 h3
        go_enter Tryd.func16, Tryd.ntmps16
        go_wp2
        go_ret
        exact ⟨rfl, bl_al (bl_al (bl0 _) _) _⟩
    · have d2 : decide (0 ≤ y) = false := decide_eq_false h2
      rw [decide_eq_false (show ¬ (0 ≤ x ∧ 0 ≤ y ∧ x < A ∧ y < H) from fun q => h2 q.2.1)]
      clear h1 h2
      go_enter Tryd.func16, Tryd.ntmps16
      go_wp2
      go_ret
      exact ⟨rfl, bl_al (bl_al (bl0 _) _) _⟩
  · have d1 : decide (0 ≤ x) = false := decide_eq_false h1
    rw [decide_eq_false (show ¬ (0 ≤ x ∧ 0 ≤ y ∧ x < A ∧ y < H) from fun q => h1 q.1)]
    clear h1
    go_enter Tryd.func16, Tryd.ntmps16
    go_wp2
    go_ret
    exact ⟨rfl, bl_al (bl_al (bl0 _) _) _⟩
theorem inK10_on {A H : Int} {c : IC} (hm : mayB A H = true) : inK10 A H c = onB A H c := by
  obtain ⟨h1, h2, h3, h4⟩ := mayB_iff.1 hm
  unfold inK10 onB inB
  exact decide_eq_decide.2 (by omega)
theorem abs10_any (n : Int) (w : World) (h1 : -4194304 ≤ n) (h2 : n ≤ 4194304) :
    Calls Tryd.prog 32 #[.int .i64 n] w fun e w' => e = .returned (.int .i64 (max n (-n))) ∧ Below w.heap.size w w' := by
  by_cases h : n < 0
  · have d : decide (n < 0) = true := decide_eq_true h
    have e1 : IntKind.i64.wrap (-n) = -n := IntWalk.i64_in _ (by omega)
    have e2 : max n (-n) = -n := by omega
    rw [e2]
    clear h h1 h2 e2
    go_enter Tryd.func32, Tryd.ntmps32
    go_wp2
    go_ret
    exact ⟨rfl, bl0 _⟩
  · have d : decide (n < 0) = false := decide_eq_false h
    have e2 : max n (-n) = n := by omega
    rw [e2]
    clear h h1 h2 e2
    go_enter Tryd.func32, Tryd.ntmps32
    go_wp2
    go_ret
    exact ⟨rfl, bl0 _⟩
set_option maxHeartbeats 2000000 in
theorem guess10_any (c t : IC) (w : World) (hc : plB c = true) (ht : plB t = true) :
    Calls Tryd.prog 19 #[.agg #[.int .i64 c.1, .int .i64 c.2], .agg #[.int .i64 t.1, .int .i64 t.2]] w fun e w' => e = .returned (.int .u64 (guessI c t)) ∧ Below w.heap.size w w' := by
  obtain ⟨b1, b2⟩ := guess_bd hc ht
  have h1 := plainB_iff.1 hc
  have h2 := plainB_iff.1 ht
  have q1 : max (c.1 - t.1) (-(c.1 - t.1)) = apartI c.1 t.1 := by unfold apartI; omega
  have q2 : max (c.2 - t.2) (-(c.2 - t.2)) = apartI c.2 t.2 := by unfold apartI; omega
  have A1 := Lib.hid (fun w => abs10_any (c.1 - t.1) w (by omega) (by omega))
  have A2 := Lib.hid (fun w => abs10_any (c.2 - t.2) w (by omega) (by omega))
  rw [q1] at A1
  rw [q2] at A2
  have e1 : IntKind.i64.wrap (c.1 - t.1) = c.1 - t.1 := IntWalk.i64_in _ (by omega)
  have e2 : IntKind.i64.wrap (c.2 - t.2) = c.2 - t.2 := IntWalk.i64_in _ (by omega)
  have e3 : IntKind.i64.wrap (apartI c.1 t.1 + apartI c.2 t.2) = apartI c.1 t.1 + apartI c.2 t.2 := IntWalk.i64_in _ (by unfold guessI at b1 b2; omega)
  have e4 : IntKind.u64.wrap (apartI c.1 t.1 + apartI c.2 t.2) = apartI c.1 t.1 + apartI c.2 t.2 := by rw [IntKind.wrap_u64]; unfold guessI at b1 b2; omega
  unfold guessI
  clear b1 b2 h1 h2 q1 q2 hc ht
  generalize apartI c.1 t.1 = p at *
  generalize apartI c.2 t.2 = q at *
  go_enter Tryd.func19, Tryd.ntmps19
  go_upto_region 1 with fail
  obtain ⟨w0, hw0⟩ : ∃ w0, (w.alloc (.cells #[.int .i64 c.1, .int .i64 c.2] 28)).alloc (.cells #[.int .i64 t.1, .int .i64 t.2] 28) = w0 := ⟨_, rfl⟩
  have hA : Below w.heap.size w w0 := by rw [← hw0]; exact bl_al (bl_al (bl0 _) _) _
  have x0 : w0.cell? ⟨w.heap.size, 0, none⟩ = some (.int .i64 c.1) := by rw [← hw0]; simp [go_sem]
  have x1 : w0.cell? ⟨w.heap.size, 1, none⟩ = some (.int .i64 c.2) := by rw [← hw0]; simp [go_sem]
  have y0 : w0.cell? ⟨w.heap.size + 1, 0, none⟩ = some (.int .i64 t.1) := by rw [← hw0]; simp [go_sem]
  have y1 : w0.cell? ⟨w.heap.size + 1, 1, none⟩ = some (.int .i64 t.2) := by rw [← hw0]; simp [go_sem]
  rw [hw0]
  clear hw0
  have hB := bl_dr (bl0 w0)
  go_region_held3 (fun W => W.cell? ⟨w.heap.size, 0, none⟩ = some (.int .i64 c.1) ∧ W.cell? ⟨w.heap.size, 1, none⟩ = some (.int .i64 c.2) ∧ W.cell? ⟨w.heap.size + 1, 0, none⟩ = some (.int .i64 t.1) ∧ W.cell? ⟨w.heap.size + 1, 1, none⟩ = some (.int .i64 t.2))
    (exact ⟨cell_later hB x0, cell_later hB x1, cell_later hB y0, cell_later hB y1⟩)
    ((go_at_call 32; (first | with_reducible refine (A1.out _).mono ?_ | with_reducible refine (A2.out _).mono ?_); rintro e w8 ⟨rfl, hb8⟩; replace hB := bl_tr hB hb8; clear hb8))
  all_goals
    have hA9 := bl_tr hA hB
    go_wp2_with fail
    go_ret
    exact ⟨rfl, hA9⟩
end Go.Proofs.YtldpajfendkhbaaDoor
