/- HeapKeys: its walk. -/
import Derived.Test.YtgcncimeedoplaaHq
namespace Go.Proofs.Ytgcncimeedoplaa
open Go.RowKit Go.Maps

set_option maxRecDepth 100000 in
set_option maxHeartbeats 8000000 in
theorem hkeys_walk (a b c : Th) (w : World) :
    Calls Try.prog 3 #[.agg #[.int .u64 a.F, .int .u64 a.H, .int .i64 a.Y, .int .i64 a.X, .int .u64 b.F, .int .u64 b.H, .int .i64 b.Y, .int .i64 b.X, .int .u64 c.F, .int .u64 c.H, .int .i64 c.Y, .int .i64 c.X]] w fun e w' => e = .returned (.bool true) ∧ Below w.heap.size w w' := by
  have hi := less_irr a
  by_cases hs : a.F = b.F ∧ a.H = b.H ∧ a.Y = b.Y ∧ a.X = b.X
  · obtain ⟨h1, h2, h3, h4⟩ := hs
    obtain ⟨hr1, hr2⟩ := less_same h1 h2 h3 h4
    have n1 : (a.F == b.F) = true := by rw [beq_iff_eq]; exact h1
    have n2 : (a.H == b.H) = true := by rw [beq_iff_eq]; exact h2
    have n3 : (a.Y == b.Y) = true := by rw [beq_iff_eq]; exact h3
    have n4 : (a.X == b.X) = true := by rw [beq_iff_eq]; exact h4
    clear h1 h2 h3 h4
    have hD := bl_al (bl_al (bl_al (bl_al (bl0 w) (.cells #[.int .u64 a.F, .int .u64 a.H, .int .i64 a.Y, .int .i64 a.X, .int .u64 b.F, .int .u64 b.H, .int .i64 b.Y, .int .i64 b.X, .int .u64 c.F, .int .u64 c.H, .int .i64 c.Y, .int .i64 c.X] 25)) (.cells #[.int .u64 a.F, .int .u64 a.H, .int .i64 a.Y, .int .i64 a.X] 24)) (.cells #[.int .u64 b.F, .int .u64 b.H, .int .i64 b.Y, .int .i64 b.X] 24)) (.cells #[.int .u64 c.F, .int .u64 c.H, .int .i64 c.Y, .int .i64 c.X] 24)
    go_enter Try.func3, Try.ntmps3
    go_upto_region 4 with fail
    generalize hW : World.alloc _ _ = W at *
    have x0 : W.cell? ⟨w.heap.size + 1, 0, none⟩ = some (.int .u64 a.F) := by rw [← hW]; simp [go_sem]
    have x1 : W.cell? ⟨w.heap.size + 1, 1, none⟩ = some (.int .u64 a.H) := by rw [← hW]; simp [go_sem]
    have x2 : W.cell? ⟨w.heap.size + 1, 2, none⟩ = some (.int .i64 a.Y) := by rw [← hW]; simp [go_sem]
    have x3 : W.cell? ⟨w.heap.size + 1, 3, none⟩ = some (.int .i64 a.X) := by rw [← hW]; simp [go_sem]
    have y0 : W.cell? ⟨w.heap.size + 1 + 1, 0, none⟩ = some (.int .u64 b.F) := by rw [← hW]; simp [go_sem]
    have y1 : W.cell? ⟨w.heap.size + 1 + 1, 1, none⟩ = some (.int .u64 b.H) := by rw [← hW]; simp [go_sem]
    have y2 : W.cell? ⟨w.heap.size + 1 + 1, 2, none⟩ = some (.int .i64 b.Y) := by rw [← hW]; simp [go_sem]
    have y3 : W.cell? ⟨w.heap.size + 1 + 1, 3, none⟩ = some (.int .i64 b.X) := by rw [← hW]; simp [go_sem]
    have z0 : W.cell? ⟨w.heap.size + 1 + 1 + 1, 0, none⟩ = some (.int .u64 c.F) := by rw [← hW]; simp [go_sem]
    have z1 : W.cell? ⟨w.heap.size + 1 + 1 + 1, 1, none⟩ = some (.int .u64 c.H) := by rw [← hW]; simp [go_sem]
    have z2 : W.cell? ⟨w.heap.size + 1 + 1 + 1, 2, none⟩ = some (.int .i64 c.Y) := by rw [← hW]; simp [go_sem]
    have z3 : W.cell? ⟨w.heap.size + 1 + 1 + 1, 3, none⟩ = some (.int .i64 c.X) := by rw [← hW]; simp [go_sem]
    clear hW
    have hB := bl_dr (bl0 W)
    go_region_held3 (fun w' => w'.cell? ⟨w.heap.size + 1, 0, none⟩ = some (.int .u64 a.F) ∧ w'.cell? ⟨w.heap.size + 1, 1, none⟩ = some (.int .u64 a.H) ∧ w'.cell? ⟨w.heap.size + 1, 2, none⟩ = some (.int .i64 a.Y) ∧ w'.cell? ⟨w.heap.size + 1, 3, none⟩ = some (.int .i64 a.X) ∧ w'.cell? ⟨w.heap.size + 1 + 1, 0, none⟩ = some (.int .u64 b.F) ∧ w'.cell? ⟨w.heap.size + 1 + 1, 1, none⟩ = some (.int .u64 b.H) ∧ w'.cell? ⟨w.heap.size + 1 + 1, 2, none⟩ = some (.int .i64 b.Y) ∧ w'.cell? ⟨w.heap.size + 1 + 1, 3, none⟩ = some (.int .i64 b.X))
      (exact ⟨cell_later hB x0, cell_later hB x1, cell_later hB x2, cell_later hB x3, cell_later hB y0, cell_later hB y1, cell_later hB y2, cell_later hB y3⟩)
      (first
        | ((go_at_call 9; (with_reducible refine (less_any _ _ _).mono ?_); rintro e W2 ⟨rfl, hb⟩; replace hB := bl_tr hB hb; clear hb))
        | ((go_at_call 11; (with_reducible refine (plain_any _ _).mono ?_); rintro e W2 ⟨rfl, hb⟩; replace hB := bl_tr hB hb; clear hb))
        | ((go_at_call 10; (with_reducible refine (rless_any _ _ _).mono ?_); rintro e W2 ⟨rfl, hb⟩; replace hB := bl_tr hB hb; clear hb)))
    all_goals
      replace x0 := cell_later hB x0
      replace x1 := cell_later hB x1
      replace x2 := cell_later hB x2
      replace x3 := cell_later hB x3
      replace y0 := cell_later hB y0
      replace y1 := cell_later hB y1
      replace y2 := cell_later hB y2
      replace y3 := cell_later hB y3
      replace z0 := cell_later hB z0
      replace z1 := cell_later hB z1
      replace z2 := cell_later hB z2
      replace z3 := cell_later hB z3
      replace hD := bl_tr hD hB
      clear hB
      have zx := blk_lt x0
      have zy := blk_lt y0
      have zz := blk_lt z0
      go_wp2_with fail
      refine (less_any _ _ _).mono ?_
      rintro e W3 ⟨rfl, hB⟩
      replace x0 := cell_later hB x0
      replace x1 := cell_later hB x1
      replace x2 := cell_later hB x2
      replace x3 := cell_later hB x3
      replace y0 := cell_later hB y0
      replace y1 := cell_later hB y1
      replace y2 := cell_later hB y2
      replace y3 := cell_later hB y3
      replace z0 := cell_later hB z0
      replace z1 := cell_later hB z1
      replace z2 := cell_later hB z2
      replace z3 := cell_later hB z3
      replace hD := bl_tr hD hB
      clear hB
      have zx := blk_lt x0
      have zy := blk_lt y0
      have zz := blk_lt z0
      go_wp2_with fail
      refine (less_any _ _ _).mono ?_
      rintro e W3 ⟨rfl, hB⟩
      replace x0 := cell_later hB x0
      replace x1 := cell_later hB x1
      replace x2 := cell_later hB x2
      replace x3 := cell_later hB x3
      replace y0 := cell_later hB y0
      replace y1 := cell_later hB y1
      replace y2 := cell_later hB y2
      replace y3 := cell_later hB y3
      replace z0 := cell_later hB z0
      replace z1 := cell_later hB z1
      replace z2 := cell_later hB z2
      replace z3 := cell_later hB z3
      replace hD := bl_tr hD hB
      clear hB
      have zx := blk_lt x0
      have zy := blk_lt y0
      have zz := blk_lt z0
      go_wp2_with fail
      refine (hawake _).mono ?_
      rintro e W3 ⟨rfl, hB⟩
      replace hD := bl_tr hD hB
      have HD := Lib.hid hD
      clear hD hB x0 x1 x2 x3 y0 y1 y2 y3 z0 z1 z2 z3
      go_wp2
      go_ret
      exact ⟨rfl, HD.out⟩
  · have hs' := less_diff hs
    by_cases h1 : a.F = b.F
    · have n1 : (a.F == b.F) = true := by rw [beq_iff_eq]; exact h1
      by_cases h2 : a.H = b.H
      · have n2 : (a.H == b.H) = true := by rw [beq_iff_eq]; exact h2
        by_cases h3 : a.Y = b.Y
        · have n3 : (a.Y == b.Y) = true := by rw [beq_iff_eq]; exact h3
          have n4 : (a.X == b.X) = false := by rw [beq_eq_false_iff_ne]; exact fun h4 => hs ⟨h1, h2, h3, h4⟩
          clear h1 h2 h3 hs
          rcases hs' with ⟨hr1, hr2⟩ | ⟨hr1, hr2⟩
          ·
            have hD := bl_al (bl_al (bl_al (bl_al (bl0 w) (.cells #[.int .u64 a.F, .int .u64 a.H, .int .i64 a.Y, .int .i64 a.X, .int .u64 b.F, .int .u64 b.H, .int .i64 b.Y, .int .i64 b.X, .int .u64 c.F, .int .u64 c.H, .int .i64 c.Y, .int .i64 c.X] 25)) (.cells #[.int .u64 a.F, .int .u64 a.H, .int .i64 a.Y, .int .i64 a.X] 24)) (.cells #[.int .u64 b.F, .int .u64 b.H, .int .i64 b.Y, .int .i64 b.X] 24)) (.cells #[.int .u64 c.F, .int .u64 c.H, .int .i64 c.Y, .int .i64 c.X] 24)
            go_enter Try.func3, Try.ntmps3
            go_upto_region 4 with fail
            generalize hW : World.alloc _ _ = W at *
            have x0 : W.cell? ⟨w.heap.size + 1, 0, none⟩ = some (.int .u64 a.F) := by rw [← hW]; simp [go_sem]
            have x1 : W.cell? ⟨w.heap.size + 1, 1, none⟩ = some (.int .u64 a.H) := by rw [← hW]; simp [go_sem]
            have x2 : W.cell? ⟨w.heap.size + 1, 2, none⟩ = some (.int .i64 a.Y) := by rw [← hW]; simp [go_sem]
            have x3 : W.cell? ⟨w.heap.size + 1, 3, none⟩ = some (.int .i64 a.X) := by rw [← hW]; simp [go_sem]
            have y0 : W.cell? ⟨w.heap.size + 1 + 1, 0, none⟩ = some (.int .u64 b.F) := by rw [← hW]; simp [go_sem]
            have y1 : W.cell? ⟨w.heap.size + 1 + 1, 1, none⟩ = some (.int .u64 b.H) := by rw [← hW]; simp [go_sem]
            have y2 : W.cell? ⟨w.heap.size + 1 + 1, 2, none⟩ = some (.int .i64 b.Y) := by rw [← hW]; simp [go_sem]
            have y3 : W.cell? ⟨w.heap.size + 1 + 1, 3, none⟩ = some (.int .i64 b.X) := by rw [← hW]; simp [go_sem]
            have z0 : W.cell? ⟨w.heap.size + 1 + 1 + 1, 0, none⟩ = some (.int .u64 c.F) := by rw [← hW]; simp [go_sem]
            have z1 : W.cell? ⟨w.heap.size + 1 + 1 + 1, 1, none⟩ = some (.int .u64 c.H) := by rw [← hW]; simp [go_sem]
            have z2 : W.cell? ⟨w.heap.size + 1 + 1 + 1, 2, none⟩ = some (.int .i64 c.Y) := by rw [← hW]; simp [go_sem]
            have z3 : W.cell? ⟨w.heap.size + 1 + 1 + 1, 3, none⟩ = some (.int .i64 c.X) := by rw [← hW]; simp [go_sem]
            clear hW
            have hB := bl_dr (bl0 W)
            go_region_held3 (fun w' => w'.cell? ⟨w.heap.size + 1, 0, none⟩ = some (.int .u64 a.F) ∧ w'.cell? ⟨w.heap.size + 1, 1, none⟩ = some (.int .u64 a.H) ∧ w'.cell? ⟨w.heap.size + 1, 2, none⟩ = some (.int .i64 a.Y) ∧ w'.cell? ⟨w.heap.size + 1, 3, none⟩ = some (.int .i64 a.X) ∧ w'.cell? ⟨w.heap.size + 1 + 1, 0, none⟩ = some (.int .u64 b.F) ∧ w'.cell? ⟨w.heap.size + 1 + 1, 1, none⟩ = some (.int .u64 b.H) ∧ w'.cell? ⟨w.heap.size + 1 + 1, 2, none⟩ = some (.int .i64 b.Y) ∧ w'.cell? ⟨w.heap.size + 1 + 1, 3, none⟩ = some (.int .i64 b.X))
              (exact ⟨cell_later hB x0, cell_later hB x1, cell_later hB x2, cell_later hB x3, cell_later hB y0, cell_later hB y1, cell_later hB y2, cell_later hB y3⟩)
              (first
                | ((go_at_call 9; (with_reducible refine (less_any _ _ _).mono ?_); rintro e W2 ⟨rfl, hb⟩; replace hB := bl_tr hB hb; clear hb))
                | ((go_at_call 11; (with_reducible refine (plain_any _ _).mono ?_); rintro e W2 ⟨rfl, hb⟩; replace hB := bl_tr hB hb; clear hb))
                | ((go_at_call 10; (with_reducible refine (rless_any _ _ _).mono ?_); rintro e W2 ⟨rfl, hb⟩; replace hB := bl_tr hB hb; clear hb)))
            all_goals
              replace x0 := cell_later hB x0
              replace x1 := cell_later hB x1
              replace x2 := cell_later hB x2
              replace x3 := cell_later hB x3
              replace y0 := cell_later hB y0
              replace y1 := cell_later hB y1
              replace y2 := cell_later hB y2
              replace y3 := cell_later hB y3
              replace z0 := cell_later hB z0
              replace z1 := cell_later hB z1
              replace z2 := cell_later hB z2
              replace z3 := cell_later hB z3
              replace hD := bl_tr hD hB
              clear hB
              have zx := blk_lt x0
              have zy := blk_lt y0
              have zz := blk_lt z0
              go_wp2_with fail
              refine (less_any _ _ _).mono ?_
              rintro e W3 ⟨rfl, hB⟩
              replace x0 := cell_later hB x0
              replace x1 := cell_later hB x1
              replace x2 := cell_later hB x2
              replace x3 := cell_later hB x3
              replace y0 := cell_later hB y0
              replace y1 := cell_later hB y1
              replace y2 := cell_later hB y2
              replace y3 := cell_later hB y3
              replace z0 := cell_later hB z0
              replace z1 := cell_later hB z1
              replace z2 := cell_later hB z2
              replace z3 := cell_later hB z3
              replace hD := bl_tr hD hB
              clear hB
              have zx := blk_lt x0
              have zy := blk_lt y0
              have zz := blk_lt z0
              go_wp2_with fail
              refine (less_any _ _ _).mono ?_
              rintro e W3 ⟨rfl, hB⟩
              replace x0 := cell_later hB x0
              replace x1 := cell_later hB x1
              replace x2 := cell_later hB x2
              replace x3 := cell_later hB x3
              replace y0 := cell_later hB y0
              replace y1 := cell_later hB y1
              replace y2 := cell_later hB y2
              replace y3 := cell_later hB y3
              replace z0 := cell_later hB z0
              replace z1 := cell_later hB z1
              replace z2 := cell_later hB z2
              replace z3 := cell_later hB z3
              replace hD := bl_tr hD hB
              clear hB
              have zx := blk_lt x0
              have zy := blk_lt y0
              have zz := blk_lt z0
              cases hbc : lessK b c
              ·
                go_wp2_with fail
                refine (less_any _ _ _).mono ?_
                rintro e W3 ⟨rfl, hB⟩
                replace x0 := cell_later hB x0
                replace x1 := cell_later hB x1
                replace x2 := cell_later hB x2
                replace x3 := cell_later hB x3
                replace y0 := cell_later hB y0
                replace y1 := cell_later hB y1
                replace y2 := cell_later hB y2
                replace y3 := cell_later hB y3
                replace z0 := cell_later hB z0
                replace z1 := cell_later hB z1
                replace z2 := cell_later hB z2
                replace z3 := cell_later hB z3
                replace hD := bl_tr hD hB
                clear hB
                have zx := blk_lt x0
                have zy := blk_lt y0
                have zz := blk_lt z0
                go_wp2_with fail
                refine (hawake _).mono ?_
                rintro e W3 ⟨rfl, hB⟩
                replace hD := bl_tr hD hB
                have HD := Lib.hid hD
                clear hD hB x0 x1 x2 x3 y0 y1 y2 y3 z0 z1 z2 z3
                go_wp2
                go_ret
                exact ⟨rfl, HD.out⟩
              · have hac := less_trans hr1 hbc
                go_wp2_with fail
                refine (less_any _ _ _).mono ?_
                rintro e W3 ⟨rfl, hB⟩
                replace x0 := cell_later hB x0
                replace x1 := cell_later hB x1
                replace x2 := cell_later hB x2
                replace x3 := cell_later hB x3
                replace y0 := cell_later hB y0
                replace y1 := cell_later hB y1
                replace y2 := cell_later hB y2
                replace y3 := cell_later hB y3
                replace z0 := cell_later hB z0
                replace z1 := cell_later hB z1
                replace z2 := cell_later hB z2
                replace z3 := cell_later hB z3
                replace hD := bl_tr hD hB
                clear hB
                have zx := blk_lt x0
                have zy := blk_lt y0
                have zz := blk_lt z0
                go_wp2_with fail
                refine (less_any _ _ _).mono ?_
                rintro e W3 ⟨rfl, hB⟩
                replace x0 := cell_later hB x0
                replace x1 := cell_later hB x1
                replace x2 := cell_later hB x2
                replace x3 := cell_later hB x3
                replace y0 := cell_later hB y0
                replace y1 := cell_later hB y1
                replace y2 := cell_later hB y2
                replace y3 := cell_later hB y3
                replace z0 := cell_later hB z0
                replace z1 := cell_later hB z1
                replace z2 := cell_later hB z2
                replace z3 := cell_later hB z3
                replace hD := bl_tr hD hB
                clear hB
                have zx := blk_lt x0
                have zy := blk_lt y0
                have zz := blk_lt z0
                go_wp2_with fail
                refine (hawake _).mono ?_
                rintro e W3 ⟨rfl, hB⟩
                replace hD := bl_tr hD hB
                have HD := Lib.hid hD
                clear hD hB x0 x1 x2 x3 y0 y1 y2 y3 z0 z1 z2 z3
                go_wp2
                go_ret
                exact ⟨rfl, HD.out⟩
          ·
            have hD := bl_al (bl_al (bl_al (bl_al (bl0 w) (.cells #[.int .u64 a.F, .int .u64 a.H, .int .i64 a.Y, .int .i64 a.X, .int .u64 b.F, .int .u64 b.H, .int .i64 b.Y, .int .i64 b.X, .int .u64 c.F, .int .u64 c.H, .int .i64 c.Y, .int .i64 c.X] 25)) (.cells #[.int .u64 a.F, .int .u64 a.H, .int .i64 a.Y, .int .i64 a.X] 24)) (.cells #[.int .u64 b.F, .int .u64 b.H, .int .i64 b.Y, .int .i64 b.X] 24)) (.cells #[.int .u64 c.F, .int .u64 c.H, .int .i64 c.Y, .int .i64 c.X] 24)
            go_enter Try.func3, Try.ntmps3
            go_upto_region 4 with fail
            generalize hW : World.alloc _ _ = W at *
            have x0 : W.cell? ⟨w.heap.size + 1, 0, none⟩ = some (.int .u64 a.F) := by rw [← hW]; simp [go_sem]
            have x1 : W.cell? ⟨w.heap.size + 1, 1, none⟩ = some (.int .u64 a.H) := by rw [← hW]; simp [go_sem]
            have x2 : W.cell? ⟨w.heap.size + 1, 2, none⟩ = some (.int .i64 a.Y) := by rw [← hW]; simp [go_sem]
            have x3 : W.cell? ⟨w.heap.size + 1, 3, none⟩ = some (.int .i64 a.X) := by rw [← hW]; simp [go_sem]
            have y0 : W.cell? ⟨w.heap.size + 1 + 1, 0, none⟩ = some (.int .u64 b.F) := by rw [← hW]; simp [go_sem]
            have y1 : W.cell? ⟨w.heap.size + 1 + 1, 1, none⟩ = some (.int .u64 b.H) := by rw [← hW]; simp [go_sem]
            have y2 : W.cell? ⟨w.heap.size + 1 + 1, 2, none⟩ = some (.int .i64 b.Y) := by rw [← hW]; simp [go_sem]
            have y3 : W.cell? ⟨w.heap.size + 1 + 1, 3, none⟩ = some (.int .i64 b.X) := by rw [← hW]; simp [go_sem]
            have z0 : W.cell? ⟨w.heap.size + 1 + 1 + 1, 0, none⟩ = some (.int .u64 c.F) := by rw [← hW]; simp [go_sem]
            have z1 : W.cell? ⟨w.heap.size + 1 + 1 + 1, 1, none⟩ = some (.int .u64 c.H) := by rw [← hW]; simp [go_sem]
            have z2 : W.cell? ⟨w.heap.size + 1 + 1 + 1, 2, none⟩ = some (.int .i64 c.Y) := by rw [← hW]; simp [go_sem]
            have z3 : W.cell? ⟨w.heap.size + 1 + 1 + 1, 3, none⟩ = some (.int .i64 c.X) := by rw [← hW]; simp [go_sem]
            clear hW
            have hB := bl_dr (bl0 W)
            go_region_held3 (fun w' => w'.cell? ⟨w.heap.size + 1, 0, none⟩ = some (.int .u64 a.F) ∧ w'.cell? ⟨w.heap.size + 1, 1, none⟩ = some (.int .u64 a.H) ∧ w'.cell? ⟨w.heap.size + 1, 2, none⟩ = some (.int .i64 a.Y) ∧ w'.cell? ⟨w.heap.size + 1, 3, none⟩ = some (.int .i64 a.X) ∧ w'.cell? ⟨w.heap.size + 1 + 1, 0, none⟩ = some (.int .u64 b.F) ∧ w'.cell? ⟨w.heap.size + 1 + 1, 1, none⟩ = some (.int .u64 b.H) ∧ w'.cell? ⟨w.heap.size + 1 + 1, 2, none⟩ = some (.int .i64 b.Y) ∧ w'.cell? ⟨w.heap.size + 1 + 1, 3, none⟩ = some (.int .i64 b.X))
              (exact ⟨cell_later hB x0, cell_later hB x1, cell_later hB x2, cell_later hB x3, cell_later hB y0, cell_later hB y1, cell_later hB y2, cell_later hB y3⟩)
              (first
                | ((go_at_call 9; (with_reducible refine (less_any _ _ _).mono ?_); rintro e W2 ⟨rfl, hb⟩; replace hB := bl_tr hB hb; clear hb))
                | ((go_at_call 11; (with_reducible refine (plain_any _ _).mono ?_); rintro e W2 ⟨rfl, hb⟩; replace hB := bl_tr hB hb; clear hb))
                | ((go_at_call 10; (with_reducible refine (rless_any _ _ _).mono ?_); rintro e W2 ⟨rfl, hb⟩; replace hB := bl_tr hB hb; clear hb)))
            all_goals
              replace x0 := cell_later hB x0
              replace x1 := cell_later hB x1
              replace x2 := cell_later hB x2
              replace x3 := cell_later hB x3
              replace y0 := cell_later hB y0
              replace y1 := cell_later hB y1
              replace y2 := cell_later hB y2
              replace y3 := cell_later hB y3
              replace z0 := cell_later hB z0
              replace z1 := cell_later hB z1
              replace z2 := cell_later hB z2
              replace z3 := cell_later hB z3
              replace hD := bl_tr hD hB
              clear hB
              have zx := blk_lt x0
              have zy := blk_lt y0
              have zz := blk_lt z0
              go_wp2_with fail
              refine (less_any _ _ _).mono ?_
              rintro e W3 ⟨rfl, hB⟩
              replace x0 := cell_later hB x0
              replace x1 := cell_later hB x1
              replace x2 := cell_later hB x2
              replace x3 := cell_later hB x3
              replace y0 := cell_later hB y0
              replace y1 := cell_later hB y1
              replace y2 := cell_later hB y2
              replace y3 := cell_later hB y3
              replace z0 := cell_later hB z0
              replace z1 := cell_later hB z1
              replace z2 := cell_later hB z2
              replace z3 := cell_later hB z3
              replace hD := bl_tr hD hB
              clear hB
              have zx := blk_lt x0
              have zy := blk_lt y0
              have zz := blk_lt z0
              go_wp2_with fail
              refine (less_any _ _ _).mono ?_
              rintro e W3 ⟨rfl, hB⟩
              replace x0 := cell_later hB x0
              replace x1 := cell_later hB x1
              replace x2 := cell_later hB x2
              replace x3 := cell_later hB x3
              replace y0 := cell_later hB y0
              replace y1 := cell_later hB y1
              replace y2 := cell_later hB y2
              replace y3 := cell_later hB y3
              replace z0 := cell_later hB z0
              replace z1 := cell_later hB z1
              replace z2 := cell_later hB z2
              replace z3 := cell_later hB z3
              replace hD := bl_tr hD hB
              clear hB
              have zx := blk_lt x0
              have zy := blk_lt y0
              have zz := blk_lt z0
              go_wp2_with fail
              refine (hawake _).mono ?_
              rintro e W3 ⟨rfl, hB⟩
              replace hD := bl_tr hD hB
              have HD := Lib.hid hD
              clear hD hB x0 x1 x2 x3 y0 y1 y2 y3 z0 z1 z2 z3
              go_wp2
              go_ret
              exact ⟨rfl, HD.out⟩
        · have n3 : (a.Y == b.Y) = false := by rw [beq_eq_false_iff_ne]; exact h3
          clear h1 h2 h3 hs
          rcases hs' with ⟨hr1, hr2⟩ | ⟨hr1, hr2⟩
          ·
            have hD := bl_al (bl_al (bl_al (bl_al (bl0 w) (.cells #[.int .u64 a.F, .int .u64 a.H, .int .i64 a.Y, .int .i64 a.X, .int .u64 b.F, .int .u64 b.H, .int .i64 b.Y, .int .i64 b.X, .int .u64 c.F, .int .u64 c.H, .int .i64 c.Y, .int .i64 c.X] 25)) (.cells #[.int .u64 a.F, .int .u64 a.H, .int .i64 a.Y, .int .i64 a.X] 24)) (.cells #[.int .u64 b.F, .int .u64 b.H, .int .i64 b.Y, .int .i64 b.X] 24)) (.cells #[.int .u64 c.F, .int .u64 c.H, .int .i64 c.Y, .int .i64 c.X] 24)
            go_enter Try.func3, Try.ntmps3
            go_upto_region 4 with fail
            generalize hW : World.alloc _ _ = W at *
            have x0 : W.cell? ⟨w.heap.size + 1, 0, none⟩ = some (.int .u64 a.F) := by rw [← hW]; simp [go_sem]
            have x1 : W.cell? ⟨w.heap.size + 1, 1, none⟩ = some (.int .u64 a.H) := by rw [← hW]; simp [go_sem]
            have x2 : W.cell? ⟨w.heap.size + 1, 2, none⟩ = some (.int .i64 a.Y) := by rw [← hW]; simp [go_sem]
            have x3 : W.cell? ⟨w.heap.size + 1, 3, none⟩ = some (.int .i64 a.X) := by rw [← hW]; simp [go_sem]
            have y0 : W.cell? ⟨w.heap.size + 1 + 1, 0, none⟩ = some (.int .u64 b.F) := by rw [← hW]; simp [go_sem]
            have y1 : W.cell? ⟨w.heap.size + 1 + 1, 1, none⟩ = some (.int .u64 b.H) := by rw [← hW]; simp [go_sem]
            have y2 : W.cell? ⟨w.heap.size + 1 + 1, 2, none⟩ = some (.int .i64 b.Y) := by rw [← hW]; simp [go_sem]
            have y3 : W.cell? ⟨w.heap.size + 1 + 1, 3, none⟩ = some (.int .i64 b.X) := by rw [← hW]; simp [go_sem]
            have z0 : W.cell? ⟨w.heap.size + 1 + 1 + 1, 0, none⟩ = some (.int .u64 c.F) := by rw [← hW]; simp [go_sem]
            have z1 : W.cell? ⟨w.heap.size + 1 + 1 + 1, 1, none⟩ = some (.int .u64 c.H) := by rw [← hW]; simp [go_sem]
            have z2 : W.cell? ⟨w.heap.size + 1 + 1 + 1, 2, none⟩ = some (.int .i64 c.Y) := by rw [← hW]; simp [go_sem]
            have z3 : W.cell? ⟨w.heap.size + 1 + 1 + 1, 3, none⟩ = some (.int .i64 c.X) := by rw [← hW]; simp [go_sem]
            clear hW
            have hB := bl_dr (bl0 W)
            go_region_held3 (fun w' => w'.cell? ⟨w.heap.size + 1, 0, none⟩ = some (.int .u64 a.F) ∧ w'.cell? ⟨w.heap.size + 1, 1, none⟩ = some (.int .u64 a.H) ∧ w'.cell? ⟨w.heap.size + 1, 2, none⟩ = some (.int .i64 a.Y) ∧ w'.cell? ⟨w.heap.size + 1, 3, none⟩ = some (.int .i64 a.X) ∧ w'.cell? ⟨w.heap.size + 1 + 1, 0, none⟩ = some (.int .u64 b.F) ∧ w'.cell? ⟨w.heap.size + 1 + 1, 1, none⟩ = some (.int .u64 b.H) ∧ w'.cell? ⟨w.heap.size + 1 + 1, 2, none⟩ = some (.int .i64 b.Y) ∧ w'.cell? ⟨w.heap.size + 1 + 1, 3, none⟩ = some (.int .i64 b.X))
              (exact ⟨cell_later hB x0, cell_later hB x1, cell_later hB x2, cell_later hB x3, cell_later hB y0, cell_later hB y1, cell_later hB y2, cell_later hB y3⟩)
              (first
                | ((go_at_call 9; (with_reducible refine (less_any _ _ _).mono ?_); rintro e W2 ⟨rfl, hb⟩; replace hB := bl_tr hB hb; clear hb))
                | ((go_at_call 11; (with_reducible refine (plain_any _ _).mono ?_); rintro e W2 ⟨rfl, hb⟩; replace hB := bl_tr hB hb; clear hb))
                | ((go_at_call 10; (with_reducible refine (rless_any _ _ _).mono ?_); rintro e W2 ⟨rfl, hb⟩; replace hB := bl_tr hB hb; clear hb)))
            all_goals
              replace x0 := cell_later hB x0
              replace x1 := cell_later hB x1
              replace x2 := cell_later hB x2
              replace x3 := cell_later hB x3
              replace y0 := cell_later hB y0
              replace y1 := cell_later hB y1
              replace y2 := cell_later hB y2
              replace y3 := cell_later hB y3
              replace z0 := cell_later hB z0
              replace z1 := cell_later hB z1
              replace z2 := cell_later hB z2
              replace z3 := cell_later hB z3
              replace hD := bl_tr hD hB
              clear hB
              have zx := blk_lt x0
              have zy := blk_lt y0
              have zz := blk_lt z0
              go_wp2_with fail
              refine (less_any _ _ _).mono ?_
              rintro e W3 ⟨rfl, hB⟩
              replace x0 := cell_later hB x0
              replace x1 := cell_later hB x1
              replace x2 := cell_later hB x2
              replace x3 := cell_later hB x3
              replace y0 := cell_later hB y0
              replace y1 := cell_later hB y1
              replace y2 := cell_later hB y2
              replace y3 := cell_later hB y3
              replace z0 := cell_later hB z0
              replace z1 := cell_later hB z1
              replace z2 := cell_later hB z2
              replace z3 := cell_later hB z3
              replace hD := bl_tr hD hB
              clear hB
              have zx := blk_lt x0
              have zy := blk_lt y0
              have zz := blk_lt z0
              go_wp2_with fail
              refine (less_any _ _ _).mono ?_
              rintro e W3 ⟨rfl, hB⟩
              replace x0 := cell_later hB x0
              replace x1 := cell_later hB x1
              replace x2 := cell_later hB x2
              replace x3 := cell_later hB x3
              replace y0 := cell_later hB y0
              replace y1 := cell_later hB y1
              replace y2 := cell_later hB y2
              replace y3 := cell_later hB y3
              replace z0 := cell_later hB z0
              replace z1 := cell_later hB z1
              replace z2 := cell_later hB z2
              replace z3 := cell_later hB z3
              replace hD := bl_tr hD hB
              clear hB
              have zx := blk_lt x0
              have zy := blk_lt y0
              have zz := blk_lt z0
              cases hbc : lessK b c
              ·
                go_wp2_with fail
                refine (less_any _ _ _).mono ?_
                rintro e W3 ⟨rfl, hB⟩
                replace x0 := cell_later hB x0
                replace x1 := cell_later hB x1
                replace x2 := cell_later hB x2
                replace x3 := cell_later hB x3
                replace y0 := cell_later hB y0
                replace y1 := cell_later hB y1
                replace y2 := cell_later hB y2
                replace y3 := cell_later hB y3
                replace z0 := cell_later hB z0
                replace z1 := cell_later hB z1
                replace z2 := cell_later hB z2
                replace z3 := cell_later hB z3
                replace hD := bl_tr hD hB
                clear hB
                have zx := blk_lt x0
                have zy := blk_lt y0
                have zz := blk_lt z0
                go_wp2_with fail
                refine (hawake _).mono ?_
                rintro e W3 ⟨rfl, hB⟩
                replace hD := bl_tr hD hB
                have HD := Lib.hid hD
                clear hD hB x0 x1 x2 x3 y0 y1 y2 y3 z0 z1 z2 z3
                go_wp2
                go_ret
                exact ⟨rfl, HD.out⟩
              · have hac := less_trans hr1 hbc
                go_wp2_with fail
                refine (less_any _ _ _).mono ?_
                rintro e W3 ⟨rfl, hB⟩
                replace x0 := cell_later hB x0
                replace x1 := cell_later hB x1
                replace x2 := cell_later hB x2
                replace x3 := cell_later hB x3
                replace y0 := cell_later hB y0
                replace y1 := cell_later hB y1
                replace y2 := cell_later hB y2
                replace y3 := cell_later hB y3
                replace z0 := cell_later hB z0
                replace z1 := cell_later hB z1
                replace z2 := cell_later hB z2
                replace z3 := cell_later hB z3
                replace hD := bl_tr hD hB
                clear hB
                have zx := blk_lt x0
                have zy := blk_lt y0
                have zz := blk_lt z0
                go_wp2_with fail
                refine (less_any _ _ _).mono ?_
                rintro e W3 ⟨rfl, hB⟩
                replace x0 := cell_later hB x0
                replace x1 := cell_later hB x1
                replace x2 := cell_later hB x2
                replace x3 := cell_later hB x3
                replace y0 := cell_later hB y0
                replace y1 := cell_later hB y1
                replace y2 := cell_later hB y2
                replace y3 := cell_later hB y3
                replace z0 := cell_later hB z0
                replace z1 := cell_later hB z1
                replace z2 := cell_later hB z2
                replace z3 := cell_later hB z3
                replace hD := bl_tr hD hB
                clear hB
                have zx := blk_lt x0
                have zy := blk_lt y0
                have zz := blk_lt z0
                go_wp2_with fail
                refine (hawake _).mono ?_
                rintro e W3 ⟨rfl, hB⟩
                replace hD := bl_tr hD hB
                have HD := Lib.hid hD
                clear hD hB x0 x1 x2 x3 y0 y1 y2 y3 z0 z1 z2 z3
                go_wp2
                go_ret
                exact ⟨rfl, HD.out⟩
          ·
            have hD := bl_al (bl_al (bl_al (bl_al (bl0 w) (.cells #[.int .u64 a.F, .int .u64 a.H, .int .i64 a.Y, .int .i64 a.X, .int .u64 b.F, .int .u64 b.H, .int .i64 b.Y, .int .i64 b.X, .int .u64 c.F, .int .u64 c.H, .int .i64 c.Y, .int .i64 c.X] 25)) (.cells #[.int .u64 a.F, .int .u64 a.H, .int .i64 a.Y, .int .i64 a.X] 24)) (.cells #[.int .u64 b.F, .int .u64 b.H, .int .i64 b.Y, .int .i64 b.X] 24)) (.cells #[.int .u64 c.F, .int .u64 c.H, .int .i64 c.Y, .int .i64 c.X] 24)
            go_enter Try.func3, Try.ntmps3
            go_upto_region 4 with fail
            generalize hW : World.alloc _ _ = W at *
            have x0 : W.cell? ⟨w.heap.size + 1, 0, none⟩ = some (.int .u64 a.F) := by rw [← hW]; simp [go_sem]
            have x1 : W.cell? ⟨w.heap.size + 1, 1, none⟩ = some (.int .u64 a.H) := by rw [← hW]; simp [go_sem]
            have x2 : W.cell? ⟨w.heap.size + 1, 2, none⟩ = some (.int .i64 a.Y) := by rw [← hW]; simp [go_sem]
            have x3 : W.cell? ⟨w.heap.size + 1, 3, none⟩ = some (.int .i64 a.X) := by rw [← hW]; simp [go_sem]
            have y0 : W.cell? ⟨w.heap.size + 1 + 1, 0, none⟩ = some (.int .u64 b.F) := by rw [← hW]; simp [go_sem]
            have y1 : W.cell? ⟨w.heap.size + 1 + 1, 1, none⟩ = some (.int .u64 b.H) := by rw [← hW]; simp [go_sem]
            have y2 : W.cell? ⟨w.heap.size + 1 + 1, 2, none⟩ = some (.int .i64 b.Y) := by rw [← hW]; simp [go_sem]
            have y3 : W.cell? ⟨w.heap.size + 1 + 1, 3, none⟩ = some (.int .i64 b.X) := by rw [← hW]; simp [go_sem]
            have z0 : W.cell? ⟨w.heap.size + 1 + 1 + 1, 0, none⟩ = some (.int .u64 c.F) := by rw [← hW]; simp [go_sem]
            have z1 : W.cell? ⟨w.heap.size + 1 + 1 + 1, 1, none⟩ = some (.int .u64 c.H) := by rw [← hW]; simp [go_sem]
            have z2 : W.cell? ⟨w.heap.size + 1 + 1 + 1, 2, none⟩ = some (.int .i64 c.Y) := by rw [← hW]; simp [go_sem]
            have z3 : W.cell? ⟨w.heap.size + 1 + 1 + 1, 3, none⟩ = some (.int .i64 c.X) := by rw [← hW]; simp [go_sem]
            clear hW
            have hB := bl_dr (bl0 W)
            go_region_held3 (fun w' => w'.cell? ⟨w.heap.size + 1, 0, none⟩ = some (.int .u64 a.F) ∧ w'.cell? ⟨w.heap.size + 1, 1, none⟩ = some (.int .u64 a.H) ∧ w'.cell? ⟨w.heap.size + 1, 2, none⟩ = some (.int .i64 a.Y) ∧ w'.cell? ⟨w.heap.size + 1, 3, none⟩ = some (.int .i64 a.X) ∧ w'.cell? ⟨w.heap.size + 1 + 1, 0, none⟩ = some (.int .u64 b.F) ∧ w'.cell? ⟨w.heap.size + 1 + 1, 1, none⟩ = some (.int .u64 b.H) ∧ w'.cell? ⟨w.heap.size + 1 + 1, 2, none⟩ = some (.int .i64 b.Y) ∧ w'.cell? ⟨w.heap.size + 1 + 1, 3, none⟩ = some (.int .i64 b.X))
              (exact ⟨cell_later hB x0, cell_later hB x1, cell_later hB x2, cell_later hB x3, cell_later hB y0, cell_later hB y1, cell_later hB y2, cell_later hB y3⟩)
              (first
                | ((go_at_call 9; (with_reducible refine (less_any _ _ _).mono ?_); rintro e W2 ⟨rfl, hb⟩; replace hB := bl_tr hB hb; clear hb))
                | ((go_at_call 11; (with_reducible refine (plain_any _ _).mono ?_); rintro e W2 ⟨rfl, hb⟩; replace hB := bl_tr hB hb; clear hb))
                | ((go_at_call 10; (with_reducible refine (rless_any _ _ _).mono ?_); rintro e W2 ⟨rfl, hb⟩; replace hB := bl_tr hB hb; clear hb)))
            all_goals
              replace x0 := cell_later hB x0
              replace x1 := cell_later hB x1
              replace x2 := cell_later hB x2
              replace x3 := cell_later hB x3
              replace y0 := cell_later hB y0
              replace y1 := cell_later hB y1
              replace y2 := cell_later hB y2
              replace y3 := cell_later hB y3
              replace z0 := cell_later hB z0
              replace z1 := cell_later hB z1
              replace z2 := cell_later hB z2
              replace z3 := cell_later hB z3
              replace hD := bl_tr hD hB
              clear hB
              have zx := blk_lt x0
              have zy := blk_lt y0
              have zz := blk_lt z0
              go_wp2_with fail
              refine (less_any _ _ _).mono ?_
              rintro e W3 ⟨rfl, hB⟩
              replace x0 := cell_later hB x0
              replace x1 := cell_later hB x1
              replace x2 := cell_later hB x2
              replace x3 := cell_later hB x3
              replace y0 := cell_later hB y0
              replace y1 := cell_later hB y1
              replace y2 := cell_later hB y2
              replace y3 := cell_later hB y3
              replace z0 := cell_later hB z0
              replace z1 := cell_later hB z1
              replace z2 := cell_later hB z2
              replace z3 := cell_later hB z3
              replace hD := bl_tr hD hB
              clear hB
              have zx := blk_lt x0
              have zy := blk_lt y0
              have zz := blk_lt z0
              go_wp2_with fail
              refine (less_any _ _ _).mono ?_
              rintro e W3 ⟨rfl, hB⟩
              replace x0 := cell_later hB x0
              replace x1 := cell_later hB x1
              replace x2 := cell_later hB x2
              replace x3 := cell_later hB x3
              replace y0 := cell_later hB y0
              replace y1 := cell_later hB y1
              replace y2 := cell_later hB y2
              replace y3 := cell_later hB y3
              replace z0 := cell_later hB z0
              replace z1 := cell_later hB z1
              replace z2 := cell_later hB z2
              replace z3 := cell_later hB z3
              replace hD := bl_tr hD hB
              clear hB
              have zx := blk_lt x0
              have zy := blk_lt y0
              have zz := blk_lt z0
              go_wp2_with fail
              refine (hawake _).mono ?_
              rintro e W3 ⟨rfl, hB⟩
              replace hD := bl_tr hD hB
              have HD := Lib.hid hD
              clear hD hB x0 x1 x2 x3 y0 y1 y2 y3 z0 z1 z2 z3
              go_wp2
              go_ret
              exact ⟨rfl, HD.out⟩
      · have n2 : (a.H == b.H) = false := by rw [beq_eq_false_iff_ne]; exact h2
        clear h1 h2 hs
        rcases hs' with ⟨hr1, hr2⟩ | ⟨hr1, hr2⟩
        ·
          have hD := bl_al (bl_al (bl_al (bl_al (bl0 w) (.cells #[.int .u64 a.F, .int .u64 a.H, .int .i64 a.Y, .int .i64 a.X, .int .u64 b.F, .int .u64 b.H, .int .i64 b.Y, .int .i64 b.X, .int .u64 c.F, .int .u64 c.H, .int .i64 c.Y, .int .i64 c.X] 25)) (.cells #[.int .u64 a.F, .int .u64 a.H, .int .i64 a.Y, .int .i64 a.X] 24)) (.cells #[.int .u64 b.F, .int .u64 b.H, .int .i64 b.Y, .int .i64 b.X] 24)) (.cells #[.int .u64 c.F, .int .u64 c.H, .int .i64 c.Y, .int .i64 c.X] 24)
          go_enter Try.func3, Try.ntmps3
          go_upto_region 4 with fail
          generalize hW : World.alloc _ _ = W at *
          have x0 : W.cell? ⟨w.heap.size + 1, 0, none⟩ = some (.int .u64 a.F) := by rw [← hW]; simp [go_sem]
          have x1 : W.cell? ⟨w.heap.size + 1, 1, none⟩ = some (.int .u64 a.H) := by rw [← hW]; simp [go_sem]
          have x2 : W.cell? ⟨w.heap.size + 1, 2, none⟩ = some (.int .i64 a.Y) := by rw [← hW]; simp [go_sem]
          have x3 : W.cell? ⟨w.heap.size + 1, 3, none⟩ = some (.int .i64 a.X) := by rw [← hW]; simp [go_sem]
          have y0 : W.cell? ⟨w.heap.size + 1 + 1, 0, none⟩ = some (.int .u64 b.F) := by rw [← hW]; simp [go_sem]
          have y1 : W.cell? ⟨w.heap.size + 1 + 1, 1, none⟩ = some (.int .u64 b.H) := by rw [← hW]; simp [go_sem]
          have y2 : W.cell? ⟨w.heap.size + 1 + 1, 2, none⟩ = some (.int .i64 b.Y) := by rw [← hW]; simp [go_sem]
          have y3 : W.cell? ⟨w.heap.size + 1 + 1, 3, none⟩ = some (.int .i64 b.X) := by rw [← hW]; simp [go_sem]
          have z0 : W.cell? ⟨w.heap.size + 1 + 1 + 1, 0, none⟩ = some (.int .u64 c.F) := by rw [← hW]; simp [go_sem]
          have z1 : W.cell? ⟨w.heap.size + 1 + 1 + 1, 1, none⟩ = some (.int .u64 c.H) := by rw [← hW]; simp [go_sem]
          have z2 : W.cell? ⟨w.heap.size + 1 + 1 + 1, 2, none⟩ = some (.int .i64 c.Y) := by rw [← hW]; simp [go_sem]
          have z3 : W.cell? ⟨w.heap.size + 1 + 1 + 1, 3, none⟩ = some (.int .i64 c.X) := by rw [← hW]; simp [go_sem]
          clear hW
          have hB := bl_dr (bl0 W)
          go_region_held3 (fun w' => w'.cell? ⟨w.heap.size + 1, 0, none⟩ = some (.int .u64 a.F) ∧ w'.cell? ⟨w.heap.size + 1, 1, none⟩ = some (.int .u64 a.H) ∧ w'.cell? ⟨w.heap.size + 1, 2, none⟩ = some (.int .i64 a.Y) ∧ w'.cell? ⟨w.heap.size + 1, 3, none⟩ = some (.int .i64 a.X) ∧ w'.cell? ⟨w.heap.size + 1 + 1, 0, none⟩ = some (.int .u64 b.F) ∧ w'.cell? ⟨w.heap.size + 1 + 1, 1, none⟩ = some (.int .u64 b.H) ∧ w'.cell? ⟨w.heap.size + 1 + 1, 2, none⟩ = some (.int .i64 b.Y) ∧ w'.cell? ⟨w.heap.size + 1 + 1, 3, none⟩ = some (.int .i64 b.X))
            (exact ⟨cell_later hB x0, cell_later hB x1, cell_later hB x2, cell_later hB x3, cell_later hB y0, cell_later hB y1, cell_later hB y2, cell_later hB y3⟩)
            (first
              | ((go_at_call 9; (with_reducible refine (less_any _ _ _).mono ?_); rintro e W2 ⟨rfl, hb⟩; replace hB := bl_tr hB hb; clear hb))
              | ((go_at_call 11; (with_reducible refine (plain_any _ _).mono ?_); rintro e W2 ⟨rfl, hb⟩; replace hB := bl_tr hB hb; clear hb))
              | ((go_at_call 10; (with_reducible refine (rless_any _ _ _).mono ?_); rintro e W2 ⟨rfl, hb⟩; replace hB := bl_tr hB hb; clear hb)))
          all_goals
            replace x0 := cell_later hB x0
            replace x1 := cell_later hB x1
            replace x2 := cell_later hB x2
            replace x3 := cell_later hB x3
            replace y0 := cell_later hB y0
            replace y1 := cell_later hB y1
            replace y2 := cell_later hB y2
            replace y3 := cell_later hB y3
            replace z0 := cell_later hB z0
            replace z1 := cell_later hB z1
            replace z2 := cell_later hB z2
            replace z3 := cell_later hB z3
            replace hD := bl_tr hD hB
            clear hB
            have zx := blk_lt x0
            have zy := blk_lt y0
            have zz := blk_lt z0
            go_wp2_with fail
            refine (less_any _ _ _).mono ?_
            rintro e W3 ⟨rfl, hB⟩
            replace x0 := cell_later hB x0
            replace x1 := cell_later hB x1
            replace x2 := cell_later hB x2
            replace x3 := cell_later hB x3
            replace y0 := cell_later hB y0
            replace y1 := cell_later hB y1
            replace y2 := cell_later hB y2
            replace y3 := cell_later hB y3
            replace z0 := cell_later hB z0
            replace z1 := cell_later hB z1
            replace z2 := cell_later hB z2
            replace z3 := cell_later hB z3
            replace hD := bl_tr hD hB
            clear hB
            have zx := blk_lt x0
            have zy := blk_lt y0
            have zz := blk_lt z0
            go_wp2_with fail
            refine (less_any _ _ _).mono ?_
            rintro e W3 ⟨rfl, hB⟩
            replace x0 := cell_later hB x0
            replace x1 := cell_later hB x1
            replace x2 := cell_later hB x2
            replace x3 := cell_later hB x3
            replace y0 := cell_later hB y0
            replace y1 := cell_later hB y1
            replace y2 := cell_later hB y2
            replace y3 := cell_later hB y3
            replace z0 := cell_later hB z0
            replace z1 := cell_later hB z1
            replace z2 := cell_later hB z2
            replace z3 := cell_later hB z3
            replace hD := bl_tr hD hB
            clear hB
            have zx := blk_lt x0
            have zy := blk_lt y0
            have zz := blk_lt z0
            cases hbc : lessK b c
            ·
              go_wp2_with fail
              refine (less_any _ _ _).mono ?_
              rintro e W3 ⟨rfl, hB⟩
              replace x0 := cell_later hB x0
              replace x1 := cell_later hB x1
              replace x2 := cell_later hB x2
              replace x3 := cell_later hB x3
              replace y0 := cell_later hB y0
              replace y1 := cell_later hB y1
              replace y2 := cell_later hB y2
              replace y3 := cell_later hB y3
              replace z0 := cell_later hB z0
              replace z1 := cell_later hB z1
              replace z2 := cell_later hB z2
              replace z3 := cell_later hB z3
              replace hD := bl_tr hD hB
              clear hB
              have zx := blk_lt x0
              have zy := blk_lt y0
              have zz := blk_lt z0
              go_wp2_with fail
              refine (hawake _).mono ?_
              rintro e W3 ⟨rfl, hB⟩
              replace hD := bl_tr hD hB
              have HD := Lib.hid hD
              clear hD hB x0 x1 x2 x3 y0 y1 y2 y3 z0 z1 z2 z3
              go_wp2
              go_ret
              exact ⟨rfl, HD.out⟩
            · have hac := less_trans hr1 hbc
              go_wp2_with fail
              refine (less_any _ _ _).mono ?_
              rintro e W3 ⟨rfl, hB⟩
              replace x0 := cell_later hB x0
              replace x1 := cell_later hB x1
              replace x2 := cell_later hB x2
              replace x3 := cell_later hB x3
              replace y0 := cell_later hB y0
              replace y1 := cell_later hB y1
              replace y2 := cell_later hB y2
              replace y3 := cell_later hB y3
              replace z0 := cell_later hB z0
              replace z1 := cell_later hB z1
              replace z2 := cell_later hB z2
              replace z3 := cell_later hB z3
              replace hD := bl_tr hD hB
              clear hB
              have zx := blk_lt x0
              have zy := blk_lt y0
              have zz := blk_lt z0
              go_wp2_with fail
              refine (less_any _ _ _).mono ?_
              rintro e W3 ⟨rfl, hB⟩
              replace x0 := cell_later hB x0
              replace x1 := cell_later hB x1
              replace x2 := cell_later hB x2
              replace x3 := cell_later hB x3
              replace y0 := cell_later hB y0
              replace y1 := cell_later hB y1
              replace y2 := cell_later hB y2
              replace y3 := cell_later hB y3
              replace z0 := cell_later hB z0
              replace z1 := cell_later hB z1
              replace z2 := cell_later hB z2
              replace z3 := cell_later hB z3
              replace hD := bl_tr hD hB
              clear hB
              have zx := blk_lt x0
              have zy := blk_lt y0
              have zz := blk_lt z0
              go_wp2_with fail
              refine (hawake _).mono ?_
              rintro e W3 ⟨rfl, hB⟩
              replace hD := bl_tr hD hB
              have HD := Lib.hid hD
              clear hD hB x0 x1 x2 x3 y0 y1 y2 y3 z0 z1 z2 z3
              go_wp2
              go_ret
              exact ⟨rfl, HD.out⟩
        ·
          have hD := bl_al (bl_al (bl_al (bl_al (bl0 w) (.cells #[.int .u64 a.F, .int .u64 a.H, .int .i64 a.Y, .int .i64 a.X, .int .u64 b.F, .int .u64 b.H, .int .i64 b.Y, .int .i64 b.X, .int .u64 c.F, .int .u64 c.H, .int .i64 c.Y, .int .i64 c.X] 25)) (.cells #[.int .u64 a.F, .int .u64 a.H, .int .i64 a.Y, .int .i64 a.X] 24)) (.cells #[.int .u64 b.F, .int .u64 b.H, .int .i64 b.Y, .int .i64 b.X] 24)) (.cells #[.int .u64 c.F, .int .u64 c.H, .int .i64 c.Y, .int .i64 c.X] 24)
          go_enter Try.func3, Try.ntmps3
          go_upto_region 4 with fail
          generalize hW : World.alloc _ _ = W at *
          have x0 : W.cell? ⟨w.heap.size + 1, 0, none⟩ = some (.int .u64 a.F) := by rw [← hW]; simp [go_sem]
          have x1 : W.cell? ⟨w.heap.size + 1, 1, none⟩ = some (.int .u64 a.H) := by rw [← hW]; simp [go_sem]
          have x2 : W.cell? ⟨w.heap.size + 1, 2, none⟩ = some (.int .i64 a.Y) := by rw [← hW]; simp [go_sem]
          have x3 : W.cell? ⟨w.heap.size + 1, 3, none⟩ = some (.int .i64 a.X) := by rw [← hW]; simp [go_sem]
          have y0 : W.cell? ⟨w.heap.size + 1 + 1, 0, none⟩ = some (.int .u64 b.F) := by rw [← hW]; simp [go_sem]
          have y1 : W.cell? ⟨w.heap.size + 1 + 1, 1, none⟩ = some (.int .u64 b.H) := by rw [← hW]; simp [go_sem]
          have y2 : W.cell? ⟨w.heap.size + 1 + 1, 2, none⟩ = some (.int .i64 b.Y) := by rw [← hW]; simp [go_sem]
          have y3 : W.cell? ⟨w.heap.size + 1 + 1, 3, none⟩ = some (.int .i64 b.X) := by rw [← hW]; simp [go_sem]
          have z0 : W.cell? ⟨w.heap.size + 1 + 1 + 1, 0, none⟩ = some (.int .u64 c.F) := by rw [← hW]; simp [go_sem]
          have z1 : W.cell? ⟨w.heap.size + 1 + 1 + 1, 1, none⟩ = some (.int .u64 c.H) := by rw [← hW]; simp [go_sem]
          have z2 : W.cell? ⟨w.heap.size + 1 + 1 + 1, 2, none⟩ = some (.int .i64 c.Y) := by rw [← hW]; simp [go_sem]
          have z3 : W.cell? ⟨w.heap.size + 1 + 1 + 1, 3, none⟩ = some (.int .i64 c.X) := by rw [← hW]; simp [go_sem]
          clear hW
          have hB := bl_dr (bl0 W)
          go_region_held3 (fun w' => w'.cell? ⟨w.heap.size + 1, 0, none⟩ = some (.int .u64 a.F) ∧ w'.cell? ⟨w.heap.size + 1, 1, none⟩ = some (.int .u64 a.H) ∧ w'.cell? ⟨w.heap.size + 1, 2, none⟩ = some (.int .i64 a.Y) ∧ w'.cell? ⟨w.heap.size + 1, 3, none⟩ = some (.int .i64 a.X) ∧ w'.cell? ⟨w.heap.size + 1 + 1, 0, none⟩ = some (.int .u64 b.F) ∧ w'.cell? ⟨w.heap.size + 1 + 1, 1, none⟩ = some (.int .u64 b.H) ∧ w'.cell? ⟨w.heap.size + 1 + 1, 2, none⟩ = some (.int .i64 b.Y) ∧ w'.cell? ⟨w.heap.size + 1 + 1, 3, none⟩ = some (.int .i64 b.X))
            (exact ⟨cell_later hB x0, cell_later hB x1, cell_later hB x2, cell_later hB x3, cell_later hB y0, cell_later hB y1, cell_later hB y2, cell_later hB y3⟩)
            (first
              | ((go_at_call 9; (with_reducible refine (less_any _ _ _).mono ?_); rintro e W2 ⟨rfl, hb⟩; replace hB := bl_tr hB hb; clear hb))
              | ((go_at_call 11; (with_reducible refine (plain_any _ _).mono ?_); rintro e W2 ⟨rfl, hb⟩; replace hB := bl_tr hB hb; clear hb))
              | ((go_at_call 10; (with_reducible refine (rless_any _ _ _).mono ?_); rintro e W2 ⟨rfl, hb⟩; replace hB := bl_tr hB hb; clear hb)))
          all_goals
            replace x0 := cell_later hB x0
            replace x1 := cell_later hB x1
            replace x2 := cell_later hB x2
            replace x3 := cell_later hB x3
            replace y0 := cell_later hB y0
            replace y1 := cell_later hB y1
            replace y2 := cell_later hB y2
            replace y3 := cell_later hB y3
            replace z0 := cell_later hB z0
            replace z1 := cell_later hB z1
            replace z2 := cell_later hB z2
            replace z3 := cell_later hB z3
            replace hD := bl_tr hD hB
            clear hB
            have zx := blk_lt x0
            have zy := blk_lt y0
            have zz := blk_lt z0
            go_wp2_with fail
            refine (less_any _ _ _).mono ?_
            rintro e W3 ⟨rfl, hB⟩
            replace x0 := cell_later hB x0
            replace x1 := cell_later hB x1
            replace x2 := cell_later hB x2
            replace x3 := cell_later hB x3
            replace y0 := cell_later hB y0
            replace y1 := cell_later hB y1
            replace y2 := cell_later hB y2
            replace y3 := cell_later hB y3
            replace z0 := cell_later hB z0
            replace z1 := cell_later hB z1
            replace z2 := cell_later hB z2
            replace z3 := cell_later hB z3
            replace hD := bl_tr hD hB
            clear hB
            have zx := blk_lt x0
            have zy := blk_lt y0
            have zz := blk_lt z0
            go_wp2_with fail
            refine (less_any _ _ _).mono ?_
            rintro e W3 ⟨rfl, hB⟩
            replace x0 := cell_later hB x0
            replace x1 := cell_later hB x1
            replace x2 := cell_later hB x2
            replace x3 := cell_later hB x3
            replace y0 := cell_later hB y0
            replace y1 := cell_later hB y1
            replace y2 := cell_later hB y2
            replace y3 := cell_later hB y3
            replace z0 := cell_later hB z0
            replace z1 := cell_later hB z1
            replace z2 := cell_later hB z2
            replace z3 := cell_later hB z3
            replace hD := bl_tr hD hB
            clear hB
            have zx := blk_lt x0
            have zy := blk_lt y0
            have zz := blk_lt z0
            go_wp2_with fail
            refine (hawake _).mono ?_
            rintro e W3 ⟨rfl, hB⟩
            replace hD := bl_tr hD hB
            have HD := Lib.hid hD
            clear hD hB x0 x1 x2 x3 y0 y1 y2 y3 z0 z1 z2 z3
            go_wp2
            go_ret
            exact ⟨rfl, HD.out⟩
    · have n1 : (a.F == b.F) = false := by rw [beq_eq_false_iff_ne]; exact h1
      clear h1 hs
      rcases hs' with ⟨hr1, hr2⟩ | ⟨hr1, hr2⟩
      ·
        have hD := bl_al (bl_al (bl_al (bl_al (bl0 w) (.cells #[.int .u64 a.F, .int .u64 a.H, .int .i64 a.Y, .int .i64 a.X, .int .u64 b.F, .int .u64 b.H, .int .i64 b.Y, .int .i64 b.X, .int .u64 c.F, .int .u64 c.H, .int .i64 c.Y, .int .i64 c.X] 25)) (.cells #[.int .u64 a.F, .int .u64 a.H, .int .i64 a.Y, .int .i64 a.X] 24)) (.cells #[.int .u64 b.F, .int .u64 b.H, .int .i64 b.Y, .int .i64 b.X] 24)) (.cells #[.int .u64 c.F, .int .u64 c.H, .int .i64 c.Y, .int .i64 c.X] 24)
        go_enter Try.func3, Try.ntmps3
        go_upto_region 4 with fail
        generalize hW : World.alloc _ _ = W at *
        have x0 : W.cell? ⟨w.heap.size + 1, 0, none⟩ = some (.int .u64 a.F) := by rw [← hW]; simp [go_sem]
        have x1 : W.cell? ⟨w.heap.size + 1, 1, none⟩ = some (.int .u64 a.H) := by rw [← hW]; simp [go_sem]
        have x2 : W.cell? ⟨w.heap.size + 1, 2, none⟩ = some (.int .i64 a.Y) := by rw [← hW]; simp [go_sem]
        have x3 : W.cell? ⟨w.heap.size + 1, 3, none⟩ = some (.int .i64 a.X) := by rw [← hW]; simp [go_sem]
        have y0 : W.cell? ⟨w.heap.size + 1 + 1, 0, none⟩ = some (.int .u64 b.F) := by rw [← hW]; simp [go_sem]
        have y1 : W.cell? ⟨w.heap.size + 1 + 1, 1, none⟩ = some (.int .u64 b.H) := by rw [← hW]; simp [go_sem]
        have y2 : W.cell? ⟨w.heap.size + 1 + 1, 2, none⟩ = some (.int .i64 b.Y) := by rw [← hW]; simp [go_sem]
        have y3 : W.cell? ⟨w.heap.size + 1 + 1, 3, none⟩ = some (.int .i64 b.X) := by rw [← hW]; simp [go_sem]
        have z0 : W.cell? ⟨w.heap.size + 1 + 1 + 1, 0, none⟩ = some (.int .u64 c.F) := by rw [← hW]; simp [go_sem]
        have z1 : W.cell? ⟨w.heap.size + 1 + 1 + 1, 1, none⟩ = some (.int .u64 c.H) := by rw [← hW]; simp [go_sem]
        have z2 : W.cell? ⟨w.heap.size + 1 + 1 + 1, 2, none⟩ = some (.int .i64 c.Y) := by rw [← hW]; simp [go_sem]
        have z3 : W.cell? ⟨w.heap.size + 1 + 1 + 1, 3, none⟩ = some (.int .i64 c.X) := by rw [← hW]; simp [go_sem]
        clear hW
        have hB := bl_dr (bl0 W)
        go_region_held3 (fun w' => w'.cell? ⟨w.heap.size + 1, 0, none⟩ = some (.int .u64 a.F) ∧ w'.cell? ⟨w.heap.size + 1, 1, none⟩ = some (.int .u64 a.H) ∧ w'.cell? ⟨w.heap.size + 1, 2, none⟩ = some (.int .i64 a.Y) ∧ w'.cell? ⟨w.heap.size + 1, 3, none⟩ = some (.int .i64 a.X) ∧ w'.cell? ⟨w.heap.size + 1 + 1, 0, none⟩ = some (.int .u64 b.F) ∧ w'.cell? ⟨w.heap.size + 1 + 1, 1, none⟩ = some (.int .u64 b.H) ∧ w'.cell? ⟨w.heap.size + 1 + 1, 2, none⟩ = some (.int .i64 b.Y) ∧ w'.cell? ⟨w.heap.size + 1 + 1, 3, none⟩ = some (.int .i64 b.X))
          (exact ⟨cell_later hB x0, cell_later hB x1, cell_later hB x2, cell_later hB x3, cell_later hB y0, cell_later hB y1, cell_later hB y2, cell_later hB y3⟩)
          (first
            | ((go_at_call 9; (with_reducible refine (less_any _ _ _).mono ?_); rintro e W2 ⟨rfl, hb⟩; replace hB := bl_tr hB hb; clear hb))
            | ((go_at_call 11; (with_reducible refine (plain_any _ _).mono ?_); rintro e W2 ⟨rfl, hb⟩; replace hB := bl_tr hB hb; clear hb))
            | ((go_at_call 10; (with_reducible refine (rless_any _ _ _).mono ?_); rintro e W2 ⟨rfl, hb⟩; replace hB := bl_tr hB hb; clear hb)))
        all_goals
          replace x0 := cell_later hB x0
          replace x1 := cell_later hB x1
          replace x2 := cell_later hB x2
          replace x3 := cell_later hB x3
          replace y0 := cell_later hB y0
          replace y1 := cell_later hB y1
          replace y2 := cell_later hB y2
          replace y3 := cell_later hB y3
          replace z0 := cell_later hB z0
          replace z1 := cell_later hB z1
          replace z2 := cell_later hB z2
          replace z3 := cell_later hB z3
          replace hD := bl_tr hD hB
          clear hB
          have zx := blk_lt x0
          have zy := blk_lt y0
          have zz := blk_lt z0
          go_wp2_with fail
          refine (less_any _ _ _).mono ?_
          rintro e W3 ⟨rfl, hB⟩
          replace x0 := cell_later hB x0
          replace x1 := cell_later hB x1
          replace x2 := cell_later hB x2
          replace x3 := cell_later hB x3
          replace y0 := cell_later hB y0
          replace y1 := cell_later hB y1
          replace y2 := cell_later hB y2
          replace y3 := cell_later hB y3
          replace z0 := cell_later hB z0
          replace z1 := cell_later hB z1
          replace z2 := cell_later hB z2
          replace z3 := cell_later hB z3
          replace hD := bl_tr hD hB
          clear hB
          have zx := blk_lt x0
          have zy := blk_lt y0
          have zz := blk_lt z0
          go_wp2_with fail
          refine (less_any _ _ _).mono ?_
          rintro e W3 ⟨rfl, hB⟩
          replace x0 := cell_later hB x0
          replace x1 := cell_later hB x1
          replace x2 := cell_later hB x2
          replace x3 := cell_later hB x3
          replace y0 := cell_later hB y0
          replace y1 := cell_later hB y1
          replace y2 := cell_later hB y2
          replace y3 := cell_later hB y3
          replace z0 := cell_later hB z0
          replace z1 := cell_later hB z1
          replace z2 := cell_later hB z2
          replace z3 := cell_later hB z3
          replace hD := bl_tr hD hB
          clear hB
          have zx := blk_lt x0
          have zy := blk_lt y0
          have zz := blk_lt z0
          cases hbc : lessK b c
          ·
            go_wp2_with fail
            refine (less_any _ _ _).mono ?_
            rintro e W3 ⟨rfl, hB⟩
            replace x0 := cell_later hB x0
            replace x1 := cell_later hB x1
            replace x2 := cell_later hB x2
            replace x3 := cell_later hB x3
            replace y0 := cell_later hB y0
            replace y1 := cell_later hB y1
            replace y2 := cell_later hB y2
            replace y3 := cell_later hB y3
            replace z0 := cell_later hB z0
            replace z1 := cell_later hB z1
            replace z2 := cell_later hB z2
            replace z3 := cell_later hB z3
            replace hD := bl_tr hD hB
            clear hB
            have zx := blk_lt x0
            have zy := blk_lt y0
            have zz := blk_lt z0
            go_wp2_with fail
            refine (hawake _).mono ?_
            rintro e W3 ⟨rfl, hB⟩
            replace hD := bl_tr hD hB
            have HD := Lib.hid hD
            clear hD hB x0 x1 x2 x3 y0 y1 y2 y3 z0 z1 z2 z3
            go_wp2
            go_ret
            exact ⟨rfl, HD.out⟩
          · have hac := less_trans hr1 hbc
            go_wp2_with fail
            refine (less_any _ _ _).mono ?_
            rintro e W3 ⟨rfl, hB⟩
            replace x0 := cell_later hB x0
            replace x1 := cell_later hB x1
            replace x2 := cell_later hB x2
            replace x3 := cell_later hB x3
            replace y0 := cell_later hB y0
            replace y1 := cell_later hB y1
            replace y2 := cell_later hB y2
            replace y3 := cell_later hB y3
            replace z0 := cell_later hB z0
            replace z1 := cell_later hB z1
            replace z2 := cell_later hB z2
            replace z3 := cell_later hB z3
            replace hD := bl_tr hD hB
            clear hB
            have zx := blk_lt x0
            have zy := blk_lt y0
            have zz := blk_lt z0
            go_wp2_with fail
            refine (less_any _ _ _).mono ?_
            rintro e W3 ⟨rfl, hB⟩
            replace x0 := cell_later hB x0
            replace x1 := cell_later hB x1
            replace x2 := cell_later hB x2
            replace x3 := cell_later hB x3
            replace y0 := cell_later hB y0
            replace y1 := cell_later hB y1
            replace y2 := cell_later hB y2
            replace y3 := cell_later hB y3
            replace z0 := cell_later hB z0
            replace z1 := cell_later hB z1
            replace z2 := cell_later hB z2
            replace z3 := cell_later hB z3
            replace hD := bl_tr hD hB
            clear hB
            have zx := blk_lt x0
            have zy := blk_lt y0
            have zz := blk_lt z0
            go_wp2_with fail
            refine (hawake _).mono ?_
            rintro e W3 ⟨rfl, hB⟩
            replace hD := bl_tr hD hB
            have HD := Lib.hid hD
            clear hD hB x0 x1 x2 x3 y0 y1 y2 y3 z0 z1 z2 z3
            go_wp2
            go_ret
            exact ⟨rfl, HD.out⟩
      ·
        have hD := bl_al (bl_al (bl_al (bl_al (bl0 w) (.cells #[.int .u64 a.F, .int .u64 a.H, .int .i64 a.Y, .int .i64 a.X, .int .u64 b.F, .int .u64 b.H, .int .i64 b.Y, .int .i64 b.X, .int .u64 c.F, .int .u64 c.H, .int .i64 c.Y, .int .i64 c.X] 25)) (.cells #[.int .u64 a.F, .int .u64 a.H, .int .i64 a.Y, .int .i64 a.X] 24)) (.cells #[.int .u64 b.F, .int .u64 b.H, .int .i64 b.Y, .int .i64 b.X] 24)) (.cells #[.int .u64 c.F, .int .u64 c.H, .int .i64 c.Y, .int .i64 c.X] 24)
        go_enter Try.func3, Try.ntmps3
        go_upto_region 4 with fail
        generalize hW : World.alloc _ _ = W at *
        have x0 : W.cell? ⟨w.heap.size + 1, 0, none⟩ = some (.int .u64 a.F) := by rw [← hW]; simp [go_sem]
        have x1 : W.cell? ⟨w.heap.size + 1, 1, none⟩ = some (.int .u64 a.H) := by rw [← hW]; simp [go_sem]
        have x2 : W.cell? ⟨w.heap.size + 1, 2, none⟩ = some (.int .i64 a.Y) := by rw [← hW]; simp [go_sem]
        have x3 : W.cell? ⟨w.heap.size + 1, 3, none⟩ = some (.int .i64 a.X) := by rw [← hW]; simp [go_sem]
        have y0 : W.cell? ⟨w.heap.size + 1 + 1, 0, none⟩ = some (.int .u64 b.F) := by rw [← hW]; simp [go_sem]
        have y1 : W.cell? ⟨w.heap.size + 1 + 1, 1, none⟩ = some (.int .u64 b.H) := by rw [← hW]; simp [go_sem]
        have y2 : W.cell? ⟨w.heap.size + 1 + 1, 2, none⟩ = some (.int .i64 b.Y) := by rw [← hW]; simp [go_sem]
        have y3 : W.cell? ⟨w.heap.size + 1 + 1, 3, none⟩ = some (.int .i64 b.X) := by rw [← hW]; simp [go_sem]
        have z0 : W.cell? ⟨w.heap.size + 1 + 1 + 1, 0, none⟩ = some (.int .u64 c.F) := by rw [← hW]; simp [go_sem]
        have z1 : W.cell? ⟨w.heap.size + 1 + 1 + 1, 1, none⟩ = some (.int .u64 c.H) := by rw [← hW]; simp [go_sem]
        have z2 : W.cell? ⟨w.heap.size + 1 + 1 + 1, 2, none⟩ = some (.int .i64 c.Y) := by rw [← hW]; simp [go_sem]
        have z3 : W.cell? ⟨w.heap.size + 1 + 1 + 1, 3, none⟩ = some (.int .i64 c.X) := by rw [← hW]; simp [go_sem]
        clear hW
        have hB := bl_dr (bl0 W)
        go_region_held3 (fun w' => w'.cell? ⟨w.heap.size + 1, 0, none⟩ = some (.int .u64 a.F) ∧ w'.cell? ⟨w.heap.size + 1, 1, none⟩ = some (.int .u64 a.H) ∧ w'.cell? ⟨w.heap.size + 1, 2, none⟩ = some (.int .i64 a.Y) ∧ w'.cell? ⟨w.heap.size + 1, 3, none⟩ = some (.int .i64 a.X) ∧ w'.cell? ⟨w.heap.size + 1 + 1, 0, none⟩ = some (.int .u64 b.F) ∧ w'.cell? ⟨w.heap.size + 1 + 1, 1, none⟩ = some (.int .u64 b.H) ∧ w'.cell? ⟨w.heap.size + 1 + 1, 2, none⟩ = some (.int .i64 b.Y) ∧ w'.cell? ⟨w.heap.size + 1 + 1, 3, none⟩ = some (.int .i64 b.X))
          (exact ⟨cell_later hB x0, cell_later hB x1, cell_later hB x2, cell_later hB x3, cell_later hB y0, cell_later hB y1, cell_later hB y2, cell_later hB y3⟩)
          (first
            | ((go_at_call 9; (with_reducible refine (less_any _ _ _).mono ?_); rintro e W2 ⟨rfl, hb⟩; replace hB := bl_tr hB hb; clear hb))
            | ((go_at_call 11; (with_reducible refine (plain_any _ _).mono ?_); rintro e W2 ⟨rfl, hb⟩; replace hB := bl_tr hB hb; clear hb))
            | ((go_at_call 10; (with_reducible refine (rless_any _ _ _).mono ?_); rintro e W2 ⟨rfl, hb⟩; replace hB := bl_tr hB hb; clear hb)))
        all_goals
          replace x0 := cell_later hB x0
          replace x1 := cell_later hB x1
          replace x2 := cell_later hB x2
          replace x3 := cell_later hB x3
          replace y0 := cell_later hB y0
          replace y1 := cell_later hB y1
          replace y2 := cell_later hB y2
          replace y3 := cell_later hB y3
          replace z0 := cell_later hB z0
          replace z1 := cell_later hB z1
          replace z2 := cell_later hB z2
          replace z3 := cell_later hB z3
          replace hD := bl_tr hD hB
          clear hB
          have zx := blk_lt x0
          have zy := blk_lt y0
          have zz := blk_lt z0
          go_wp2_with fail
          refine (less_any _ _ _).mono ?_
          rintro e W3 ⟨rfl, hB⟩
          replace x0 := cell_later hB x0
          replace x1 := cell_later hB x1
          replace x2 := cell_later hB x2
          replace x3 := cell_later hB x3
          replace y0 := cell_later hB y0
          replace y1 := cell_later hB y1
          replace y2 := cell_later hB y2
          replace y3 := cell_later hB y3
          replace z0 := cell_later hB z0
          replace z1 := cell_later hB z1
          replace z2 := cell_later hB z2
          replace z3 := cell_later hB z3
          replace hD := bl_tr hD hB
          clear hB
          have zx := blk_lt x0
          have zy := blk_lt y0
          have zz := blk_lt z0
          go_wp2_with fail
          refine (less_any _ _ _).mono ?_
          rintro e W3 ⟨rfl, hB⟩
          replace x0 := cell_later hB x0
          replace x1 := cell_later hB x1
          replace x2 := cell_later hB x2
          replace x3 := cell_later hB x3
          replace y0 := cell_later hB y0
          replace y1 := cell_later hB y1
          replace y2 := cell_later hB y2
          replace y3 := cell_later hB y3
          replace z0 := cell_later hB z0
          replace z1 := cell_later hB z1
          replace z2 := cell_later hB z2
          replace z3 := cell_later hB z3
          replace hD := bl_tr hD hB
          clear hB
          have zx := blk_lt x0
          have zy := blk_lt y0
          have zz := blk_lt z0
          go_wp2_with fail
          refine (hawake _).mono ?_
          rintro e W3 ⟨rfl, hB⟩
          replace hD := bl_tr hD hB
          have HD := Lib.hid hD
          clear hD hB x0 x1 x2 x3 y0 y1 y2 y3 z0 z1 z2 z3
          go_wp2
          go_ret
          exact ⟨rfl, HD.out⟩
end Go.Proofs.Ytgcncimeedoplaa
