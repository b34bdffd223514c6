/- The chapter's examples, by the contracts: awake answers true. -/
import Derived.Test.YtcbhbekhogcedaaDoorGe
namespace Go.Proofs.YtcbhbekhogcedaaDoor
open Go.RowKit

theorem aw_index (w : World) : Calls Tryd.prog 18 #[.agg #[.int .i64 4, .int .i64 3], .agg #[.int .i64 2, .int .i64 1]] w fun e w' => e = .returned (.tuple #[.int .i64 6, .int .i64 0]) ∧ Below w.heap.size w w' :=
  index_yes 4 3 2 1 w (by decide)
theorem aw_at (w : World) : Calls Tryd.prog 19 #[.agg #[.int .i64 4, .int .i64 3], .int .i64 11] w fun e w' => e = .returned (.tuple #[.agg #[.int .i64 3, .int .i64 2], .int .i64 0]) ∧ Below w.heap.size w w' :=
  at_yes 4 3 11 w (by decide)
theorem aw_east (w : World) (hs : Stp w) : Calls Tryd.prog 20 #[.agg #[.int .i64 4, .int .i64 3], .agg #[.int .i64 0, .int .i64 0], .int .i64 1] w fun e w' => e = .returned (.tuple #[.agg #[.int .i64 1, .int .i64 0], .int .i64 0]) ∧ Below w.heap.size w w' :=
  step_yes 4 3 0 0 1 w hs (by decide) (by decide) (by decide) (by decide)
theorem aw_north (w : World) (hs : Stp w) : Calls Tryd.prog 20 #[.agg #[.int .i64 4, .int .i64 3], .agg #[.int .i64 0, .int .i64 0], .int .i64 0] w fun e w' => e = .returned (.tuple #[.agg #[.int .i64 0, .int .i64 0], .int .i64 10]) ∧ Below w.heap.size w w' :=
  step_out 4 3 0 0 0 w hs (by decide) (by decide) (by decide) (by decide)
theorem aw_far (w : World) : Calls Tryd.prog 21 #[.agg #[.int .i64 1, .int .i64 1], .agg #[.int .i64 4, .int .i64 3]] w fun e w' => e = .returned (.tuple #[.int .i64 3, .int .i64 0]) ∧ Below w.heap.size w w' :=
  far_yes 1 1 4 3 w (by decide) (by decide)
theorem aw_walk (w : World) : Calls Tryd.prog 22 #[.agg #[.int .i64 1, .int .i64 1], .agg #[.int .i64 4, .int .i64 3]] w fun e w' => e = .returned (.tuple #[.int .i64 5, .int .i64 0]) ∧ Below w.heap.size w w' :=
  walk_yes 1 1 4 3 w (by decide) (by decide)

set_option maxRecDepth 100000 in
set_option maxHeartbeats 1600000 in
theorem awake_any (w : World) (hs : Stp w) :
    Calls Tryd.prog 11 #[] w fun e w' => e = .returned (.bool true) ∧ Below w.heap.size w w' := by
  go_enter Tryd.func11, Tryd.ntmps11
  go_wp2_with fail
  refine (aw_index _).mono ?_
  rintro e w1 ⟨rfl, hb⟩
  have hA := hb
  have a0 := cell_later hA (v := .int .i64 4) (a := ⟨w.heap.size, 0, none⟩) (by simp [go_sem])
  have a1 := cell_later hA (v := .int .i64 3) (a := ⟨w.heap.size, 1, none⟩) (by simp [go_sem])
  clear hb
  go_wp2_with fail
  refine (aw_at _).mono ?_
  rintro e w2 ⟨rfl, hb⟩
  replace hA := bl_tr hA hb
  replace a0 := cell_later hb a0
  replace a1 := cell_later hb a1
  clear hb
  have za : w.heap.size < w2.heap.size := World.block_lt_of_cell? _ _ a0
  go_wp2_with fail
  refine (aw_east _ (hs.below (bl_al (bl_tr (bl_al (bl0 _) _) hA) _))).mono ?_
  rintro e w3 ⟨rfl, hb⟩
  replace hA := bl_tr (bl_al hA _) hb
  replace a0 := cell_later (bl_tr (bl_al (bl0 _) _) hb) a0
  replace a1 := cell_later (bl_tr (bl_al (bl0 _) _) hb) a1
  have b0 := cell_later hb (v := .int .i64 3) (a := ⟨w2.heap.size, 0, none⟩) (by simp [go_sem])
  have b1 := cell_later hb (v := .int .i64 2) (a := ⟨w2.heap.size, 1, none⟩) (by simp [go_sem])
  clear hb za
  have za : w.heap.size < w3.heap.size := World.block_lt_of_cell? _ _ a0
  have zb : w2.heap.size < w3.heap.size := World.block_lt_of_cell? _ _ b0
  go_wp2_with fail
  refine (aw_north _ (hs.below (bl_al (bl_tr (bl_al (bl0 _) _) hA) _))).mono ?_
  rintro e w4 ⟨rfl, hb⟩
  replace hA := bl_tr (bl_al hA _) hb
  replace b0 := cell_later (bl_tr (bl_al (bl0 _) _) hb) b0
  replace b1 := cell_later (bl_tr (bl_al (bl0 _) _) hb) b1
  have c0 := cell_later hb (v := .int .i64 1) (a := ⟨w3.heap.size, 0, none⟩) (by simp [go_sem])
  have c1 := cell_later hb (v := .int .i64 0) (a := ⟨w3.heap.size, 1, none⟩) (by simp [go_sem])
  clear hb a0 a1 za zb
  have zb : w2.heap.size < w4.heap.size := World.block_lt_of_cell? _ _ b0
  have zc : w3.heap.size < w4.heap.size := World.block_lt_of_cell? _ _ c0
  go_wp2_with fail
  refine (aw_far _).mono ?_
  rintro e w5 ⟨rfl, hb⟩
  replace hA := bl_tr (bl_al hA _) hb
  replace b0 := cell_later (bl_tr (bl_al (bl0 _) _) hb) b0
  replace b1 := cell_later (bl_tr (bl_al (bl0 _) _) hb) b1
  replace c0 := cell_later (bl_tr (bl_al (bl0 _) _) hb) c0
  replace c1 := cell_later (bl_tr (bl_al (bl0 _) _) hb) c1
  clear hb
  go_wp2_with fail
  refine (aw_walk _).mono ?_
  rintro e w6 ⟨rfl, hb⟩
  replace hA := bl_tr hA hb
  replace b0 := cell_later hb b0
  replace b1 := cell_later hb b1
  replace c0 := cell_later hb c0
  replace c1 := cell_later hb c1
  clear hb
  go_wp2
  go_ret
  exact ⟨rfl, bl_tr (bl_al (bl0 _) _) hA⟩
end Go.Proofs.YtcbhbekhogcedaaDoor
