/- The chapter's examples hold. -/
import Derived.Test.YtgkeifjnnpcleaaKi
namespace Go.Proofs.Ytgkeifjnnpcleaa
open Go.RowKit

theorem good33 : mayB 3 3 = true := by decide
theorem ex_a : setAll 3 (List.replicate (((3 : Int) * 3 + 7) / 8).toNat 0) [(0, 0), (2, 0), (2, 2)] = [5, 1] := by decide
theorem ex_b : setAll 3 (List.replicate (((3 : Int) * 3 + 7) / 8).toNat 0) [(2, 2), (1, 1)] = [16, 1] := by decide
theorem ex_c : joinB (fun a b => a ||| b) [5, 1] [16, 1] = [21, 1] := by decide
theorem ex_n : turnK (fun a b => a ||| b) [5, 1] [16, 1] 2 = 1 := by decide
theorem ex_3 : ones [5, 1] = 3 := by decide
theorem ex_4 : ones [21, 1] = 4 := by decide
theorem ex_ga : Good 3 3 [5, 1] := by rw [← ex_a]; exact (good_zero good33).setAll _ (by decide)
theorem ex_gb : Good 3 3 [16, 1] := by rw [← ex_b]; exact (good_zero good33).setAll _ (by decide)

set_option maxHeartbeats 3200000 in
theorem awake_any (w : World) : Calls Try.prog 10 #[] w fun e w' => e = .returned (.bool true) ∧ Below w.heap.size w w' := by
  go_enter Try.func10, Try.ntmps10
  go_wp2_with fail
  refine (made_yes 3 3 _ _ [(0, 0), (2, 0), (2, 2)] _ good33 ?r1 (by decide) (by decide)).mono ?_
  case r1 =>
    refine .inr ⟨_, _, rfl, fun i z hz => ?_⟩
    match i, hz with
    | 0, hz => simp at hz; subst hz; exact ⟨by simp [go_sem], by simp [go_sem]⟩
    | 1, hz => simp at hz; subst hz; exact ⟨by simp [go_sem], by simp [go_sem]⟩
    | 2, hz => simp at hz; subst hz; exact ⟨by simp [go_sem], by simp [go_sem]⟩
    | k + 3, hz => simp at hz
  rintro e w1 ⟨b1, h1, rfl, hm1, p1, q1, n1, hB1⟩
  rw [ex_a] at hm1
  have s0 := cell_later hB1 (v := .int .i64 3) (a := ⟨w.heap.size, 0, none⟩) (by simp [go_sem])
  have s1 := cell_later hB1 (v := .int .i64 3) (a := ⟨w.heap.size, 1, none⟩) (by simp [go_sem])
  have hA := bl_tr (bl_al (bl_al (bl0 w) _) _) hB1
  have zs0 := blk_lt s0
  have hbb : w.heap.size ≤ h1 := by have := q1; simp at this; omega
  clear hB1 p1 q1
  go_wp2_with fail
  refine (made_yes 3 3 _ _ [(2, 2), (1, 1)] _ good33 ?r2 (by decide) (by decide)).mono ?_
  case r2 =>
    refine .inr ⟨_, _, rfl, fun i z hz => ?_⟩
    match i, hz with
    | 0, hz => simp at hz; subst hz; exact ⟨by simp [go_sem], by simp [go_sem]⟩
    | 1, hz => simp at hz; subst hz; exact ⟨by simp [go_sem], by simp [go_sem]⟩
    | k + 2, hz => simp at hz
  rintro e w2 ⟨b2, h2, rfl, hm2, p2, q2, n2, hB2⟩
  rw [ex_b] at hm2
  have l1 := hm1.lt
  have hm1' := hm1.below (bl_tr (bl_al (bl0 w1) _) hB2)
  have hz1 : (w1.alloc (.cells #[.int .i64 2, .int .i64 2, .int .i64 1, .int .i64 1] 36)).heap.size = w1.heap.size + 1 := World.size_alloc _ _
  have d1 : b2 ≠ h1 := by omega
  have d2 : h2 ≠ h1 := by omega
  replace hA := bl_tr (bl_al hA _) hB2
  clear hm1 hB2 p2 q2 l1 hz1 s0 s1 zs0
  go_wp2_with fail
  refine (count_any b1 h1 3 3 _ _ hm1' ex_ga.2.2.1 (by decide)).mono ?_
  rintro e w3 ⟨rfl, rfl⟩
  rw [ex_3]
  go_wp2_with fail
  refine (bytes_any b1 h1 3 3 _ _ hm1' (by decide)).mono ?_
  rintro e w3 ⟨rfl, hrow, hB3⟩
  have hm3 := hm1'.below hB3
  have hm4 := hm2.below hB3
  have r0 : w3.cell? ⟨w2.heap.size, 0, none⟩ = some (.int .u8 5) := by simp [World.cell?, hrow]
  have r1 : w3.cell? ⟨w2.heap.size, 1, none⟩ = some (.int .u8 1) := by simp [World.cell?, hrow]
  have l3 := hm3.lt
  have l2 := hm1'.lt
  replace hA := bl_tr hA hB3
  clear hrow hB3 hm1' hm2
  go_wp2_with fail
  refine (add_any b1 h1 b2 h2 3 3 _ _ _ hm3 hm4 ex_ga ex_gb n1 d1 d2).mono ?_
  rintro e w4 ⟨rfl, hm5, hg⟩
  rw [ex_c] at hm5
  have e1 : turnK (fun a b => a ||| b) [5, 1] [16, 1] ([5, 1] : List Nat).length = 1 := ex_n
  rw [e1]
  have r0' := hg.cell r0 (by simp; omega)
  have r1' := hg.cell r1 (by simp; omega)
  have hA4 := hA.grown hg hA.size (fun r e => by cases e; exact hbb)
  clear hg hA r0 r1 hm3 hm4 e1 l2 l3
  go_wp2_with fail
  refine (count_any b1 h1 3 3 _ _ hm5 (by rw [← ex_c]; exact joinB_bytes or_lt8 ex_ga.2.2.1 ex_gb.2.2.1) (by decide)).mono ?_
  rintro e w5 ⟨rfl, rfl⟩
  rw [ex_4]
  go_wp2
  go_ret
  exact ⟨rfl, hA4⟩
end Go.Proofs.Ytgkeifjnnpcleaa
