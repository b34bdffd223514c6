/- Package geom: the table of steps; contracts of Step and Dir. -/
import Derived.Test.YtldpajfendkhbaaDoorGd
namespace Go.Proofs.YtldpajfendkhbaaDoor
open Go.RowKit

def Stp (w : World) : Prop := 0 < w.heap.size ∧
  w.cell? ⟨0, 0, none⟩ = some (.int .i64 0) ∧ w.cell? ⟨0, 1, none⟩ = some (.int .i64 (-1)) ∧
  w.cell? ⟨0, 2, none⟩ = some (.int .i64 1) ∧ w.cell? ⟨0, 3, none⟩ = some (.int .i64 0) ∧
  w.cell? ⟨0, 4, none⟩ = some (.int .i64 0) ∧ w.cell? ⟨0, 5, none⟩ = some (.int .i64 1) ∧
  w.cell? ⟨0, 6, none⟩ = some (.int .i64 (-1)) ∧ w.cell? ⟨0, 7, none⟩ = some (.int .i64 0)
theorem Stp.below {w w' : World} (h : Stp w) (hb : Below w.heap.size w w') : Stp w' := by
  obtain ⟨hz, a0, a1, a2, a3, a4, a5, a6, a7⟩ := h
  obtain ⟨hc, _⟩ := bcell hb
  exact ⟨Nat.lt_of_lt_of_le hz hb.size, (hc _ _ hz).trans a0, (hc _ _ hz).trans a1, (hc _ _ hz).trans a2, (hc _ _ hz).trans a3, (hc _ _ hz).trans a4, (hc _ _ hz).trans a5, (hc _ _ hz).trans a6, (hc _ _ hz).trans a7⟩

def dxI (d : Int) : Int := if d = 1 then 1 else if d = 3 then -1 else 0
def dyI (d : Int) : Int := if d = 0 then -1 else if d = 2 then 1 else 0

set_option maxHeartbeats 800000 in
theorem step_arg (W H X Y d : Int) (w : World) (hd : d < 0 ∨ 4 ≤ d) :
    Calls Tryd.prog 58 #[.agg #[.int .i64 W, .int .i64 H], .agg #[.int .i64 X, .int .i64 Y], .int .i64 d] w fun e w' => e = .returned (.tuple #[.agg #[.int .i64 0, .int .i64 0], .int .i64 1]) ∧ Below w.heap.size w w' := by
  by_cases hl : d < 0
  all_goals
    go_enter Tryd.func58, Tryd.ntmps58
    go_wp2
    refine bodyPost_ret (v := .tuple #[.agg #[.int .i64 0, .int .i64 0], .int .i64 1]) (by simp [results, Tryd.results58, go_sem]) rfl ⟨rfl, ?_⟩
    exact bl_al (bl_al (bl_al (bl0 _) _) _) _

set_option maxHeartbeats 800000 in
theorem step_off (W H X Y d : Int) (w : World) (h0 : 0 ≤ d) (h4 : d < 4) (hi : inB W H X Y = false) :
    Calls Tryd.prog 58 #[.agg #[.int .i64 W, .int .i64 H], .agg #[.int .i64 X, .int .i64 Y], .int .i64 d] w fun e w' => e = .returned (.tuple #[.agg #[.int .i64 0, .int .i64 0], .int .i64 10]) ∧ Below w.heap.size w w' := by
  have hl : ¬ d < 0 := by omega
  go_enter Tryd.func58, Tryd.ntmps58
  go_wp2_with (go_at_call 21; refine (in_any _ _ _ _ _).mono ?_; rintro e w1 ⟨rfl, hb⟩; obtain ⟨hc, hf⟩ := bcell hb)
  have q0 : w1.cell? ⟨w.heap.size + 2, 0, none⟩ = some (.int .i64 0) := (hc _ _ (by simp)).trans (by simp [go_sem])
  have q1 : w1.cell? ⟨w.heap.size + 2, 1, none⟩ = some (.int .i64 0) := (hc _ _ (by simp)).trans (by simp [go_sem])
  clear hc hf
  refine bodyPost_ret (v := .tuple #[.agg #[.int .i64 0, .int .i64 0], .int .i64 10]) (by simp [results, Tryd.results58, go_sem, q0, q1]) rfl ⟨rfl, ?_⟩
  exact bl_st (bl_st (bl_tr (bl_al (bl_al (bl_al (bl0 _) _) _) _) hb) (by omega) _) (by omega) _

set_option maxHeartbeats 1600000 in
theorem step_yes (W H X Y d : Int) (w : World) (hs : Stp w) (h0 : 0 ≤ d) (h4 : d < 4) (hi : inB W H X Y = true) (hj : inB W H (X + dxI d) (Y + dyI d) = true) :
    Calls Tryd.prog 58 #[.agg #[.int .i64 W, .int .i64 H], .agg #[.int .i64 X, .int .i64 Y], .int .i64 d] w fun e w' => e = .returned (.tuple #[.agg #[.int .i64 (X + dxI d), .int .i64 (Y + dyI d)], .int .i64 0]) ∧ Below w.heap.size w w' := by
  obtain ⟨i1, i2, i3, i4, i5, i6, i7, i8⟩ := inB_iff.1 hi
  obtain rfl | rfl | rfl | rfl : d = 0 ∨ d = 1 ∨ d = 2 ∨ d = 3 := by omega
  all_goals
    simp [dxI, dyI] at hj ⊢
    go_enter Tryd.func58, Tryd.ntmps58
    go_wp2_with (go_at_call 21; refine (in_any _ _ _ _ _).mono ?_; rintro e w1 ⟨rfl, hb⟩)
    obtain ⟨hz, s0, s1, s2, s3, s4, s5, s6, s7⟩ := hs.below (bl_tr (bl_al (bl_al (bl_al (bl0 _) _) _) _) hb)
    obtain ⟨hc, hf⟩ := bcell hb
    have q0 : w1.cell? ⟨w.heap.size + 1, 0, none⟩ = some (.int .i64 X) := (hc _ _ (by simp)).trans (by simp [go_sem])
    have q1 : w1.cell? ⟨w.heap.size + 1, 1, none⟩ = some (.int .i64 Y) := (hc _ _ (by simp)).trans (by simp [go_sem])
    have c0 : w1.cell? ⟨w.heap.size, 0, none⟩ = some (.int .i64 W) := (hc _ _ (by simp; omega)).trans (by simp [go_sem])
    have c1 : w1.cell? ⟨w.heap.size, 1, none⟩ = some (.int .i64 H) := (hc _ _ (by simp; omega)).trans (by simp [go_sem])
    have r0 : w1.cell? ⟨w.heap.size + 1 + 1, 0, none⟩ = some (.int .i64 0) := (hc _ _ (by simp)).trans (by simp [go_sem])
    have r1 : w1.cell? ⟨w.heap.size + 1 + 1, 1, none⟩ = some (.int .i64 0) := (hc _ _ (by simp)).trans (by simp [go_sem])
    have f0 : w1.frozen? ⟨w.heap.size + 1 + 1, 0, none⟩ = false := (hf _ _ (by simp)).trans (by simp [go_sem])
    have f1 : w1.frozen? ⟨w.heap.size + 1 + 1, 1, none⟩ = false := (hf _ _ (by simp)).trans (by simp [go_sem])
    clear hc hf
    have z1 : w.heap.size + 1 < w1.heap.size := by have := hb.size; simp at this; omega
    have z0 : w.heap.size < w1.heap.size := by omega
    have z2 : w.heap.size + 1 + 1 < w1.heap.size := by have := hb.size; simp at this; omega
    go_region
    clear s0 s1 s2 s3 s4 s5 s6 s7
    go_wp2_with fail
    refine (in_any _ _ _ _ _).mono ?_
    rintro e w2 ⟨rfl, hb2⟩
    obtain ⟨hc, hf⟩ := bcell hb2
    go_wp2
    refine bodyPost_ret (v := .tuple #[.agg #[.int .i64 _, .int .i64 _], .int .i64 0]) (by simp [results, Tryd.results58, go_sem, hc, z1, z2, r0, r1]) rfl ⟨rfl, ?_⟩
    exact bl_st (bl_st (bl_tr (bl_dr (bl_al (bl_tr (bl_al (bl_al (bl_al (bl0 _) _) _) _) hb) _)) hb2) (by omega) _) (by omega) _

set_option maxHeartbeats 1600000 in
theorem step_out (W H X Y d : Int) (w : World) (hs : Stp w) (h0 : 0 ≤ d) (h4 : d < 4) (hi : inB W H X Y = true) (hj : inB W H (X + dxI d) (Y + dyI d) = false) :
    Calls Tryd.prog 58 #[.agg #[.int .i64 W, .int .i64 H], .agg #[.int .i64 X, .int .i64 Y], .int .i64 d] w fun e w' => e = .returned (.tuple #[.agg #[.int .i64 0, .int .i64 0], .int .i64 10]) ∧ Below w.heap.size w w' := by
  obtain ⟨i1, i2, i3, i4, i5, i6, i7, i8⟩ := inB_iff.1 hi
  obtain rfl | rfl | rfl | rfl : d = 0 ∨ d = 1 ∨ d = 2 ∨ d = 3 := by omega
  all_goals
    simp [dxI, dyI] at hj
    go_enter Tryd.func58, Tryd.ntmps58
    go_wp2_with (go_at_call 21; refine (in_any _ _ _ _ _).mono ?_; rintro e w1 ⟨rfl, hb⟩)
    obtain ⟨hz, s0, s1, s2, s3, s4, s5, s6, s7⟩ := hs.below (bl_tr (bl_al (bl_al (bl_al (bl0 _) _) _) _) hb)
    obtain ⟨hc, hf⟩ := bcell hb
    have q0 : w1.cell? ⟨w.heap.size + 1, 0, none⟩ = some (.int .i64 X) := (hc _ _ (by simp)).trans (by simp [go_sem])
    have q1 : w1.cell? ⟨w.heap.size + 1, 1, none⟩ = some (.int .i64 Y) := (hc _ _ (by simp)).trans (by simp [go_sem])
    have c0 : w1.cell? ⟨w.heap.size, 0, none⟩ = some (.int .i64 W) := (hc _ _ (by simp; omega)).trans (by simp [go_sem])
    have c1 : w1.cell? ⟨w.heap.size, 1, none⟩ = some (.int .i64 H) := (hc _ _ (by simp; omega)).trans (by simp [go_sem])
    have r0 : w1.cell? ⟨w.heap.size + 1 + 1, 0, none⟩ = some (.int .i64 0) := (hc _ _ (by simp)).trans (by simp [go_sem])
    have r1 : w1.cell? ⟨w.heap.size + 1 + 1, 1, none⟩ = some (.int .i64 0) := (hc _ _ (by simp)).trans (by simp [go_sem])
    have f0 : w1.frozen? ⟨w.heap.size + 1 + 1, 0, none⟩ = false := (hf _ _ (by simp)).trans (by simp [go_sem])
    have f1 : w1.frozen? ⟨w.heap.size + 1 + 1, 1, none⟩ = false := (hf _ _ (by simp)).trans (by simp [go_sem])
    clear hc hf
    have z1 : w.heap.size + 1 < w1.heap.size := by have := hb.size; simp at this; omega
    have z0 : w.heap.size < w1.heap.size := by omega
    have z2 : w.heap.size + 1 + 1 < w1.heap.size := by have := hb.size; simp at this; omega
    go_region
    clear s0 s1 s2 s3 s4 s5 s6 s7
    go_wp2_with fail
    refine (in_any _ _ _ _ _).mono ?_
    rintro e w2 ⟨rfl, hb2⟩
    obtain ⟨hc, hf⟩ := bcell hb2
    go_wp2
    refine bodyPost_ret (v := .tuple #[.agg #[.int .i64 0, .int .i64 0], .int .i64 10]) (by simp [results, Tryd.results58, go_sem, hc, z1, z2, r0, r1]) rfl ⟨rfl, ?_⟩
    exact bl_st (bl_st (bl_tr (bl_dr (bl_al (bl_tr (bl_al (bl_al (bl_al (bl0 _) _) _) _) hb) _)) hb2) (by omega) _) (by omega) _
end Go.Proofs.YtldpajfendkhbaaDoor
