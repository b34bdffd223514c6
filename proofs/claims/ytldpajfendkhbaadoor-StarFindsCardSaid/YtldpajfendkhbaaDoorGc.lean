/- Package geom: contracts of distances. -/
import Derived.Test.YtldpajfendkhbaaDoorGb
namespace Go.Proofs.YtldpajfendkhbaaDoor
open Go.RowKit

theorem ret_ii {k k' : IntKind} {a b c d : Int} (h : a = b) (h2 : c = d) : Ending.returned (.tuple #[.int k a, .int k' c]) = .returned (.tuple #[.int k b, .int k' d]) := by rw [h, h2]
def apartI (a b : Int) : Int := max (a - b) (b - a)
theorem apartI_def (a b : Int) : apartI a b = max (a - b) (b - a) := rfl
theorem apartI_bd {a b : Int} (h1 : -1048576 ≤ a) (h2 : a ≤ 1048576) (h3 : -1048576 ≤ b) (h4 : b ≤ 1048576) : 0 ≤ apartI a b ∧ apartI a b ≤ 2097152 := by unfold apartI; omega

set_option maxHeartbeats 400000 in
theorem apart_any (a b : Int) (w : World) (h1 : -1048576 ≤ a) (h2 : a ≤ 1048576) (h3 : -1048576 ≤ b) (h4 : b ≤ 1048576) :
    Calls Tryd.prog 74 #[.int .i64 a, .int .i64 b] w fun e w' => e = .returned (.int .i64 (apartI a b)) ∧ w' = w := by
  go_enter Tryd.func74, Tryd.ntmps74
  go_wp2
  all_goals
    go_ret
    exact ⟨ret_int (by unfold apartI; omega), rfl⟩

set_option maxHeartbeats 400000 in
theorem walk_yes (X Y Z V : Int) (w : World) (hp : plainB X Y = true) (hq : plainB Z V = true) :
    Calls Tryd.prog 66 #[.agg #[.int .i64 X, .int .i64 Y], .agg #[.int .i64 Z, .int .i64 V]] w fun e w' => e = .returned (.tuple #[.int .i64 (apartI X Z + apartI Y V), .int .i64 0]) ∧ Below w.heap.size w w' := by
  obtain ⟨a1, a2, a3, a4⟩ := plainB_iff.1 hp
  obtain ⟨b1, b2, b3, b4⟩ := plainB_iff.1 hq
  obtain ⟨c1, c2⟩ := apartI_bd a1 a2 b1 b2
  obtain ⟨d1, d2⟩ := apartI_bd a3 a4 b3 b4
  go_enter Tryd.func66, Tryd.ntmps66
  go_wp2_with fail
  refine (plain_any _ _ _).mono ?_
  rintro e w1 ⟨rfl, hb1⟩
  obtain ⟨hc1, hf1⟩ := bcell hb1
  have z1 : w.heap.size + 1 < w1.heap.size := by have := hb1.size; simp at this; omega
  go_wp2_with fail
  refine (plain_any _ _ _).mono ?_
  rintro e w2 ⟨rfl, hb2⟩
  obtain ⟨hc2, hf2⟩ := bcell hb2
  have q0 : w2.cell? ⟨w.heap.size, 0, none⟩ = some (.int .i64 X) := by rw [hc2 _ _ (by omega), hc1 _ _ (by simp; omega)]; simp [go_sem]
  have q1 : w2.cell? ⟨w.heap.size, 1, none⟩ = some (.int .i64 Y) := by rw [hc2 _ _ (by omega), hc1 _ _ (by simp; omega)]; simp [go_sem]
  have q2 : w2.cell? ⟨w.heap.size + 1, 0, none⟩ = some (.int .i64 Z) := by rw [hc2 _ _ (by omega), hc1 _ _ (by simp)]; simp [go_sem]
  have q3 : w2.cell? ⟨w.heap.size + 1, 1, none⟩ = some (.int .i64 V) := by rw [hc2 _ _ (by omega), hc1 _ _ (by simp)]; simp [go_sem]
  clear hc1 hf1 hc2 hf2
  go_wp2
  go_quiet ((go_at_call 74; exact Calls.quiet_of_same (apart_any _ _ _ (by omega) (by omega) (by omega) (by omega))))
  go_wp2
  go_ret2
  exact ⟨rfl, bl_tr (bl_tr (bl_tr (bl_al (bl_al (bl0 _) _) _) hb1) hb2) (bl_drn _ _)⟩

set_option maxHeartbeats 400000 in
theorem walk_no (X Y Z V : Int) (w : World) (hp : (plainB X Y && plainB Z V) = false) :
    Calls Tryd.prog 66 #[.agg #[.int .i64 X, .int .i64 Y], .agg #[.int .i64 Z, .int .i64 V]] w fun e w' => e = .returned (.tuple #[.int .i64 0, .int .i64 10]) ∧ Below w.heap.size w w' := by
  cases h1 : plainB X Y <;> cases h2 : plainB Z V <;> simp [h1, h2] at hp
  all_goals
    go_enter Tryd.func66, Tryd.ntmps66
    go_wp2_with (go_at_call 48; refine (plain_any _ _ _).mono ?_; rintro e w' ⟨rfl, hb⟩; obtain ⟨hc, hf⟩ := bcell hb)
    go_ret2
    first
    | exact ⟨rfl, bl_tr (bl_al (bl_al (bl0 _) _) _) hb⟩
    | exact ⟨rfl, bl_tr (bl_tr (bl_al (bl_al (bl0 _) _) _) (by assumption)) hb⟩

end Go.Proofs.YtldpajfendkhbaaDoor
