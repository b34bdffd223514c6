/- Parts: the reference's boxes: whether one lies on a map, whether it has a cell, the next cell. -/
import Derived.Test.YtbdfjdipjacamaaDoorDm
namespace Go.Proofs.YtbdfjdipjacamaaDoor
open Go.RowKit

def w64 (n : Int) : Prop := -9223372036854775808 ≤ n ∧ n ≤ 9223372036854775807
/-- A box of up to 256 by 256 cells, not too far. -/
def okX (X Y U V : Int) : Prop := (0 ≤ X ∧ X ≤ 256 ∧ 0 ≤ Y ∧ Y ≤ 256) ∧ 0 ≤ U ∧ U ≤ 256 ∧ 0 ≤ V ∧ V ≤ 256
def inX (X Y U V : Int) (c : IC) : Bool := decide (X ≤ c.1 ∧ c.1 < X + U ∧ Y ≤ c.2 ∧ c.2 < Y + V)
set_option maxRecDepth 100000 in
set_option maxHeartbeats 4000000 in
theorem has8_p (X Y U V : Int) (c : IC) (w : World) (hb : okX X Y U V) (hc : w64 c.1 ∧ w64 c.2) :
    Calls Tryd.prog 19 #[.agg #[.int .i64 X, .int .i64 Y, .int .i64 U, .int .i64 V], .agg #[.int .i64 c.1, .int .i64 c.2]] w fun e w' => e = .returned (.bool (inX X Y U V c)) ∧ Below w.heap.size w w' := by
  obtain ⟨⟨r1, r2, r3, r4⟩, r5, r6, r7, r8⟩ := hb
  unfold w64 at hc
  obtain ⟨t, ht⟩ : ∃ t, inX X Y U V c = t := ⟨_, rfl⟩
  have hiff : t = true ↔ X ≤ c.1 ∧ c.1 < X + U ∧ Y ≤ c.2 ∧ c.2 < Y + V := by
    rw [← ht]; unfold inX; rw [decide_eq_true_eq]
  rw [ht]
  have HIFF := Lib.hid hiff
  clear ht hiff
  have hA := bl_al (bl_al (bl0 w) (.cells #[.int .i64 X, .int .i64 Y, .int .i64 U, .int .i64 V] 28)) (.cells #[.int .i64 c.1, .int .i64 c.2] 30)
  by_cases h1 : X ≤ c.1
  · have hw1 : IntKind.i64.wrap (c.1 - X) = c.1 - X := IntWalk.i64_in _ (by omega)
    by_cases h2 : Y ≤ c.2
    · have hw2 : IntKind.i64.wrap (c.2 - Y) = c.2 - Y := IntWalk.i64_in _ (by omega)
      by_cases h3 : c.1 - X < U
      · by_cases h4 : c.2 - Y < V
        · have d4 : decide (c.2 - Y < V) = true := decide_eq_true h4
          have htt : t = true := HIFF.out.2 ⟨by omega, by omega, by omega, by omega⟩
          subst htt
          go_enter Tryd.func19, Tryd.ntmps19
          go_wp2
          go_ret
          exact ⟨rfl, hA⟩
        · have htt : t = false := by cases t; rfl; have := HIFF.out.1 rfl; omega
          subst htt
          go_enter Tryd.func19, Tryd.ntmps19
          go_wp2
          go_ret
          exact ⟨rfl, hA⟩
      · have htt : t = false := by cases t; rfl; have := HIFF.out.1 rfl; omega
        subst htt
        go_enter Tryd.func19, Tryd.ntmps19
        go_wp2
        go_ret
        exact ⟨rfl, hA⟩
    · have htt : t = false := by cases t; rfl; have := HIFF.out.1 rfl; omega
      subst htt
      go_enter Tryd.func19, Tryd.ntmps19
      go_wp2
      go_ret
      exact ⟨rfl, hA⟩
  · have htt : t = false := by cases t; rfl; have := HIFF.out.1 rfl; omega
    subst htt
    go_enter Tryd.func19, Tryd.ntmps19
    go_wp2
    go_ret
    exact ⟨rfl, hA⟩

set_option maxRecDepth 100000 in
set_option maxHeartbeats 4000000 in
theorem fits8_p (A B X Y U V : Int) (w : World) (hm : A ≤ 256 ∧ B ≤ 256) (h : 0 ≤ X ∧ 0 ≤ Y ∧ 1 ≤ U ∧ 1 ≤ V ∧ X + U ≤ A ∧ Y + V ≤ B) :
    Calls Tryd.prog 52 #[.agg #[.int .i64 A, .int .i64 B], .agg #[.int .i64 X, .int .i64 Y, .int .i64 U, .int .i64 V]] w fun e w' => e = .returned (.bool true) ∧ Below w.heap.size w w' := by
  obtain ⟨g5, g6, k1, k2, g7, g8⟩ := h
  obtain ⟨m1, m2⟩ := hm
  have k3 : X < A := by omega
  have k4 : Y < B := by omega
  have k5 : U ≤ A - X := by omega
  have k6 : V ≤ B - Y := by omega
  have hw1 : IntKind.i64.wrap (A - X) = A - X := IntWalk.i64_in _ (by omega)
  have hw2 : IntKind.i64.wrap (B - Y) = B - Y := IntWalk.i64_in _ (by omega)
  clear g7 g8 m1 m2
  go_enter Tryd.func52, Tryd.ntmps52
  go_wp2
  go_ret
  exact ⟨rfl, bl_al (bl_al (bl0 _) _) _⟩

set_option maxRecDepth 100000 in
set_option maxHeartbeats 4000000 in
theorem step8_p (X Y d : Int) (w : World) (hp : -2 ≤ X ∧ X ≤ 1000 ∧ -2 ≤ Y ∧ Y ≤ 1000) (h0 : 0 ≤ d) (h4 : d < 4) :
    Calls Tryd.prog 54 #[.agg #[.int .i64 X, .int .i64 Y], .int .i64 d] w fun e w' => e = .returned (.agg #[.int .i64 (stepI (X, Y) d).1, .int .i64 (stepI (X, Y) d).2]) ∧ Below w.heap.size w w' := by
  obtain ⟨a1, a2, a3, a4⟩ := hp
  obtain ⟨Z, hZ⟩ : ∃ Z, (stepI (X, Y) d).1 = Z := ⟨_, rfl⟩
  obtain ⟨W, hW⟩ : ∃ W, (stepI (X, Y) d).2 = W := ⟨_, rfl⟩
  rw [hZ, hW]
  obtain rfl | rfl | rfl | rfl : d = 0 ∨ d = 1 ∨ d = 2 ∨ d = 3 := by omega
  all_goals
    simp [stepI, dxI, dyI] at hZ hW
    subst hZ hW
    go_enter Tryd.func54, Tryd.ntmps54
    go_wp2
    refine bodyPost_ret (v := .agg #[.int .i64 _, .int .i64 _]) (by simp [results, Tryd.results54, go_sem] <;> omega) rfl ⟨rfl, ?_⟩
    first
    | exact bl_al (bl_al (bl0 _) _) _
    | exact bl_al (bl_st (bl_al (bl0 _) _) (by omega) _) _
    | exact bl_st (bl_st (bl_al (bl_al (bl0 _) _) _) (by omega) _) (by omega) _
    | exact bl_st (bl_st (bl_st (bl_al (bl_al (bl0 _) _) _) (by omega) _) (by omega) _) (by omega) _
end Go.Proofs.YtbdfjdipjacamaaDoor
