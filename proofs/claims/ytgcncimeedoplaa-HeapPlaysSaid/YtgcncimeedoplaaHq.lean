/- Heap's laws: keys of the reference; keys compared. -/
import Derived.Test.YtgcncimeedoplaaHp
namespace Go.Proofs.Ytgcncimeedoplaa
open Go.RowKit Go.Maps

theorem less_iff (a b : Th) : lessK a b = true ↔ a.F < b.F ∨ a.F = b.F ∧ (a.H < b.H ∨ a.H = b.H ∧ (a.Y < b.Y ∨ a.Y = b.Y ∧ a.X < b.X)) := by
  unfold lessK; grind
theorem less_irr (a : Th) : lessK a a = false := by rw [← Bool.not_eq_true, less_iff]; omega
theorem less_trans {a b c : Th} (h : lessK a b = true) (k : lessK b c = true) : lessK a c = true := by rw [less_iff] at *; omega
theorem less_same {a b : Th} (h1 : a.F = b.F) (h2 : a.H = b.H) (h3 : a.Y = b.Y) (h4 : a.X = b.X) : lessK a b = false ∧ lessK b a = false := by
  rw [← Bool.not_eq_true, ← Bool.not_eq_true, less_iff, less_iff]; omega
theorem less_diff {a b : Th} (h : ¬(a.F = b.F ∧ a.H = b.H ∧ a.Y = b.Y ∧ a.X = b.X)) : lessK a b = true ∧ lessK b a = false ∨ lessK a b = false ∧ lessK b a = true := by
  rw [← Bool.not_eq_true, ← Bool.not_eq_true, less_iff, less_iff]; omega

set_option maxRecDepth 100000 in
set_option maxHeartbeats 1600000 in
theorem plain_any (a : Th) (w : World) :
    Calls Try.prog 11 #[.agg #[.int .u64 a.F, .int .u64 a.H, .int .i64 a.Y, .int .i64 a.X]] w fun e w' => e = .returned (.agg #[.int .u64 a.F, .int .u64 a.H, .int .i64 a.Y, .int .i64 a.X]) ∧ Below w.heap.size w w' := by
  go_enter Try.func11, Try.ntmps11
  go_wp2
  exact bodyPost_ret (v := .agg #[.int .u64 a.F, .int .u64 a.H, .int .i64 a.Y, .int .i64 a.X]) (by simp [results, Try.results11, go_sem]) rfl ⟨rfl, bl_al (bl_al (bl0 _) _) _⟩

set_option maxRecDepth 100000 in
set_option maxHeartbeats 4000000 in
theorem rless_any (a b : Th) (w : World) :
    Calls Try.prog 10 #[.agg #[.int .u64 a.F, .int .u64 a.H, .int .i64 a.Y, .int .i64 a.X], .agg #[.int .u64 b.F, .int .u64 b.H, .int .i64 b.Y, .int .i64 b.X]] w fun e w' => e = .returned (.bool (lessK a b)) ∧ Below w.heap.size w w' := by
  obtain ⟨r, hr⟩ : ∃ r, lessK a b = r := ⟨_, rfl⟩
  rw [hr]
  unfold lessK at hr
  have h1 := trivial
  have h2 := trivial
  have h3 := trivial
  rcases Int.lt_trichotomy a.F b.F with hF | hF | hF
  · have m1 : decide (a.F < b.F) = true := decide_eq_true hF
    rw [if_neg (by omega), m1] at hr
    clear h1 h2 h3
    have HR := Lib.hid hr
    clear hr
    go_enter Try.func10, Try.ntmps10
    go_wp2
    go_ret
    exact ⟨ret_bool HR.out, bl_al (bl_al (bl0 _) _) _⟩
  · have m1 : decide (a.F < b.F) = false := decide_eq_false (by omega)
    have m2 : (a.F == b.F) = true := by rw [beq_iff_eq]; exact hF
    rw [if_pos hF] at hr
    clear hF
    rcases Int.lt_trichotomy a.H b.H with hF | hF | hF
    · have m3 : decide (a.H < b.H) = true := decide_eq_true hF
      rw [if_neg (by omega), m3] at hr
      clear h1 h2 h3
      have HR := Lib.hid hr
      clear hr
      go_enter Try.func10, Try.ntmps10
      go_wp2
      go_ret
      exact ⟨ret_bool HR.out, bl_al (bl_al (bl0 _) _) _⟩
    · have m3 : decide (a.H < b.H) = false := decide_eq_false (by omega)
      have m4 : (a.H == b.H) = true := by rw [beq_iff_eq]; exact hF
      rw [if_pos hF] at hr
      clear hF
      rcases Int.lt_trichotomy a.Y b.Y with hF | hF | hF
      · have m5 : decide (a.Y < b.Y) = true := decide_eq_true hF
        rw [if_neg (by omega), m5] at hr
        clear h1 h2 h3
        have HR := Lib.hid hr
        clear hr
        go_enter Try.func10, Try.ntmps10
        go_wp2
        go_ret
        exact ⟨ret_bool HR.out, bl_al (bl_al (bl0 _) _) _⟩
      · have m5 : decide (a.Y < b.Y) = false := decide_eq_false (by omega)
        have m6 : (a.Y == b.Y) = true := by rw [beq_iff_eq]; exact hF
        rw [if_pos hF] at hr
        clear hF
        clear h1 h2 h3
        have HR := Lib.hid hr
        clear hr
        go_enter Try.func10, Try.ntmps10
        go_wp2
        go_ret
        exact ⟨ret_bool HR.out, bl_al (bl_al (bl0 _) _) _⟩
      · have m5 : decide (a.Y < b.Y) = false := decide_eq_false (by omega)
        have m6 : (a.Y == b.Y) = false := by rw [beq_eq_false_iff_ne]; omega
        rw [if_neg (by omega), m5] at hr
        clear h1 h2 h3
        have HR := Lib.hid hr
        clear hr
        go_enter Try.func10, Try.ntmps10
        go_wp2
        go_ret
        exact ⟨ret_bool HR.out, bl_al (bl_al (bl0 _) _) _⟩
    · have m3 : decide (a.H < b.H) = false := decide_eq_false (by omega)
      have m4 : (a.H == b.H) = false := by rw [beq_eq_false_iff_ne]; omega
      rw [if_neg (by omega), m3] at hr
      clear h1 h2 h3
      have HR := Lib.hid hr
      clear hr
      go_enter Try.func10, Try.ntmps10
      go_wp2
      go_ret
      exact ⟨ret_bool HR.out, bl_al (bl_al (bl0 _) _) _⟩
  · have m1 : decide (a.F < b.F) = false := decide_eq_false (by omega)
    have m2 : (a.F == b.F) = false := by rw [beq_eq_false_iff_ne]; omega
    rw [if_neg (by omega), m1] at hr
    clear h1 h2 h3
    have HR := Lib.hid hr
    clear hr
    go_enter Try.func10, Try.ntmps10
    go_wp2
    go_ret
    exact ⟨ret_bool HR.out, bl_al (bl_al (bl0 _) _) _⟩
end Go.Proofs.Ytgcncimeedoplaa
