/- Whether two fields are the same, by the reference (of text Vg, for a seat without grid's Same). -/
import Derived.Test.YtccokdfkmppohaaQ1
namespace Go.Proofs.Ytccokdfkmppohaa
open Go.RowKit

/-- Whether two fields are the same. -/
def sameF (W H : Int) (xs : List Int) (U V : Int) (ys : List Int) : Bool := decide (W = U ∧ H = V ∧ xs = ys)
set_option maxHeartbeats 2000000 in
theorem rsame_yes (W H : Int) (a a2 : Option Addr) (c c2 : Nat) (xs ys : List Int) (w : World) (hr : RowH w a xs) (hr2 : RowH w a2 ys) (hl : xs.length ≤ 140737488355328) (he : xs.length = ys.length) :
    Calls Try.prog 19 #[.agg #[.int .i64 W, .int .i64 H, .slice a xs.length c], .agg #[.int .i64 W, .int .i64 H, .slice a2 ys.length c2]] w fun e w' => e = .returned (.bool (decide (xs = ys))) ∧ Below w.heap.size w w' := by
  have hb1 := bl_al (bl_al (bl0 w) (.cells #[.int .i64 W, .int .i64 H, .slice a xs.length c] 37)) (.cells #[.int .i64 W, .int .i64 H, .slice a2 ys.length c2] 37)
  obtain ⟨w0, hw0⟩ : ∃ w0, (w.alloc (.cells #[.int .i64 W, .int .i64 H, .slice a xs.length c] 37)).alloc (.cells #[.int .i64 W, .int .i64 H, .slice a2 ys.length c2] 37) = w0 := ⟨_, rfl⟩
  rw [hw0] at hb1
  have k1 : w0.cell? ⟨w.heap.size, 2, none⟩ = some (.slice a xs.length c) := by rw [← hw0]; simp [go_sem]
  have k2 : w0.cell? ⟨w.heap.size + 1, 2, none⟩ = some (.slice a2 ys.length c2) := by rw [← hw0]; simp [go_sem]
  replace hr := hr.below hb1
  replace hr2 := hr2.below hb1
  have h1 : ((xs.length : Int) != (ys.length : Int)) = false := by rw [bne_eq_false_iff_eq]; omega
  have hl2 : (xs.length : Int) ≤ 140737488355328 := by omega
  have HE := Lib.hid he
  have HW := Lib.hid hw0
  clear he hw0
  go_enter Try.func19, Try.ntmps19
  go_wp2
  rw [HW.out]
  go_loopw [5] (fun i wr => ∃ k : Nat, k ≤ xs.length ∧ i = .int .i64 k ∧ xs.take k = ys.take k ∧ Below w0.heap.size w0 wr) (fun i _ => xs.length - (intOf i).toNat)
  case atStart => exact ⟨0, Nat.zero_le _, rfl, rfl, bl0 _⟩
  case round =>
    obtain ⟨k, hk, rfl, ht, hB⟩ := hrel
    have HT := Lib.hid ht
    clear ht
    replace k1 := cell_later hB k1
    replace k2 := cell_later hB k2
    by_cases hlt : k < xs.length
    · have hlt2 : (k : Int) < (xs.length : Int) := by omega
      have hk0 : (0 : Int) ≤ (k : Int) := by omega
      have hlty : k < ys.length := by rw [← HE.out]; exact hlt
      obtain ⟨gb, go, rfl, q⟩ := hr.cell hlt
      obtain ⟨gb2, go2, rfl, q2⟩ := hr2.cell hlty
      replace q := cell_later hB q
      replace q2 := cell_later hB q2
      have hlty2 : (k : Int) < (ys.length : Int) := by omega
      clear hr hr2
      by_cases hx : xs[k] = ys[k]
      · have HS := Lib.hid (take_same hlt hlty HT.out hx)
        have hx2 : (xs[k] != ys[k]) = false := by rw [bne_eq_false_iff_eq]; exact hx
        clear hx
        generalize xs[k] = x at *
        generalize ys[k] = y at *
        go_wp2
        go_quiet (fail)
        go_wp2
        go_roundw
        case rel => exact ⟨k + 1, by omega, by go_num, HS.out, bl_tr hB (bl_drn _ _)⟩
        case measure => simp [intOf]; omega
      · have HS := Lib.hid (not_same_at hlt hlty hx)
        have hx2 : (xs[k] != ys[k]) = true := by rw [bne_iff_ne]; exact hx
        clear hx
        generalize xs[k] = x at *
        generalize ys[k] = y at *
        go_wp2
        go_quiet (fail)
        go_wp2
        go_ret
        exact ⟨ret_bool (by simp [HS.out]), bl_tr hb1 (bl_tr hB (bl_drn _ _))⟩
    · have hge : (xs.length : Int) ≤ (k : Int) := by omega
      have HS := Lib.hid (take_all (by omega) HE.out HT.out)
      go_wp2
      go_ret
      exact ⟨ret_bool (by simp [HS.out]), bl_tr hb1 hB⟩

set_option maxHeartbeats 2000000 in
theorem rsame_any (W H U V : Int) (a a2 : Option Addr) (c c2 : Nat) (xs ys : List Int) (w : World) (hr : RowH w a xs) (hr2 : RowH w a2 ys) (hl : xs.length ≤ 140737488355328) :
    Calls Try.prog 19 #[.agg #[.int .i64 W, .int .i64 H, .slice a xs.length c], .agg #[.int .i64 U, .int .i64 V, .slice a2 ys.length c2]] w fun e w' => e = .returned (.bool (sameF W H xs U V ys)) ∧ Below w.heap.size w w' := by
  by_cases h1 : W = U
  · subst h1
    by_cases h2 : H = V
    · subst h2
      by_cases he : xs.length = ys.length
      · refine (rsame_yes W H a a2 c c2 xs ys w hr hr2 hl he).mono ?_
        rintro e w' ⟨rfl, hb⟩
        exact ⟨ret_bool (by simp [sameF]), hb⟩
      · have h3 : ((xs.length : Int) != (ys.length : Int)) = true := by rw [bne_iff_ne]; omega
        have h4 : sameF W H xs W H ys = false := by simp only [sameF, decide_eq_false_iff_not]; rintro ⟨_, _, rfl⟩; exact he rfl
        rw [h4]
        clear he h4
        go_enter Try.func19, Try.ntmps19
        go_wp2
        go_ret
        exact ⟨rfl, bl_al (bl_al (bl0 _) _) _⟩
    · have h3 : (H == V) = false := by rw [beq_eq_false_iff_ne]; exact h2
      have h4 : sameF W H xs W V ys = false := by simp [sameF, h2]
      rw [h4]
      clear h2 h4
      go_enter Try.func19, Try.ntmps19
      go_wp2
      go_ret
      exact ⟨rfl, bl_al (bl_al (bl0 _) _) _⟩
  · have h3 : (W == U) = false := by rw [beq_eq_false_iff_ne]; exact h1
    have h4 : sameF W H xs U V ys = false := by simp [sameF, h1]
    rw [h4]
    clear h1 h4
    go_enter Try.func19, Try.ntmps19
    go_wp2
    go_ret
    exact ⟨rfl, bl_al (bl_al (bl0 _) _) _⟩
end Go.Proofs.Ytccokdfkmppohaa
