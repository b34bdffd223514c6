/- Join and Via, the program's and the reference's, each by one contract. -/
import Derived.Test.YtgkeifjnnpcleabUl
namespace Go.Proofs.Ytgkeifjnnpcleab
open Go.RowKit

def joinR (xs ys : List Int) : List Int := if xs.length = ys.length then joinC xs ys else []
def joinE (xs ys : List Int) : Int := if xs.length = ys.length then 0 else 12
def viaOk (xs : List Int) (rs : List (List Int)) : Bool := decide (xs.length = rs.length) && evenT rs
def viaR (xs : List Int) (rs : List (List Int)) : List Int := if viaOk xs rs = true then viaC xs rs else []
def viaE (xs : List Int) (rs : List (List Int)) : Int := if viaOk xs rs = true then 0 else 12
/-- A row and an Errno, told. -/
def ToldU (w : World) (zs : List Int) (c : Int) (e : Ending) (w' : World) : Prop := ∃ z cap, e = .returned (.tuple #[.slice z zs.length cap, .int .i64 c]) ∧ RowU w' z zs ∧ Below w.heap.size w w'

theorem joinall (a a2 : Option Addr) (c c2 : Nat) (xs ys : List Int) (w : World) (hl : xs.length ≤ 1048576) (hr : RowU w a xs) (hr2 : RowU w a2 ys) :
    Calls Try.prog 18 #[.slice a xs.length c, .slice a2 ys.length c2] w (ToldU w (joinR xs ys) (joinE xs ys)) := by
  by_cases h : xs.length = ys.length
  · rw [show joinR xs ys = joinC xs ys from if_pos h, show joinE xs ys = 0 from if_pos h]
    exact (join_yes a a2 c c2 xs ys w hl h hr hr2).mono fun _ _ ⟨b, h1, h2, h3⟩ => ⟨b, _, h1, h2, h3⟩
  · rw [show joinR xs ys = [] from if_neg h, show joinE xs ys = 12 from if_neg h]
    exact (join_no a a2 c c2 _ _ w h).mono fun _ _ ⟨h1, h2⟩ => ⟨none, 0, h1, .inl rfl, h2⟩
theorem rjoinall (a a2 : Option Addr) (c c2 : Nat) (xs ys : List Int) (w : World) (hl : xs.length ≤ 1048576) (hr : RowU w a xs) (hr2 : RowU w a2 ys) :
    Calls Try.prog 19 #[.slice a xs.length c, .slice a2 ys.length c2] w (ToldU w (joinR xs ys) (joinE xs ys)) := by
  by_cases h : xs.length = ys.length
  · rw [show joinR xs ys = joinC xs ys from if_pos h, show joinE xs ys = 0 from if_pos h]
    exact (rjoin_yes a a2 c c2 xs ys w hl h hr hr2).mono fun _ _ ⟨b, cap, h1, h2, h3⟩ => ⟨b, cap, h1, h2, h3⟩
  · rw [show joinR xs ys = [] from if_neg h, show joinE xs ys = 12 from if_neg h]
    exact (rjoin_no a a2 c c2 _ _ w h).mono fun _ _ ⟨h1, h2⟩ => ⟨none, 0, h1, .inl rfl, h2⟩
theorem viaall (a b : Option Addr) (c d : Nat) (xs : List Int) (ts : List (Option Addr × Nat × List Int)) (w : World) (hl : ts.length ≤ 1048576) (hw : wideT (rowsT ts) ≤ 1048576)
    (hr : RowU w a xs) (ht : TabU w b ts) (hu : AllU xs) (hut : AllT (rowsT ts)) :
    Calls Try.prog 20 #[.slice a xs.length c, .slice b ts.length d] w (ToldU w (viaR xs (rowsT ts)) (viaE xs (rowsT ts))) := by
  by_cases h : viaOk xs (rowsT ts) = true
  · rw [show viaR xs (rowsT ts) = viaC xs (rowsT ts) from if_pos h, show viaE xs (rowsT ts) = 0 from if_pos h]
    simp only [viaOk, Bool.and_eq_true, decide_eq_true_eq, rowsT_len] at h
    exact (via_yes a b c d xs ts w (by omega) hw h.1 h.2 hr ht hu hut).mono fun _ _ ⟨b, h1, h2, h3⟩ => ⟨b, _, h1, h2, h3⟩
  · rw [show viaR xs (rowsT ts) = [] from if_neg h, show viaE xs (rowsT ts) = 12 from if_neg h]
    refine (via_no a b c d xs.length ts w hl ?_ ht).mono fun _ _ ⟨h1, h2⟩ => ⟨none, 0, h1, .inl rfl, h2⟩
    by_cases h1 : xs.length = ts.length
    · refine .inr ?_
      cases h2 : evenT (rowsT ts)
      · rfl
      · exact absurd (by simp [viaOk, rowsT_len, h1, h2]) h
    · exact .inl h1
set_option maxHeartbeats 800000 in
theorem rvia_short (a b : Option Addr) (c d n m : Nat) (w : World) (he : n ≠ m) :
    Calls Try.prog 21 #[.slice a n c, .slice b m d] w fun e w' => e = .returned (.tuple #[.slice none 0 0, .int .i64 12]) ∧ Below w.heap.size w w' := by
  have h1 : ((n : Int) != (m : Int)) = true := by rw [bne_iff_ne]; omega
  have h2 : ((n : Int) == (m : Int)) = false := by rw [beq_eq_false_iff_ne]; omega
  clear he
  go_enter Try.func21, Try.ntmps21
  go_wp2
  go_ret2
  exact ⟨rfl, bl0 w⟩
theorem rviaall (a b : Option Addr) (c d : Nat) (xs : List Int) (ts : List (Option Addr × Nat × List Int)) (w : World) (hl : ts.length ≤ 1048576) (hw : wideT (rowsT ts) ≤ 1048576)
    (hr : RowU w a xs) (ht : TabU w b ts) (hu : AllU xs) (hut : AllT (rowsT ts)) :
    Calls Try.prog 21 #[.slice a xs.length c, .slice b ts.length d] w (ToldU w (viaR xs (rowsT ts)) (viaE xs (rowsT ts))) := by
  by_cases h1 : xs.length = ts.length
  · refine (rvia_any a b c d xs ts w (by omega) hw h1 hr ht hu hut).mono fun _ _ h => ?_
    rcases h with ⟨h2, h3, h4⟩ | ⟨h2, z, cap, h3, h4, h5⟩
    · have h : ¬ viaOk xs (rowsT ts) = true := by simp [viaOk, h2]
      rw [show viaR xs (rowsT ts) = [] from if_neg h, show viaE xs (rowsT ts) = 12 from if_neg h]
      exact ⟨none, 0, h3, .inl rfl, h4⟩
    · have h : viaOk xs (rowsT ts) = true := by simp [viaOk, h2, h1, rowsT_len]
      rw [show viaR xs (rowsT ts) = viaC xs (rowsT ts) from if_pos h, show viaE xs (rowsT ts) = 0 from if_pos h]
      exact ⟨z, cap, h3, h4, h5⟩
  · have h : ¬ viaOk xs (rowsT ts) = true := by simp [viaOk, h1, rowsT_len]
    rw [show viaR xs (rowsT ts) = [] from if_neg h, show viaE xs (rowsT ts) = 12 from if_neg h]
    exact (rvia_short a b c d _ _ w h1).mono fun _ _ ⟨h3, h4⟩ => ⟨none, 0, h3, .inl rfl, h4⟩
/-- The laws' same, of two rows that hold the same. -/
theorem same_yes (a a2 : Option Addr) (cap cap2 : Nat) (xs : List Int) (w : World) (hr : RowU w a xs) (hr2 : RowU w a2 xs) (hl : xs.length ≤ 1048576) :
    Calls Try.prog 22 #[.slice a xs.length cap, .slice a2 xs.length cap2] w fun e w' => e = .returned (.bool true) ∧ Below w.heap.size w w' := by
  have := same_any a a2 cap cap2 xs xs w hr hr2 hl
  rw [decide_eq_true rfl] at this
  exact this
theorem joinR_len (xs ys : List Int) : (joinR xs ys).length ≤ xs.length := by unfold joinR; split <;> simp [joinC]; omega
theorem viaR_len (xs : List Int) (rs : List (List Int)) : (viaR xs rs).length ≤ wideT rs := by unfold viaR; split <;> simp [viaC]
theorem wideT_small {rs : List (List Int)} (h : smallT rs = true) : wideT rs ≤ 30 := by
  have := (smallT_iff h).2
  cases rs with
  | nil => simp [wideT]
  | cons r l => exact this r (by simp)
end Go.Proofs.Ytgkeifjnnpcleab
