/- Parts: the border of two, the program's and the reference's. -/
import Derived.Test.YtbdfjdipjacamaaDoorDu
namespace Go.Proofs.YtbdfjdipjacamaaDoor
open Go.RowKit

theorem border11 (W H S : Int) (a : Option Addr) (cap : Nat) (A B : Int) (w : World) (hr : rightP W H S = true) (hA0 : 0 ≤ A) (hA1 : A < lieN W S * lieN H S) (hB0 : 0 ≤ B) (hB1 : B < lieN W S * lieN H S) (hrow : RowPP w a (boxL W H S)) :
    Calls Tryd.prog 67 #[.slice a (cntN W H S) cap, .int .i64 A, .int .i64 B] w (BxsR (refB W H S A B) w) := by
  obtain ⟨hn, n1, n2⟩ := cntN_eq hr
  by_cases he : A = B
  · subst he
    have e : refB W H S A A = [] := by unfold refB; rw [if_pos rfl]
    rw [e]
    exact border11_eq a _ cap A w
  · obtain ⟨x, rfl⟩ : ∃ x : Nat, A = x := ⟨A.toNat, by omega⟩
    obtain ⟨y, rfl⟩ : ∃ y : Nat, B = y := ⟨B.toNat, by omega⟩
    unfold refB
    rw [if_neg he]
    by_cases hl : (x : Int) < y
    · rw [show min (x : Int) y = x by omega, show max (x : Int) y = y by omega]
      exact border11_lt W H S a cap x y w hr (by omega) (by omega) hrow hl
    · rw [show min (x : Int) y = y by omega, show max (x : Int) y = x by omega]
      exact border11_gt W H S a cap y x w hr (by omega) (by omega) hrow (by omega)
theorem prsP_ne {W H S : Int} {p : IC} {d : Int} (hr : rightP W H S = true) (h1 : 0 ≤ p.1) (h2 : p.1 < lieN W S) (h3 : 0 ≤ p.2) (h4 : p.2 < lieN H S) : prsP W H S p d ≠ [] := by
  obtain ⟨⟨t1, t2, t3, t4⟩, ⟨t5, t6, t7, t8⟩, t9, t10⟩ := bx_bd hr h1 h2 h3 h4
  intro h
  have hl : (prsP W H S p d).length = prsN W H S p d := by simp [prsP]
  rw [h] at hl
  unfold prsN at hl
  split at hl <;> simp at hl <;> omega
theorem side_same {W H S a : Int} (hr : rightP W H S = true) (h0 : 0 ≤ a) (h1 : a < lieN W S * lieN H S) : sideP W H S a a = 0 := by
  rw [side_eq hr h0 h1 h0 h1]
  rw [if_neg (fun h => by have := (Prod.ext_iff.1 h).1; simp only at this; omega), if_neg (fun h => by have := (Prod.ext_iff.1 h).2; simp only at this; omega)]
/-- Of two clusters the program and the reference tell the same. -/
theorem brd_same {W H S a b : Int} (hr : rightP W H S = true) (a0 : 0 ≤ a) (a1 : a < lieN W S * lieN H S) (b0 : 0 ≤ b) (b1 : b < lieN W S * lieN H S) :
    (brdX W H S a b = 1 ∧ brdP W H S a b = [] ∧ refB W H S a b = []) ∨ (brdX W H S a b = 0 ∧ brdP W H S a b = refB W H S a b ∧ refB W H S a b ≠ []) := by
  have f0 : 0 ≤ min a b := by omega
  have f1 : min a b < lieN W S * lieN H S := by omega
  have g0 : 0 ≤ max a b := by omega
  have g1 : max a b < lieN W S * lieN H S := by omega
  have x1 : plcX W H S (min a b) = 0 := plcX_yes.2 ⟨hr, f0, f1⟩
  have x2 : plcX W H S (max a b) = 0 := plcX_yes.2 ⟨hr, g0, g1⟩
  have hx : brdX W H S a b = if sideP W H S (min a b) (max a b) = 0 then 1 else 0 := by
    unfold brdX
    rw [if_neg (fun h => h x1), if_neg (fun h => h x2)]
  by_cases he : a = b
  · subst he
    have hs : sideP W H S (min a a) (max a a) = 0 := by
      rw [show min a a = a by omega, show max a a = a by omega]
      exact side_same hr a0 a1
    rw [hs, if_pos rfl] at hx
    exact .inl ⟨hx, by unfold brdP; rw [if_neg (by rw [hx]; decide)], by unfold refB; rw [if_pos rfl]⟩
  · obtain ⟨p1, p2, p3, p4, p5⟩ := plc_in hr f0 f1
    obtain ⟨q1, q2, q3, q4, q5⟩ := plc_in hr g0 g1
    have hne : plcP W S (max a b) ≠ plcP W S (min a b) := fun e => by
      rw [e, p5] at q5
      omega
    have hb := brd_eq hr p1 p2 p3 p4 q1 q2 q3 q4 hne
    have hs := side_eq hr f0 f1 g0 g1
    have hrf : refB W H S a b = brdL (hasP W H S (plcP W S (max a b))) (bxX S (plcP W S (min a b))) (bxY S (plcP W S (min a b))) (bxW W S (plcP W S (min a b))).toNat (bxH H S (plcP W S (min a b))).toNat := by unfold refB; rw [if_neg he]
    rw [hb] at hrf
    by_cases e1 : plcP W S (max a b) = ((plcP W S (min a b)).1 + 1, (plcP W S (min a b)).2)
    · rw [if_pos e1] at hs hrf
      rw [hs, if_neg (by decide)] at hx
      refine .inr ⟨hx, ?_, ?_⟩
      · unfold brdP; rw [if_pos hx, hs, hrf]
      · rw [hrf]; exact prsP_ne hr p1 p2 p3 p4
    · rw [if_neg e1] at hs hrf
      by_cases e2 : plcP W S (max a b) = ((plcP W S (min a b)).1, (plcP W S (min a b)).2 + 1)
      · rw [if_pos e2] at hs hrf
        rw [hs, if_neg (by decide)] at hx
        refine .inr ⟨hx, ?_, ?_⟩
        · unfold brdP; rw [if_pos hx, hs, hrf]
        · rw [hrf]; exact prsP_ne hr p1 p2 p3 p4
      · rw [if_neg e2] at hs hrf
        rw [hs, if_pos rfl] at hx
        exact .inl ⟨hx, by unfold brdP; rw [if_neg (by rw [hx]; decide)], hrf⟩
theorem plcX_out {W H S id : Int} (hr : rightP W H S = true) (h : ¬ (0 ≤ id ∧ id < lieN W S * lieN H S)) : plcX W H S id = 10 := by
  unfold plcX; rw [if_pos hr, if_neg h]
theorem brdX_out {W H S a b : Int} (hr : rightP W H S = true) (h : ¬ (0 ≤ a ∧ a < lieN W S * lieN H S) ∨ ¬ (0 ≤ b ∧ b < lieN W S * lieN H S)) : brdX W H S a b = 10 ∧ brdP W H S a b = [] := by
  have hx : brdX W H S a b = 10 := by
    unfold brdX
    by_cases h1 : 0 ≤ min a b ∧ min a b < lieN W S * lieN H S
    · have e1 : plcX W H S (min a b) = 0 := plcX_yes.2 ⟨hr, h1⟩
      have e2 : plcX W H S (max a b) = 10 := plcX_out hr (by omega)
      rw [if_neg (fun k => k e1), if_pos (by rw [e2]; decide), e2]
    · have e1 := plcX_out hr h1
      rw [if_pos (by rw [e1]; decide), e1]
  exact ⟨hx, by unfold brdP; rw [if_neg (by rw [hx]; decide)]⟩
end Go.Proofs.YtbdfjdipjacamaaDoor
