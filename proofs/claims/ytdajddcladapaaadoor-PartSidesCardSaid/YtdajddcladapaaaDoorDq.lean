/- Parts: how many cells clusters have together. -/
import Derived.Test.YtdajddcladapaaaDoorDc
namespace Go.Proofs.YtdajddcladapaaaDoor
open Go.RowKit

/-- How many cells the first clusters have. -/
def arP (W H S : Int) (p : IC) : Int := min (p.2 * S) H * W + bxH H S p * min (p.1 * S) W
theorem arP_0 {W H S : Int} (h1 : 1 ≤ W) (h3 : 1 ≤ H) : arP W H S (0, 0) = 0 := by
  unfold arP
  simp only [Int.zero_mul]
  rw [show min 0 H = 0 by omega, show min 0 W = 0 by omega]
  simp
theorem arP_east {W H S : Int} {p : IC} (hr : rightP W H S = true) (h1 : 0 ≤ p.1) (h2 : p.1 < lieN W S) : arP W H S (p.1 + 1, p.2) = arP W H S p + bxW W S p * bxH H S p := by
  obtain ⟨⟨a1, a2, a3, a4⟩, a5, a6⟩ := rightP_iff.1 hr
  obtain ⟨g1, g2, g3, g4⟩ := lie_ge a1 a2 a5 a6 h1 h2
  have i1 := (lie_at a1 a2 a5 a6 h1).1 h2
  have e : min ((p.1 + 1) * S) W = min (p.1 * S) W + bxW W S p := by
    unfold bxW
    rw [Int.add_mul, Int.one_mul]
    omega
  have e2 : bxH H S (p.1 + 1, p.2) = bxH H S p := rfl
  show min (p.2 * S) H * W + bxH H S (p.1 + 1, p.2) * min ((p.1 + 1) * S) W = min (p.2 * S) H * W + bxH H S p * min (p.1 * S) W + _
  rw [e, e2, Int.mul_add, Int.mul_comm (bxW W S p), Int.add_assoc]
theorem arP_next {W H S : Int} {y : Int} (hr : rightP W H S = true) (h3 : 0 ≤ y) (h4 : y < lieN H S) : arP W H S (0, y + 1) = arP W H S (lieN W S, y) := by
  obtain ⟨⟨a1, a2, a3, a4⟩, a5, a6⟩ := rightP_iff.1 hr
  obtain ⟨b1, b2, b3, b4⟩ := lie_bd a1 a2 a5 a6
  have i1 := (lie_at a3 a4 a5 a6 h3).1 h4
  have e : min ((y + 1) * S) H = min (y * S) H + bxH H S (0, y) := by
    unfold bxH
    rw [Int.add_mul, Int.one_mul]
    show _ = _ + min S (H - y * S)
    omega
  have e2 : bxH H S (lieN W S, y) = bxH H S (0, y) := rfl
  show min ((y + 1) * S) H * W + bxH H S (0, y + 1) * min (0 * S) W = min (y * S) H * W + bxH H S (lieN W S, y) * min (lieN W S * S) W
  rw [e, e2, Int.zero_mul, show min 0 W = 0 by omega, show min (lieN W S * S) W = W by omega, Int.mul_zero, Int.add_zero, Int.add_mul]
theorem plc_succ {W H S : Int} {k : Nat} (hr : rightP W H S = true) (hk : k < cntN W H S) :
    plcP W S ((k : Int) + 1) = if (plcP W S k).1 + 1 < lieN W S then ((plcP W S k).1 + 1, (plcP W S k).2) else (0, (plcP W S k).2 + 1) := by
  obtain ⟨e, c1, c2⟩ := cntN_eq hr
  obtain ⟨p1, p2, p3, p4, p5⟩ := plc_in (id := (k : Int)) hr (by omega) (by omega)
  by_cases h : (plcP W S k).1 + 1 < lieN W S
  · rw [if_pos h]
    have := plc_of (W := W) (S := S) (p := ((plcP W S k).1 + 1, (plcP W S k).2)) (by show 0 ≤ _ + 1; omega) h
    rw [← this]
    congr 1
    show (k : Int) + 1 = (plcP W S k).2 * lieN W S + ((plcP W S k).1 + 1)
    omega
  · rw [if_neg h]
    have := plc_of (W := W) (S := S) (p := (0, (plcP W S k).2 + 1)) (by show (0 : Int) ≤ 0; omega) (by show (0 : Int) < _; omega)
    rw [← this]
    congr 1
    show (k : Int) + 1 = ((plcP W S k).2 + 1) * lieN W S + 0
    rw [Int.add_mul, Int.one_mul]
    omega
theorem arP_succ {W H S : Int} {k : Nat} (hr : rightP W H S = true) (hk : k < cntN W H S) :
    arP W H S (plcP W S ((k : Int) + 1)) = arP W H S (plcP W S k) + bxW W S (plcP W S k) * bxH H S (plcP W S k) := by
  obtain ⟨e, c1, c2⟩ := cntN_eq hr
  obtain ⟨p1, p2, p3, p4, p5⟩ := plc_in (id := (k : Int)) hr (by omega) (by omega)
  rw [plc_succ hr hk, ← arP_east hr p1 p2]
  by_cases h : (plcP W S k).1 + 1 < lieN W S
  · rw [if_pos h]
  · rw [if_neg h, arP_next hr p3 p4]
    have : (plcP W S k).1 + 1 = lieN W S := by omega
    rw [this]
theorem arP_end {W H S : Int} (hr : rightP W H S = true) : arP W H S (plcP W S (cntN W H S)) = W * H := by
  obtain ⟨⟨a1, a2, a3, a4⟩, a5, a6⟩ := rightP_iff.1 hr
  obtain ⟨b1, b2, b3, b4⟩ := lie_bd a1 a2 a5 a6
  obtain ⟨c1, c2, c3, c4⟩ := lie_bd a3 a4 a5 a6
  obtain ⟨e, d1, d2⟩ := cntN_eq hr
  have h := plc_of (W := W) (S := S) (p := (0, lieN H S)) (by show (0 : Int) ≤ 0; omega) (by show (0 : Int) < _; omega)
  have e2 : (cntN W H S : Int) = lieN H S * lieN W S + 0 := by rw [e, Int.mul_comm]; omega
  rw [e2, h]
  unfold arP
  show min (lieN H S * S) H * W + bxH H S (0, lieN H S) * min (0 * S) W = _
  rw [Int.zero_mul, show min 0 W = 0 by omega, show min (lieN H S * S) H = H by omega, Int.mul_zero, Int.add_zero, Int.mul_comm]
theorem arP_bd {W H S : Int} {k : Nat} (hr : rightP W H S = true) (hk : k ≤ cntN W H S) : 0 ≤ arP W H S (plcP W S k) ∧ arP W H S (plcP W S k) ≤ k * 256 := by
  induction k with
  | zero =>
    obtain ⟨⟨a1, a2, a3, a4⟩, a5, a6⟩ := rightP_iff.1 hr
    have : plcP W S ((0 : Nat) : Int) = (0, 0) := by unfold plcP; simp
    rw [this, arP_0 a1 a3]
    omega
  | succ k ih =>
    have h := ih (by omega)
    obtain ⟨e, c1, c2⟩ := cntN_eq hr
    obtain ⟨p1, p2, p3, p4, p5⟩ := plc_in (id := (k : Int)) hr (by omega) (by omega)
    obtain ⟨_, ⟨t5, t6, t7, t8⟩, _, _⟩ := bx_bd hr p1 p2 p3 p4
    have hs := arP_succ hr (k := k) (by omega)
    have m1 := Int.mul_nonneg (show 0 ≤ bxW W S (plcP W S k) by omega) (show 0 ≤ bxH H S (plcP W S k) by omega)
    have m2 := Int.mul_le_mul_of_nonneg_right t6 (show 0 ≤ bxH H S (plcP W S k) by omega)
    rw [show (((k + 1 : Nat)) : Int) = (k : Int) + 1 by omega, hs]
    omega
/-- A map has no fewer cells than clusters. -/
theorem lie_le {W S : Int} (h1 : 1 ≤ W) (h2 : W ≤ 256) (h3 : 2 ≤ S) (h4 : S ≤ 16) : lieN W S ≤ W := by
  obtain ⟨b1, b2, b3, b4⟩ := lie_bd h1 h2 h3 h4
  have := Int.mul_le_mul_of_nonneg_left (show 2 ≤ S from h3) (show 0 ≤ lieN W S - 1 by omega)
  rw [Int.sub_mul (lieN W S) 1 S, Int.one_mul] at this
  omega
theorem cnt_le {W H S : Int} (hr : rightP W H S = true) : lieN W S * lieN H S ≤ W * H := by
  obtain ⟨⟨a1, a2, a3, a4⟩, a5, a6⟩ := rightP_iff.1 hr
  obtain ⟨c1, c2, c3, c4⟩ := lie_bd a3 a4 a5 a6
  exact Int.le_trans (Int.mul_le_mul_of_nonneg_right (lie_le a1 a2 a5 a6) (by omega)) (Int.mul_le_mul_of_nonneg_left (lie_le a3 a4 a5 a6) (by omega))
end Go.Proofs.YtdajddcladapaaaDoor
