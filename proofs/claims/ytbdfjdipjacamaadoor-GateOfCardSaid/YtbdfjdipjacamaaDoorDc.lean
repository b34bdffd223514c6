/- Parts: the reference's clusters of cells: their mathematics. -/
import Derived.Test.YtbdfjdipjacamaaDoorDb
namespace Go.Proofs.YtbdfjdipjacamaaDoor
open Go.RowKit

def cntN (W H S : Int) : Nat := (lieN W S * lieN H S).toNat
def hasK (W H S : Int) (c : IC) (k : Nat) : Bool := hasP W H S (plcP W S k) c
theorem cntN_eq {W H S : Int} (hr : rightP W H S = true) : (cntN W H S : Int) = lieN W S * lieN H S ∧ 1 ≤ lieN W S * lieN H S ∧ lieN W S * lieN H S ≤ 16384 := by
  obtain ⟨⟨a1, a2, a3, a4⟩, a5, a6⟩ := rightP_iff.1 hr
  obtain ⟨b1, b2, b3, b4⟩ := lie_bd a1 a2 a5 a6
  obtain ⟨c1, c2, c3, c4⟩ := lie_bd a3 a4 a5 a6
  have h1 := Int.mul_le_mul_of_nonneg_right b1 (show 0 ≤ lieN H S by omega)
  have h2 := Int.mul_le_mul_of_nonneg_right b2 (show 0 ≤ lieN H S by omega)
  rw [Int.one_mul] at h1
  unfold cntN
  omega
theorem hasK_iff {W H S : Int} {c : IC} {k : Nat} (hr : rightP W H S = true) (hk : k < cntN W H S) : hasK W H S c k = true ↔ onB W H c = true ∧ ofP W S c = k := by
  obtain ⟨e, _, _⟩ := cntN_eq hr
  obtain ⟨p1, p2, p3, p4, p5⟩ := plc_in (id := (k : Int)) hr (by omega) (by omega)
  unfold hasK
  rw [hasP_iff hr p1 p2 p3 p4]
  constructor
  · rintro ⟨h1, h2⟩
    refine ⟨h1, ?_⟩
    rw [← p5, ← h2]
    rfl
  · rintro ⟨h1, h2⟩
    exact ⟨h1, by rw [← h2, plc_cell hr h1]⟩
/-- The cluster of a cell; -1: none. -/
def ofR (W H S : Int) (c : IC) : Int := if onB W H c = true then ofP W S c else -1
theorem ofR_on {W H S x y u v : Int} (h : 1 ≤ W ∧ W ≤ 256 ∧ 1 ≤ H ∧ H ≤ 256 ∧ 0 ≤ x ∧ x < W ∧ 0 ≤ y ∧ y < H) (hu : x / S = u) (hv : y / S = v) : ofR W H S (x, y) = numP W S (u, v) := by
  unfold ofR
  rw [if_pos (show onB W H (x, y) = true from inB_iff.2 h)]
  unfold ofP numP
  show y / S * _ + x / S = _
  rw [hu, hv]
theorem ofR_off {W H S x y : Int} (h : ¬ (1 ≤ W ∧ W ≤ 256 ∧ 1 ≤ H ∧ H ≤ 256 ∧ 0 ≤ x ∧ x < W ∧ 0 ≤ y ∧ y < H)) : ofR W H S (x, y) = -1 := by
  unfold ofR
  rw [if_neg (fun hh : onB W H (x, y) = true => h (inB_iff.1 hh))]
theorem ofR_at {W H S : Int} {c : IC} {k : Nat} (hr : rightP W H S = true) (hk : k < cntN W H S) (h : hasK W H S c k = true) : ofR W H S c = k := by
  obtain ⟨h1, h2⟩ := (hasK_iff hr hk).1 h
  unfold ofR
  rw [if_pos h1, h2]
theorem ofR_none {W H S : Int} {c : IC} (hr : rightP W H S = true) (h : ∀ k, k < cntN W H S → hasK W H S c k = false) : ofR W H S c = -1 := by
  unfold ofR
  by_cases hc : onB W H c = true
  · obtain ⟨b1, b2⟩ := of_bd hr hc
    obtain ⟨e, _, _⟩ := cntN_eq hr
    obtain ⟨k, hk⟩ : ∃ k : Nat, ofP W S c = k := ⟨(ofP W S c).toNat, by omega⟩
    have hlt : k < cntN W H S := by omega
    have := (hasK_iff hr hlt).2 ⟨hc, hk⟩
    rw [h k hlt] at this
    cases this
  · rw [if_neg hc]
/-- A cell of a cluster at its side in a direction. -/
def crnP (W H S : Int) (p : IC) (d : Int) : IC := (if d = 1 then bxX S p + bxW W S p - 1 else bxX S p, if d = 2 then bxY S p + bxH H S p - 1 else bxY S p)
theorem bes_eq {W H S : Int} {p : IC} {d : Int} (hr : rightP W H S = true) (h1 : 0 ≤ p.1) (h2 : p.1 < lieN W S) (h3 : 0 ≤ p.2) (h4 : p.2 < lieN H S) (d0 : 0 ≤ d) (d4 : d < 4) :
    ofR W H S (stepI (crnP W H S p d) d) = if toP W H S p d = true then numP W S (stepI p d) else -1 := by
  obtain ⟨⟨a1, a2, a3, a4⟩, a5, a6⟩ := rightP_iff.1 hr
  obtain ⟨g1, g2, g3, g4⟩ := lie_ge a1 a2 a5 a6 h1 h2
  obtain ⟨k1, k2, k3, k4⟩ := lie_ge a3 a4 a5 a6 h3 h4
  have i1 := (lie_at a1 a2 a5 a6 h1).1 h2
  have i3 := (lie_at a3 a4 a5 a6 h3).1 h4
  obtain ⟨x, y⟩ := p
  have hx : x * S / S = x := Int.mul_ediv_cancel _ (by omega)
  have hy : y * S / S = y := Int.mul_ediv_cancel _ (by omega)
  have hx1 : (x * S + S) / S = x + 1 := by rw [show x * S + S = (x + 1) * S by rw [Int.add_mul, Int.one_mul]]; exact Int.mul_ediv_cancel _ (by omega)
  have hy1 : (y * S + S) / S = y + 1 := by rw [show y * S + S = (y + 1) * S by rw [Int.add_mul, Int.one_mul]]; exact Int.mul_ediv_cancel _ (by omega)
  have hxm : (x * S - 1) / S = x - 1 := by rw [div_iff (by omega), Int.sub_mul, Int.one_mul, show x - 1 + 1 = x by omega]; omega
  have hym : (y * S - 1) / S = y - 1 := by rw [div_iff (by omega), Int.sub_mul, Int.one_mul, show y - 1 + 1 = y by omega]; omega
  simp only at *
  obtain rfl | rfl | rfl | rfl : d = 0 ∨ d = 1 ∨ d = 2 ∨ d = 3 := by omega
  · rw [show crnP W H S (x, y) 0 = (x * S, y * S) by rfl, stepI_0, stepI_0]
    have ht := toP_iff (p := (x, y)) (d := 0) hr
    rw [stepI_0] at ht
    by_cases hc : 1 ≤ y
    · have e := Int.mul_le_mul_of_nonneg_right hc (show (0 : Int) ≤ S by omega)
      rw [if_pos (ht.2 (by simp only; omega))]
      exact ofR_on (by omega) hx hym
    · rw [if_neg (fun h => by have := ht.1 h; simp only at this; omega)]
      obtain rfl : y = 0 := by omega
      exact ofR_off (by omega)
  · rw [show crnP W H S (x, y) 1 = (x * S + min S (W - x * S) - 1, y * S) by rfl, stepI_1, stepI_1]
    have ht := toP_iff (p := (x, y)) (d := 1) hr
    rw [stepI_1] at ht
    by_cases hc : x + 1 < lieN W S
    · have e := g3 hc
      rw [if_pos (ht.2 (by simp only; omega))]
      simp only
      rw [show x * S + min S (W - x * S) - 1 + 1 = x * S + S by omega]
      exact ofR_on (by omega) hx1 hy
    · have e := g4 hc
      rw [if_neg (fun h => by have := ht.1 h; simp only at this; omega)]
      exact ofR_off (by omega)
  · rw [show crnP W H S (x, y) 2 = (x * S, y * S + min S (H - y * S) - 1) by rfl, stepI_2, stepI_2]
    have ht := toP_iff (p := (x, y)) (d := 2) hr
    rw [stepI_2] at ht
    by_cases hc : y + 1 < lieN H S
    · have e := k3 hc
      rw [if_pos (ht.2 (by simp only; omega))]
      simp only
      rw [show y * S + min S (H - y * S) - 1 + 1 = y * S + S by omega]
      exact ofR_on (by omega) hx hy1
    · have e := k4 hc
      rw [if_neg (fun h => by have := ht.1 h; simp only at this; omega)]
      exact ofR_off (by omega)
  · rw [show crnP W H S (x, y) 3 = (x * S, y * S) by rfl, stepI_3, stepI_3]
    have ht := toP_iff (p := (x, y)) (d := 3) hr
    rw [stepI_3] at ht
    by_cases hc : 1 ≤ x
    · have e := Int.mul_le_mul_of_nonneg_right hc (show (0 : Int) ≤ S by omega)
      rw [if_pos (ht.2 (by simp only; omega))]
      exact ofR_on (by omega) hxm hy
    · rw [if_neg (fun h => by have := ht.1 h; simp only at this; omega)]
      obtain rfl : x = 0 := by omega
      exact ofR_off (by omega)
/-- The side of two clusters, by their places. -/
theorem side_eq {W H S a b : Int} (hr : rightP W H S = true) (a0 : 0 ≤ a) (a1 : a < lieN W S * lieN H S) (b0 : 0 ≤ b) (b1 : b < lieN W S * lieN H S) :
    sideP W H S a b = if plcP W S b = ((plcP W S a).1 + 1, (plcP W S a).2) then 1 else if plcP W S b = ((plcP W S a).1, (plcP W S a).2 + 1) then 2 else 0 := by
  obtain ⟨p1, p2, p3, p4, p5⟩ := plc_in hr a0 a1
  obtain ⟨q1, q2, q3, q4, q5⟩ := plc_in hr b0 b1
  have k1 : (toP W H S (plcP W S a) 1 = true ∧ numP W S (stepI (plcP W S a) 1) = b) ↔ plcP W S b = ((plcP W S a).1 + 1, (plcP W S a).2) := by
    rw [toP_iff hr, stepI_1]
    simp only
    constructor
    · rintro ⟨⟨t1, t2, t3, t4⟩, h⟩
      rw [← h]
      exact plc_of (p := ((plcP W S a).1 + 1, (plcP W S a).2)) t1 t2
    · intro h
      have e := h
      rw [Prod.ext_iff] at e
      obtain ⟨e1, e2⟩ := e
      simp only at e1 e2
      refine ⟨⟨by omega, by omega, by omega, by omega⟩, ?_⟩
      rw [← h]
      exact q5
  have k2 : (toP W H S (plcP W S a) 2 = true ∧ numP W S (stepI (plcP W S a) 2) = b) ↔ plcP W S b = ((plcP W S a).1, (plcP W S a).2 + 1) := by
    rw [toP_iff hr, stepI_2]
    simp only
    constructor
    · rintro ⟨⟨t1, t2, t3, t4⟩, h⟩
      rw [← h]
      exact plc_of (p := ((plcP W S a).1, (plcP W S a).2 + 1)) t1 t2
    · intro h
      have e := h
      rw [Prod.ext_iff] at e
      obtain ⟨e1, e2⟩ := e
      simp only at e1 e2
      refine ⟨⟨by omega, by omega, by omega, by omega⟩, ?_⟩
      rw [← h]
      exact q5
  unfold sideP
  by_cases e1 : plcP W S b = ((plcP W S a).1 + 1, (plcP W S a).2)
  · rw [if_pos (k1.2 e1), if_pos e1]
  · rw [if_neg (fun h => e1 (k1.1 h)), if_neg e1]
    by_cases e2 : plcP W S b = ((plcP W S a).1, (plcP W S a).2 + 1)
    · rw [if_pos (k2.2 e2), if_pos e2]
    · rw [if_neg (fun h => e2 (k2.1 h)), if_neg e2]
end Go.Proofs.YtbdfjdipjacamaaDoor
