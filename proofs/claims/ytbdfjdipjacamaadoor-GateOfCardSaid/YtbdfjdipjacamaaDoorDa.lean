/- Parts: their mathematics. -/
import Derived.Test.YtbdfjdipjacamaaDoorAb
namespace Go.Proofs.YtbdfjdipjacamaaDoor
open Go.RowKit

/-- How many clusters lie along W cells. -/
def lieN (W S : Int) : Int := (W + S - 1) / S
def rightP (W H S : Int) : Bool := mayB W H && decide (2 ≤ S ∧ S ≤ 16)
theorem rightP_iff {W H S : Int} : rightP W H S = true ↔ (1 ≤ W ∧ W ≤ 256 ∧ 1 ≤ H ∧ H ≤ 256) ∧ 2 ≤ S ∧ S ≤ 16 := by
  unfold rightP; rw [Bool.and_eq_true, mayB_iff, decide_eq_true_eq]
theorem div_iff {x i S : Int} (hS : 0 < S) : x / S = i ↔ i * S ≤ x ∧ x < (i + 1) * S := by
  constructor
  · rintro rfl
    exact ⟨Int.ediv_mul_le _ (by omega), Int.lt_ediv_add_one_mul_self _ hS⟩
  · rintro ⟨h1, h2⟩
    have a := (Int.le_ediv_iff_mul_le hS).2 h1
    have b := (Int.ediv_lt_iff_lt_mul hS).2 h2
    omega
theorem lie_bd {W S : Int} (h1 : 1 ≤ W) (h2 : W ≤ 256) (h3 : 2 ≤ S) (h4 : S ≤ 16) : 1 ≤ lieN W S ∧ lieN W S ≤ 128 ∧ lieN W S * S - S < W ∧ W ≤ lieN W S * S := by
  obtain ⟨a, b⟩ := (div_iff (x := W + S - 1) (i := lieN W S) (S := S) (by omega)).1 rfl
  rw [Int.add_mul, Int.one_mul] at b
  have h5 : 1 ≤ lieN W S := by
    have : ¬ lieN W S ≤ 0 := fun h => by
      have := Int.mul_le_mul_of_nonneg_right h (show (0 : Int) ≤ S by omega)
      omega
    omega
  refine ⟨h5, ?_, by omega, by omega⟩
  have : ¬ 129 ≤ lieN W S := fun h => by
    have e := Int.mul_le_mul_of_nonneg_right h (show (0 : Int) ≤ S by omega)
    omega
  omega
/-- Where i clusters begin. -/
theorem lie_at {W S i : Int} (h1 : 1 ≤ W) (h2 : W ≤ 256) (h3 : 2 ≤ S) (h4 : S ≤ 16) (_ : 0 ≤ i) : i < lieN W S ↔ i * S < W := by
  obtain ⟨a, b, c, d⟩ := lie_bd h1 h2 h3 h4
  constructor
  · intro h
    have e := Int.mul_le_mul_of_nonneg_right (show i ≤ lieN W S - 1 by omega) (show (0 : Int) ≤ S by omega)
    rw [Int.sub_mul, Int.one_mul] at e
    omega
  · intro h
    have : ¬ lieN W S ≤ i := fun hh => by
      have e := Int.mul_le_mul_of_nonneg_right hh (show (0 : Int) ≤ S by omega)
      omega
    omega
theorem lie_ge {W S i : Int} (h1 : 1 ≤ W) (h2 : W ≤ 256) (h3 : 2 ≤ S) (h4 : S ≤ 16) (h5 : 0 ≤ i) (h : i < lieN W S) : 0 ≤ i * S ∧ i * S ≤ 255 ∧ (i + 1 < lieN W S → i * S + S < W) ∧ (¬ i + 1 < lieN W S → W ≤ i * S + S) := by
  have a := (lie_at h1 h2 h3 h4 h5).1 h
  have b := lie_at (i := i + 1) h1 h2 h3 h4 (by omega)
  rw [Int.add_mul, Int.one_mul] at b
  exact ⟨Int.mul_nonneg h5 (by omega), by omega, b.1, fun hn => by
    have : ¬ i * S + S < W := fun hh => hn (b.2 hh)
    omega⟩
/-- The cluster of a cell. -/
def ofP (W S : Int) (c : IC) : Int := (c.2 / S) * lieN W S + c.1 / S
/-- The cells of the cluster at a place. -/
def bxX (S : Int) (p : IC) : Int := p.1 * S
def bxY (S : Int) (p : IC) : Int := p.2 * S
def bxW (W S : Int) (p : IC) : Int := min S (W - p.1 * S)
def bxH (H S : Int) (p : IC) : Int := min S (H - p.2 * S)
/-- Where a cluster lies. -/
def plcP (W S id : Int) : IC := (id % lieN W S, id / lieN W S)
theorem plc_of {W S : Int} {p : IC} (h1 : 0 ≤ p.1) (h2 : p.1 < lieN W S) : plcP W S (p.2 * lieN W S + p.1) = p := by
  have hl : 0 < lieN W S := by omega
  have e : (p.2 * lieN W S + p.1) / lieN W S = p.2 := by
    rw [div_iff hl, Int.add_mul, Int.one_mul]
    omega
  unfold plcP
  rw [e, Int.emod_def, e]
  exact Prod.ext (by show _ - _ = _; rw [Int.mul_comm]; omega) rfl
theorem plc_in {W H S id : Int} (hr : rightP W H S = true) (h0 : 0 ≤ id) (h1 : id < lieN W S * lieN H S) : 0 ≤ (plcP W S id).1 ∧ (plcP W S id).1 < lieN W S ∧ 0 ≤ (plcP W S id).2 ∧ (plcP W S id).2 < lieN H S ∧ (plcP W S id).2 * lieN W S + (plcP W S id).1 = id := by
  obtain ⟨⟨a1, a2, a3, a4⟩, a5, a6⟩ := rightP_iff.1 hr
  obtain ⟨b1, b2, b3, b4⟩ := lie_bd a1 a2 a5 a6
  obtain ⟨c1, c2, c3, c4⟩ := lie_bd a3 a4 a5 a6
  refine ⟨Int.emod_nonneg _ (by omega), Int.emod_lt_of_pos _ (by omega), Int.ediv_nonneg h0 (by omega), (Int.ediv_lt_iff_lt_mul (by omega)).2 (by rw [Int.mul_comm]; exact h1), ?_⟩
  exact Int.ediv_mul_add_emod _ _
theorem of_plc {W H S : Int} {p : IC} (_ : rightP W H S = true) (h1 : 0 ≤ p.1) (h2 : p.1 < lieN W S) (h3 : 0 ≤ p.2) (h4 : p.2 < lieN H S) : 0 ≤ p.2 * lieN W S + p.1 ∧ p.2 * lieN W S + p.1 < lieN W S * lieN H S := by
  have a := Int.mul_nonneg h3 (show 0 ≤ lieN W S by omega)
  have b := Int.mul_le_mul_of_nonneg_right (show p.2 + 1 ≤ lieN H S by omega) (show 0 ≤ lieN W S by omega)
  rw [Int.add_mul, Int.one_mul, Int.mul_comm (lieN H S)] at b
  omega
/-- A cluster's box has just the cells of the map that are at its place. -/
theorem box_has {W H S : Int} {p c : IC} (hr : rightP W H S = true) (h1 : 0 ≤ p.1) (h2 : p.1 < lieN W S) (h3 : 0 ≤ p.2) (h4 : p.2 < lieN H S) :
    (bxX S p ≤ c.1 ∧ c.1 < bxX S p + bxW W S p ∧ bxY S p ≤ c.2 ∧ c.2 < bxY S p + bxH H S p) ↔ onB W H c = true ∧ (c.1 / S, c.2 / S) = p := by
  obtain ⟨⟨a1, a2, a3, a4⟩, a5, a6⟩ := rightP_iff.1 hr
  have g1 := lie_ge a1 a2 a5 a6 h1 h2
  have g2 := lie_ge a3 a4 a5 a6 h3 h4
  have e1 := div_iff (x := c.1) (i := p.1) (S := S) (by omega)
  have e2 := div_iff (x := c.2) (i := p.2) (S := S) (by omega)
  rw [Int.add_mul, Int.one_mul] at e1 e2
  unfold onB bxX bxY bxW bxH
  rw [inB_iff, Prod.ext_iff, e1, e2]
  show _ ↔ _
  generalize p.1 * S = u at *
  generalize p.2 * S = v at *
  clear e1 e2
  constructor
  · intro h; omega
  · intro h; omega
/-- The place of a cell of the map. -/
theorem cell_plc {W H S : Int} {c : IC} (hr : rightP W H S = true) (hc : onB W H c = true) : 0 ≤ c.1 / S ∧ c.1 / S < lieN W S ∧ 0 ≤ c.2 / S ∧ c.2 / S < lieN H S := by
  obtain ⟨⟨a1, a2, a3, a4⟩, a5, a6⟩ := rightP_iff.1 hr
  obtain ⟨b1, b2, b3, b4, b5, b6, b7, b8⟩ := inB_iff.1 hc
  have k1 := Int.ediv_nonneg (a := c.1) (b := S) b5 (by omega)
  have k2 := Int.ediv_nonneg (a := c.2) (b := S) b7 (by omega)
  have m1 := Int.ediv_mul_le c.1 (b := S) (by omega)
  have m2 := Int.ediv_mul_le c.2 (b := S) (by omega)
  exact ⟨k1, (lie_at a1 a2 a5 a6 k1).2 (by omega), k2, (lie_at a3 a4 a5 a6 k2).2 (by omega)⟩
theorem plc_cell {W H S : Int} {c : IC} (hr : rightP W H S = true) (hc : onB W H c = true) : plcP W S (ofP W S c) = (c.1 / S, c.2 / S) := by
  obtain ⟨k1, k2, k3, k4⟩ := cell_plc hr hc
  exact plc_of (p := (c.1 / S, c.2 / S)) k1 k2
theorem of_bd {W H S : Int} {c : IC} (hr : rightP W H S = true) (hc : onB W H c = true) : 0 ≤ ofP W S c ∧ ofP W S c < lieN W S * lieN H S := by
  obtain ⟨k1, k2, k3, k4⟩ := cell_plc hr hc
  exact of_plc hr (p := (c.1 / S, c.2 / S)) k1 k2 k3 k4
theorem bx_bd {W H S : Int} {p : IC} (hr : rightP W H S = true) (h1 : 0 ≤ p.1) (h2 : p.1 < lieN W S) (h3 : 0 ≤ p.2) (h4 : p.2 < lieN H S) :
    (0 ≤ bxX S p ∧ bxX S p ≤ 255 ∧ 0 ≤ bxY S p ∧ bxY S p ≤ 255) ∧ (1 ≤ bxW W S p ∧ bxW W S p ≤ 16 ∧ 1 ≤ bxH H S p ∧ bxH H S p ≤ 16) ∧ bxX S p + bxW W S p ≤ W ∧ bxY S p + bxH H S p ≤ H := by
  obtain ⟨⟨a1, a2, a3, a4⟩, a5, a6⟩ := rightP_iff.1 hr
  have g1 := lie_ge a1 a2 a5 a6 h1 h2
  have g2 := lie_ge a3 a4 a5 a6 h3 h4
  have i1 := (lie_at a1 a2 a5 a6 h1).1 h2
  have i2 := (lie_at a3 a4 a5 a6 h3).1 h4
  unfold bxX bxY bxW bxH
  omega
end Go.Proofs.YtbdfjdipjacamaaDoor
