/- Texts joined: Da, Db, Dc, Dd, De, Xb, Xc, Xd, Xe, Xf, Xg, Xh, Xi. -/
import Derived.Test.YtgbhafadibdmcaaDoorAb
import Derived.Lib.Hide
import Derived.IntWalk
import Derived.Test.YtgbhafadibdmcaaDoorOh
import Derived.Deep.RegionHeld3
import Derived.Deep.CutRange
import Derived.Test.YtgbhafadibdmcaaDoorShelf
import Derived.Test.YtgbhafadibdmcaaDoorJ1
import Derived.Test.YtgbhafadibdmcaaDoorWr
import Derived.Scope
import Derived.Test.YtgbhafadibdmcaaDoorVf
import Derived.Test.YtgbhafadibdmcaaDoorOz
import Derived.Test.YtgbhafadibdmcaaDoorOs
import Derived.Test.YtgbhafadibdmcaaDoorCh
/- Parts: their mathematics. -/
namespace Go.Proofs.YtgbhafadibdmcaaDoor
open Go.RowKit

/-- How many clusters lie along W cells. -/
def lieN (W S : Int) : Int := (W + S - 1) / S
def rightP (W H S : Int) : Bool := mayB W H && decide (2 ≤ S ∧ S ≤ 16)
theorem rightP_iff {W H S : Int} : rightP W H S = true ↔ (1 ≤ W ∧ W ≤ 256 ∧ 1 ≤ H ∧ H ≤ 256) ∧ 2 ≤ S ∧ S ≤ 16 := by
  unfold rightP; rw [Bool.and_eq_true, mayB_iff, decide_eq_true_eq]
theorem div_iff {x i S : Int} (hS : 0 < S) : x / S = i ↔ i * S ≤ x ∧ x < (i + 1) * S := by
  constructor
  · rintro rfl
    exact ⟨Int.ediv_mul_le _ (by omega), Int.lt_ediv_add_one_mul_self _ hS⟩
  · rintro ⟨h1, h2⟩
    have a := (Int.le_ediv_iff_mul_le hS).2 h1
    have b := (Int.ediv_lt_iff_lt_mul hS).2 h2
    omega
theorem lie_bd {W S : Int} (h1 : 1 ≤ W) (h2 : W ≤ 256) (h3 : 2 ≤ S) (h4 : S ≤ 16) : 1 ≤ lieN W S ∧ lieN W S ≤ 128 ∧ lieN W S * S - S < W ∧ W ≤ lieN W S * S := by
  obtain ⟨a, b⟩ := (div_iff (x := W + S - 1) (i := lieN W S) (S := S) (by omega)).1 rfl
  rw [Int.add_mul, Int.one_mul] at b
  have h5 : 1 ≤ lieN W S := by
    have : ¬ lieN W S ≤ 0 := fun h => by
      have := Int.mul_le_mul_of_nonneg_right h (show (0 : Int) ≤ S by omega)
      omega
    omega
  refine ⟨h5, ?_, by omega, by omega⟩
  have : ¬ 129 ≤ lieN W S := fun h => by
    have e := Int.mul_le_mul_of_nonneg_right h (show (0 : Int) ≤ S by omega)
    omega
  omega
/-- Where i clusters begin. -/
theorem lie_at {W S i : Int} (h1 : 1 ≤ W) (h2 : W ≤ 256) (h3 : 2 ≤ S) (h4 : S ≤ 16) (_ : 0 ≤ i) : i < lieN W S ↔ i * S < W := by
  obtain ⟨a, b, c, d⟩ := lie_bd h1 h2 h3 h4
  constructor
  · intro h
    have e := Int.mul_le_mul_of_nonneg_right (show i ≤ lieN W S - 1 by omega) (show (0 : Int) ≤ S by omega)
    rw [Int.sub_mul, Int.one_mul] at e
    omega
  · intro h
    have : ¬ lieN W S ≤ i := fun hh => by
      have e := Int.mul_le_mul_of_nonneg_right hh (show (0 : Int) ≤ S by omega)
      omega
    omega
theorem lie_ge {W S i : Int} (h1 : 1 ≤ W) (h2 : W ≤ 256) (h3 : 2 ≤ S) (h4 : S ≤ 16) (h5 : 0 ≤ i) (h : i < lieN W S) : 0 ≤ i * S ∧ i * S ≤ 255 ∧ (i + 1 < lieN W S → i * S + S < W) ∧ (¬ i + 1 < lieN W S → W ≤ i * S + S) := by
  have a := (lie_at h1 h2 h3 h4 h5).1 h
  have b := lie_at (i := i + 1) h1 h2 h3 h4 (by omega)
  rw [Int.add_mul, Int.one_mul] at b
  exact ⟨Int.mul_nonneg h5 (by omega), by omega, b.1, fun hn => by
    have : ¬ i * S + S < W := fun hh => hn (b.2 hh)
    omega⟩
/-- The cluster of a cell. -/
def ofP (W S : Int) (c : IC) : Int := (c.2 / S) * lieN W S + c.1 / S
/-- The cells of the cluster at a place. -/
def bxX (S : Int) (p : IC) : Int := p.1 * S
def bxY (S : Int) (p : IC) : Int := p.2 * S
def bxW (W S : Int) (p : IC) : Int := min S (W - p.1 * S)
def bxH (H S : Int) (p : IC) : Int := min S (H - p.2 * S)
/-- Where a cluster lies. -/
def plcP (W S id : Int) : IC := (id % lieN W S, id / lieN W S)
theorem plc_of {W S : Int} {p : IC} (h1 : 0 ≤ p.1) (h2 : p.1 < lieN W S) : plcP W S (p.2 * lieN W S + p.1) = p := by
  have hl : 0 < lieN W S := by omega
  have e : (p.2 * lieN W S + p.1) / lieN W S = p.2 := by
    rw [div_iff hl, Int.add_mul, Int.one_mul]
    omega
  unfold plcP
  rw [e, Int.emod_def, e]
  exact Prod.ext (by show _ - _ = _; rw [Int.mul_comm]; omega) rfl
theorem plc_in {W H S id : Int} (hr : rightP W H S = true) (h0 : 0 ≤ id) (h1 : id < lieN W S * lieN H S) : 0 ≤ (plcP W S id).1 ∧ (plcP W S id).1 < lieN W S ∧ 0 ≤ (plcP W S id).2 ∧ (plcP W S id).2 < lieN H S ∧ (plcP W S id).2 * lieN W S + (plcP W S id).1 = id := by
  obtain ⟨⟨a1, a2, a3, a4⟩, a5, a6⟩ := rightP_iff.1 hr
  obtain ⟨b1, b2, b3, b4⟩ := lie_bd a1 a2 a5 a6
  obtain ⟨c1, c2, c3, c4⟩ := lie_bd a3 a4 a5 a6
  refine ⟨Int.emod_nonneg _ (by omega), Int.emod_lt_of_pos _ (by omega), Int.ediv_nonneg h0 (by omega), (Int.ediv_lt_iff_lt_mul (by omega)).2 (by rw [Int.mul_comm]; exact h1), ?_⟩
  exact Int.ediv_mul_add_emod _ _
/-- A cluster's box has just the cells of the map that are at its place. -/
theorem box_has {W H S : Int} {p c : IC} (hr : rightP W H S = true) (h1 : 0 ≤ p.1) (h2 : p.1 < lieN W S) (h3 : 0 ≤ p.2) (h4 : p.2 < lieN H S) :
    (bxX S p ≤ c.1 ∧ c.1 < bxX S p + bxW W S p ∧ bxY S p ≤ c.2 ∧ c.2 < bxY S p + bxH H S p) ↔ onB W H c = true ∧ (c.1 / S, c.2 / S) = p := by
  obtain ⟨⟨a1, a2, a3, a4⟩, a5, a6⟩ := rightP_iff.1 hr
  have g1 := lie_ge a1 a2 a5 a6 h1 h2
  have g2 := lie_ge a3 a4 a5 a6 h3 h4
  have e1 := div_iff (x := c.1) (i := p.1) (S := S) (by omega)
  have e2 := div_iff (x := c.2) (i := p.2) (S := S) (by omega)
  rw [Int.add_mul, Int.one_mul] at e1 e2
  unfold onB bxX bxY bxW bxH
  rw [inB_iff, Prod.ext_iff, e1, e2]
  show _ ↔ _
  generalize p.1 * S = u at *
  generalize p.2 * S = v at *
  clear e1 e2
  constructor
  · intro h; omega
  · intro h; omega
/-- The place of a cell of the map. -/
theorem cell_plc {W H S : Int} {c : IC} (hr : rightP W H S = true) (hc : onB W H c = true) : 0 ≤ c.1 / S ∧ c.1 / S < lieN W S ∧ 0 ≤ c.2 / S ∧ c.2 / S < lieN H S := by
  obtain ⟨⟨a1, a2, a3, a4⟩, a5, a6⟩ := rightP_iff.1 hr
  obtain ⟨b1, b2, b3, b4, b5, b6, b7, b8⟩ := inB_iff.1 hc
  have k1 := Int.ediv_nonneg (a := c.1) (b := S) b5 (by omega)
  have k2 := Int.ediv_nonneg (a := c.2) (b := S) b7 (by omega)
  have m1 := Int.ediv_mul_le c.1 (b := S) (by omega)
  have m2 := Int.ediv_mul_le c.2 (b := S) (by omega)
  exact ⟨k1, (lie_at a1 a2 a5 a6 k1).2 (by omega), k2, (lie_at a3 a4 a5 a6 k2).2 (by omega)⟩
theorem plc_cell {W H S : Int} {c : IC} (hr : rightP W H S = true) (hc : onB W H c = true) : plcP W S (ofP W S c) = (c.1 / S, c.2 / S) := by
  obtain ⟨k1, k2, k3, k4⟩ := cell_plc hr hc
  exact plc_of (p := (c.1 / S, c.2 / S)) k1 k2
theorem bx_bd {W H S : Int} {p : IC} (hr : rightP W H S = true) (h1 : 0 ≤ p.1) (h2 : p.1 < lieN W S) (h3 : 0 ≤ p.2) (h4 : p.2 < lieN H S) :
    (0 ≤ bxX S p ∧ bxX S p ≤ 255 ∧ 0 ≤ bxY S p ∧ bxY S p ≤ 255) ∧ (1 ≤ bxW W S p ∧ bxW W S p ≤ 16 ∧ 1 ≤ bxH H S p ∧ bxH H S p ≤ 16) ∧ bxX S p + bxW W S p ≤ W ∧ bxY S p + bxH H S p ≤ H := by
  obtain ⟨⟨a1, a2, a3, a4⟩, a5, a6⟩ := rightP_iff.1 hr
  have g1 := lie_ge a1 a2 a5 a6 h1 h2
  have g2 := lie_ge a3 a4 a5 a6 h3 h4
  have i1 := (lie_at a1 a2 a5 a6 h1).1 h2
  have i2 := (lie_at a3 a4 a5 a6 h3).1 h4
  unfold bxX bxY bxW bxH
  omega
end Go.Proofs.YtgbhafadibdmcaaDoor

/- Parts: clusters beside one another, and borders: their mathematics. -/
namespace Go.Proofs.YtgbhafadibdmcaaDoor
open Go.RowKit

end Go.Proofs.YtgbhafadibdmcaaDoor

/- Parts: the reference's clusters of cells: their mathematics. -/
namespace Go.Proofs.YtgbhafadibdmcaaDoor
open Go.RowKit

def cntN (W H S : Int) : Nat := (lieN W S * lieN H S).toNat
theorem cntN_eq {W H S : Int} (hr : rightP W H S = true) : (cntN W H S : Int) = lieN W S * lieN H S ∧ 1 ≤ lieN W S * lieN H S ∧ lieN W S * lieN H S ≤ 16384 := by
  obtain ⟨⟨a1, a2, a3, a4⟩, a5, a6⟩ := rightP_iff.1 hr
  obtain ⟨b1, b2, b3, b4⟩ := lie_bd a1 a2 a5 a6
  obtain ⟨c1, c2, c3, c4⟩ := lie_bd a3 a4 a5 a6
  have h1 := Int.mul_le_mul_of_nonneg_right b1 (show 0 ≤ lieN H S by omega)
  have h2 := Int.mul_le_mul_of_nonneg_right b2 (show 0 ≤ lieN H S by omega)
  rw [Int.one_mul] at h1
  unfold cntN
  omega
end Go.Proofs.YtgbhafadibdmcaaDoor

/- Parts: contracts of what tells no rows. -/
namespace Go.Proofs.YtgbhafadibdmcaaDoor
open Go.RowKit

set_option maxHeartbeats 1600000 in
theorem right_p (W H S : Int) (w : World) :
    Calls Tryd.prog 82 #[.agg #[.int .i64 W, .int .i64 H, .int .i64 S]] w fun e w' => e = .returned (.bool (rightP W H S)) ∧ Below w.heap.size w w' := by
  have hA := bl0 w
  cases hm : mayB W H
  · have e : rightP W H S = false := by unfold rightP; rw [hm]; rfl
    rw [e]
    clear e
    go_enter Tryd.func82, Tryd.ntmps82
    go_wp2_with fail
    refine (may_any _ _ _).mono ?_
    rintro e w1 ⟨rfl, hb⟩
    have hk : Below w.heap.size w w1 := by first | exact hb | exact bl_tr (bl_al (bl0 _) _) hb | exact bl_tr (bl_dr (bl_al (bl0 _) _)) hb | exact bl_tr (bl_al (bl_al (bl0 _) _) _) hb | exact bl_tr (bl_dr (bl_al (bl_al (bl0 _) _) _)) hb | exact bl_tr (bl_al (bl_al (bl_al (bl0 _) _) _) _) hb | exact bl_tr (bl_dr (bl_al (bl_al (bl_al (bl0 _) _) _) _)) hb | exact bl_tr (bl_al (bl_al (bl_al (bl_al (bl0 _) _) _) _) _) hb | exact bl_tr (bl_dr (bl_al (bl_al (bl_al (bl_al (bl0 _) _) _) _) _)) hb | exact bl_tr (bl_al (bl_al (bl_al (bl_al (bl_al (bl0 _) _) _) _) _) _) hb | exact bl_tr (bl_dr (bl_al (bl_al (bl_al (bl_al (bl_al (bl0 _) _) _) _) _) _)) hb | exact bl_tr (bl_al (bl_al (bl_al (bl_al (bl_al (bl_al (bl0 _) _) _) _) _) _) _) hb | exact bl_tr (bl_dr (bl_al (bl_al (bl_al (bl_al (bl_al (bl_al (bl0 _) _) _) _) _) _) _)) hb | exact bl_tr (bl_dr (bl0 _)) hb
    replace hA := bl_tr hA hk
    have f0 := cell_later hb (v := .int .i64 W) (a := ⟨w.heap.size, 0, none⟩) (by simp [go_sem])
    have f1 := cell_later hb (v := .int .i64 H) (a := ⟨w.heap.size, 1, none⟩) (by simp [go_sem])
    have f2 := cell_later hb (v := .int .i64 S) (a := ⟨w.heap.size, 2, none⟩) (by simp [go_sem])
    clear hb hk
    have zf0 := blk_lt f0
    have zf1 := blk_lt f1
    have zf2 := blk_lt f2
    rw [hm]
    go_wp2
    go_ret
    exact ⟨rfl, hA⟩
  · have e : rightP W H S = decide (2 ≤ S ∧ S ≤ 16) := by unfold rightP; rw [hm]; rfl
    obtain ⟨t, ht⟩ : ∃ t, decide (2 ≤ S ∧ S ≤ 16) = t := ⟨_, rfl⟩
    rw [e, ht]
    have hiff : t = true ↔ 2 ≤ S ∧ S ≤ 16 := by rw [← ht, decide_eq_true_eq]
    have HIFF := Lib.hid hiff
    clear e ht hiff
    by_cases h2 : 2 ≤ S
    · by_cases h16 : S ≤ 16
      · obtain rfl : t = true := HIFF.out.2 ⟨h2, h16⟩
        go_enter Tryd.func82, Tryd.ntmps82
        go_wp2_with fail
        refine (may_any _ _ _).mono ?_
        rintro e w1 ⟨rfl, hb⟩
        have hk : Below w.heap.size w w1 := by first | exact hb | exact bl_tr (bl_al (bl0 _) _) hb | exact bl_tr (bl_dr (bl_al (bl0 _) _)) hb | exact bl_tr (bl_al (bl_al (bl0 _) _) _) hb | exact bl_tr (bl_dr (bl_al (bl_al (bl0 _) _) _)) hb | exact bl_tr (bl_al (bl_al (bl_al (bl0 _) _) _) _) hb | exact bl_tr (bl_dr (bl_al (bl_al (bl_al (bl0 _) _) _) _)) hb | exact bl_tr (bl_al (bl_al (bl_al (bl_al (bl0 _) _) _) _) _) hb | exact bl_tr (bl_dr (bl_al (bl_al (bl_al (bl_al (bl0 _) _) _) _) _)) hb | exact bl_tr (bl_al (bl_al (bl_al (bl_al (bl_al (bl0 _) _) _) _) _) _) hb | exact bl_tr (bl_dr (bl_al (bl_al (bl_al (bl_al (bl_al (bl0 _) _) _) _) _) _)) hb | exact bl_tr (bl_al (bl_al (bl_al (bl_al (bl_al (bl_al (bl0 _) _) _) _) _) _) _) hb | exact bl_tr (bl_dr (bl_al (bl_al (bl_al (bl_al (bl_al (bl_al (bl0 _) _) _) _) _) _) _)) hb | exact bl_tr (bl_dr (bl0 _)) hb
        replace hA := bl_tr hA hk
        have f0 := cell_later hb (v := .int .i64 W) (a := ⟨w.heap.size, 0, none⟩) (by simp [go_sem])
        have f1 := cell_later hb (v := .int .i64 H) (a := ⟨w.heap.size, 1, none⟩) (by simp [go_sem])
        have f2 := cell_later hb (v := .int .i64 S) (a := ⟨w.heap.size, 2, none⟩) (by simp [go_sem])
        clear hb hk
        have zf0 := blk_lt f0
        have zf1 := blk_lt f1
        have zf2 := blk_lt f2
        rw [hm]
        go_wp2
        go_ret
        exact ⟨rfl, hA⟩
      · obtain rfl : t = false := by cases t; rfl; exact absurd (HIFF.out.1 rfl).2 h16
        have d16 : decide (S ≤ 16) = false := decide_eq_false h16
        go_enter Tryd.func82, Tryd.ntmps82
        go_wp2_with fail
        refine (may_any _ _ _).mono ?_
        rintro e w1 ⟨rfl, hb⟩
        have hk : Below w.heap.size w w1 := by first | exact hb | exact bl_tr (bl_al (bl0 _) _) hb | exact bl_tr (bl_dr (bl_al (bl0 _) _)) hb | exact bl_tr (bl_al (bl_al (bl0 _) _) _) hb | exact bl_tr (bl_dr (bl_al (bl_al (bl0 _) _) _)) hb | exact bl_tr (bl_al (bl_al (bl_al (bl0 _) _) _) _) hb | exact bl_tr (bl_dr (bl_al (bl_al (bl_al (bl0 _) _) _) _)) hb | exact bl_tr (bl_al (bl_al (bl_al (bl_al (bl0 _) _) _) _) _) hb | exact bl_tr (bl_dr (bl_al (bl_al (bl_al (bl_al (bl0 _) _) _) _) _)) hb | exact bl_tr (bl_al (bl_al (bl_al (bl_al (bl_al (bl0 _) _) _) _) _) _) hb | exact bl_tr (bl_dr (bl_al (bl_al (bl_al (bl_al (bl_al (bl0 _) _) _) _) _) _)) hb | exact bl_tr (bl_al (bl_al (bl_al (bl_al (bl_al (bl_al (bl0 _) _) _) _) _) _) _) hb | exact bl_tr (bl_dr (bl_al (bl_al (bl_al (bl_al (bl_al (bl_al (bl0 _) _) _) _) _) _) _)) hb | exact bl_tr (bl_dr (bl0 _)) hb
        replace hA := bl_tr hA hk
        have f0 := cell_later hb (v := .int .i64 W) (a := ⟨w.heap.size, 0, none⟩) (by simp [go_sem])
        have f1 := cell_later hb (v := .int .i64 H) (a := ⟨w.heap.size, 1, none⟩) (by simp [go_sem])
        have f2 := cell_later hb (v := .int .i64 S) (a := ⟨w.heap.size, 2, none⟩) (by simp [go_sem])
        clear hb hk
        have zf0 := blk_lt f0
        have zf1 := blk_lt f1
        have zf2 := blk_lt f2
        rw [hm]
        go_wp2
        go_ret
        exact ⟨rfl, hA⟩
    · obtain rfl : t = false := by cases t; rfl; exact absurd (HIFF.out.1 rfl).1 h2
      go_enter Tryd.func82, Tryd.ntmps82
      go_wp2_with fail
      refine (may_any _ _ _).mono ?_
      rintro e w1 ⟨rfl, hb⟩
      have hk : Below w.heap.size w w1 := by first | exact hb | exact bl_tr (bl_al (bl0 _) _) hb | exact bl_tr (bl_dr (bl_al (bl0 _) _)) hb | exact bl_tr (bl_al (bl_al (bl0 _) _) _) hb | exact bl_tr (bl_dr (bl_al (bl_al (bl0 _) _) _)) hb | exact bl_tr (bl_al (bl_al (bl_al (bl0 _) _) _) _) hb | exact bl_tr (bl_dr (bl_al (bl_al (bl_al (bl0 _) _) _) _)) hb | exact bl_tr (bl_al (bl_al (bl_al (bl_al (bl0 _) _) _) _) _) hb | exact bl_tr (bl_dr (bl_al (bl_al (bl_al (bl_al (bl0 _) _) _) _) _)) hb | exact bl_tr (bl_al (bl_al (bl_al (bl_al (bl_al (bl0 _) _) _) _) _) _) hb | exact bl_tr (bl_dr (bl_al (bl_al (bl_al (bl_al (bl_al (bl0 _) _) _) _) _) _)) hb | exact bl_tr (bl_al (bl_al (bl_al (bl_al (bl_al (bl_al (bl0 _) _) _) _) _) _) _) hb | exact bl_tr (bl_dr (bl_al (bl_al (bl_al (bl_al (bl_al (bl_al (bl0 _) _) _) _) _) _) _)) hb | exact bl_tr (bl_dr (bl0 _)) hb
      replace hA := bl_tr hA hk
      have f0 := cell_later hb (v := .int .i64 W) (a := ⟨w.heap.size, 0, none⟩) (by simp [go_sem])
      have f1 := cell_later hb (v := .int .i64 H) (a := ⟨w.heap.size, 1, none⟩) (by simp [go_sem])
      have f2 := cell_later hb (v := .int .i64 S) (a := ⟨w.heap.size, 2, none⟩) (by simp [go_sem])
      clear hb hk
      have zf0 := blk_lt f0
      have zf1 := blk_lt f1
      have zf2 := blk_lt f2
      rw [hm]
      go_wp2
      go_ret
      exact ⟨rfl, hA⟩

set_option maxHeartbeats 1600000 in
theorem rright11 (W H S : Int) (w : World) :
    Calls Tryd.prog 41 #[.agg #[.int .i64 W, .int .i64 H], .int .i64 S] w fun e w' => e = .returned (.bool (rightP W H S)) ∧ Below w.heap.size w w' := by
  obtain ⟨t, ht⟩ : ∃ t, rightP W H S = t := ⟨_, rfl⟩
  have hiff : t = true ↔ (1 ≤ W ∧ W ≤ 256 ∧ 1 ≤ H ∧ H ≤ 256) ∧ 2 ≤ S ∧ S ≤ 16 := by rw [← ht, rightP_iff]
  rw [ht]
  have HIFF := Lib.hid hiff
  clear ht hiff
  go_enter Tryd.func41, Tryd.ntmps41
  go_wp2
  all_goals
    go_ret
    have hiff := HIFF.out
    exact ⟨ret_bool (by rw [Bool.eq_iff_iff, hiff]; simp; try omega), bl_al (bl0 _) _⟩

set_option maxHeartbeats 1600000 in
theorem lie_p (W H S : Int) (w : World) (hr : rightP W H S = true) :
    Calls Tryd.prog 83 #[.agg #[.int .i64 W, .int .i64 H, .int .i64 S]] w fun e w' => e = .returned (.agg #[.int .i64 (lieN W S), .int .i64 (lieN H S)]) ∧ Below w.heap.size w w' := by
  obtain ⟨⟨a1, a2, a3, a4⟩, a5, a6⟩ := rightP_iff.1 hr
  have hz : (S == 0) = false := by simp; omega
  have k1 : (W + S - 1).tdiv S = lieN W S := Int.tdiv_eq_ediv_of_nonneg (by omega)
  have k2 : (H + S - 1).tdiv S = lieN H S := Int.tdiv_eq_ediv_of_nonneg (by omega)
  obtain ⟨u, hu⟩ : ∃ u, lieN W S = u := ⟨_, rfl⟩
  obtain ⟨v, hv⟩ : ∃ v, lieN H S = v := ⟨_, rfl⟩
  obtain ⟨b1, b2, b3, b4⟩ := lie_bd a1 a2 a5 a6
  obtain ⟨c1, c2, c3, c4⟩ := lie_bd a3 a4 a5 a6
  have q1 : W + S - 1 = W + S - 1 := rfl
  have w1 : IntKind.i64.wrap (W + S) = W + S := IntWalk.i64_in _ (by omega)
  have w2 : IntKind.i64.wrap (W + S - 1) = W + S - 1 := IntWalk.i64_in _ (by omega)
  have w3 : IntKind.i64.wrap (H + S) = H + S := IntWalk.i64_in _ (by omega)
  have w4 : IntKind.i64.wrap (H + S - 1) = H + S - 1 := IntWalk.i64_in _ (by omega)
  rw [hu] at k1 b1 b2
  rw [hv] at k2 c1 c2
  rw [hu, hv]
  have w5 : IntKind.i64.wrap u = u := IntWalk.i64_in _ (by omega)
  have w6 : IntKind.i64.wrap v = v := IntWalk.i64_in _ (by omega)
  clear hu hv b3 b4 c3 c4 q1 hr
  go_enter Tryd.func83, Tryd.ntmps83
  go_wp2
  go_region
  all_goals go_wp2
  refine bodyPost_ret (v := .agg #[.int .i64 u, .int .i64 v]) (by simp [results, Tryd.results83, go_sem]) rfl ⟨rfl, ?_⟩
  exact bl_dr (bl_al (bl_al (bl0 _) _) _)

theorem lie_at_yes {W H S id : Int} (hr : rightP W H S = true) (h0 : 0 ≤ id) (h1 : id < lieN W S * lieN H S) : atB (lieN W S) (lieN H S) id = true := by
  obtain ⟨⟨a1, a2, a3, a4⟩, a5, a6⟩ := rightP_iff.1 hr
  obtain ⟨b1, b2, b3, b4⟩ := lie_bd a1 a2 a5 a6
  obtain ⟨c1, c2, c3, c4⟩ := lie_bd a3 a4 a5 a6
  rw [atB_iff]
  exact ⟨b1, by omega, c1, by omega, h0, h1⟩
theorem lie_at_no {W H S id : Int} (h : id < 0 ∨ lieN W S * lieN H S ≤ id) : atB (lieN W S) (lieN H S) id = false := by
  cases hh : atB (lieN W S) (lieN H S) id
  · rfl
  · have := atB_iff.1 hh; omega

/-- Where a cluster lies: the error. -/
def plcX (W H S id : Int) : Int := if rightP W H S = true then (if 0 ≤ id ∧ id < lieN W S * lieN H S then 0 else 10) else 1
def plcV (W H S id : Int) : IC := if plcX W H S id = 0 then plcP W S id else (0, 0)
theorem plcX_yes {W H S id : Int} : plcX W H S id = 0 ↔ rightP W H S = true ∧ 0 ≤ id ∧ id < lieN W S * lieN H S := by
  unfold plcX
  by_cases hr : rightP W H S = true
  · rw [if_pos hr]
    by_cases h : 0 ≤ id ∧ id < lieN W S * lieN H S
    · rw [if_pos h]; simp [hr, h]
    · rw [if_neg h]; simp [hr]; omega
  · rw [if_neg hr]; simp [hr]
theorem lie_wide {W H S : Int} (hr : rightP W H S = true) : 1 ≤ lieN W S ∧ lieN W S ≤ 256 ∧ 1 ≤ lieN H S ∧ lieN H S ≤ 256 := by
  obtain ⟨⟨a1, a2, a3, a4⟩, a5, a6⟩ := rightP_iff.1 hr
  obtain ⟨b1, b2, b3, b4⟩ := lie_bd a1 a2 a5 a6
  obtain ⟨c1, c2, c3, c4⟩ := lie_bd a3 a4 a5 a6
  omega

set_option maxHeartbeats 1600000 in
theorem place_p (W H S id : Int) (w : World) :
    Calls Tryd.prog 79 #[.agg #[.int .i64 W, .int .i64 H, .int .i64 S], .int .i64 id] w fun e w' => e = .returned (.tuple #[.agg #[.int .i64 (plcV W H S id).1, .int .i64 (plcV W H S id).2], .int .i64 (plcX W H S id)]) ∧ Below w.heap.size w w' := by
  have hA := bl0 w
  cases hr : rightP W H S
  · have e1 : plcX W H S id = 1 := by unfold plcX; rw [if_neg (by rw [hr]; decide)]
    have e2 : plcV W H S id = (0, 0) := by unfold plcV; rw [if_neg (by rw [e1]; decide)]
    rw [e1, e2]
    clear e1 e2
    go_enter Tryd.func79, Tryd.ntmps79
    go_wp2_with fail
    refine (right_p _ _ _ _).mono ?_
    rintro e w1 ⟨rfl, hb⟩
    have hk : Below w.heap.size w w1 := by first | exact hb | exact bl_tr (bl_al (bl0 _) _) hb | exact bl_tr (bl_dr (bl_al (bl0 _) _)) hb | exact bl_tr (bl_al (bl_al (bl0 _) _) _) hb | exact bl_tr (bl_dr (bl_al (bl_al (bl0 _) _) _)) hb | exact bl_tr (bl_al (bl_al (bl_al (bl0 _) _) _) _) hb | exact bl_tr (bl_dr (bl_al (bl_al (bl_al (bl0 _) _) _) _)) hb | exact bl_tr (bl_al (bl_al (bl_al (bl_al (bl0 _) _) _) _) _) hb | exact bl_tr (bl_dr (bl_al (bl_al (bl_al (bl_al (bl0 _) _) _) _) _)) hb | exact bl_tr (bl_al (bl_al (bl_al (bl_al (bl_al (bl0 _) _) _) _) _) _) hb | exact bl_tr (bl_dr (bl_al (bl_al (bl_al (bl_al (bl_al (bl0 _) _) _) _) _) _)) hb | exact bl_tr (bl_al (bl_al (bl_al (bl_al (bl_al (bl_al (bl0 _) _) _) _) _) _) _) hb | exact bl_tr (bl_dr (bl_al (bl_al (bl_al (bl_al (bl_al (bl_al (bl0 _) _) _) _) _) _) _)) hb | exact bl_tr (bl_dr (bl0 _)) hb
    replace hA := bl_tr hA hk
    have q0 := cell_later hb (v := .int .i64 0) (a := ⟨w.heap.size + 1, 0, none⟩) (by simp [go_sem])
    have q1 := cell_later hb (v := .int .i64 0) (a := ⟨w.heap.size + 1, 1, none⟩) (by simp [go_sem])
    have u0 : w1.frozen? ⟨w.heap.size + 1, 0, none⟩ = false := (hb.frozen (p := ⟨w.heap.size + 1, 0, none⟩) (by simp <;> omega)).trans (by simp [go_sem])
    have u1 : w1.frozen? ⟨w.heap.size + 1, 1, none⟩ = false := (hb.frozen (p := ⟨w.heap.size + 1, 1, none⟩) (by simp <;> omega)).trans (by simp [go_sem])
    clear hb hk
    have zq0 := blk_lt q0
    have zq1 := blk_lt q1
    rw [hr]
    go_wp2
    refine bodyPost_ret (v := .tuple #[.agg #[.int .i64 0, .int .i64 0], .int .i64 1]) (by simp [results, Tryd.results79, go_sem, q0, q1]) rfl ⟨rfl, ?_⟩
    exact bl_st (bl_st hA (by omega) _) (by omega) _
  · by_cases hi : 0 ≤ id ∧ id < lieN W S * lieN H S
    · have e1 : plcX W H S id = 0 := plcX_yes.2 ⟨hr, hi⟩
      have e2 : plcV W H S id = plcP W S id := by unfold plcV; rw [if_pos e1]
      rw [e1, e2]
      have hat := lie_at_yes hr hi.1 hi.2
      have HC := Lib.hid (fun w => at_yes _ _ _ w hat)
      obtain ⟨p, hp⟩ : ∃ p, plcP W S id = p := ⟨_, rfl⟩
      have hp1 : id % lieN W S = p.1 := by rw [← hp]; rfl
      have hp2 : id / lieN W S = p.2 := by rw [← hp]; rfl
      rw [hp1, hp2] at HC
      rw [hp]
      have HR := Lib.hid hr
      clear e1 e2 hat hp hp1 hp2 hi
      go_enter Tryd.func79, Tryd.ntmps79
      go_wp2_with fail
      refine (right_p _ _ _ _).mono ?_
      rintro e w1 ⟨rfl, hb⟩
      have hk : Below w.heap.size w w1 := by first | exact hb | exact bl_tr (bl_al (bl0 _) _) hb | exact bl_tr (bl_dr (bl_al (bl0 _) _)) hb | exact bl_tr (bl_al (bl_al (bl0 _) _) _) hb | exact bl_tr (bl_dr (bl_al (bl_al (bl0 _) _) _)) hb | exact bl_tr (bl_al (bl_al (bl_al (bl0 _) _) _) _) hb | exact bl_tr (bl_dr (bl_al (bl_al (bl_al (bl0 _) _) _) _)) hb | exact bl_tr (bl_al (bl_al (bl_al (bl_al (bl0 _) _) _) _) _) hb | exact bl_tr (bl_dr (bl_al (bl_al (bl_al (bl_al (bl0 _) _) _) _) _)) hb | exact bl_tr (bl_al (bl_al (bl_al (bl_al (bl_al (bl0 _) _) _) _) _) _) hb | exact bl_tr (bl_dr (bl_al (bl_al (bl_al (bl_al (bl_al (bl0 _) _) _) _) _) _)) hb | exact bl_tr (bl_al (bl_al (bl_al (bl_al (bl_al (bl_al (bl0 _) _) _) _) _) _) _) hb | exact bl_tr (bl_dr (bl_al (bl_al (bl_al (bl_al (bl_al (bl_al (bl0 _) _) _) _) _) _) _)) hb | exact bl_tr (bl_dr (bl0 _)) hb
      replace hA := bl_tr hA hk
      have f0 := cell_later hb (v := .int .i64 W) (a := ⟨w.heap.size, 0, none⟩) (by simp [go_sem])
      have f1 := cell_later hb (v := .int .i64 H) (a := ⟨w.heap.size, 1, none⟩) (by simp [go_sem])
      have f2 := cell_later hb (v := .int .i64 S) (a := ⟨w.heap.size, 2, none⟩) (by simp [go_sem])
      have q0 := cell_later hb (v := .int .i64 0) (a := ⟨w.heap.size + 1, 0, none⟩) (by simp [go_sem])
      have q1 := cell_later hb (v := .int .i64 0) (a := ⟨w.heap.size + 1, 1, none⟩) (by simp [go_sem])
      have u0 : w1.frozen? ⟨w.heap.size + 1, 0, none⟩ = false := (hb.frozen (p := ⟨w.heap.size + 1, 0, none⟩) (by simp <;> omega)).trans (by simp [go_sem])
      have u1 : w1.frozen? ⟨w.heap.size + 1, 1, none⟩ = false := (hb.frozen (p := ⟨w.heap.size + 1, 1, none⟩) (by simp <;> omega)).trans (by simp [go_sem])
      clear hb hk
      have zf0 := blk_lt f0
      have zf1 := blk_lt f1
      have zf2 := blk_lt f2
      have zq0 := blk_lt q0
      have zq1 := blk_lt q1
      rw [hr]
      clear hr
      go_wp2_with fail
      refine (lie_p _ _ _ _ HR.out).mono ?_
      rintro e w2 ⟨rfl, hb⟩
      have hk : Below w1.heap.size w1 w2 := by first | exact hb | exact bl_tr (bl_al (bl0 _) _) hb | exact bl_tr (bl_dr (bl_al (bl0 _) _)) hb | exact bl_tr (bl_al (bl_al (bl0 _) _) _) hb | exact bl_tr (bl_dr (bl_al (bl_al (bl0 _) _) _)) hb | exact bl_tr (bl_al (bl_al (bl_al (bl0 _) _) _) _) hb | exact bl_tr (bl_dr (bl_al (bl_al (bl_al (bl0 _) _) _) _)) hb | exact bl_tr (bl_al (bl_al (bl_al (bl_al (bl0 _) _) _) _) _) hb | exact bl_tr (bl_dr (bl_al (bl_al (bl_al (bl_al (bl0 _) _) _) _) _)) hb | exact bl_tr (bl_al (bl_al (bl_al (bl_al (bl_al (bl0 _) _) _) _) _) _) hb | exact bl_tr (bl_dr (bl_al (bl_al (bl_al (bl_al (bl_al (bl0 _) _) _) _) _) _)) hb | exact bl_tr (bl_al (bl_al (bl_al (bl_al (bl_al (bl_al (bl0 _) _) _) _) _) _) _) hb | exact bl_tr (bl_dr (bl_al (bl_al (bl_al (bl_al (bl_al (bl_al (bl0 _) _) _) _) _) _) _)) hb | exact bl_tr (bl_dr (bl0 _)) hb
      replace hA := bl_tr hA hk
      replace u0 := frozen_later hk q0 u0
      replace u1 := frozen_later hk q1 u1
      replace q0 := cell_later hk q0
      replace q1 := cell_later hk q1
      clear hb hk
      have zq0 := blk_lt q0
      have zq1 := blk_lt q1
      go_wp2_with fail
      refine (HC.out _).mono ?_
      rintro e w3 ⟨rfl, hb⟩
      have hk : Below w2.heap.size w2 w3 := by first | exact hb | exact bl_tr (bl_al (bl0 _) _) hb | exact bl_tr (bl_dr (bl_al (bl0 _) _)) hb | exact bl_tr (bl_al (bl_al (bl0 _) _) _) hb | exact bl_tr (bl_dr (bl_al (bl_al (bl0 _) _) _)) hb | exact bl_tr (bl_al (bl_al (bl_al (bl0 _) _) _) _) hb | exact bl_tr (bl_dr (bl_al (bl_al (bl_al (bl0 _) _) _) _)) hb | exact bl_tr (bl_al (bl_al (bl_al (bl_al (bl0 _) _) _) _) _) hb | exact bl_tr (bl_dr (bl_al (bl_al (bl_al (bl_al (bl0 _) _) _) _) _)) hb | exact bl_tr (bl_al (bl_al (bl_al (bl_al (bl_al (bl0 _) _) _) _) _) _) hb | exact bl_tr (bl_dr (bl_al (bl_al (bl_al (bl_al (bl_al (bl0 _) _) _) _) _) _)) hb | exact bl_tr (bl_al (bl_al (bl_al (bl_al (bl_al (bl_al (bl0 _) _) _) _) _) _) _) hb | exact bl_tr (bl_dr (bl_al (bl_al (bl_al (bl_al (bl_al (bl_al (bl0 _) _) _) _) _) _) _)) hb | exact bl_tr (bl_dr (bl0 _)) hb
      replace hA := bl_tr hA hk
      replace u0 := frozen_later hk q0 u0
      replace u1 := frozen_later hk q1 u1
      replace q0 := cell_later hk q0
      replace q1 := cell_later hk q1
      clear hb hk
      have zq0 := blk_lt q0
      have zq1 := blk_lt q1
      go_wp2
      refine bodyPost_ret (v := .tuple #[.agg #[.int .i64 p.1, .int .i64 p.2], .int .i64 0]) (by simp [results, Tryd.results79, go_sem, q0, q1]) rfl ⟨rfl, ?_⟩
      exact bl_st (bl_st hA (by omega) _) (by omega) _
    · have e1 : plcX W H S id = 10 := by unfold plcX; rw [if_pos hr, if_neg hi]
      have e2 : plcV W H S id = (0, 0) := by unfold plcV; rw [if_neg (by rw [e1]; decide)]
      rw [e1, e2]
      have hat := lie_at_no (W := W) (H := H) (S := S) (id := id) (by omega)
      have HC := Lib.hid (fun w => at_no _ _ _ w hat)
      have HR := Lib.hid hr
      clear e1 e2 hat hi
      go_enter Tryd.func79, Tryd.ntmps79
      go_wp2_with fail
      refine (right_p _ _ _ _).mono ?_
      rintro e w1 ⟨rfl, hb⟩
      have hk : Below w.heap.size w w1 := by first | exact hb | exact bl_tr (bl_al (bl0 _) _) hb | exact bl_tr (bl_dr (bl_al (bl0 _) _)) hb | exact bl_tr (bl_al (bl_al (bl0 _) _) _) hb | exact bl_tr (bl_dr (bl_al (bl_al (bl0 _) _) _)) hb | exact bl_tr (bl_al (bl_al (bl_al (bl0 _) _) _) _) hb | exact bl_tr (bl_dr (bl_al (bl_al (bl_al (bl0 _) _) _) _)) hb | exact bl_tr (bl_al (bl_al (bl_al (bl_al (bl0 _) _) _) _) _) hb | exact bl_tr (bl_dr (bl_al (bl_al (bl_al (bl_al (bl0 _) _) _) _) _)) hb | exact bl_tr (bl_al (bl_al (bl_al (bl_al (bl_al (bl0 _) _) _) _) _) _) hb | exact bl_tr (bl_dr (bl_al (bl_al (bl_al (bl_al (bl_al (bl0 _) _) _) _) _) _)) hb | exact bl_tr (bl_al (bl_al (bl_al (bl_al (bl_al (bl_al (bl0 _) _) _) _) _) _) _) hb | exact bl_tr (bl_dr (bl_al (bl_al (bl_al (bl_al (bl_al (bl_al (bl0 _) _) _) _) _) _) _)) hb | exact bl_tr (bl_dr (bl0 _)) hb
      replace hA := bl_tr hA hk
      have f0 := cell_later hb (v := .int .i64 W) (a := ⟨w.heap.size, 0, none⟩) (by simp [go_sem])
      have f1 := cell_later hb (v := .int .i64 H) (a := ⟨w.heap.size, 1, none⟩) (by simp [go_sem])
      have f2 := cell_later hb (v := .int .i64 S) (a := ⟨w.heap.size, 2, none⟩) (by simp [go_sem])
      have q0 := cell_later hb (v := .int .i64 0) (a := ⟨w.heap.size + 1, 0, none⟩) (by simp [go_sem])
      have q1 := cell_later hb (v := .int .i64 0) (a := ⟨w.heap.size + 1, 1, none⟩) (by simp [go_sem])
      have u0 : w1.frozen? ⟨w.heap.size + 1, 0, none⟩ = false := (hb.frozen (p := ⟨w.heap.size + 1, 0, none⟩) (by simp <;> omega)).trans (by simp [go_sem])
      have u1 : w1.frozen? ⟨w.heap.size + 1, 1, none⟩ = false := (hb.frozen (p := ⟨w.heap.size + 1, 1, none⟩) (by simp <;> omega)).trans (by simp [go_sem])
      clear hb hk
      have zf0 := blk_lt f0
      have zf1 := blk_lt f1
      have zf2 := blk_lt f2
      have zq0 := blk_lt q0
      have zq1 := blk_lt q1
      rw [hr]
      clear hr
      go_wp2_with fail
      refine (lie_p _ _ _ _ HR.out).mono ?_
      rintro e w2 ⟨rfl, hb⟩
      have hk : Below w1.heap.size w1 w2 := by first | exact hb | exact bl_tr (bl_al (bl0 _) _) hb | exact bl_tr (bl_dr (bl_al (bl0 _) _)) hb | exact bl_tr (bl_al (bl_al (bl0 _) _) _) hb | exact bl_tr (bl_dr (bl_al (bl_al (bl0 _) _) _)) hb | exact bl_tr (bl_al (bl_al (bl_al (bl0 _) _) _) _) hb | exact bl_tr (bl_dr (bl_al (bl_al (bl_al (bl0 _) _) _) _)) hb | exact bl_tr (bl_al (bl_al (bl_al (bl_al (bl0 _) _) _) _) _) hb | exact bl_tr (bl_dr (bl_al (bl_al (bl_al (bl_al (bl0 _) _) _) _) _)) hb | exact bl_tr (bl_al (bl_al (bl_al (bl_al (bl_al (bl0 _) _) _) _) _) _) hb | exact bl_tr (bl_dr (bl_al (bl_al (bl_al (bl_al (bl_al (bl0 _) _) _) _) _) _)) hb | exact bl_tr (bl_al (bl_al (bl_al (bl_al (bl_al (bl_al (bl0 _) _) _) _) _) _) _) hb | exact bl_tr (bl_dr (bl_al (bl_al (bl_al (bl_al (bl_al (bl_al (bl0 _) _) _) _) _) _) _)) hb | exact bl_tr (bl_dr (bl0 _)) hb
      replace hA := bl_tr hA hk
      replace u0 := frozen_later hk q0 u0
      replace u1 := frozen_later hk q1 u1
      replace q0 := cell_later hk q0
      replace q1 := cell_later hk q1
      clear hb hk
      have zq0 := blk_lt q0
      have zq1 := blk_lt q1
      go_wp2_with fail
      refine (HC.out _).mono ?_
      rintro e w3 ⟨rfl, hb⟩
      have hk : Below w2.heap.size w2 w3 := by first | exact hb | exact bl_tr (bl_al (bl0 _) _) hb | exact bl_tr (bl_dr (bl_al (bl0 _) _)) hb | exact bl_tr (bl_al (bl_al (bl0 _) _) _) hb | exact bl_tr (bl_dr (bl_al (bl_al (bl0 _) _) _)) hb | exact bl_tr (bl_al (bl_al (bl_al (bl0 _) _) _) _) hb | exact bl_tr (bl_dr (bl_al (bl_al (bl_al (bl0 _) _) _) _)) hb | exact bl_tr (bl_al (bl_al (bl_al (bl_al (bl0 _) _) _) _) _) hb | exact bl_tr (bl_dr (bl_al (bl_al (bl_al (bl_al (bl0 _) _) _) _) _)) hb | exact bl_tr (bl_al (bl_al (bl_al (bl_al (bl_al (bl0 _) _) _) _) _) _) hb | exact bl_tr (bl_dr (bl_al (bl_al (bl_al (bl_al (bl_al (bl0 _) _) _) _) _) _)) hb | exact bl_tr (bl_al (bl_al (bl_al (bl_al (bl_al (bl_al (bl0 _) _) _) _) _) _) _) hb | exact bl_tr (bl_dr (bl_al (bl_al (bl_al (bl_al (bl_al (bl_al (bl0 _) _) _) _) _) _) _)) hb | exact bl_tr (bl_dr (bl0 _)) hb
      replace hA := bl_tr hA hk
      replace u0 := frozen_later hk q0 u0
      replace u1 := frozen_later hk q1 u1
      replace q0 := cell_later hk q0
      replace q1 := cell_later hk q1
      clear hb hk
      have zq0 := blk_lt q0
      have zq1 := blk_lt q1
      go_wp2
      refine bodyPost_ret (v := .tuple #[.agg #[.int .i64 0, .int .i64 0], .int .i64 10]) (by simp [results, Tryd.results79, go_sem, q0, q1]) rfl ⟨rfl, ?_⟩
      exact bl_st (bl_st hA (by omega) _) (by omega) _
end Go.Proofs.YtgbhafadibdmcaaDoor

/- Parts: New, Count, a cluster's box, the cluster of a cell. -/
namespace Go.Proofs.YtgbhafadibdmcaaDoor
open Go.RowKit

set_option maxHeartbeats 3200000 in
theorem box_p (W H S : Int) (p : IC) (w : World) (hr : rightP W H S = true) (h1 : 0 ≤ p.1) (h2 : p.1 < lieN W S) (h3 : 0 ≤ p.2) (h4 : p.2 < lieN H S) :
    Calls Tryd.prog 80 #[.agg #[.int .i64 W, .int .i64 H, .int .i64 S], .agg #[.int .i64 p.1, .int .i64 p.2]] w fun e w' => e = .returned (.agg #[.int .i64 (bxX S p), .int .i64 (bxY S p), .int .i64 (bxW W S p), .int .i64 (bxH H S p)]) ∧ Below w.heap.size w w' := by
  obtain ⟨⟨a1, a2, a3, a4⟩, a5, a6⟩ := rightP_iff.1 hr
  obtain ⟨g1, g2, _, _⟩ := lie_ge a1 a2 a5 a6 h1 h2
  obtain ⟨k1, k2, _, _⟩ := lie_ge a3 a4 a5 a6 h3 h4
  obtain ⟨⟨_, _, _, _⟩, ⟨t5, t6, t7, t8⟩, t9, t10⟩ := bx_bd hr h1 h2 h3 h4
  obtain ⟨x, y⟩ := p
  have e3 : bxW W S (x, y) = min S (W - x * S) := rfl
  have e4 : bxH H S (x, y) = min S (H - y * S) := rfl
  rw [e3, e4, show bxX S (x, y) = x * S from rfl, show bxY S (x, y) = y * S from rfl]
  simp only at g1 g2 k1 k2
  have w1 : IntKind.i64.wrap (x * S) = x * S := IntWalk.i64_in _ (by omega)
  have w2 : IntKind.i64.wrap (y * S) = y * S := IntWalk.i64_in _ (by omega)
  obtain ⟨u, hu⟩ : ∃ u, x * S = u := ⟨_, rfl⟩
  obtain ⟨v, hv⟩ : ∃ v, y * S = v := ⟨_, rfl⟩
  rw [hu] at w1 g1 g2 ⊢
  rw [hv] at w2 k1 k2 ⊢
  have w3 : IntKind.i64.wrap (W - u) = W - u := IntWalk.i64_in _ (by omega)
  have w4 : IntKind.i64.wrap (H - v) = H - v := IntWalk.i64_in _ (by omega)
  obtain ⟨m, hm⟩ : ∃ m, min S (W - u) = m := ⟨_, rfl⟩
  obtain ⟨n, hn⟩ : ∃ n, min S (H - v) = n := ⟨_, rfl⟩
  rw [hm, hn]
  have HM := Lib.hid hm
  have HN := Lib.hid hn
  clear t5 t6 t7 t8 t9 t10 h1 h2 h3 h4 e3 e4 hr hm hn
  go_enter Tryd.func80, Tryd.ntmps80
  go_wp2
  go_region
  all_goals go_wp2
  all_goals
    have hm := HM.out
    have hn := HN.out
    refine bodyPost_ret (v := .agg #[.int .i64 u, .int .i64 v, .int .i64 m, .int .i64 n]) (by simp [results, Tryd.results80, go_sem]; omega) rfl ⟨rfl, ?_⟩
    exact bl_dr (bl_al (bl_al (bl_al (bl0 _) _) _) _)

/-- What Box tells. -/
def boxV (W H S id k : Int) : Int := if plcX W H S id = 0 then k else 0
set_option maxHeartbeats 3200000 in
theorem tbox_p (W H S id : Int) (w : World) :
    Calls Tryd.prog 62 #[.agg #[.int .i64 W, .int .i64 H, .int .i64 S], .int .i64 id] w fun e w' => e = .returned (.tuple #[.agg #[.int .i64 (boxV W H S id (bxX S (plcP W S id))), .int .i64 (boxV W H S id (bxY S (plcP W S id))), .int .i64 (boxV W H S id (bxW W S (plcP W S id))), .int .i64 (boxV W H S id (bxH H S (plcP W S id)))], .int .i64 (plcX W H S id)]) ∧ Below w.heap.size w w' := by
  have hA := bl0 w
  by_cases h0 : plcX W H S id = 0
  · have e1 : ∀ k, boxV W H S id k = k := fun k => by unfold boxV; rw [if_pos h0]
    have e2 : plcV W H S id = plcP W S id := by unfold plcV; rw [if_pos h0]
    obtain ⟨hr, i0, i1⟩ := plcX_yes.1 h0
    obtain ⟨p1, p2, p3, p4, _⟩ := plc_in hr i0 i1
    have HC := Lib.hid (fun w => box_p W H S (plcP W S id) w hr p1 p2 p3 p4)
    have HP := Lib.hid (fun w => place_p W H S id w)
    rw [h0, e2] at HP
    rw [e1, e1, e1, e1, h0]
    clear e1 e2 h0 hr i0 i1 p1 p2 p3 p4
    generalize plcP W S id = p at *
    generalize bxX S p = x at *
    generalize bxY S p = y at *
    generalize bxW W S p = u at *
    generalize bxH H S p = v at *
    go_enter Tryd.func62, Tryd.ntmps62
    go_wp2_with fail
    refine (HP.out _).mono ?_
    rintro e w1 ⟨rfl, hb⟩
    have hk : Below w.heap.size w w1 := by first | exact hb | exact bl_tr (bl_al (bl0 _) _) hb | exact bl_tr (bl_dr (bl_al (bl0 _) _)) hb | exact bl_tr (bl_al (bl_al (bl0 _) _) _) hb | exact bl_tr (bl_dr (bl_al (bl_al (bl0 _) _) _)) hb | exact bl_tr (bl_al (bl_al (bl_al (bl0 _) _) _) _) hb | exact bl_tr (bl_dr (bl_al (bl_al (bl_al (bl0 _) _) _) _)) hb | exact bl_tr (bl_al (bl_al (bl_al (bl_al (bl0 _) _) _) _) _) hb | exact bl_tr (bl_dr (bl_al (bl_al (bl_al (bl_al (bl0 _) _) _) _) _)) hb | exact bl_tr (bl_al (bl_al (bl_al (bl_al (bl_al (bl0 _) _) _) _) _) _) hb | exact bl_tr (bl_dr (bl_al (bl_al (bl_al (bl_al (bl_al (bl0 _) _) _) _) _) _)) hb | exact bl_tr (bl_al (bl_al (bl_al (bl_al (bl_al (bl_al (bl0 _) _) _) _) _) _) _) hb | exact bl_tr (bl_dr (bl_al (bl_al (bl_al (bl_al (bl_al (bl_al (bl0 _) _) _) _) _) _) _)) hb | exact bl_tr (bl_dr (bl0 _)) hb
    replace hA := bl_tr hA hk
    have f0 := cell_later hb (v := .int .i64 W) (a := ⟨w.heap.size, 0, none⟩) (by simp [go_sem])
    have f1 := cell_later hb (v := .int .i64 H) (a := ⟨w.heap.size, 1, none⟩) (by simp [go_sem])
    have f2 := cell_later hb (v := .int .i64 S) (a := ⟨w.heap.size, 2, none⟩) (by simp [go_sem])
    have q0 := cell_later hb (v := .int .i64 0) (a := ⟨w.heap.size + 1, 0, none⟩) (by simp [go_sem])
    have q1 := cell_later hb (v := .int .i64 0) (a := ⟨w.heap.size + 1, 1, none⟩) (by simp [go_sem])
    have q2 := cell_later hb (v := .int .i64 0) (a := ⟨w.heap.size + 1, 2, none⟩) (by simp [go_sem])
    have q3 := cell_later hb (v := .int .i64 0) (a := ⟨w.heap.size + 1, 3, none⟩) (by simp [go_sem])
    have u0 : w1.frozen? ⟨w.heap.size + 1, 0, none⟩ = false := (hb.frozen (p := ⟨w.heap.size + 1, 0, none⟩) (by simp <;> omega)).trans (by simp [go_sem])
    have u1 : w1.frozen? ⟨w.heap.size + 1, 1, none⟩ = false := (hb.frozen (p := ⟨w.heap.size + 1, 1, none⟩) (by simp <;> omega)).trans (by simp [go_sem])
    have u2 : w1.frozen? ⟨w.heap.size + 1, 2, none⟩ = false := (hb.frozen (p := ⟨w.heap.size + 1, 2, none⟩) (by simp <;> omega)).trans (by simp [go_sem])
    have u3 : w1.frozen? ⟨w.heap.size + 1, 3, none⟩ = false := (hb.frozen (p := ⟨w.heap.size + 1, 3, none⟩) (by simp <;> omega)).trans (by simp [go_sem])
    clear hb hk
    have zf0 := blk_lt f0
    have zf1 := blk_lt f1
    have zf2 := blk_lt f2
    have zq0 := blk_lt q0
    have zq1 := blk_lt q1
    have zq2 := blk_lt q2
    have zq3 := blk_lt q3
    go_wp2_with fail
    refine (HC.out _).mono ?_
    rintro e w2 ⟨rfl, hb⟩
    have hk : Below w1.heap.size w1 w2 := by first | exact hb | exact bl_tr (bl_al (bl0 _) _) hb | exact bl_tr (bl_dr (bl_al (bl0 _) _)) hb | exact bl_tr (bl_al (bl_al (bl0 _) _) _) hb | exact bl_tr (bl_dr (bl_al (bl_al (bl0 _) _) _)) hb | exact bl_tr (bl_al (bl_al (bl_al (bl0 _) _) _) _) hb | exact bl_tr (bl_dr (bl_al (bl_al (bl_al (bl0 _) _) _) _)) hb | exact bl_tr (bl_al (bl_al (bl_al (bl_al (bl0 _) _) _) _) _) hb | exact bl_tr (bl_dr (bl_al (bl_al (bl_al (bl_al (bl0 _) _) _) _) _)) hb | exact bl_tr (bl_al (bl_al (bl_al (bl_al (bl_al (bl0 _) _) _) _) _) _) hb | exact bl_tr (bl_dr (bl_al (bl_al (bl_al (bl_al (bl_al (bl0 _) _) _) _) _) _)) hb | exact bl_tr (bl_al (bl_al (bl_al (bl_al (bl_al (bl_al (bl0 _) _) _) _) _) _) _) hb | exact bl_tr (bl_dr (bl_al (bl_al (bl_al (bl_al (bl_al (bl_al (bl0 _) _) _) _) _) _) _)) hb | exact bl_tr (bl_dr (bl0 _)) hb
    replace hA := bl_tr hA hk
    replace u0 := frozen_later hk q0 u0
    replace u1 := frozen_later hk q1 u1
    replace u2 := frozen_later hk q2 u2
    replace u3 := frozen_later hk q3 u3
    replace q0 := cell_later hk q0
    replace q1 := cell_later hk q1
    replace q2 := cell_later hk q2
    replace q3 := cell_later hk q3
    clear hb hk
    have zq0 := blk_lt q0
    have zq1 := blk_lt q1
    have zq2 := blk_lt q2
    have zq3 := blk_lt q3
    go_wp2
    refine bodyPost_ret (v := .tuple #[.agg #[.int .i64 x, .int .i64 y, .int .i64 u, .int .i64 v], .int .i64 0]) (by simp [results, Tryd.results62, go_sem, q0, q1, q2, q3]) rfl ⟨rfl, ?_⟩
    exact bl_st (bl_st (bl_st (bl_st hA (by omega) _) (by omega) _) (by omega) _) (by omega) _
  · have e1 : ∀ k, boxV W H S id k = 0 := fun k => by unfold boxV; rw [if_neg h0]
    have e2 : plcV W H S id = (0, 0) := by unfold plcV; rw [if_neg h0]
    have HP := Lib.hid (fun w => place_p W H S id w)
    rw [e2] at HP
    rw [e1, e1, e1, e1]
    obtain ⟨x, hx⟩ : ∃ x, plcX W H S id = x := ⟨_, rfl⟩
    rw [hx] at HP h0 ⊢
    have h1 : (x != 0) = true := by rw [bne_iff_ne]; exact h0
    clear e1 e2 h0 hx
    go_enter Tryd.func62, Tryd.ntmps62
    go_wp2_with fail
    refine (HP.out _).mono ?_
    rintro e w1 ⟨rfl, hb⟩
    have hk : Below w.heap.size w w1 := by first | exact hb | exact bl_tr (bl_al (bl0 _) _) hb | exact bl_tr (bl_dr (bl_al (bl0 _) _)) hb | exact bl_tr (bl_al (bl_al (bl0 _) _) _) hb | exact bl_tr (bl_dr (bl_al (bl_al (bl0 _) _) _)) hb | exact bl_tr (bl_al (bl_al (bl_al (bl0 _) _) _) _) hb | exact bl_tr (bl_dr (bl_al (bl_al (bl_al (bl0 _) _) _) _)) hb | exact bl_tr (bl_al (bl_al (bl_al (bl_al (bl0 _) _) _) _) _) hb | exact bl_tr (bl_dr (bl_al (bl_al (bl_al (bl_al (bl0 _) _) _) _) _)) hb | exact bl_tr (bl_al (bl_al (bl_al (bl_al (bl_al (bl0 _) _) _) _) _) _) hb | exact bl_tr (bl_dr (bl_al (bl_al (bl_al (bl_al (bl_al (bl0 _) _) _) _) _) _)) hb | exact bl_tr (bl_al (bl_al (bl_al (bl_al (bl_al (bl_al (bl0 _) _) _) _) _) _) _) hb | exact bl_tr (bl_dr (bl_al (bl_al (bl_al (bl_al (bl_al (bl_al (bl0 _) _) _) _) _) _) _)) hb | exact bl_tr (bl_dr (bl0 _)) hb
    replace hA := bl_tr hA hk
    have q0 := cell_later hb (v := .int .i64 0) (a := ⟨w.heap.size + 1, 0, none⟩) (by simp [go_sem])
    have q1 := cell_later hb (v := .int .i64 0) (a := ⟨w.heap.size + 1, 1, none⟩) (by simp [go_sem])
    have q2 := cell_later hb (v := .int .i64 0) (a := ⟨w.heap.size + 1, 2, none⟩) (by simp [go_sem])
    have q3 := cell_later hb (v := .int .i64 0) (a := ⟨w.heap.size + 1, 3, none⟩) (by simp [go_sem])
    have u0 : w1.frozen? ⟨w.heap.size + 1, 0, none⟩ = false := (hb.frozen (p := ⟨w.heap.size + 1, 0, none⟩) (by simp <;> omega)).trans (by simp [go_sem])
    have u1 : w1.frozen? ⟨w.heap.size + 1, 1, none⟩ = false := (hb.frozen (p := ⟨w.heap.size + 1, 1, none⟩) (by simp <;> omega)).trans (by simp [go_sem])
    have u2 : w1.frozen? ⟨w.heap.size + 1, 2, none⟩ = false := (hb.frozen (p := ⟨w.heap.size + 1, 2, none⟩) (by simp <;> omega)).trans (by simp [go_sem])
    have u3 : w1.frozen? ⟨w.heap.size + 1, 3, none⟩ = false := (hb.frozen (p := ⟨w.heap.size + 1, 3, none⟩) (by simp <;> omega)).trans (by simp [go_sem])
    clear hb hk
    have zq0 := blk_lt q0
    have zq1 := blk_lt q1
    have zq2 := blk_lt q2
    have zq3 := blk_lt q3
    go_wp2
    refine bodyPost_ret (v := .tuple #[.agg #[.int .i64 0, .int .i64 0, .int .i64 0, .int .i64 0], .int .i64 x]) (by simp [results, Tryd.results62, go_sem, zq0, q0, q1, q2, q3]) rfl ⟨rfl, ?_⟩
    exact bl_al (bl_st (bl_st (bl_st (bl_st hA (by omega) _) (by omega) _) (by omega) _) (by omega) _) _

/-- What Of tells. -/
def ofX (W H S : Int) (c : IC) : Int := if rightP W H S = true then (if onB W H c = true then 0 else 10) else 1
def ofV (W H S : Int) (c : IC) : Int := if ofX W H S c = 0 then ofP W S c else 0
theorem ofX_yes {W H S : Int} {c : IC} : ofX W H S c = 0 ↔ rightP W H S = true ∧ onB W H c = true := by
  unfold ofX
  by_cases hr : rightP W H S = true
  · rw [if_pos hr]
    by_cases h : onB W H c = true
    · rw [if_pos h]; simp [hr, h]
    · rw [if_neg h]; simp [h]
  · rw [if_neg hr]; simp [hr]
set_option maxRecDepth 100000 in
set_option maxHeartbeats 3200000 in
theorem of_p (W H S : Int) (c : IC) (w : World) :
    Calls Tryd.prog 69 #[.agg #[.int .i64 W, .int .i64 H, .int .i64 S], .agg #[.int .i64 c.1, .int .i64 c.2]] w fun e w' => e = .returned (.tuple #[.int .i64 (ofV W H S c), .int .i64 (ofX W H S c)]) ∧ Below w.heap.size w w' := by
  have hA := bl0 w
  cases hr : rightP W H S
  · have e1 : ofX W H S c = 1 := by unfold ofX; rw [if_neg (by rw [hr]; decide)]
    have e2 : ofV W H S c = 0 := by unfold ofV; rw [if_neg (by rw [e1]; decide)]
    rw [e1, e2]
    clear e1 e2
    go_enter Tryd.func69, Tryd.ntmps69
    go_wp2_with fail
    refine (right_p _ _ _ _).mono ?_
    rintro e w1 ⟨rfl, hb⟩
    have hk : Below w.heap.size w w1 := by first | exact hb | exact bl_tr (bl_al (bl0 _) _) hb | exact bl_tr (bl_dr (bl_al (bl0 _) _)) hb | exact bl_tr (bl_al (bl_al (bl0 _) _) _) hb | exact bl_tr (bl_dr (bl_al (bl_al (bl0 _) _) _)) hb | exact bl_tr (bl_al (bl_al (bl_al (bl0 _) _) _) _) hb | exact bl_tr (bl_dr (bl_al (bl_al (bl_al (bl0 _) _) _) _)) hb | exact bl_tr (bl_al (bl_al (bl_al (bl_al (bl0 _) _) _) _) _) hb | exact bl_tr (bl_dr (bl_al (bl_al (bl_al (bl_al (bl0 _) _) _) _) _)) hb | exact bl_tr (bl_al (bl_al (bl_al (bl_al (bl_al (bl0 _) _) _) _) _) _) hb | exact bl_tr (bl_dr (bl_al (bl_al (bl_al (bl_al (bl_al (bl0 _) _) _) _) _) _)) hb | exact bl_tr (bl_al (bl_al (bl_al (bl_al (bl_al (bl_al (bl0 _) _) _) _) _) _) _) hb | exact bl_tr (bl_dr (bl_al (bl_al (bl_al (bl_al (bl_al (bl_al (bl0 _) _) _) _) _) _) _)) hb | exact bl_tr (bl_dr (bl0 _)) hb
    replace hA := bl_tr hA hk
    clear hb hk
    rw [hr]
    go_wp2
    go_ret2
    exact ⟨rfl, hA⟩
  · cases hc : onB W H c
    · have e1 : ofX W H S c = 10 := by unfold ofX; rw [if_pos hr, if_neg (by rw [hc]; decide)]
      have e2 : ofV W H S c = 0 := by unfold ofV; rw [if_neg (by rw [e1]; decide)]
      rw [e1, e2]
      clear e1 e2
      have HC := Lib.hid (fun w => in_any W H c.1 c.2 w)
      rw [show inB W H c.1 c.2 = false from hc] at HC
      clear hc
      go_enter Tryd.func69, Tryd.ntmps69
      go_wp2_with fail
      refine (right_p _ _ _ _).mono ?_
      rintro e w1 ⟨rfl, hb⟩
      have hk : Below w.heap.size w w1 := by first | exact hb | exact bl_tr (bl_al (bl0 _) _) hb | exact bl_tr (bl_dr (bl_al (bl0 _) _)) hb | exact bl_tr (bl_al (bl_al (bl0 _) _) _) hb | exact bl_tr (bl_dr (bl_al (bl_al (bl0 _) _) _)) hb | exact bl_tr (bl_al (bl_al (bl_al (bl0 _) _) _) _) hb | exact bl_tr (bl_dr (bl_al (bl_al (bl_al (bl0 _) _) _) _)) hb | exact bl_tr (bl_al (bl_al (bl_al (bl_al (bl0 _) _) _) _) _) hb | exact bl_tr (bl_dr (bl_al (bl_al (bl_al (bl_al (bl0 _) _) _) _) _)) hb | exact bl_tr (bl_al (bl_al (bl_al (bl_al (bl_al (bl0 _) _) _) _) _) _) hb | exact bl_tr (bl_dr (bl_al (bl_al (bl_al (bl_al (bl_al (bl0 _) _) _) _) _) _)) hb | exact bl_tr (bl_al (bl_al (bl_al (bl_al (bl_al (bl_al (bl0 _) _) _) _) _) _) _) hb | exact bl_tr (bl_dr (bl_al (bl_al (bl_al (bl_al (bl_al (bl_al (bl0 _) _) _) _) _) _) _)) hb | exact bl_tr (bl_dr (bl0 _)) hb
      replace hA := bl_tr hA hk
      have f0 := cell_later hb (v := .int .i64 W) (a := ⟨w.heap.size, 0, none⟩) (by simp [go_sem])
      have f1 := cell_later hb (v := .int .i64 H) (a := ⟨w.heap.size, 1, none⟩) (by simp [go_sem])
      have f2 := cell_later hb (v := .int .i64 S) (a := ⟨w.heap.size, 2, none⟩) (by simp [go_sem])
      have c0 := cell_later hb (v := .int .i64 c.1) (a := ⟨w.heap.size + 1, 0, none⟩) (by simp [go_sem])
      have c1 := cell_later hb (v := .int .i64 c.2) (a := ⟨w.heap.size + 1, 1, none⟩) (by simp [go_sem])
      clear hb hk
      have zf0 := blk_lt f0
      have zf1 := blk_lt f1
      have zf2 := blk_lt f2
      have zc0 := blk_lt c0
      have zc1 := blk_lt c1
      rw [hr]
      go_wp2_with fail
      refine (HC.out _).mono ?_
      rintro e w2 ⟨rfl, hb⟩
      have hk : Below w1.heap.size w1 w2 := by first | exact hb | exact bl_tr (bl_al (bl0 _) _) hb | exact bl_tr (bl_dr (bl_al (bl0 _) _)) hb | exact bl_tr (bl_al (bl_al (bl0 _) _) _) hb | exact bl_tr (bl_dr (bl_al (bl_al (bl0 _) _) _)) hb | exact bl_tr (bl_al (bl_al (bl_al (bl0 _) _) _) _) hb | exact bl_tr (bl_dr (bl_al (bl_al (bl_al (bl0 _) _) _) _)) hb | exact bl_tr (bl_al (bl_al (bl_al (bl_al (bl0 _) _) _) _) _) hb | exact bl_tr (bl_dr (bl_al (bl_al (bl_al (bl_al (bl0 _) _) _) _) _)) hb | exact bl_tr (bl_al (bl_al (bl_al (bl_al (bl_al (bl0 _) _) _) _) _) _) hb | exact bl_tr (bl_dr (bl_al (bl_al (bl_al (bl_al (bl_al (bl0 _) _) _) _) _) _)) hb | exact bl_tr (bl_al (bl_al (bl_al (bl_al (bl_al (bl_al (bl0 _) _) _) _) _) _) _) hb | exact bl_tr (bl_dr (bl_al (bl_al (bl_al (bl_al (bl_al (bl_al (bl0 _) _) _) _) _) _) _)) hb | exact bl_tr (bl_dr (bl0 _)) hb
      replace hA := bl_tr hA hk
      clear hb hk
      go_wp2
      go_ret2
      exact ⟨rfl, hA⟩
    · have e1 : ofX W H S c = 0 := ofX_yes.2 ⟨hr, hc⟩
      have e2 : ofV W H S c = ofP W S c := by unfold ofV; rw [if_pos e1]
      rw [e1, e2]
      clear e1 e2
      obtain ⟨⟨a1, a2, a3, a4⟩, a5, a6⟩ := rightP_iff.1 hr
      obtain ⟨k1, k2, k3, k4⟩ := cell_plc hr hc
      obtain ⟨l1, l2, l3, l4⟩ := lie_wide hr
      obtain ⟨b1, b2, b3, b4, b5, b6, b7, b8⟩ := inB_iff.1 hc
      have hix : inB (lieN W S) (lieN H S) (c.1 / S) (c.2 / S) = true := inB_iff.2 (by omega)
      have HI := Lib.hid (fun w => index_yes (lieN W S) (lieN H S) (c.1 / S) (c.2 / S) w hix)
      have HL := Lib.hid (fun w => lie_p W H S w hr)
      rw [show c.2 / S * lieN W S + c.1 / S = ofP W S c from rfl] at HI
      have HC := Lib.hid (fun w => in_any W H c.1 c.2 w)
      rw [show inB W H c.1 c.2 = true from hc] at HC
      have hz : (S == 0) = false := by rw [beq_eq_false_iff_ne]; omega
      have hz2 : S ≠ 0 := by omega
      have d1 : c.1.tdiv S = c.1 / S := Int.tdiv_eq_ediv_of_nonneg b5
      have d2 : c.2.tdiv S = c.2 / S := Int.tdiv_eq_ediv_of_nonneg b7
      have w1' : IntKind.i64.wrap (c.1 / S) = c.1 / S := IntWalk.i64_in _ (by omega)
      have w2' : IntKind.i64.wrap (c.2 / S) = c.2 / S := IntWalk.i64_in _ (by omega)
      generalize ofP W S c = o at *
      generalize lieN W S = lw at *
      generalize lieN H S = lh at *
      obtain ⟨x, y⟩ := c
      simp only at *
      obtain ⟨p, hp⟩ : ∃ p, x / S = p := ⟨_, rfl⟩
      obtain ⟨q, hq⟩ : ∃ q, y / S = q := ⟨_, rfl⟩
      rw [hp] at d1 w1' HI
      rw [hq] at d2 w2' HI
      clear hc hix k1 k2 k3 k4 l1 l2 l3 l4
      go_enter Tryd.func69, Tryd.ntmps69
      go_wp2_with fail
      refine (right_p _ _ _ _).mono ?_
      rintro e w1 ⟨rfl, hb⟩
      have hk : Below w.heap.size w w1 := by first | exact hb | exact bl_tr (bl_al (bl0 _) _) hb | exact bl_tr (bl_dr (bl_al (bl0 _) _)) hb | exact bl_tr (bl_al (bl_al (bl0 _) _) _) hb | exact bl_tr (bl_dr (bl_al (bl_al (bl0 _) _) _)) hb | exact bl_tr (bl_al (bl_al (bl_al (bl0 _) _) _) _) hb | exact bl_tr (bl_dr (bl_al (bl_al (bl_al (bl0 _) _) _) _)) hb | exact bl_tr (bl_al (bl_al (bl_al (bl_al (bl0 _) _) _) _) _) hb | exact bl_tr (bl_dr (bl_al (bl_al (bl_al (bl_al (bl0 _) _) _) _) _)) hb | exact bl_tr (bl_al (bl_al (bl_al (bl_al (bl_al (bl0 _) _) _) _) _) _) hb | exact bl_tr (bl_dr (bl_al (bl_al (bl_al (bl_al (bl_al (bl0 _) _) _) _) _) _)) hb | exact bl_tr (bl_al (bl_al (bl_al (bl_al (bl_al (bl_al (bl0 _) _) _) _) _) _) _) hb | exact bl_tr (bl_dr (bl_al (bl_al (bl_al (bl_al (bl_al (bl_al (bl0 _) _) _) _) _) _) _)) hb | exact bl_tr (bl_dr (bl0 _)) hb
      replace hA := bl_tr hA hk
      have f0 := cell_later hb (v := .int .i64 W) (a := ⟨w.heap.size, 0, none⟩) (by simp [go_sem])
      have f1 := cell_later hb (v := .int .i64 H) (a := ⟨w.heap.size, 1, none⟩) (by simp [go_sem])
      have f2 := cell_later hb (v := .int .i64 S) (a := ⟨w.heap.size, 2, none⟩) (by simp [go_sem])
      have c0 := cell_later hb (v := .int .i64 x) (a := ⟨w.heap.size + 1, 0, none⟩) (by simp [go_sem])
      have c1 := cell_later hb (v := .int .i64 y) (a := ⟨w.heap.size + 1, 1, none⟩) (by simp [go_sem])
      clear hb hk
      have zf0 := blk_lt f0
      have zf1 := blk_lt f1
      have zf2 := blk_lt f2
      have zc0 := blk_lt c0
      have zc1 := blk_lt c1
      rw [hr]
      clear hr
      go_wp2_with fail
      refine (HC.out _).mono ?_
      rintro e w2 ⟨rfl, hb⟩
      have hk : Below w1.heap.size w1 w2 := by first | exact hb | exact bl_tr (bl_al (bl0 _) _) hb | exact bl_tr (bl_dr (bl_al (bl0 _) _)) hb | exact bl_tr (bl_al (bl_al (bl0 _) _) _) hb | exact bl_tr (bl_dr (bl_al (bl_al (bl0 _) _) _)) hb | exact bl_tr (bl_al (bl_al (bl_al (bl0 _) _) _) _) hb | exact bl_tr (bl_dr (bl_al (bl_al (bl_al (bl0 _) _) _) _)) hb | exact bl_tr (bl_al (bl_al (bl_al (bl_al (bl0 _) _) _) _) _) hb | exact bl_tr (bl_dr (bl_al (bl_al (bl_al (bl_al (bl0 _) _) _) _) _)) hb | exact bl_tr (bl_al (bl_al (bl_al (bl_al (bl_al (bl0 _) _) _) _) _) _) hb | exact bl_tr (bl_dr (bl_al (bl_al (bl_al (bl_al (bl_al (bl0 _) _) _) _) _) _)) hb | exact bl_tr (bl_al (bl_al (bl_al (bl_al (bl_al (bl_al (bl0 _) _) _) _) _) _) _) hb | exact bl_tr (bl_dr (bl_al (bl_al (bl_al (bl_al (bl_al (bl_al (bl0 _) _) _) _) _) _) _)) hb | exact bl_tr (bl_dr (bl0 _)) hb
      replace hA := bl_tr hA hk
      replace f0 := cell_later hk f0
      replace f1 := cell_later hk f1
      replace f2 := cell_later hk f2
      replace c0 := cell_later hk c0
      replace c1 := cell_later hk c1
      clear hb hk
      have zf0 := blk_lt f0
      have zf1 := blk_lt f1
      have zf2 := blk_lt f2
      have zc0 := blk_lt c0
      have zc1 := blk_lt c1
      go_upto_region 5 with fail
      have hB := bl_dr (bl0 w2)
      go_region_held3 (fun w' => w'.cell? ⟨w.heap.size, 0, none⟩ = some (.int .i64 W) ∧ w'.cell? ⟨w.heap.size, 1, none⟩ = some (.int .i64 H) ∧ w'.cell? ⟨w.heap.size, 2, none⟩ = some (.int .i64 S) ∧ w'.cell? ⟨w.heap.size + 1, 0, none⟩ = some (.int .i64 x) ∧ w'.cell? ⟨w.heap.size + 1, 1, none⟩ = some (.int .i64 y))
        (exact ⟨cell_later hB f0, cell_later hB f1, cell_later hB f2, cell_later hB c0, cell_later hB c1⟩)
        (first
        | (go_at_call 83; (with_reducible refine (HL.out _).mono ?_); rintro e w9 ⟨rfl, hb9⟩; replace hB := bl_tr hB hb9)
        | (go_at_call 57; (with_reducible refine (HI.out _).mono ?_); rintro e w8 ⟨rfl, hb8⟩; replace hB := bl_tr hB hb8))
      all_goals go_wp2
      all_goals go_ret2
      all_goals exact ⟨rfl, bl_tr hA hB⟩
end Go.Proofs.YtgbhafadibdmcaaDoor

/- Tables within a cluster: the program's small functions. -/
namespace Go.Proofs.YtgbhafadibdmcaaDoor
open Go.RowKit

set_option maxHeartbeats 800000 in
theorem within_i (X Y U V : Int) (c : IC) (w : World) (h1 : IntKind.i64.wrap (c.1 - X) = c.1 - X) (h2 : IntKind.i64.wrap (c.2 - Y) = c.2 - Y) :
    Calls Tryd.prog 66 #[.agg #[.int .i64 X, .int .i64 Y, .int .i64 U, .int .i64 V], .agg #[.int .i64 c.1, .int .i64 c.2]] w fun e w' => e = .returned (.agg #[.int .i64 (relC X Y c).1, .int .i64 (relC X Y c).2]) ∧ Below w.heap.size w w' := by
  have e1 : (relC X Y c).1 = c.1 - X := rfl
  have e2 : (relC X Y c).2 = c.2 - Y := rfl
  rw [e1, e2]
  clear e1 e2
  generalize c.1 = x at *
  generalize c.2 = y at *
  obtain ⟨m, hm⟩ : ∃ m, x - X = m := ⟨_, rfl⟩
  obtain ⟨n, hn⟩ : ∃ n, y - Y = n := ⟨_, rfl⟩
  rw [hm] at h1 ⊢
  rw [hn] at h2 ⊢
  have h1' : IntKind.i64.wrap (x - X) = m := by rw [hm]; exact h1
  have h2' : IntKind.i64.wrap (y - Y) = n := by rw [hn]; exact h2
  clear hm hn h1 h2
  go_enter Tryd.func66, Tryd.ntmps66
  go_wp2
  refine bodyPost_ret (v := .agg #[.int .i64 m, .int .i64 n]) (by simp [results, Tryd.results66, go_sem]) rfl ⟨rfl, ?_⟩
  first
    | exact bl_al (bl_al (bl_al (bl0 _) _) _) _
    | exact bl_st (bl_st (bl_al (bl_al (bl_al (bl0 _) _) _) _) (by simp; omega) _) (by simp; omega) _

set_option maxHeartbeats 800000 in
theorem number_i (A B : Int) (a : Option Addr) (n cap : Nat) (c : IC) (k : Int) (w : World) (h1 : IntKind.i64.wrap (c.2 * A) = c.2 * A) (h2 : IntKind.i64.wrap (c.2 * A + c.1) = k) :
    Calls Tryd.prog 67 #[.agg #[.int .i64 A, .int .i64 B, .slice a n cap], .agg #[.int .i64 c.1, .int .i64 c.2]] w fun e w' => e = .returned (.int .i64 k) ∧ Below w.heap.size w w' := by
  go_enter Tryd.func67, Tryd.ntmps67
  go_wp2
  go_ret
  exact ⟨rfl, bl_al (bl_al (bl0 _) _) _⟩
theorem num_on {A B : Int} {c : IC} (h : onB A B c = true) : IntKind.i64.wrap (c.2 * A) = c.2 * A ∧ IntKind.i64.wrap (c.2 * A + c.1) = (numN A c : Int) := by
  obtain ⟨e1, e2⟩ := numN_int h
  obtain ⟨h1, h2, h3, h4, h5, h6, h7, h8⟩ := inB_iff.1 h
  obtain ⟨m1, m2⟩ := mul_bd h7 (by omega) h1 h2
  exact ⟨IntWalk.i64_in _ (by omega), by rw [e1]; exact IntWalk.i64_in _ (by omega)⟩

set_option maxRecDepth 100000 in
set_option maxHeartbeats 2000000 in
theorem cost_i (A B : Int) (a : Option Addr) (cap : Nat) (zs : List Int) (c : IC) (w : World) (hr : RowH w a zs) (hin : AllH zs) (hi : onB A B c = true) (hn : (zs.length : Int) = A * B) :
    Calls Tryd.prog 48 #[.agg #[.int .i64 A, .int .i64 B, .slice a zs.length cap], .agg #[.int .i64 c.1, .int .i64 c.2]] w fun e w' => e = .returned (.int .u64 (zs.getD (numN A c) 0)) ∧ Below w.heap.size w w' := by
  obtain ⟨n1, n2⟩ := numN_int hi
  obtain ⟨q1, q2⟩ := num_on hi
  obtain ⟨z1, z2⟩ := getD_in hin (numN A c)
  have hl : numN A c < zs.length := by omega
  have hj0 : (0 : Int) ≤ (numN A c : Int) := by omega
  have hl2 : (numN A c : Int) < (zs.length : Int) := by omega
  have H1 := Lib.hid (fun w => number_i A B a zs.length cap c (numN A c : Int) w q1 q2)
  obtain ⟨gb, go, rfl, q⟩ := hr.cell hl
  rw [show zs[numN A c] = zs.getD (numN A c) 0 by rw [List.getD_eq_getElem?_getD, List.getElem?_eq_getElem hl]; rfl] at q
  generalize zs.getD (numN A c) 0 = z at *
  have e3 : IntKind.u64.wrap z = z := by rw [IntKind.wrap_u64]; omega
  generalize numN A c = j at *
  clear hr hi hn z1 z2 hl n1 n2 q1 q2
  go_enter Tryd.func48, Tryd.ntmps48
  go_upto_region 1 with fail
  obtain ⟨w1, hw1⟩ : ∃ w1, ((w.alloc (.cells #[.int .i64 A, .int .i64 B, .slice (some ⟨gb, go, none⟩) zs.length cap] 26)).alloc (.cells #[.int .i64 c.1, .int .i64 c.2] 30)) = w1 := ⟨_, rfl⟩
  have h0 : w1.cell? ⟨w.heap.size, 0, none⟩ = some (.int .i64 A) ∧ w1.cell? ⟨w.heap.size, 1, none⟩ = some (.int .i64 B) ∧ w1.cell? ⟨w.heap.size, 2, none⟩ = some (.slice (some ⟨gb, go, none⟩) zs.length cap) ∧ w1.cell? ⟨w.heap.size + 1, 0, none⟩ = some (.int .i64 c.1) ∧ w1.cell? ⟨w.heap.size + 1, 1, none⟩ = some (.int .i64 c.2) ∧ w1.cell? ⟨gb, go + j, none⟩ = some (.int .u16 z) := by
    rw [← hw1]
    exact ⟨by simp [go_sem], by simp [go_sem], by simp [go_sem], by simp [go_sem], by simp [go_sem], cell_later (bl_al (bl_al (bl0 w) _) _) q⟩
  have hb0 : Below w.heap.size w w1 := by rw [← hw1]; exact bl_al (bl_al (bl0 w) _) _
  have HSS := Lib.hid (fun W9 (h : Below w1.heap.size w1 W9) => (show W9.cell? ⟨w.heap.size, 0, none⟩ = some (.int .i64 A) ∧ W9.cell? ⟨w.heap.size, 1, none⟩ = some (.int .i64 B) ∧ W9.cell? ⟨w.heap.size, 2, none⟩ = some (.slice (some ⟨gb, go, none⟩) zs.length cap) ∧ W9.cell? ⟨w.heap.size + 1, 0, none⟩ = some (.int .i64 c.1) ∧ W9.cell? ⟨w.heap.size + 1, 1, none⟩ = some (.int .i64 c.2) ∧ W9.cell? ⟨gb, go + j, none⟩ = some (.int .u16 z) from ⟨cell_later h h0.1, cell_later h h0.2.1, cell_later h h0.2.2.1, cell_later h h0.2.2.2.1, cell_later h h0.2.2.2.2.1, cell_later h h0.2.2.2.2.2⟩))
  rw [hw1]
  clear hw1 h0 q
  have hB := bl_dr (bl0 w1)
  go_region_held3 (fun w' => w'.cell? ⟨w.heap.size, 0, none⟩ = some (.int .i64 A) ∧ w'.cell? ⟨w.heap.size, 1, none⟩ = some (.int .i64 B) ∧ w'.cell? ⟨w.heap.size, 2, none⟩ = some (.slice (some ⟨gb, go, none⟩) zs.length cap) ∧ w'.cell? ⟨w.heap.size + 1, 0, none⟩ = some (.int .i64 c.1) ∧ w'.cell? ⟨w.heap.size + 1, 1, none⟩ = some (.int .i64 c.2) ∧ w'.cell? ⟨gb, go + j, none⟩ = some (.int .u16 z))
    (exact HSS.out _ hB)
    ((go_at_call 67; (with_reducible refine (H1.out _).mono ?_); rintro e w9 ⟨rfl, hb9⟩; replace hB := bl_tr hB hb9))
  all_goals go_wp2
  all_goals go_ret
  all_goals exact ⟨rfl, bl_tr hb0 hB⟩

/-- Of two numbers the first one that is not 0. -/
def or2 (x y : Int) : Int := if x ≠ 0 then x else y
set_option maxRecDepth 100000 in
set_option maxHeartbeats 1600000 in
theorem or2_any (x y : Int) (b : Nat) (w : World) (h0 : w.cell? ⟨b, 0, none⟩ = some (.int .i64 x)) (h1 : w.cell? ⟨b, 1, none⟩ = some (.int .i64 y)) :
    Calls Tryd.prog 92 #[.slice (some ⟨b, 0, none⟩) 2 2] w fun e w' => e = .returned (.int .i64 (or2 x y)) ∧ w' = w := by
  by_cases hx : x = 0
  · have e : or2 x y = y := by unfold or2; rw [if_neg (fun h => h hx)]
    rw [e]
    subst hx
    by_cases hy : y = 0
    · subst hy
      go_enter Tryd.func92, Tryd.ntmps92
      go_wp2
      refine wp_loop_rounds 3 ?_
      iterate 3 (rw [rounds_succ]; go_wp2)
      go_ret
      exact ⟨rfl, rfl⟩
    · have hy2 : (y != 0) = true := by rw [bne_iff_ne]; exact hy
      clear hy
      go_enter Tryd.func92, Tryd.ntmps92
      go_wp2
      refine wp_loop_rounds 3 ?_
      iterate 2 (rw [rounds_succ]; go_wp2)
      go_ret
      exact ⟨rfl, rfl⟩
  · have e : or2 x y = x := by unfold or2; rw [if_pos hx]
    rw [e]
    have hx2 : (x != 0) = true := by rw [bne_iff_ne]; exact hx
    clear hx
    go_enter Tryd.func92, Tryd.ntmps92
    go_wp2
    refine wp_loop_rounds 3 ?_
    iterate 1 (rw [rounds_succ]; go_wp2)
    go_ret
    exact ⟨rfl, rfl⟩
/-- Which of two cells comes first, row by row. -/
def rowI (c d : IC) : Int := or2 (Lib.compareInt c.2 d.2) (Lib.compareInt c.1 d.1)
theorem cmpI_lt (x y : Int) : (Lib.compareInt x y < 0 ↔ x < y) ∧ (Lib.compareInt x y = 0 ↔ x = y) := by
  unfold Lib.compareInt
  split
  · omega
  · split <;> omega
theorem rowI_ge (c d : IC) : rowI c d ≥ 0 ↔ ¬ (c.2 < d.2 ∨ (c.2 = d.2 ∧ c.1 < d.1)) := by
  obtain ⟨a1, a2⟩ := cmpI_lt c.2 d.2
  obtain ⟨b1, b2⟩ := cmpI_lt c.1 d.1
  unfold rowI or2
  split <;> omega
set_option maxRecDepth 100000 in
set_option maxHeartbeats 1600000 in
theorem byRow_i (c d : IC) (w : World) :
    Calls Tryd.prog 81 #[.agg #[.int .i64 c.1, .int .i64 c.2], .agg #[.int .i64 d.1, .int .i64 d.2]] w fun e w' => e = .returned (.int .i64 (rowI c d)) ∧ Below w.heap.size w w' := by
  have H1 := Lib.hid (fun w => Tryd.cmp_Compare_int c.2 d.2 w)
  have H2 := Lib.hid (fun w => Tryd.cmp_Compare_int c.1 d.1 w)
  have H3 := Lib.hid (fun b w h0 h1 => or2_any (Lib.compareInt c.2 d.2) (Lib.compareInt c.1 d.1) b w h0 h1)
  rw [show or2 (Lib.compareInt c.2 d.2) (Lib.compareInt c.1 d.1) = rowI c d from rfl] at H3
  generalize rowI c d = r at *
  generalize Lib.compareInt c.2 d.2 = x at *
  generalize Lib.compareInt c.1 d.1 = y at *
  go_enter Tryd.func81, Tryd.ntmps81
  go_upto_region 1 with fail
  have hB := bl_dr (bl_al (bl_al (bl0 w) (.cells #[.int .i64 c.1, .int .i64 c.2] 30)) (.cells #[.int .i64 d.1, .int .i64 d.2] 30))
  go_region_held3 (fun w' => w'.cell? ⟨w.heap.size, 0, none⟩ = some (.int .i64 c.1) ∧ w'.cell? ⟨w.heap.size, 1, none⟩ = some (.int .i64 c.2) ∧ w'.cell? ⟨w.heap.size + 1, 0, none⟩ = some (.int .i64 d.1) ∧ w'.cell? ⟨w.heap.size + 1, 1, none⟩ = some (.int .i64 d.2))
    (exact ⟨by simp [go_sem], by simp [go_sem], by simp [go_sem], by simp [go_sem]⟩)
    (first
    | (go_at_call 93; (first | with_reducible refine (H1.out _).mono ?_ | with_reducible refine (H2.out _).mono ?_); rintro e w9 ⟨rfl, hw9⟩; subst hw9)
    | (go_at_call 92; (with_reducible refine (H3.out _ _ (by simp [go_sem]) (by simp [go_sem])).mono ?_); rintro e w8 ⟨rfl, hw8⟩; subst hw8))
  all_goals go_wp2
  all_goals go_ret
  all_goals exact ⟨rfl, bl_al hB _⟩

/-- Is a cell in a cluster? -/
def hasI (W H S id : Int) (c : IC) : Bool := decide (ofX W H S c = 0 ∧ ofV W H S c = id)
set_option maxHeartbeats 1600000 in
theorem has_i (W H S id : Int) (c : IC) (w : World) :
    Calls Tryd.prog 47 #[.agg #[.int .i64 W, .int .i64 H, .int .i64 S], .int .i64 id, .agg #[.int .i64 c.1, .int .i64 c.2]] w fun e w' => e = .returned (.bool (hasI W H S id c)) ∧ Below w.heap.size w w' := by
  have hA := bl0 w
  have H1 := Lib.hid (fun w => of_p W H S c w)
  have hh : hasI W H S id c = decide (ofX W H S c = 0 ∧ ofV W H S c = id) := rfl
  generalize hasI W H S id c = t at *
  generalize ofX W H S c = x at *
  generalize ofV W H S c = v at *
  by_cases h0 : x = 0
  · have e0 : (x == 0) = true := by rw [beq_iff_eq]; exact h0
    have ht : (v == id) = t := by
      rw [hh, Bool.eq_iff_iff]
      simp [h0]
    clear hh h0
    go_enter Tryd.func47, Tryd.ntmps47
    go_wp2_with fail
    refine (H1.out _).mono ?_
    rintro e w1 ⟨rfl, hb⟩
    have hk : Below w.heap.size w w1 := by first | exact hb | exact bl_tr (bl_al (bl0 _) _) hb | exact bl_tr (bl_dr (bl_al (bl0 _) _)) hb | exact bl_tr (bl_al (bl_al (bl0 _) _) _) hb | exact bl_tr (bl_dr (bl_al (bl_al (bl0 _) _) _)) hb | exact bl_tr (bl_al (bl_al (bl_al (bl0 _) _) _) _) hb | exact bl_tr (bl_dr (bl_al (bl_al (bl_al (bl0 _) _) _) _)) hb | exact bl_tr (bl_al (bl_al (bl_al (bl_al (bl0 _) _) _) _) _) hb | exact bl_tr (bl_dr (bl_al (bl_al (bl_al (bl_al (bl0 _) _) _) _) _)) hb | exact bl_tr (bl_al (bl_al (bl_al (bl_al (bl_al (bl0 _) _) _) _) _) _) hb | exact bl_tr (bl_dr (bl_al (bl_al (bl_al (bl_al (bl_al (bl0 _) _) _) _) _) _)) hb | exact bl_tr (bl_al (bl_al (bl_al (bl_al (bl_al (bl_al (bl0 _) _) _) _) _) _) _) hb | exact bl_tr (bl_dr (bl_al (bl_al (bl_al (bl_al (bl_al (bl_al (bl0 _) _) _) _) _) _) _)) hb | exact bl_tr (bl_dr (bl0 _)) hb
    replace hA := bl_tr hA hk
    clear hb hk
    go_wp2
    go_ret
    exact ⟨rfl, hA⟩
  · have e0 : (x == 0) = false := by rw [beq_eq_false_iff_ne]; exact h0
    have ht : t = false := by rw [hh]; simp [h0]
    subst ht
    clear hh h0
    go_enter Tryd.func47, Tryd.ntmps47
    go_wp2_with fail
    refine (H1.out _).mono ?_
    rintro e w1 ⟨rfl, hb⟩
    have hk : Below w.heap.size w w1 := by first | exact hb | exact bl_tr (bl_al (bl0 _) _) hb | exact bl_tr (bl_dr (bl_al (bl0 _) _)) hb | exact bl_tr (bl_al (bl_al (bl0 _) _) _) hb | exact bl_tr (bl_dr (bl_al (bl_al (bl0 _) _) _)) hb | exact bl_tr (bl_al (bl_al (bl_al (bl0 _) _) _) _) hb | exact bl_tr (bl_dr (bl_al (bl_al (bl_al (bl0 _) _) _) _)) hb | exact bl_tr (bl_al (bl_al (bl_al (bl_al (bl0 _) _) _) _) _) hb | exact bl_tr (bl_dr (bl_al (bl_al (bl_al (bl_al (bl0 _) _) _) _) _)) hb | exact bl_tr (bl_al (bl_al (bl_al (bl_al (bl_al (bl0 _) _) _) _) _) _) hb | exact bl_tr (bl_dr (bl_al (bl_al (bl_al (bl_al (bl_al (bl0 _) _) _) _) _) _)) hb | exact bl_tr (bl_al (bl_al (bl_al (bl_al (bl_al (bl_al (bl0 _) _) _) _) _) _) _) hb | exact bl_tr (bl_dr (bl_al (bl_al (bl_al (bl_al (bl_al (bl_al (bl0 _) _) _) _) _) _) _)) hb | exact bl_tr (bl_dr (bl0 _)) hb
    replace hA := bl_tr hA hk
    clear hb hk
    go_wp2
    go_ret
    exact ⟨rfl, hA⟩
end Go.Proofs.YtgbhafadibdmcaaDoor

/- Tables within a cluster: which cells may be; a cluster's box, if a table of cells may be. -/
namespace Go.Proofs.YtgbhafadibdmcaaDoor
open Go.RowKit

/-- What is wrong with the k-th cell. -/
def wrgE (W H S id : Int) (cs : List IC) (k : Nat) : Int :=
  if hasI W H S id (cs.getD k (0, 0)) = true then (if 0 < k ∧ 0 ≤ rowI (cs.getD (k - 1) (0, 0)) (cs.getD k (0, 0)) then 11 else 0) else 10
/-- What is wrong first of the first k cells. -/
def wrgT (W H S id : Int) (cs : List IC) : Nat → Int
  | 0 => 0
  | k + 1 => if wrgT W H S id cs k ≠ 0 then wrgT W H S id cs k else wrgE W H S id cs k
theorem wrgT_stay {W H S id : Int} {cs : List IC} {k : Nat} (h : wrgT W H S id cs k ≠ 0) : ∀ m, wrgT W H S id cs (k + m) = wrgT W H S id cs k
  | 0 => rfl
  | m + 1 => by
    have ih := wrgT_stay h m
    show (if wrgT W H S id cs (k + m) ≠ 0 then wrgT W H S id cs (k + m) else wrgE W H S id cs (k + m)) = _
    rw [ih, if_pos h]
def wrgI (W H S id : Int) (cs : List IC) : Int := wrgT W H S id cs cs.length
theorem wrgT_next {W H S id : Int} {cs : List IC} {k : Nat} (h : wrgT W H S id cs k = 0) : wrgT W H S id cs (k + 1) = wrgE W H S id cs k := by
  rw [wrgT, if_neg (fun q => q h)]
theorem wrgI_at {W H S id : Int} {cs : List IC} {k : Nat} (hk : k < cs.length) (h : wrgT W H S id cs k = 0) (he : wrgE W H S id cs k ≠ 0) : wrgI W H S id cs = wrgE W H S id cs k := by
  have h1 := wrgT_next h
  have h2 := wrgT_stay (k := k + 1) (by rw [h1]; exact he) (cs.length - (k + 1))
  rw [show k + 1 + (cs.length - (k + 1)) = cs.length by omega, h1] at h2
  exact h2
theorem getD_c {cs : List IC} {k : Nat} (h : k < cs.length) : cs.getD k (0, 0) = cs[k] := by
  rw [List.getD_eq_getElem?_getD, List.getElem?_eq_getElem h]; rfl

set_option maxRecDepth 100000 in
set_option maxHeartbeats 4000000 in
theorem wrong_i (W H S id : Int) (a : Option Addr) (cap : Nat) (cs : List IC) (w : World) (hr : RowC w a cs) (hl : cs.length ≤ 1048576) :
    Calls Tryd.prog 63 #[.agg #[.int .i64 W, .int .i64 H, .int .i64 S], .int .i64 id, .slice a cs.length cap] w fun e w' => e = .returned (.int .i64 (wrgI W H S id cs)) ∧ Below w.heap.size w w' := by
  have hA := bl0 w
  have HH := Lib.hid (fun c w => has_i W H S id c w)
  have HB := Lib.hid (fun c d w => byRow_i c d w)
  have HN := Lib.hid (fun (k : Nat) (h : wrgT W H S id cs k = 0) => wrgT_next h)
  have HAT := Lib.hid (fun (k : Nat) (hk : k < cs.length) (h : wrgT W H S id cs k = 0) (he : wrgE W H S id cs k ≠ 0) => wrgI_at hk h he)
  have HE := Lib.hid (show ∀ (k : Nat) (hk : k < cs.length), wrgE W H S id cs k = if hasI W H S id cs[k] = true then (if 0 < k ∧ 0 ≤ rowI (cs.getD (k - 1) (0, 0)) cs[k] then 11 else 0) else 10 from fun k hk => by unfold wrgE; rw [getD_c hk])
  have HZ := Lib.hid (show wrgT W H S id cs 0 = 0 from rfl)
  have HEND := Lib.hid (show wrgI W H S id cs = wrgT W H S id cs cs.length from rfl)
  have hl2 : (cs.length : Int) ≤ 1048576 := by omega
  obtain ⟨x, hx⟩ : ∃ x, wrgI W H S id cs = x := ⟨_, rfl⟩
  obtain ⟨T, hT⟩ : ∃ T, wrgT W H S id cs = T := ⟨_, rfl⟩
  obtain ⟨EE, hEE⟩ : ∃ EE, wrgE W H S id cs = EE := ⟨_, rfl⟩
  obtain ⟨PP, hPP⟩ : ∃ PP, hasI W H S id = PP := ⟨_, rfl⟩
  rw [hx] at HAT HEND
  rw [hT] at HN HAT HZ HEND
  rw [hEE] at HN HAT HE
  rw [hPP] at HH HE
  rw [hx]
  clear hx hT hEE hPP
  have HR := Lib.hid hr
  clear hr
  go_enter Tryd.func63, Tryd.ntmps63
  go_wp2_with fail
  refine wp_scope_straight ?_
  go_wp2_with fail
  refine wp_label ?_
  go_wp2_with fail
  go_loopw [7, 8, 9, 12] (fun ev _ _ iv wr => ∃ k : Nat, k ≤ cs.length ∧ iv = .int .i64 k ∧ ev = .int .i64 0 ∧ T k = 0 ∧ Below w.heap.size w wr ∧ wr.cell? ⟨w.heap.size, 0, none⟩ = some (.int .i64 W) ∧ wr.cell? ⟨w.heap.size, 1, none⟩ = some (.int .i64 H) ∧ wr.cell? ⟨w.heap.size, 2, none⟩ = some (.int .i64 S)) (fun _ _ _ iv _ => cs.length - (intOf iv).toNat)
  case atStart => exact ⟨0, Nat.zero_le _, rfl, rfl, HZ.out, bl_al hA _, by simp [go_sem], by simp [go_sem], by simp [go_sem]⟩
  case round =>
    clear hA
    obtain ⟨k, hkl, rfl, rfl, ht, hA, p0, p1, p2⟩ := hrel
    have hk0 : (0 : Int) ≤ (k : Int) := by omega
    have zp := blk_lt p0
    by_cases hlt : k < cs.length
    · have hlt2 : (k : Int) < (cs.length : Int) := by omega
      have he := HE.out k hlt
      have hat := HAT.out k hlt ht
      have hnx := HN.out k ht
      obtain ⟨gb, go, rfl, q0, q1⟩ := (HR.out.below hA).cell hlt
      have hprev : 0 < k → ∃ d : IC, cs.getD (k - 1) (0, 0) = d ∧ wr.cell? ⟨gb, go + (k - 1) * 2, none⟩ = some (.int .i64 d.1) ∧ wr.cell? ⟨gb, go + (k - 1) * 2 + 1, none⟩ = some (.int .i64 d.2) := fun h0 => by
        obtain ⟨gb2, go2, e, r0, r1⟩ := (HR.out.below hA).cell (show k - 1 < cs.length by omega)
        cases e
        exact ⟨_, getD_c (by omega), r0, r1⟩
      obtain ⟨c, hc⟩ : ∃ c, cs[k] = c := ⟨_, rfl⟩
      rw [hc] at he q0 q1
      have HHC := Lib.hid (HH.out c)
      obtain ⟨t, htt⟩ : ∃ t, PP c = t := ⟨_, rfl⟩
      rw [htt] at he HHC
      have HP := Lib.hid (fun (h : 0 < k) (W : World) (hb : Below wr.heap.size wr W) => (show ∃ d : IC, cs.getD (k - 1) (0, 0) = d ∧ W.cell? ⟨gb, go + (k - 1) * 2, none⟩ = some (.int .i64 d.1) ∧ W.cell? ⟨gb, go + (k - 1) * 2 + 1, none⟩ = some (.int .i64 d.2) from by
        obtain ⟨d, h1, h2, h3⟩ := hprev h
        exact ⟨d, h1, cell_later hb h2, cell_later hb h3⟩))
      have HATK := Lib.hid hat
      have HNX := Lib.hid hnx
      have HEK := Lib.hid he
      clear hprev hc htt hat hnx he
      go_wp2_with fail
      refine (HHC.out _).mono ?_
      rintro e w5 ⟨rfl, hb⟩
      have hk5 : Below wr.heap.size wr w5 := by first | exact bl_tr (bl_al (bl0 _) _) hb | exact bl_tr (bl_st (bl_st (bl_al (bl0 _) _) (Nat.le_refl _) _) (Nat.le_refl _) _) hb
      have c0 := cell_later hb (v := .int .i64 c.1) (a := ⟨wr.heap.size, 0, none⟩) (by simp [go_sem])
      have c1 := cell_later hb (v := .int .i64 c.2) (a := ⟨wr.heap.size, 1, none⟩) (by simp [go_sem])
      have zc0 := blk_lt c0
      replace hA := bl_tr hA hk5
      replace p0 := cell_later hk5 p0
      replace p1 := cell_later hk5 p1
      replace p2 := cell_later hk5 p2
      clear hb q0 q1
      cases t
      · have he := HEK.out
        rw [if_neg (by decide)] at he
        have hxx := HATK.out (by rw [he]; decide)
        rw [he] at hxx
        subst hxx
        clear p0 p1 p2 c0 c1
        go_wp2
        (try simp only [Exit.noGoto])
        go_ret
        exact ⟨rfl, hA⟩
      · have he := HEK.out
        rw [if_pos rfl] at he
        by_cases h0 : k = 0
        · rw [if_neg (fun h => by have := h.1; omega)] at he
          have HN1 := Lib.hid (HNX.out.trans he)
          have hgd : decide ((0 : Int) < (k : Int)) = false := decide_eq_false (by omega)
          have hg0 : ¬ (0 : Int) < (k : Int) := by omega
          have hgn : decide (0 < k) = false := decide_eq_false (by omega)
          have hgm : ¬ 0 < k := by omega
          clear he h0
          go_upto_region 7 with fail
          have hB := bl_dr (bl0 w5)
          have hS : (fun W9 : World => W9.cell? ⟨wr.heap.size, 0, none⟩ = some (.int .i64 c.1) ∧ W9.cell? ⟨wr.heap.size, 1, none⟩ = some (.int .i64 c.2)) w5.drew := ⟨cell_later hB c0, cell_later hB c1⟩
          refine (wpIn_wide (n := 11)).1 ?_
          refine ordS_begin (S := (fun W9 : World => W9.cell? ⟨wr.heap.size, 0, none⟩ = some (.int .i64 c.1) ∧ W9.cell? ⟨wr.heap.size, 1, none⟩ = some (.int .i64 c.2))) (by kernel_rfl) hS (fun hH => ?_)
          refine' ordS_take (i := 0) (oi := { dst := some 24, op := Op.move (Operand.tmp 8), type := 3, pos := _, after := #[], guard := none }) (v := _) rfl (by kernel_rfl) (by kernel_rfl) (by kernel_rfl) (by kernel_rfl) (fun _ _ _ h => h) (by assumption) (Or.inl ⟨by rfl, ?hy30⟩) (fun _ => rfl) ?rest30
          case hy30 => (intro w hSw; (try dsimp only at hSw); go_simp; try with_reducible rfl)
          try simp only [Act.put, List.setIfInBounds_toArray, List.set_cons_zero, List.set_cons_succ]
          refine' ordS_take (i := 1) (oi := { dst := some 25, op := Op.binOp BinOp.gtr 3 (Operand.tmp 24) (Operand.const (Value.int IntKind.i64 0)) 3, type := 4, pos := _, after := #[{ on := 0, ground := Ground.data }], guard := none }) (v := _) rfl (by kernel_rfl) (by kernel_rfl) (by kernel_rfl) (by kernel_rfl) (fun _ _ _ h => h) (by assumption) (Or.inl ⟨by rfl, ?hy31⟩) (fun _ => rfl) ?rest31
          case hy31 => (intro w hSw; (try dsimp only at hSw); go_simp; try with_reducible rfl)
          try simp only [Act.put, List.setIfInBounds_toArray, List.set_cons_zero, List.set_cons_succ]
          refine' ordS_take (i := 2) (oi := { dst := some 26, op := Op.move (Operand.tmp 25), type := 4, pos := _, after := #[{ on := 1, ground := Ground.data }], guard := none }) (v := _) rfl (by kernel_rfl) (by kernel_rfl) (by kernel_rfl) (by kernel_rfl) (fun _ _ _ h => h) (by assumption) (Or.inl ⟨by rfl, ?hy32⟩) (fun _ => rfl) ?rest32
          case hy32 => (intro w hSw; (try dsimp only at hSw); go_simp; try with_reducible rfl)
          try simp only [Act.put, List.setIfInBounds_toArray, List.set_cons_zero, List.set_cons_succ]
          refine ordS_take (i := 3) (oi := { dst := some 27, op := Op.move (Operand.tmp 2), type := 35, pos := _, after := #[{ on := 2, ground := Ground.guard }], guard := some (2, true) }) (v := undef) rfl (by kernel_rfl) (by kernel_rfl) (by kernel_rfl) (by kernel_rfl) (fun _ _ _ h => h) (by assumption) (Or.inr ⟨by rfl, rfl⟩) (fun _ => rfl) ?_
          try simp only [Act.put, List.setIfInBounds_toArray, List.set_cons_zero, List.set_cons_succ]
          refine ordS_take (i := 4) (oi := { dst := some 28, op := Op.move (Operand.tmp 8), type := 3, pos := _, after := #[{ on := 2, ground := Ground.guard }], guard := some (2, true) }) (v := undef) rfl (by kernel_rfl) (by kernel_rfl) (by kernel_rfl) (by kernel_rfl) (fun _ _ _ h => h) (by assumption) (Or.inr ⟨by rfl, rfl⟩) (fun _ => rfl) ?_
          try simp only [Act.put, List.setIfInBounds_toArray, List.set_cons_zero, List.set_cons_succ]
          refine ordS_take (i := 5) (oi := { dst := some 29, op := Op.binOp BinOp.sub 3 (Operand.tmp 28) (Operand.const (Value.int IntKind.i64 1)) 3, type := 3, pos := _, after := #[{ on := 4, ground := Ground.data }, { on := 2, ground := Ground.guard }], guard := some (2, true) }) (v := undef) rfl (by kernel_rfl) (by kernel_rfl) (by kernel_rfl) (by kernel_rfl) (fun _ _ _ h => h) (by assumption) (Or.inr ⟨by rfl, rfl⟩) (fun _ => rfl) ?_
          try simp only [Act.put, List.setIfInBounds_toArray, List.set_cons_zero, List.set_cons_succ]
          refine ordS_take (i := 6) (oi := { dst := some 30, op := Op.indexAddr 35 (Operand.tmp 27) (Operand.tmp 29), type := 0, pos := _, after := #[{ on := 3, ground := Ground.data }, { on := 5, ground := Ground.data }, { on := 2, ground := Ground.guard }], guard := some (2, true) }) (v := undef) rfl (by kernel_rfl) (by kernel_rfl) (by kernel_rfl) (by kernel_rfl) (fun _ _ _ h => h) (by assumption) (Or.inr ⟨by rfl, rfl⟩) (fun _ => rfl) ?_
          try simp only [Act.put, List.setIfInBounds_toArray, List.set_cons_zero, List.set_cons_succ]
          refine ordS_take (i := 7) (oi := { dst := some 31, op := Op.load 30 (Operand.tmp 30), type := 30, pos := _, after := #[{ on := 6, ground := Ground.data }, { on := 2, ground := Ground.guard }], guard := some (2, true) }) (v := undef) rfl (by kernel_rfl) (by kernel_rfl) (by kernel_rfl) (by kernel_rfl) (fun _ _ _ h => h) (by assumption) (Or.inr ⟨by rfl, rfl⟩) (fun _ => rfl) ?_
          try simp only [Act.put, List.setIfInBounds_toArray, List.set_cons_zero, List.set_cons_succ]
          refine ordS_take (i := 8) (oi := { dst := some 32, op := Op.load 30 (Operand.tmp 9), type := 30, pos := _, after := #[{ on := 2, ground := Ground.guard }], guard := some (2, true) }) (v := undef) rfl (by kernel_rfl) (by kernel_rfl) (by kernel_rfl) (by kernel_rfl) (fun _ _ _ h => h) (by assumption) (Or.inr ⟨by rfl, rfl⟩) (fun _ => rfl) ?_
          try simp only [Act.put, List.setIfInBounds_toArray, List.set_cons_zero, List.set_cons_succ]
          refine ordS_skip (i := 9) (o := { dst := some 33, op := Op.call { callee := Callee.value (Operand.func 81), args := #[Operand.tmp 31, Operand.tmp 32], argTypes := #[30, 30] }, type := 3, pos := _, after := #[{ on := 7, ground := Ground.data }, { on := 8, ground := Ground.data }, { on := 2, ground := Ground.chain }, { on := 2, ground := Ground.guard }], guard := some (2, true) }) (by kernel_rfl) rfl (by rfl) (fun _ => trivial) (by assumption) ?_
          try simp only [Act.put, List.setIfInBounds_toArray, List.set_cons_zero, List.set_cons_succ]
          refine ordS_take (i := 10) (oi := { dst := some 34, op := Op.binOp BinOp.geq 3 (Operand.tmp 33) (Operand.const (Value.int IntKind.i64 0)) 3, type := 4, pos := _, after := #[{ on := 9, ground := Ground.data }, { on := 2, ground := Ground.guard }], guard := some (2, true) }) (v := undef) rfl (by kernel_rfl) (by kernel_rfl) (by kernel_rfl) (by kernel_rfl) (fun _ _ _ h => h) (by assumption) (Or.inr ⟨by rfl, rfl⟩) (fun _ => rfl) ?_
          try simp only [Act.put, List.setIfInBounds_toArray, List.set_cons_zero, List.set_cons_succ]
          refine' ordS_take (i := 11) (oi := { dst := some 35, op := Op.pick (Operand.tmp 26) (Operand.tmp 34) (Operand.const (Value.bool false)), type := 4, pos := _, after := #[{ on := 2, ground := Ground.data }, { on := 10, ground := Ground.data }], guard := none }) (v := _) rfl (by kernel_rfl) (by kernel_rfl) (by kernel_rfl) (by kernel_rfl) (fun _ _ _ h => h) (by assumption) (Or.inl ⟨by rfl, ?hy40⟩) (fun _ => rfl) ?rest40
          case hy40 => (intro w hSw; (try dsimp only at hSw); go_simp; try with_reducible rfl)
          try simp only [Act.put, List.setIfInBounds_toArray, List.set_cons_zero, List.set_cons_succ]
          refine' ordS_take (i := 12) (oi := { dst := some 23, op := Op.assign (Operand.tmp 35), type := 4, pos := _, after := #[{ on := 11, ground := Ground.data }, { on := 9, ground := Ground.chain }], guard := none }) (v := _) rfl (by kernel_rfl) (by kernel_rfl) (by kernel_rfl) (by kernel_rfl) (fun _ _ _ h => h) (by assumption) (Or.inl ⟨by rfl, ?hy41⟩) (fun _ => rfl) ?rest41
          case hy41 => (intro w hSw; (try dsimp only at hSw); go_simp; try with_reducible rfl)
          try simp only [Act.put, List.setIfInBounds_toArray, List.set_cons_zero, List.set_cons_succ]
          refine ordS_done (by kernel_rfl) ?_
          have hA9 := bl_tr hA hB
          have p0' := cell_later hB p0
          have p1' := cell_later hB p1
          have p2' := cell_later hB p2
          clear hS hH c0 c1 p0 p1 p2 hA
          go_wp2
          go_roundw
          case rel => exact ⟨k + 1, by omega, by go_num, rfl, HN1.out, hA9, p0', p1', p2'⟩
          case measure => simp [intOf]; omega
        · obtain ⟨d, hd, r0, r1⟩ := HP.out (by omega) _ hk5
          rw [hd] at he
          have HBD := Lib.hid (HB.out d c)
          obtain ⟨v, hv⟩ : ∃ v, rowI d c = v := ⟨_, rfl⟩
          rw [hv] at he HBD
          have hg0 : (0 : Int) < (k : Int) := by omega
          have hgn : decide (0 < k) = true := decide_eq_true (by omega)
          have hgm : 0 < k := by omega
          have hkw : IntKind.i64.wrap ((k : Int) - 1) = ((k - 1 : Nat) : Int) := by rw [IntWalk.i64_in _ (by omega)]; omega
          have hk1 : (0 : Int) ≤ ((k - 1 : Nat) : Int) := by omega
          have hk2 : ((k - 1 : Nat) : Int) < (cs.length : Int) := by omega
          have HEV := Lib.hid (show EE k = if 0 ≤ v then 11 else 0 by rw [he]; by_cases q : 0 ≤ v
                                                                      · rw [if_pos q, if_pos ⟨by omega, q⟩]
                                                                      · rw [if_neg q, if_neg (fun h => q h.2)])
          generalize hkk : k - 1 = j at *
          clear hd he hv hkk
          go_upto_region 7 with fail
          have hB := bl_dr (bl0 w5)
          have zc := blk_lt c0
          have zr := blk_lt r0
          have hS : (fun W9 : World => W9.cell? ⟨wr.heap.size, 0, none⟩ = some (.int .i64 c.1) ∧ W9.cell? ⟨wr.heap.size, 1, none⟩ = some (.int .i64 c.2) ∧ W9.cell? ⟨gb, go + j * 2, none⟩ = some (.int .i64 d.1) ∧ W9.cell? ⟨gb, go + j * 2 + 1, none⟩ = some (.int .i64 d.2)) w5.drew := ⟨cell_later hB c0, cell_later hB c1, cell_later hB r0, cell_later hB r1⟩
          refine (wpIn_wide (n := 11)).1 ?_
          refine ordS_begin (S := (fun W9 : World => W9.cell? ⟨wr.heap.size, 0, none⟩ = some (.int .i64 c.1) ∧ W9.cell? ⟨wr.heap.size, 1, none⟩ = some (.int .i64 c.2) ∧ W9.cell? ⟨gb, go + j * 2, none⟩ = some (.int .i64 d.1) ∧ W9.cell? ⟨gb, go + j * 2 + 1, none⟩ = some (.int .i64 d.2))) (by kernel_rfl) hS (fun hH => ?_)
          refine' ordS_take (i := 0) (oi := { dst := some 24, op := Op.move (Operand.tmp 8), type := 3, pos := _, after := #[], guard := none }) (v := _) rfl (by kernel_rfl) (by kernel_rfl) (by kernel_rfl) (by kernel_rfl) (fun _ _ _ h => h) (by assumption) (Or.inl ⟨by rfl, ?hy42⟩) (fun _ => rfl) ?rest42
          case hy42 => (intro w hSw; (try dsimp only at hSw); go_simp; try with_reducible rfl)
          try simp only [Act.put, List.setIfInBounds_toArray, List.set_cons_zero, List.set_cons_succ]
          refine' ordS_take (i := 1) (oi := { dst := some 25, op := Op.binOp BinOp.gtr 3 (Operand.tmp 24) (Operand.const (Value.int IntKind.i64 0)) 3, type := 4, pos := _, after := #[{ on := 0, ground := Ground.data }], guard := none }) (v := _) rfl (by kernel_rfl) (by kernel_rfl) (by kernel_rfl) (by kernel_rfl) (fun _ _ _ h => h) (by assumption) (Or.inl ⟨by rfl, ?hy43⟩) (fun _ => rfl) ?rest43
          case hy43 => (intro w hSw; (try dsimp only at hSw); go_simp; try with_reducible rfl)
          try simp only [Act.put, List.setIfInBounds_toArray, List.set_cons_zero, List.set_cons_succ]
          refine' ordS_take (i := 2) (oi := { dst := some 26, op := Op.move (Operand.tmp 25), type := 4, pos := _, after := #[{ on := 1, ground := Ground.data }], guard := none }) (v := _) rfl (by kernel_rfl) (by kernel_rfl) (by kernel_rfl) (by kernel_rfl) (fun _ _ _ h => h) (by assumption) (Or.inl ⟨by rfl, ?hy44⟩) (fun _ => rfl) ?rest44
          case hy44 => (intro w hSw; (try dsimp only at hSw); go_simp; try with_reducible rfl)
          try simp only [Act.put, List.setIfInBounds_toArray, List.set_cons_zero, List.set_cons_succ]
          refine' ordS_take (i := 3) (oi := { dst := some 27, op := Op.move (Operand.tmp 2), type := 35, pos := _, after := #[{ on := 2, ground := Ground.guard }], guard := some (2, true) }) (v := _) rfl (by kernel_rfl) (by kernel_rfl) (by kernel_rfl) (by kernel_rfl) (fun _ _ _ h => h) (by assumption) (Or.inl ⟨by rfl, ?hy45⟩) (fun _ => rfl) ?rest45
          case hy45 => (intro w hSw; (try dsimp only at hSw); go_simp; try with_reducible rfl)
          try simp only [Act.put, List.setIfInBounds_toArray, List.set_cons_zero, List.set_cons_succ]
          refine' ordS_take (i := 4) (oi := { dst := some 28, op := Op.move (Operand.tmp 8), type := 3, pos := _, after := #[{ on := 2, ground := Ground.guard }], guard := some (2, true) }) (v := _) rfl (by kernel_rfl) (by kernel_rfl) (by kernel_rfl) (by kernel_rfl) (fun _ _ _ h => h) (by assumption) (Or.inl ⟨by rfl, ?hy46⟩) (fun _ => rfl) ?rest46
          case hy46 => (intro w hSw; (try dsimp only at hSw); go_simp; try with_reducible rfl)
          try simp only [Act.put, List.setIfInBounds_toArray, List.set_cons_zero, List.set_cons_succ]
          refine' ordS_take (i := 5) (oi := { dst := some 29, op := Op.binOp BinOp.sub 3 (Operand.tmp 28) (Operand.const (Value.int IntKind.i64 1)) 3, type := 3, pos := _, after := #[{ on := 4, ground := Ground.data }, { on := 2, ground := Ground.guard }], guard := some (2, true) }) (v := _) rfl (by kernel_rfl) (by kernel_rfl) (by kernel_rfl) (by kernel_rfl) (fun _ _ _ h => h) (by assumption) (Or.inl ⟨by rfl, ?hy47⟩) (fun _ => rfl) ?rest47
          case hy47 => (intro w hSw; (try dsimp only at hSw); go_simp; try with_reducible rfl)
          try simp only [Act.put, List.setIfInBounds_toArray, List.set_cons_zero, List.set_cons_succ]
          refine' ordS_take (i := 6) (oi := { dst := some 30, op := Op.indexAddr 35 (Operand.tmp 27) (Operand.tmp 29), type := 0, pos := _, after := #[{ on := 3, ground := Ground.data }, { on := 5, ground := Ground.data }, { on := 2, ground := Ground.guard }], guard := some (2, true) }) (v := _) rfl (by kernel_rfl) (by kernel_rfl) (by kernel_rfl) (by kernel_rfl) (fun _ _ _ h => h) (by assumption) (Or.inl ⟨by rfl, ?hy48⟩) (fun _ => rfl) ?rest48
          case hy48 => (intro w hSw; (try dsimp only at hSw); go_simp; try with_reducible rfl)
          try simp only [Act.put, List.setIfInBounds_toArray, List.set_cons_zero, List.set_cons_succ]
          refine' ordS_take (i := 7) (oi := { dst := some 31, op := Op.load 30 (Operand.tmp 30), type := 30, pos := _, after := #[{ on := 6, ground := Ground.data }, { on := 2, ground := Ground.guard }], guard := some (2, true) }) (v := _) rfl (by kernel_rfl) (by kernel_rfl) (by kernel_rfl) (by kernel_rfl) (fun _ _ _ h => h) (by assumption) (Or.inl ⟨by rfl, ?hy49⟩) (fun _ => rfl) ?rest49
          case hy49 => (intro w hSw; (try dsimp only at hSw); go_simp; try with_reducible rfl)
          try simp only [Act.put, List.setIfInBounds_toArray, List.set_cons_zero, List.set_cons_succ]
          refine' ordS_take (i := 8) (oi := { dst := some 32, op := Op.load 30 (Operand.tmp 9), type := 30, pos := _, after := #[{ on := 2, ground := Ground.guard }], guard := some (2, true) }) (v := _) rfl (by kernel_rfl) (by kernel_rfl) (by kernel_rfl) (by kernel_rfl) (fun _ _ _ h => h) (by assumption) (Or.inl ⟨by rfl, ?hy50⟩) (fun _ => rfl) ?rest50
          case hy50 => (intro w hSw; (try dsimp only at hSw); go_simp; try with_reducible rfl)
          try simp only [Act.put, List.setIfInBounds_toArray, List.set_cons_zero, List.set_cons_succ]
          refine ordS_one (i := 9) (o := { dst := some 33, op := Op.call { callee := Callee.value (Operand.func 81), args := #[Operand.tmp 31, Operand.tmp 32], argTypes := #[30, 30] }, type := 3, pos := _, after := #[{ on := 7, ground := Ground.data }, { on := 8, ground := Ground.data }, { on := 2, ground := Ground.chain }, { on := 2, ground := Ground.guard }], guard := some (2, true) }) (by kernel_rfl) rfl (by rfl) (fun K hK => ?_)
          go_simp
          refine ⟨trivial, ?_⟩
          with_reducible refine (callsIn_wide.2 (HBD.out _)).mono ?_
          rintro e W3 ⟨rfl, hb3⟩
          replace hB := bl_tr hB hb3
          have hS3 : (fun W9 : World => W9.cell? ⟨wr.heap.size, 0, none⟩ = some (.int .i64 c.1) ∧ W9.cell? ⟨wr.heap.size, 1, none⟩ = some (.int .i64 c.2) ∧ W9.cell? ⟨gb, go + j * 2, none⟩ = some (.int .i64 d.1) ∧ W9.cell? ⟨gb, go + j * 2 + 1, none⟩ = some (.int .i64 d.2)) W3 := ⟨cell_later hB c0, cell_later hB c1, cell_later hB r0, cell_later hB r1⟩
          refine hK _ _ hS3 ?_
          clear hK K hb3
          try simp only [Act.put, List.setIfInBounds_toArray, List.set_cons_zero, List.set_cons_succ]
          refine' ordS_take (i := 10) (oi := { dst := some 34, op := Op.binOp BinOp.geq 3 (Operand.tmp 33) (Operand.const (Value.int IntKind.i64 0)) 3, type := 4, pos := _, after := #[{ on := 9, ground := Ground.data }, { on := 2, ground := Ground.guard }], guard := some (2, true) }) (v := _) rfl (by kernel_rfl) (by kernel_rfl) (by kernel_rfl) (by kernel_rfl) (fun _ _ _ h => h) (by assumption) (Or.inl ⟨by rfl, ?hy51⟩) (fun _ => rfl) ?rest51
          case hy51 => (intro w hSw; (try dsimp only at hSw); go_simp; try with_reducible rfl)
          try simp only [Act.put, List.setIfInBounds_toArray, List.set_cons_zero, List.set_cons_succ]
          refine' ordS_take (i := 11) (oi := { dst := some 35, op := Op.pick (Operand.tmp 26) (Operand.tmp 34) (Operand.const (Value.bool false)), type := 4, pos := _, after := #[{ on := 2, ground := Ground.data }, { on := 10, ground := Ground.data }], guard := none }) (v := _) rfl (by kernel_rfl) (by kernel_rfl) (by kernel_rfl) (by kernel_rfl) (fun _ _ _ h => h) (by assumption) (Or.inl ⟨by rfl, ?hy52⟩) (fun _ => rfl) ?rest52
          case hy52 => (intro w hSw; (try dsimp only at hSw); go_simp; try with_reducible rfl)
          try simp only [Act.put, List.setIfInBounds_toArray, List.set_cons_zero, List.set_cons_succ]
          refine' ordS_take (i := 12) (oi := { dst := some 23, op := Op.assign (Operand.tmp 35), type := 4, pos := _, after := #[{ on := 11, ground := Ground.data }, { on := 9, ground := Ground.chain }], guard := none }) (v := _) rfl (by kernel_rfl) (by kernel_rfl) (by kernel_rfl) (by kernel_rfl) (fun _ _ _ h => h) (by assumption) (Or.inl ⟨by rfl, ?hy53⟩) (fun _ => rfl) ?rest53
          case hy53 => (intro w hSw; (try dsimp only at hSw); go_simp; try with_reducible rfl)
          try simp only [Act.put, List.setIfInBounds_toArray, List.set_cons_zero, List.set_cons_succ]
          refine ordS_done (by kernel_rfl) ?_
          have hA9 := bl_tr hA hB
          have p0' := cell_later hB p0
          have p1' := cell_later hB p1
          have p2' := cell_later hB p2
          clear hS hS3 hH c0 c1 p0 p1 p2 hA r0 r1 zc zr
          by_cases hv0 : 0 ≤ v
          · have hvd : decide (0 ≤ v) = true := decide_eq_true hv0
            have he := HEV.out
            rw [if_pos hv0] at he
            have hxx := HATK.out (by rw [he]; decide)
            rw [he] at hxx
            subst hxx
            go_wp2
            (try simp only [Exit.noGoto])
            go_ret
            exact ⟨rfl, hA9⟩
          · have hvd : decide (0 ≤ v) = false := decide_eq_false hv0
            have he := HEV.out
            rw [if_neg hv0] at he
            have HN1 := Lib.hid (HNX.out.trans he)
            clear he
            go_wp2
            go_roundw
            case rel => exact ⟨k + 1, by omega, by go_num, rfl, HN1.out, hA9, p0', p1', p2'⟩
            case measure => simp [intOf]; omega
    · obtain rfl : k = cs.length := by omega
      have hge : ¬ (cs.length : Int) < (cs.length : Int) := by omega
      have hx : x = 0 := HEND.out.trans ht
      subst hx
      clear p0 p1 p2
      go_wp2
      (try simp only [Exit.noGoto])
      go_ret
      exact ⟨rfl, hA⟩
end Go.Proofs.YtgbhafadibdmcaaDoor

/- Tables within a cluster: a cluster's box, if a table of cells may be. -/
namespace Go.Proofs.YtgbhafadibdmcaaDoor
open Go.RowKit

def chkI (A B n X Y S id : Int) (cs : List IC) : Int := if chkF A B n ≠ 0 then chkF A B n else if X = A ∧ Y = B then (if plcX X Y S id ≠ 0 then plcX X Y S id else wrgI X Y S id cs) else 1
def zrI (e k : Int) : Int := if e = 0 then k else 0
set_option maxRecDepth 100000 in
set_option maxHeartbeats 4000000 in
theorem check_i (A B : Int) (a : Option Addr) (n cap : Nat) (X Y S id : Int) (ca : Option Addr) (cc : Nat) (cs : List IC) (w : World) (hr : RowC w ca cs) (hl : cs.length ≤ 1048576) :
    Calls Tryd.prog 38 #[.agg #[.int .i64 A, .int .i64 B, .slice a n cap], .agg #[.int .i64 X, .int .i64 Y, .int .i64 S], .int .i64 id, .slice ca cs.length cc] w fun e w' =>
      e = .returned (.tuple #[.agg #[.int .i64 (zrI (chkI A B n X Y S id cs) (bxX S (plcP X S id))), .int .i64 (zrI (chkI A B n X Y S id cs) (bxY S (plcP X S id))), .int .i64 (zrI (chkI A B n X Y S id cs) (bxW X S (plcP X S id))), .int .i64 (zrI (chkI A B n X Y S id cs) (bxH Y S (plcP X S id)))], .int .i64 (chkI A B n X Y S id cs)]) ∧ Below w.heap.size w w' := by
  have hA := bl0 w
  have H1 := Lib.hid (fun w => check_any A B a n cap w)
  have H2 := Lib.hid (fun w => tbox_p X Y S id w)
  have H3 := Lib.hid (fun w hr => wrong_i X Y S id ca cc cs w hr hl)
  have hx : chkI A B n X Y S id cs = if chkF A B n ≠ 0 then chkF A B n else if X = A ∧ Y = B then (if plcX X Y S id ≠ 0 then plcX X Y S id else wrgI X Y S id cs) else 1 := rfl
  have hb : ∀ k, boxV X Y S id k = zrI (plcX X Y S id) k := fun k => rfl
  obtain ⟨E, hE⟩ : ∃ E, chkI A B n X Y S id cs = E := ⟨_, rfl⟩
  rw [hE] at hx ⊢
  rw [hb, hb, hb, hb] at H2
  generalize plcX X Y S id = pe at *
  generalize wrgI X Y S id cs = we at *
  generalize chkF A B n = ce at *
  generalize bxX S (plcP X S id) = k0 at *
  generalize bxY S (plcP X S id) = k1 at *
  generalize bxW X S (plcP X S id) = k2 at *
  generalize bxH Y S (plcP X S id) = k3 at *
  clear hb hE
  have hz : ∀ {e : Int} (k : Int), e ≠ 0 → zrI e k = 0 := fun k h => if_neg h
  have hz0 : ∀ k : Int, zrI 0 k = k := fun k => if_pos rfl
  by_cases h0 : ce = 0
  case neg =>
    rw [if_pos h0] at hx
    subst hx
    rw [hz _ h0, hz _ h0, hz _ h0, hz _ h0]
    have h1 : (E != 0) = true := by rw [bne_iff_ne]; exact h0
    clear h0 hz hz0
    go_enter Tryd.func38, Tryd.ntmps38
    go_wp2_with fail
    refine (H1.out _).mono ?_
    rintro e w1 ⟨rfl, hb⟩
    have hk : Below w.heap.size w w1 := by first | exact hb | exact bl_tr (bl_al (bl0 _) _) hb | exact bl_tr (bl_dr (bl_al (bl0 _) _)) hb | exact bl_tr (bl_al (bl_al (bl0 _) _) _) hb | exact bl_tr (bl_dr (bl_al (bl_al (bl0 _) _) _)) hb | exact bl_tr (bl_al (bl_al (bl_al (bl0 _) _) _) _) hb | exact bl_tr (bl_dr (bl_al (bl_al (bl_al (bl0 _) _) _) _)) hb | exact bl_tr (bl_al (bl_al (bl_al (bl_al (bl0 _) _) _) _) _) hb | exact bl_tr (bl_dr (bl_al (bl_al (bl_al (bl_al (bl0 _) _) _) _) _)) hb | exact bl_tr (bl_al (bl_al (bl_al (bl_al (bl_al (bl0 _) _) _) _) _) _) hb | exact bl_tr (bl_dr (bl_al (bl_al (bl_al (bl_al (bl_al (bl0 _) _) _) _) _) _)) hb | exact bl_tr (bl_al (bl_al (bl_al (bl_al (bl_al (bl_al (bl0 _) _) _) _) _) _) _) hb | exact bl_tr (bl_dr (bl_al (bl_al (bl_al (bl_al (bl_al (bl_al (bl0 _) _) _) _) _) _) _)) hb | exact bl_tr (bl_dr (bl0 _)) hb
    replace hA := bl_tr hA hk
    have f0 := cell_later hb (v := .int .i64 A) (a := ⟨w.heap.size, 0, none⟩) (by simp [go_sem])
    have f1 := cell_later hb (v := .int .i64 B) (a := ⟨w.heap.size, 1, none⟩) (by simp [go_sem])
    have f2 := cell_later hb (v := .slice a n cap) (a := ⟨w.heap.size, 2, none⟩) (by simp [go_sem])
    have p0 := cell_later hb (v := .int .i64 X) (a := ⟨w.heap.size + 1, 0, none⟩) (by simp [go_sem])
    have p1 := cell_later hb (v := .int .i64 Y) (a := ⟨w.heap.size + 1, 1, none⟩) (by simp [go_sem])
    have p2 := cell_later hb (v := .int .i64 S) (a := ⟨w.heap.size + 1, 2, none⟩) (by simp [go_sem])
    have q0 := cell_later hb (v := .int .i64 0) (a := ⟨w.heap.size + 1 + 1, 0, none⟩) (by simp [go_sem])
    have q1 := cell_later hb (v := .int .i64 0) (a := ⟨w.heap.size + 1 + 1, 1, none⟩) (by simp [go_sem])
    have q2 := cell_later hb (v := .int .i64 0) (a := ⟨w.heap.size + 1 + 1, 2, none⟩) (by simp [go_sem])
    have q3 := cell_later hb (v := .int .i64 0) (a := ⟨w.heap.size + 1 + 1, 3, none⟩) (by simp [go_sem])
    have u0 : w1.frozen? ⟨w.heap.size + 1 + 1, 0, none⟩ = false := (hb.frozen (p := ⟨w.heap.size + 1 + 1, 0, none⟩) (by simp <;> omega)).trans (by simp [go_sem])
    have u1 : w1.frozen? ⟨w.heap.size + 1 + 1, 1, none⟩ = false := (hb.frozen (p := ⟨w.heap.size + 1 + 1, 1, none⟩) (by simp <;> omega)).trans (by simp [go_sem])
    have u2 : w1.frozen? ⟨w.heap.size + 1 + 1, 2, none⟩ = false := (hb.frozen (p := ⟨w.heap.size + 1 + 1, 2, none⟩) (by simp <;> omega)).trans (by simp [go_sem])
    have u3 : w1.frozen? ⟨w.heap.size + 1 + 1, 3, none⟩ = false := (hb.frozen (p := ⟨w.heap.size + 1 + 1, 3, none⟩) (by simp <;> omega)).trans (by simp [go_sem])
    clear hb hk
    have zf0 := blk_lt f0
    have zf1 := blk_lt f1
    have zf2 := blk_lt f2
    have zp0 := blk_lt p0
    have zp1 := blk_lt p1
    have zp2 := blk_lt p2
    have zq0 := blk_lt q0
    have zq1 := blk_lt q1
    have zq2 := blk_lt q2
    have zq3 := blk_lt q3
    go_wp2
    refine bodyPost_ret (v := .tuple #[.agg #[.int .i64 0, .int .i64 0, .int .i64 0, .int .i64 0], .int .i64 E]) (by simp [results, Tryd.results38, go_sem, q0, q1, q2, q3]) rfl ⟨rfl, ?_⟩
    exact bl_st (bl_st (bl_st (bl_st hA (by omega) _) (by omega) _) (by omega) _) (by omega) _
  case pos =>
  subst h0
  rw [if_neg (fun h => h rfl)] at hx
  by_cases hs : X = A ∧ Y = B
  case neg =>
    rw [if_neg hs] at hx
    subst hx
    rw [hz _ (by decide), hz _ (by decide), hz _ (by decide), hz _ (by decide)]
    clear hz hz0
    by_cases hs1 : X = A
    · subst hs1
      have e1 : (X == X) = true := beq_self_eq_true _
      have e2 : (Y == B) = false := by rw [beq_eq_false_iff_ne]; exact fun h => hs ⟨rfl, h⟩
      clear hs
      go_enter Tryd.func38, Tryd.ntmps38
      go_wp2_with fail
      refine (H1.out _).mono ?_
      rintro e w1 ⟨rfl, hb⟩
      have hk : Below w.heap.size w w1 := by first | exact hb | exact bl_tr (bl_al (bl0 _) _) hb | exact bl_tr (bl_dr (bl_al (bl0 _) _)) hb | exact bl_tr (bl_al (bl_al (bl0 _) _) _) hb | exact bl_tr (bl_dr (bl_al (bl_al (bl0 _) _) _)) hb | exact bl_tr (bl_al (bl_al (bl_al (bl0 _) _) _) _) hb | exact bl_tr (bl_dr (bl_al (bl_al (bl_al (bl0 _) _) _) _)) hb | exact bl_tr (bl_al (bl_al (bl_al (bl_al (bl0 _) _) _) _) _) hb | exact bl_tr (bl_dr (bl_al (bl_al (bl_al (bl_al (bl0 _) _) _) _) _)) hb | exact bl_tr (bl_al (bl_al (bl_al (bl_al (bl_al (bl0 _) _) _) _) _) _) hb | exact bl_tr (bl_dr (bl_al (bl_al (bl_al (bl_al (bl_al (bl0 _) _) _) _) _) _)) hb | exact bl_tr (bl_al (bl_al (bl_al (bl_al (bl_al (bl_al (bl0 _) _) _) _) _) _) _) hb | exact bl_tr (bl_dr (bl_al (bl_al (bl_al (bl_al (bl_al (bl_al (bl0 _) _) _) _) _) _) _)) hb | exact bl_tr (bl_dr (bl0 _)) hb
      replace hA := bl_tr hA hk
      have f0 := cell_later hb (v := .int .i64 X) (a := ⟨w.heap.size, 0, none⟩) (by simp [go_sem])
      have f1 := cell_later hb (v := .int .i64 B) (a := ⟨w.heap.size, 1, none⟩) (by simp [go_sem])
      have f2 := cell_later hb (v := .slice a n cap) (a := ⟨w.heap.size, 2, none⟩) (by simp [go_sem])
      have p0 := cell_later hb (v := .int .i64 X) (a := ⟨w.heap.size + 1, 0, none⟩) (by simp [go_sem])
      have p1 := cell_later hb (v := .int .i64 Y) (a := ⟨w.heap.size + 1, 1, none⟩) (by simp [go_sem])
      have p2 := cell_later hb (v := .int .i64 S) (a := ⟨w.heap.size + 1, 2, none⟩) (by simp [go_sem])
      have q0 := cell_later hb (v := .int .i64 0) (a := ⟨w.heap.size + 1 + 1, 0, none⟩) (by simp [go_sem])
      have q1 := cell_later hb (v := .int .i64 0) (a := ⟨w.heap.size + 1 + 1, 1, none⟩) (by simp [go_sem])
      have q2 := cell_later hb (v := .int .i64 0) (a := ⟨w.heap.size + 1 + 1, 2, none⟩) (by simp [go_sem])
      have q3 := cell_later hb (v := .int .i64 0) (a := ⟨w.heap.size + 1 + 1, 3, none⟩) (by simp [go_sem])
      have u0 : w1.frozen? ⟨w.heap.size + 1 + 1, 0, none⟩ = false := (hb.frozen (p := ⟨w.heap.size + 1 + 1, 0, none⟩) (by simp <;> omega)).trans (by simp [go_sem])
      have u1 : w1.frozen? ⟨w.heap.size + 1 + 1, 1, none⟩ = false := (hb.frozen (p := ⟨w.heap.size + 1 + 1, 1, none⟩) (by simp <;> omega)).trans (by simp [go_sem])
      have u2 : w1.frozen? ⟨w.heap.size + 1 + 1, 2, none⟩ = false := (hb.frozen (p := ⟨w.heap.size + 1 + 1, 2, none⟩) (by simp <;> omega)).trans (by simp [go_sem])
      have u3 : w1.frozen? ⟨w.heap.size + 1 + 1, 3, none⟩ = false := (hb.frozen (p := ⟨w.heap.size + 1 + 1, 3, none⟩) (by simp <;> omega)).trans (by simp [go_sem])
      clear hb hk
      have zf0 := blk_lt f0
      have zf1 := blk_lt f1
      have zf2 := blk_lt f2
      have zp0 := blk_lt p0
      have zp1 := blk_lt p1
      have zp2 := blk_lt p2
      have zq0 := blk_lt q0
      have zq1 := blk_lt q1
      have zq2 := blk_lt q2
      have zq3 := blk_lt q3
      go_wp2
      refine bodyPost_ret (v := .tuple #[.agg #[.int .i64 0, .int .i64 0, .int .i64 0, .int .i64 0], .int .i64 1]) (by simp [results, Tryd.results38, go_sem, q0, q1, q2, q3]) rfl ⟨rfl, ?_⟩
      exact bl_st (bl_st (bl_st (bl_st hA (by omega) _) (by omega) _) (by omega) _) (by omega) _
    · have e1 : (X == A) = false := by rw [beq_eq_false_iff_ne]; exact hs1
      clear hs hs1
      go_enter Tryd.func38, Tryd.ntmps38
      go_wp2_with fail
      refine (H1.out _).mono ?_
      rintro e w1 ⟨rfl, hb⟩
      have hk : Below w.heap.size w w1 := by first | exact hb | exact bl_tr (bl_al (bl0 _) _) hb | exact bl_tr (bl_dr (bl_al (bl0 _) _)) hb | exact bl_tr (bl_al (bl_al (bl0 _) _) _) hb | exact bl_tr (bl_dr (bl_al (bl_al (bl0 _) _) _)) hb | exact bl_tr (bl_al (bl_al (bl_al (bl0 _) _) _) _) hb | exact bl_tr (bl_dr (bl_al (bl_al (bl_al (bl0 _) _) _) _)) hb | exact bl_tr (bl_al (bl_al (bl_al (bl_al (bl0 _) _) _) _) _) hb | exact bl_tr (bl_dr (bl_al (bl_al (bl_al (bl_al (bl0 _) _) _) _) _)) hb | exact bl_tr (bl_al (bl_al (bl_al (bl_al (bl_al (bl0 _) _) _) _) _) _) hb | exact bl_tr (bl_dr (bl_al (bl_al (bl_al (bl_al (bl_al (bl0 _) _) _) _) _) _)) hb | exact bl_tr (bl_al (bl_al (bl_al (bl_al (bl_al (bl_al (bl0 _) _) _) _) _) _) _) hb | exact bl_tr (bl_dr (bl_al (bl_al (bl_al (bl_al (bl_al (bl_al (bl0 _) _) _) _) _) _) _)) hb | exact bl_tr (bl_dr (bl0 _)) hb
      replace hA := bl_tr hA hk
      have f0 := cell_later hb (v := .int .i64 A) (a := ⟨w.heap.size, 0, none⟩) (by simp [go_sem])
      have f1 := cell_later hb (v := .int .i64 B) (a := ⟨w.heap.size, 1, none⟩) (by simp [go_sem])
      have f2 := cell_later hb (v := .slice a n cap) (a := ⟨w.heap.size, 2, none⟩) (by simp [go_sem])
      have p0 := cell_later hb (v := .int .i64 X) (a := ⟨w.heap.size + 1, 0, none⟩) (by simp [go_sem])
      have p1 := cell_later hb (v := .int .i64 Y) (a := ⟨w.heap.size + 1, 1, none⟩) (by simp [go_sem])
      have p2 := cell_later hb (v := .int .i64 S) (a := ⟨w.heap.size + 1, 2, none⟩) (by simp [go_sem])
      have q0 := cell_later hb (v := .int .i64 0) (a := ⟨w.heap.size + 1 + 1, 0, none⟩) (by simp [go_sem])
      have q1 := cell_later hb (v := .int .i64 0) (a := ⟨w.heap.size + 1 + 1, 1, none⟩) (by simp [go_sem])
      have q2 := cell_later hb (v := .int .i64 0) (a := ⟨w.heap.size + 1 + 1, 2, none⟩) (by simp [go_sem])
      have q3 := cell_later hb (v := .int .i64 0) (a := ⟨w.heap.size + 1 + 1, 3, none⟩) (by simp [go_sem])
      have u0 : w1.frozen? ⟨w.heap.size + 1 + 1, 0, none⟩ = false := (hb.frozen (p := ⟨w.heap.size + 1 + 1, 0, none⟩) (by simp <;> omega)).trans (by simp [go_sem])
      have u1 : w1.frozen? ⟨w.heap.size + 1 + 1, 1, none⟩ = false := (hb.frozen (p := ⟨w.heap.size + 1 + 1, 1, none⟩) (by simp <;> omega)).trans (by simp [go_sem])
      have u2 : w1.frozen? ⟨w.heap.size + 1 + 1, 2, none⟩ = false := (hb.frozen (p := ⟨w.heap.size + 1 + 1, 2, none⟩) (by simp <;> omega)).trans (by simp [go_sem])
      have u3 : w1.frozen? ⟨w.heap.size + 1 + 1, 3, none⟩ = false := (hb.frozen (p := ⟨w.heap.size + 1 + 1, 3, none⟩) (by simp <;> omega)).trans (by simp [go_sem])
      clear hb hk
      have zf0 := blk_lt f0
      have zf1 := blk_lt f1
      have zf2 := blk_lt f2
      have zp0 := blk_lt p0
      have zp1 := blk_lt p1
      have zp2 := blk_lt p2
      have zq0 := blk_lt q0
      have zq1 := blk_lt q1
      have zq2 := blk_lt q2
      have zq3 := blk_lt q3
      go_wp2
      refine bodyPost_ret (v := .tuple #[.agg #[.int .i64 0, .int .i64 0, .int .i64 0, .int .i64 0], .int .i64 1]) (by simp [results, Tryd.results38, go_sem, q0, q1, q2, q3]) rfl ⟨rfl, ?_⟩
      exact bl_st (bl_st (bl_st (bl_st hA (by omega) _) (by omega) _) (by omega) _) (by omega) _
  case pos =>
  rw [if_pos hs] at hx
  obtain ⟨rfl, rfl⟩ := hs
  have e1 : (X == X) = true := beq_self_eq_true _
  have e2 : (Y == Y) = true := beq_self_eq_true _
  by_cases hp : pe = 0
  case neg =>
    rw [if_pos hp] at hx
    subst hx
    rw [hz _ hp, hz _ hp, hz _ hp, hz _ hp] at H2 ⊢
    have h1 : (E != 0) = true := by rw [bne_iff_ne]; exact hp
    clear hp hz hz0
    go_enter Tryd.func38, Tryd.ntmps38
    go_wp2_with fail
    refine (H1.out _).mono ?_
    rintro e w1 ⟨rfl, hb⟩
    have hk : Below w.heap.size w w1 := by first | exact hb | exact bl_tr (bl_al (bl0 _) _) hb | exact bl_tr (bl_dr (bl_al (bl0 _) _)) hb | exact bl_tr (bl_al (bl_al (bl0 _) _) _) hb | exact bl_tr (bl_dr (bl_al (bl_al (bl0 _) _) _)) hb | exact bl_tr (bl_al (bl_al (bl_al (bl0 _) _) _) _) hb | exact bl_tr (bl_dr (bl_al (bl_al (bl_al (bl0 _) _) _) _)) hb | exact bl_tr (bl_al (bl_al (bl_al (bl_al (bl0 _) _) _) _) _) hb | exact bl_tr (bl_dr (bl_al (bl_al (bl_al (bl_al (bl0 _) _) _) _) _)) hb | exact bl_tr (bl_al (bl_al (bl_al (bl_al (bl_al (bl0 _) _) _) _) _) _) hb | exact bl_tr (bl_dr (bl_al (bl_al (bl_al (bl_al (bl_al (bl0 _) _) _) _) _) _)) hb | exact bl_tr (bl_al (bl_al (bl_al (bl_al (bl_al (bl_al (bl0 _) _) _) _) _) _) _) hb | exact bl_tr (bl_dr (bl_al (bl_al (bl_al (bl_al (bl_al (bl_al (bl0 _) _) _) _) _) _) _)) hb | exact bl_tr (bl_dr (bl0 _)) hb
    replace hA := bl_tr hA hk
    have f0 := cell_later hb (v := .int .i64 X) (a := ⟨w.heap.size, 0, none⟩) (by simp [go_sem])
    have f1 := cell_later hb (v := .int .i64 Y) (a := ⟨w.heap.size, 1, none⟩) (by simp [go_sem])
    have f2 := cell_later hb (v := .slice a n cap) (a := ⟨w.heap.size, 2, none⟩) (by simp [go_sem])
    have p0 := cell_later hb (v := .int .i64 X) (a := ⟨w.heap.size + 1, 0, none⟩) (by simp [go_sem])
    have p1 := cell_later hb (v := .int .i64 Y) (a := ⟨w.heap.size + 1, 1, none⟩) (by simp [go_sem])
    have p2 := cell_later hb (v := .int .i64 S) (a := ⟨w.heap.size + 1, 2, none⟩) (by simp [go_sem])
    have q0 := cell_later hb (v := .int .i64 0) (a := ⟨w.heap.size + 1 + 1, 0, none⟩) (by simp [go_sem])
    have q1 := cell_later hb (v := .int .i64 0) (a := ⟨w.heap.size + 1 + 1, 1, none⟩) (by simp [go_sem])
    have q2 := cell_later hb (v := .int .i64 0) (a := ⟨w.heap.size + 1 + 1, 2, none⟩) (by simp [go_sem])
    have q3 := cell_later hb (v := .int .i64 0) (a := ⟨w.heap.size + 1 + 1, 3, none⟩) (by simp [go_sem])
    have u0 : w1.frozen? ⟨w.heap.size + 1 + 1, 0, none⟩ = false := (hb.frozen (p := ⟨w.heap.size + 1 + 1, 0, none⟩) (by simp <;> omega)).trans (by simp [go_sem])
    have u1 : w1.frozen? ⟨w.heap.size + 1 + 1, 1, none⟩ = false := (hb.frozen (p := ⟨w.heap.size + 1 + 1, 1, none⟩) (by simp <;> omega)).trans (by simp [go_sem])
    have u2 : w1.frozen? ⟨w.heap.size + 1 + 1, 2, none⟩ = false := (hb.frozen (p := ⟨w.heap.size + 1 + 1, 2, none⟩) (by simp <;> omega)).trans (by simp [go_sem])
    have u3 : w1.frozen? ⟨w.heap.size + 1 + 1, 3, none⟩ = false := (hb.frozen (p := ⟨w.heap.size + 1 + 1, 3, none⟩) (by simp <;> omega)).trans (by simp [go_sem])
    clear hb hk
    have zf0 := blk_lt f0
    have zf1 := blk_lt f1
    have zf2 := blk_lt f2
    have zp0 := blk_lt p0
    have zp1 := blk_lt p1
    have zp2 := blk_lt p2
    have zq0 := blk_lt q0
    have zq1 := blk_lt q1
    have zq2 := blk_lt q2
    have zq3 := blk_lt q3
    go_wp2_with fail
    refine (H2.out _).mono ?_
    rintro e w2 ⟨rfl, hb⟩
    have hk : Below w1.heap.size w1 w2 := by first | exact hb | exact bl_tr (bl_al (bl0 _) _) hb | exact bl_tr (bl_dr (bl_al (bl0 _) _)) hb | exact bl_tr (bl_al (bl_al (bl0 _) _) _) hb | exact bl_tr (bl_dr (bl_al (bl_al (bl0 _) _) _)) hb | exact bl_tr (bl_al (bl_al (bl_al (bl0 _) _) _) _) hb | exact bl_tr (bl_dr (bl_al (bl_al (bl_al (bl0 _) _) _) _)) hb | exact bl_tr (bl_al (bl_al (bl_al (bl_al (bl0 _) _) _) _) _) hb | exact bl_tr (bl_dr (bl_al (bl_al (bl_al (bl_al (bl0 _) _) _) _) _)) hb | exact bl_tr (bl_al (bl_al (bl_al (bl_al (bl_al (bl0 _) _) _) _) _) _) hb | exact bl_tr (bl_dr (bl_al (bl_al (bl_al (bl_al (bl_al (bl0 _) _) _) _) _) _)) hb | exact bl_tr (bl_al (bl_al (bl_al (bl_al (bl_al (bl_al (bl0 _) _) _) _) _) _) _) hb | exact bl_tr (bl_dr (bl_al (bl_al (bl_al (bl_al (bl_al (bl_al (bl0 _) _) _) _) _) _) _)) hb | exact bl_tr (bl_dr (bl0 _)) hb
    replace hA := bl_tr hA hk
    replace u0 := frozen_later hk q0 u0
    replace u1 := frozen_later hk q1 u1
    replace u2 := frozen_later hk q2 u2
    replace u3 := frozen_later hk q3 u3
    replace p0 := cell_later hk p0
    replace p1 := cell_later hk p1
    replace p2 := cell_later hk p2
    replace q0 := cell_later hk q0
    replace q1 := cell_later hk q1
    replace q2 := cell_later hk q2
    replace q3 := cell_later hk q3
    clear hb hk
    have zp0 := blk_lt p0
    have zp1 := blk_lt p1
    have zp2 := blk_lt p2
    have zq0 := blk_lt q0
    have zq1 := blk_lt q1
    have zq2 := blk_lt q2
    have zq3 := blk_lt q3
    go_wp2
    refine bodyPost_ret (v := .tuple #[.agg #[.int .i64 0, .int .i64 0, .int .i64 0, .int .i64 0], .int .i64 E]) (by simp [results, Tryd.results38, go_sem, zq0, q0, q1, q2, q3]) rfl ⟨rfl, ?_⟩
    exact bl_al (bl_st (bl_st (bl_st (bl_st hA (by omega) _) (by omega) _) (by omega) _) (by omega) _) _
  case pos =>
  subst hp
  rw [if_neg (fun h => h rfl)] at hx
  subst hx
  rw [hz0, hz0, hz0, hz0] at H2
  by_cases hw : E = 0
  · subst hw
    rw [hz0, hz0, hz0, hz0]
    clear hz hz0
    go_enter Tryd.func38, Tryd.ntmps38
    go_wp2_with fail
    refine (H1.out _).mono ?_
    rintro e w1 ⟨rfl, hb⟩
    have hk : Below w.heap.size w w1 := by first | exact hb | exact bl_tr (bl_al (bl0 _) _) hb | exact bl_tr (bl_dr (bl_al (bl0 _) _)) hb | exact bl_tr (bl_al (bl_al (bl0 _) _) _) hb | exact bl_tr (bl_dr (bl_al (bl_al (bl0 _) _) _)) hb | exact bl_tr (bl_al (bl_al (bl_al (bl0 _) _) _) _) hb | exact bl_tr (bl_dr (bl_al (bl_al (bl_al (bl0 _) _) _) _)) hb | exact bl_tr (bl_al (bl_al (bl_al (bl_al (bl0 _) _) _) _) _) hb | exact bl_tr (bl_dr (bl_al (bl_al (bl_al (bl_al (bl0 _) _) _) _) _)) hb | exact bl_tr (bl_al (bl_al (bl_al (bl_al (bl_al (bl0 _) _) _) _) _) _) hb | exact bl_tr (bl_dr (bl_al (bl_al (bl_al (bl_al (bl_al (bl0 _) _) _) _) _) _)) hb | exact bl_tr (bl_al (bl_al (bl_al (bl_al (bl_al (bl_al (bl0 _) _) _) _) _) _) _) hb | exact bl_tr (bl_dr (bl_al (bl_al (bl_al (bl_al (bl_al (bl_al (bl0 _) _) _) _) _) _) _)) hb | exact bl_tr (bl_dr (bl0 _)) hb
    replace hA := bl_tr hA hk
    have f0 := cell_later hb (v := .int .i64 X) (a := ⟨w.heap.size, 0, none⟩) (by simp [go_sem])
    have f1 := cell_later hb (v := .int .i64 Y) (a := ⟨w.heap.size, 1, none⟩) (by simp [go_sem])
    have f2 := cell_later hb (v := .slice a n cap) (a := ⟨w.heap.size, 2, none⟩) (by simp [go_sem])
    have p0 := cell_later hb (v := .int .i64 X) (a := ⟨w.heap.size + 1, 0, none⟩) (by simp [go_sem])
    have p1 := cell_later hb (v := .int .i64 Y) (a := ⟨w.heap.size + 1, 1, none⟩) (by simp [go_sem])
    have p2 := cell_later hb (v := .int .i64 S) (a := ⟨w.heap.size + 1, 2, none⟩) (by simp [go_sem])
    have q0 := cell_later hb (v := .int .i64 0) (a := ⟨w.heap.size + 1 + 1, 0, none⟩) (by simp [go_sem])
    have q1 := cell_later hb (v := .int .i64 0) (a := ⟨w.heap.size + 1 + 1, 1, none⟩) (by simp [go_sem])
    have q2 := cell_later hb (v := .int .i64 0) (a := ⟨w.heap.size + 1 + 1, 2, none⟩) (by simp [go_sem])
    have q3 := cell_later hb (v := .int .i64 0) (a := ⟨w.heap.size + 1 + 1, 3, none⟩) (by simp [go_sem])
    have u0 : w1.frozen? ⟨w.heap.size + 1 + 1, 0, none⟩ = false := (hb.frozen (p := ⟨w.heap.size + 1 + 1, 0, none⟩) (by simp <;> omega)).trans (by simp [go_sem])
    have u1 : w1.frozen? ⟨w.heap.size + 1 + 1, 1, none⟩ = false := (hb.frozen (p := ⟨w.heap.size + 1 + 1, 1, none⟩) (by simp <;> omega)).trans (by simp [go_sem])
    have u2 : w1.frozen? ⟨w.heap.size + 1 + 1, 2, none⟩ = false := (hb.frozen (p := ⟨w.heap.size + 1 + 1, 2, none⟩) (by simp <;> omega)).trans (by simp [go_sem])
    have u3 : w1.frozen? ⟨w.heap.size + 1 + 1, 3, none⟩ = false := (hb.frozen (p := ⟨w.heap.size + 1 + 1, 3, none⟩) (by simp <;> omega)).trans (by simp [go_sem])
    clear hb hk
    have zf0 := blk_lt f0
    have zf1 := blk_lt f1
    have zf2 := blk_lt f2
    have zp0 := blk_lt p0
    have zp1 := blk_lt p1
    have zp2 := blk_lt p2
    have zq0 := blk_lt q0
    have zq1 := blk_lt q1
    have zq2 := blk_lt q2
    have zq3 := blk_lt q3
    go_wp2_with fail
    refine (H2.out _).mono ?_
    rintro e w2 ⟨rfl, hb⟩
    have hk : Below w1.heap.size w1 w2 := by first | exact hb | exact bl_tr (bl_al (bl0 _) _) hb | exact bl_tr (bl_dr (bl_al (bl0 _) _)) hb | exact bl_tr (bl_al (bl_al (bl0 _) _) _) hb | exact bl_tr (bl_dr (bl_al (bl_al (bl0 _) _) _)) hb | exact bl_tr (bl_al (bl_al (bl_al (bl0 _) _) _) _) hb | exact bl_tr (bl_dr (bl_al (bl_al (bl_al (bl0 _) _) _) _)) hb | exact bl_tr (bl_al (bl_al (bl_al (bl_al (bl0 _) _) _) _) _) hb | exact bl_tr (bl_dr (bl_al (bl_al (bl_al (bl_al (bl0 _) _) _) _) _)) hb | exact bl_tr (bl_al (bl_al (bl_al (bl_al (bl_al (bl0 _) _) _) _) _) _) hb | exact bl_tr (bl_dr (bl_al (bl_al (bl_al (bl_al (bl_al (bl0 _) _) _) _) _) _)) hb | exact bl_tr (bl_al (bl_al (bl_al (bl_al (bl_al (bl_al (bl0 _) _) _) _) _) _) _) hb | exact bl_tr (bl_dr (bl_al (bl_al (bl_al (bl_al (bl_al (bl_al (bl0 _) _) _) _) _) _) _)) hb | exact bl_tr (bl_dr (bl0 _)) hb
    replace hA := bl_tr hA hk
    replace u0 := frozen_later hk q0 u0
    replace u1 := frozen_later hk q1 u1
    replace u2 := frozen_later hk q2 u2
    replace u3 := frozen_later hk q3 u3
    replace p0 := cell_later hk p0
    replace p1 := cell_later hk p1
    replace p2 := cell_later hk p2
    replace q0 := cell_later hk q0
    replace q1 := cell_later hk q1
    replace q2 := cell_later hk q2
    replace q3 := cell_later hk q3
    clear hb hk
    have zp0 := blk_lt p0
    have zp1 := blk_lt p1
    have zp2 := blk_lt p2
    have zq0 := blk_lt q0
    have zq1 := blk_lt q1
    have zq2 := blk_lt q2
    have zq3 := blk_lt q3
    go_wp2_with fail
    refine (H3.out _ (hr.below (by first | exact hA | exact (bl_al hA _) | exact (bl_dr (bl_al hA _)) | exact (bl_al (bl_al hA _) _) | exact (bl_dr (bl_al (bl_al hA _) _)) | exact (bl_al (bl_al (bl_al hA _) _) _) | exact (bl_dr (bl_al (bl_al (bl_al hA _) _) _)) | exact (bl_al (bl_al (bl_al (bl_al hA _) _) _) _) | exact (bl_dr (bl_al (bl_al (bl_al (bl_al hA _) _) _) _)) | exact (bl_al (bl_al (bl_al (bl_al (bl_al hA _) _) _) _) _) | exact (bl_dr (bl_al (bl_al (bl_al (bl_al (bl_al hA _) _) _) _) _)) | exact (bl_al (bl_al (bl_al (bl_al (bl_al (bl_al hA _) _) _) _) _) _) | exact (bl_dr (bl_al (bl_al (bl_al (bl_al (bl_al (bl_al hA _) _) _) _) _) _)) | exact (bl_dr hA)))).mono ?_
    rintro e w3 ⟨rfl, hb⟩
    have hk : Below w2.heap.size w2 w3 := by first | exact hb | exact bl_tr (bl_al (bl0 _) _) hb | exact bl_tr (bl_dr (bl_al (bl0 _) _)) hb | exact bl_tr (bl_al (bl_al (bl0 _) _) _) hb | exact bl_tr (bl_dr (bl_al (bl_al (bl0 _) _) _)) hb | exact bl_tr (bl_al (bl_al (bl_al (bl0 _) _) _) _) hb | exact bl_tr (bl_dr (bl_al (bl_al (bl_al (bl0 _) _) _) _)) hb | exact bl_tr (bl_al (bl_al (bl_al (bl_al (bl0 _) _) _) _) _) hb | exact bl_tr (bl_dr (bl_al (bl_al (bl_al (bl_al (bl0 _) _) _) _) _)) hb | exact bl_tr (bl_al (bl_al (bl_al (bl_al (bl_al (bl0 _) _) _) _) _) _) hb | exact bl_tr (bl_dr (bl_al (bl_al (bl_al (bl_al (bl_al (bl0 _) _) _) _) _) _)) hb | exact bl_tr (bl_al (bl_al (bl_al (bl_al (bl_al (bl_al (bl0 _) _) _) _) _) _) _) hb | exact bl_tr (bl_dr (bl_al (bl_al (bl_al (bl_al (bl_al (bl_al (bl0 _) _) _) _) _) _) _)) hb | exact bl_tr (bl_dr (bl0 _)) hb
    replace hA := bl_tr hA hk
    replace u0 := frozen_later hk q0 u0
    replace u1 := frozen_later hk q1 u1
    replace u2 := frozen_later hk q2 u2
    replace u3 := frozen_later hk q3 u3
    replace q0 := cell_later hk q0
    replace q1 := cell_later hk q1
    replace q2 := cell_later hk q2
    replace q3 := cell_later hk q3
    have b0 := cell_later hb (v := .int .i64 k0) (a := ⟨w2.heap.size, 0, none⟩) (by simp [go_sem])
    have b1 := cell_later hb (v := .int .i64 k1) (a := ⟨w2.heap.size, 1, none⟩) (by simp [go_sem])
    have b2 := cell_later hb (v := .int .i64 k2) (a := ⟨w2.heap.size, 2, none⟩) (by simp [go_sem])
    have b3 := cell_later hb (v := .int .i64 k3) (a := ⟨w2.heap.size, 3, none⟩) (by simp [go_sem])
    clear hb hk
    have zq0 := blk_lt q0
    have zq1 := blk_lt q1
    have zq2 := blk_lt q2
    have zq3 := blk_lt q3
    have zb0 := blk_lt b0
    have zb1 := blk_lt b1
    have zb2 := blk_lt b2
    have zb3 := blk_lt b3
    go_wp2
    refine bodyPost_ret (v := .tuple #[.agg #[.int .i64 k0, .int .i64 k1, .int .i64 k2, .int .i64 k3], .int .i64 0]) (by simp [results, Tryd.results38, go_sem, q0, q1, q2, q3]) rfl ⟨rfl, ?_⟩
    exact bl_st (bl_st (bl_st (bl_st hA (by omega) _) (by omega) _) (by omega) _) (by omega) _
  · rw [hz _ hw, hz _ hw, hz _ hw, hz _ hw]
    have h1 : (E != 0) = true := by rw [bne_iff_ne]; exact hw
    clear hw hz hz0
    go_enter Tryd.func38, Tryd.ntmps38
    go_wp2_with fail
    refine (H1.out _).mono ?_
    rintro e w1 ⟨rfl, hb⟩
    have hk : Below w.heap.size w w1 := by first | exact hb | exact bl_tr (bl_al (bl0 _) _) hb | exact bl_tr (bl_dr (bl_al (bl0 _) _)) hb | exact bl_tr (bl_al (bl_al (bl0 _) _) _) hb | exact bl_tr (bl_dr (bl_al (bl_al (bl0 _) _) _)) hb | exact bl_tr (bl_al (bl_al (bl_al (bl0 _) _) _) _) hb | exact bl_tr (bl_dr (bl_al (bl_al (bl_al (bl0 _) _) _) _)) hb | exact bl_tr (bl_al (bl_al (bl_al (bl_al (bl0 _) _) _) _) _) hb | exact bl_tr (bl_dr (bl_al (bl_al (bl_al (bl_al (bl0 _) _) _) _) _)) hb | exact bl_tr (bl_al (bl_al (bl_al (bl_al (bl_al (bl0 _) _) _) _) _) _) hb | exact bl_tr (bl_dr (bl_al (bl_al (bl_al (bl_al (bl_al (bl0 _) _) _) _) _) _)) hb | exact bl_tr (bl_al (bl_al (bl_al (bl_al (bl_al (bl_al (bl0 _) _) _) _) _) _) _) hb | exact bl_tr (bl_dr (bl_al (bl_al (bl_al (bl_al (bl_al (bl_al (bl0 _) _) _) _) _) _) _)) hb | exact bl_tr (bl_dr (bl0 _)) hb
    replace hA := bl_tr hA hk
    have f0 := cell_later hb (v := .int .i64 X) (a := ⟨w.heap.size, 0, none⟩) (by simp [go_sem])
    have f1 := cell_later hb (v := .int .i64 Y) (a := ⟨w.heap.size, 1, none⟩) (by simp [go_sem])
    have f2 := cell_later hb (v := .slice a n cap) (a := ⟨w.heap.size, 2, none⟩) (by simp [go_sem])
    have p0 := cell_later hb (v := .int .i64 X) (a := ⟨w.heap.size + 1, 0, none⟩) (by simp [go_sem])
    have p1 := cell_later hb (v := .int .i64 Y) (a := ⟨w.heap.size + 1, 1, none⟩) (by simp [go_sem])
    have p2 := cell_later hb (v := .int .i64 S) (a := ⟨w.heap.size + 1, 2, none⟩) (by simp [go_sem])
    have q0 := cell_later hb (v := .int .i64 0) (a := ⟨w.heap.size + 1 + 1, 0, none⟩) (by simp [go_sem])
    have q1 := cell_later hb (v := .int .i64 0) (a := ⟨w.heap.size + 1 + 1, 1, none⟩) (by simp [go_sem])
    have q2 := cell_later hb (v := .int .i64 0) (a := ⟨w.heap.size + 1 + 1, 2, none⟩) (by simp [go_sem])
    have q3 := cell_later hb (v := .int .i64 0) (a := ⟨w.heap.size + 1 + 1, 3, none⟩) (by simp [go_sem])
    have u0 : w1.frozen? ⟨w.heap.size + 1 + 1, 0, none⟩ = false := (hb.frozen (p := ⟨w.heap.size + 1 + 1, 0, none⟩) (by simp <;> omega)).trans (by simp [go_sem])
    have u1 : w1.frozen? ⟨w.heap.size + 1 + 1, 1, none⟩ = false := (hb.frozen (p := ⟨w.heap.size + 1 + 1, 1, none⟩) (by simp <;> omega)).trans (by simp [go_sem])
    have u2 : w1.frozen? ⟨w.heap.size + 1 + 1, 2, none⟩ = false := (hb.frozen (p := ⟨w.heap.size + 1 + 1, 2, none⟩) (by simp <;> omega)).trans (by simp [go_sem])
    have u3 : w1.frozen? ⟨w.heap.size + 1 + 1, 3, none⟩ = false := (hb.frozen (p := ⟨w.heap.size + 1 + 1, 3, none⟩) (by simp <;> omega)).trans (by simp [go_sem])
    clear hb hk
    have zf0 := blk_lt f0
    have zf1 := blk_lt f1
    have zf2 := blk_lt f2
    have zp0 := blk_lt p0
    have zp1 := blk_lt p1
    have zp2 := blk_lt p2
    have zq0 := blk_lt q0
    have zq1 := blk_lt q1
    have zq2 := blk_lt q2
    have zq3 := blk_lt q3
    go_wp2_with fail
    refine (H2.out _).mono ?_
    rintro e w2 ⟨rfl, hb⟩
    have hk : Below w1.heap.size w1 w2 := by first | exact hb | exact bl_tr (bl_al (bl0 _) _) hb | exact bl_tr (bl_dr (bl_al (bl0 _) _)) hb | exact bl_tr (bl_al (bl_al (bl0 _) _) _) hb | exact bl_tr (bl_dr (bl_al (bl_al (bl0 _) _) _)) hb | exact bl_tr (bl_al (bl_al (bl_al (bl0 _) _) _) _) hb | exact bl_tr (bl_dr (bl_al (bl_al (bl_al (bl0 _) _) _) _)) hb | exact bl_tr (bl_al (bl_al (bl_al (bl_al (bl0 _) _) _) _) _) hb | exact bl_tr (bl_dr (bl_al (bl_al (bl_al (bl_al (bl0 _) _) _) _) _)) hb | exact bl_tr (bl_al (bl_al (bl_al (bl_al (bl_al (bl0 _) _) _) _) _) _) hb | exact bl_tr (bl_dr (bl_al (bl_al (bl_al (bl_al (bl_al (bl0 _) _) _) _) _) _)) hb | exact bl_tr (bl_al (bl_al (bl_al (bl_al (bl_al (bl_al (bl0 _) _) _) _) _) _) _) hb | exact bl_tr (bl_dr (bl_al (bl_al (bl_al (bl_al (bl_al (bl_al (bl0 _) _) _) _) _) _) _)) hb | exact bl_tr (bl_dr (bl0 _)) hb
    replace hA := bl_tr hA hk
    replace u0 := frozen_later hk q0 u0
    replace u1 := frozen_later hk q1 u1
    replace u2 := frozen_later hk q2 u2
    replace u3 := frozen_later hk q3 u3
    replace p0 := cell_later hk p0
    replace p1 := cell_later hk p1
    replace p2 := cell_later hk p2
    replace q0 := cell_later hk q0
    replace q1 := cell_later hk q1
    replace q2 := cell_later hk q2
    replace q3 := cell_later hk q3
    clear hb hk
    have zp0 := blk_lt p0
    have zp1 := blk_lt p1
    have zp2 := blk_lt p2
    have zq0 := blk_lt q0
    have zq1 := blk_lt q1
    have zq2 := blk_lt q2
    have zq3 := blk_lt q3
    go_wp2_with fail
    refine (H3.out _ (hr.below (by first | exact hA | exact (bl_al hA _) | exact (bl_dr (bl_al hA _)) | exact (bl_al (bl_al hA _) _) | exact (bl_dr (bl_al (bl_al hA _) _)) | exact (bl_al (bl_al (bl_al hA _) _) _) | exact (bl_dr (bl_al (bl_al (bl_al hA _) _) _)) | exact (bl_al (bl_al (bl_al (bl_al hA _) _) _) _) | exact (bl_dr (bl_al (bl_al (bl_al (bl_al hA _) _) _) _)) | exact (bl_al (bl_al (bl_al (bl_al (bl_al hA _) _) _) _) _) | exact (bl_dr (bl_al (bl_al (bl_al (bl_al (bl_al hA _) _) _) _) _)) | exact (bl_al (bl_al (bl_al (bl_al (bl_al (bl_al hA _) _) _) _) _) _) | exact (bl_dr (bl_al (bl_al (bl_al (bl_al (bl_al (bl_al hA _) _) _) _) _) _)) | exact (bl_dr hA)))).mono ?_
    rintro e w3 ⟨rfl, hb⟩
    have hk : Below w2.heap.size w2 w3 := by first | exact hb | exact bl_tr (bl_al (bl0 _) _) hb | exact bl_tr (bl_dr (bl_al (bl0 _) _)) hb | exact bl_tr (bl_al (bl_al (bl0 _) _) _) hb | exact bl_tr (bl_dr (bl_al (bl_al (bl0 _) _) _)) hb | exact bl_tr (bl_al (bl_al (bl_al (bl0 _) _) _) _) hb | exact bl_tr (bl_dr (bl_al (bl_al (bl_al (bl0 _) _) _) _)) hb | exact bl_tr (bl_al (bl_al (bl_al (bl_al (bl0 _) _) _) _) _) hb | exact bl_tr (bl_dr (bl_al (bl_al (bl_al (bl_al (bl0 _) _) _) _) _)) hb | exact bl_tr (bl_al (bl_al (bl_al (bl_al (bl_al (bl0 _) _) _) _) _) _) hb | exact bl_tr (bl_dr (bl_al (bl_al (bl_al (bl_al (bl_al (bl0 _) _) _) _) _) _)) hb | exact bl_tr (bl_al (bl_al (bl_al (bl_al (bl_al (bl_al (bl0 _) _) _) _) _) _) _) hb | exact bl_tr (bl_dr (bl_al (bl_al (bl_al (bl_al (bl_al (bl_al (bl0 _) _) _) _) _) _) _)) hb | exact bl_tr (bl_dr (bl0 _)) hb
    replace hA := bl_tr hA hk
    replace u0 := frozen_later hk q0 u0
    replace u1 := frozen_later hk q1 u1
    replace u2 := frozen_later hk q2 u2
    replace u3 := frozen_later hk q3 u3
    replace q0 := cell_later hk q0
    replace q1 := cell_later hk q1
    replace q2 := cell_later hk q2
    replace q3 := cell_later hk q3
    clear hb hk
    have zq0 := blk_lt q0
    have zq1 := blk_lt q1
    have zq2 := blk_lt q2
    have zq3 := blk_lt q3
    go_wp2
    refine bodyPost_ret (v := .tuple #[.agg #[.int .i64 0, .int .i64 0, .int .i64 0, .int .i64 0], .int .i64 E]) (by simp [results, Tryd.results38, go_sem, q0, q1, q2, q3]) rfl ⟨rfl, ?_⟩
    exact bl_st (bl_st (bl_st (bl_st hA (by omega) _) (by omega) _) (by omega) _) (by omega) _
end Go.Proofs.YtgbhafadibdmcaaDoor

/- Tables within a cluster: a box's costs as a field of its own. -/
namespace Go.Proofs.YtgbhafadibdmcaaDoor
open Go.RowKit

/-- One row of a box's costs. -/
def rowZ (A X Y : Int) (U : Nat) (zs : List Int) (k : Nat) : List Int := (List.range U).map fun (t : Nat) => zs.getD (numN A ((t : Int) + X, (k : Int) + Y)) 0
theorem ownZ_succ (A X Y : Int) {U : Nat} (hU : 1 ≤ U) (k : Nat) (zs : List Int) : ownZ A X Y U (k + 1) zs = ownZ A X Y U k zs ++ rowZ A X Y U zs k := by
  unfold ownZ rowZ
  rw [Nat.mul_succ, List.range_add, List.map_append, List.map_map]
  congr 1
  refine List.map_congr_left fun t ht => ?_
  rw [List.mem_range] at ht
  have e : cellN (U : Int) (U * k + t) = ((t : Int), (k : Int)) := by
    unfold cellN
    have h1 : ((U * k + t : Nat) : Int) = (t : Int) + (k : Int) * (U : Int) := by rw [Int.natCast_add, Int.natCast_mul, Int.mul_comm, Int.add_comm]
    rw [h1, Int.add_mul_emod_self_right, Int.emod_eq_of_lt (by omega) (by omega), Int.add_mul_ediv_right _ _ (by omega), Int.ediv_eq_zero_of_lt (by omega) (by omega)]
    exact Prod.ext rfl (by show 0 + (k : Int) = k; omega)
  show zs.getD (numN A ((cellN (U : Int) (U * k + t)).1 + X, (cellN (U : Int) (U * k + t)).2 + Y)) 0 = _
  rw [e]
theorem rowZ_len (A X Y : Int) (U : Nat) (zs : List Int) (k : Nat) : (rowZ A X Y U zs k).length = U := by simp [rowZ]
theorem ownH_ne {W : World} {base n fv : Nat} {v : Value} {xs : List Value} {cs : Array Value} {fr : Nat × Nat} (h : W.ownsRow base 64 1 v n xs) (hf : W.heap[fv]? = some (.cells cs 26 fr)) : v.ownBlock ≠ some fv := by
  intro e
  rcases h.2 with ⟨rfl, _⟩ | ⟨g, cap, cur, rfl, _, hg, _⟩
  · cases e
  · have : g = fv := by simpa [Value.ownBlock] using e
    subst this
    rw [hf] at hg
    have h2 := Option.some.inj hg
    injection h2 with _ h3
    exact absurd h3 (by decide)
theorem rowH_own {w : World} {base n cap : Nat} {a : Option Addr} {zs : List Int} (h : w.ownsRow base 64 1 (.slice a n cap) n (cellsHH zs)) (hl : zs.length = n) : RowH w a zs := by
  have hown := h
  rcases h.2 with ⟨e, h0⟩ | ⟨g, cap, cur, e, hb, hg, _⟩
  · exact .inl (List.eq_nil_of_length_eq_zero (by omega))
  · cases e
    refine .inr ⟨g, 0, rfl, fun i z hz => ?_⟩
    have a0 := hown.cells (g := g) rfl i (.int .u16 z) (by simp [cellsHH, hz])
    rw [hadd] at a0
    rw [Nat.zero_add]
    exact a0
theorem make_h0 (n : Nat) (hn : n ≤ 1048576) (w : World) : (Instr.makeSlice 24 (.int .i64 0) (.int .i64 (n : Int))).run Tryd.prog w = .ok (.slice (some ⟨w.heap.size, 0, none⟩) 0 n) (w.alloc (.cells (madeCells #[.int .u16 0] (n * 1)) 64)) := by
  obtain ⟨i0, hi, hz0, hz1, hz2⟩ := info_parts Tryd.infoH
  have hr := run_make (P := Tryd.prog) w 24 64 i0 (.int .u16 0) Tryd.underlying24 hi hz0 .i64 .i64 0 n (by omega) (by omega) (by rw [hz2]; omega) (by omega)
  simp only [Int.toNat_natCast, hz1] at hr
  exact hr
theorem own_h0 {W : World} {hv n base : Nat} (hb : base ≤ hv) (hn : n ≤ 1048576) (h : W.heap[hv]? = some (.cells (madeCells #[.int .u16 0] n) 64 (0, 0))) : W.ownsRow base 64 1 (.slice (some ⟨hv, 0, none⟩) 0 n) 0 (cellsHH []) :=
  ⟨rfl, .inr ⟨hv, n, _, rfl, hb, h, Nat.zero_le _, by unfold maxLen; omega, by rw [size_madeCells, Nat.mul_one], rfl⟩⟩

theorem own_shH {W : World} {base n : Nat} {v : Value} {xs : List Value} (h : W.ownsRow base 64 1 v n xs) : ∃ a c, v = .slice a n c := by
  rcases h.2 with ⟨rfl, rfl⟩ | ⟨g, cap, cur, rfl, _⟩
  · exact ⟨none, 0, rfl⟩
  · exact ⟨_, _, rfl⟩
theorem addr_addN (b o k : Nat) : (⟨b, o, none⟩ : Addr).add k = ⟨b, o + k, none⟩ := by unfold Addr.add; split <;> simp_all
theorem slice_h (b : Option Addr) (n cap l h U : Nat) (W : World) (hh : l + U = h) (hU : 1 ≤ U) (hc : h ≤ cap) : (Instr.sliceAt 24 (.slice b n cap) (some (.int .i64 (l : Int))) (some (.int .i64 (h : Int))) none).run Tryd.prog W = .ok (.slice (b.map (·.add l)) U (cap - l)) W := by
  have h1 := run_slice_lh (P := Tryd.prog) W 24 b n cap (by kernel_rfl) .i64 .i64 (l : Int) (h : Int) (by omega) (by omega) (by omega)
  rw [run_sliceAt_slice _ _ _ _ _ _ (by kernel_rfl), h1]
  have he : Tryd.prog.elem 24 = 64 := by kernel_rfl
  rw [he]
  simp only [Tryd.sizeOf64, Result.andThen, sliced, Int.toNat_natCast, Nat.mul_one]
  rw [if_neg (by omega), show h - l = U by omega]
/-- What cut's loop holds. -/
structure CtI (w0 : World) (A B X Y : Int) (U V : Nat) (a : Option Addr) (n cap base fv : Nat) (zs : List Int) (k : Nat) (W : World) : Prop where
  bel : Below w0.heap.size w0 W
  own : ∃ va vc, W.heap[fv]? = some (.cells #[.int .i64 U, .int .i64 V, .slice va (U * k) vc] 26 (0, 0)) ∧ W.ownsRow base 64 1 (.slice va (U * k) vc) (U * k) (cellsHH (ownZ A X Y U k zs))

set_option maxRecDepth 100000 in
set_option maxHeartbeats 8000000 in
theorem cut_i (A B X Y : Int) (U V : Nat) (a : Option Addr) (cap : Nat) (zs : List Int) (w : World) (hr : RowH w a zs) (hc : zs.length ≤ cap) (hn : (zs.length : Int) = A * B) (hx : BoxOn A B X Y U V) :
    Calls Tryd.prog 64 #[.agg #[.int .i64 A, .int .i64 B, .slice a zs.length cap], .agg #[.int .i64 X, .int .i64 Y, .int .i64 U, .int .i64 V]] w fun e w' => ∃ va vc, e = .returned (.agg #[.int .i64 U, .int .i64 V, .slice va (U * V) vc]) ∧ RowH w' va (ownZ A X Y U V zs) ∧ Below w.heap.size w w' := by
  obtain ⟨i0, hi0, hz0, hz1, hz2⟩ := info_parts Tryd.infoH
  have hx' := hx
  obtain ⟨⟨a1, a2⟩, ⟨b1, b2⟩, ⟨x1, x2⟩, ⟨y1, y2⟩, u1, v1⟩ := hx'
  have hUV : U * V ≤ 65536 := Nat.mul_le_mul (show U ≤ 256 by omega) (show V ≤ 256 by omega)
  have hUW : IntKind.i64.wrap ((U : Int) * (V : Int)) = ((U * V : Nat) : Int) := by rw [Int.natCast_mul]; exact IntWalk.i64_in _ (by rw [← Int.natCast_mul]; omega)
  obtain ⟨uv, huv⟩ : ∃ uv, U * V = uv := ⟨_, rfl⟩
  rw [huv] at hUW hUV ⊢
  have HUV := Lib.hid huv
  have hmk := fun w => make_h0 uv (by omega) w
  have HNUM := Lib.hid (fun (k : Nat) (hk : k < V) => (show IntKind.i64.wrap (Y + (k : Int)) = Y + (k : Int) ∧ IntKind.i64.wrap ((Y + (k : Int)) * A) = (Y + (k : Int)) * A ∧ IntKind.i64.wrap ((Y + (k : Int)) * A + X) = (numN A (X, Y + (k : Int)) : Int) ∧ numN A (X, Y + (k : Int)) + U ≤ zs.length ∧ IntKind.i64.wrap ((numN A (X, Y + (k : Int)) : Int) + (U : Int)) = ((numN A (X, Y + (k : Int)) + U : Nat) : Int) ∧ rowZ A X Y U zs k = (zs.drop (numN A (X, Y + (k : Int)))).take U by
    have o1 : onB A B (X, Y + (k : Int)) = true := inB_iff.2 ⟨a1, a2, b1, b2, x1, by omega, by show 0 ≤ Y + (k : Int); omega, by show Y + (k : Int) < B; omega⟩
    have o2 : onB A B (X + (U : Int) - 1, Y + (k : Int)) = true := inB_iff.2 ⟨a1, a2, b1, b2, by show 0 ≤ X + (U : Int) - 1; omega, by show X + (U : Int) - 1 < A; omega, by show 0 ≤ Y + (k : Int); omega, by show Y + (k : Int) < B; omega⟩
    obtain ⟨e1, e2⟩ := numN_int o1
    obtain ⟨e3, e4⟩ := numN_int o2
    obtain ⟨q1, q2⟩ := num_on o1
    simp only at e1 e2 e3 e4 q1 q2
    have hle : numN A (X, Y + (k : Int)) + U ≤ zs.length := by omega
    refine ⟨IntWalk.i64_in _ (by omega), q1, q2, hle, ?_, ?_⟩
    · have := area_bd hx.may
      rw [IntWalk.i64_in _ (by omega)]; omega
    · refine List.ext_getElem (by simp [rowZ]; omega) fun i h1 h2 => ?_
      have hi : i < U := by simpa [rowZ] using h1
      have o3 : onB A B ((i : Int) + X, (k : Int) + Y) = true := inB_iff.2 ⟨a1, a2, b1, b2, by show 0 ≤ (i : Int) + X; omega, by show (i : Int) + X < A; omega, by show 0 ≤ (k : Int) + Y; omega, by show (k : Int) + Y < B; omega⟩
      obtain ⟨e5, e6⟩ := numN_int o3
      simp only at e5
      have hnm : numN A ((i : Int) + X, (k : Int) + Y) = numN A (X, Y + (k : Int)) + i := by
        rw [Int.add_comm (k : Int) Y] at e5 ⊢
        omega
      simp only [rowZ, List.getElem_map, List.getElem_range, List.getElem_take, List.getElem_drop]
      rw [hnm, List.getD_eq_getElem?_getD, List.getElem?_eq_getElem (by omega)]
      rfl))
  have HOS := Lib.hid (fun k => ownZ_succ A X Y u1 k zs)
  have HRL := Lib.hid (fun k => rowZ_len A X Y U zs k)
  have hA := bl_al (bl_al (bl_al (bl0 w) (.cells #[.int .i64 A, .int .i64 B, .slice a zs.length cap] 26)) (.cells #[.int .i64 X, .int .i64 Y, .int .i64 U, .int .i64 V] 28)) (.cells #[.int .i64 0, .int .i64 0, .slice none 0 0] 26)
  have HR := Lib.hid (hr.below hA)
  have hUi : (U : Int) ≤ 256 := by omega
  have hVi : (V : Int) ≤ 256 := by omega
  clear hr hn hx huv
  go_enter Tryd.func64, Tryd.ntmps64
  go_upto_region 1 with fail
  obtain ⟨w0, hw0⟩ : ∃ w0, ((w.alloc (.cells #[.int .i64 A, .int .i64 B, .slice a zs.length cap] 26)).alloc (.cells #[.int .i64 X, .int .i64 Y, .int .i64 U, .int .i64 V] 28)).alloc (.cells #[.int .i64 0, .int .i64 0, .slice none 0 0] 26) = w0 := ⟨_, rfl⟩
  have f0 : w0.cell? ⟨w.heap.size, 0, none⟩ = some (.int .i64 A) := by rw [← hw0]; simp [go_sem]
  have f1 : w0.cell? ⟨w.heap.size, 1, none⟩ = some (.int .i64 B) := by rw [← hw0]; simp [go_sem]
  have f2 : w0.cell? ⟨w.heap.size, 2, none⟩ = some (.slice a zs.length cap) := by rw [← hw0]; simp [go_sem]
  have c0 : w0.cell? ⟨w.heap.size + 1, 0, none⟩ = some (.int .i64 X) := by rw [← hw0]; simp [go_sem]
  have c1 : w0.cell? ⟨w.heap.size + 1, 1, none⟩ = some (.int .i64 Y) := by rw [← hw0]; simp [go_sem]
  have c2 : w0.cell? ⟨w.heap.size + 1, 2, none⟩ = some (.int .i64 U) := by rw [← hw0]; simp [go_sem]
  have c3 : w0.cell? ⟨w.heap.size + 1, 3, none⟩ = some (.int .i64 V) := by rw [← hw0]; simp [go_sem]
  have r0 : w0.heap[w.heap.size + 1 + 1]? = some (.cells #[.int .i64 0, .int .i64 0, .slice none 0 0] 26 (0, 0)) := by
    rw [← hw0]
    have h := heap_alloc_new ((w.alloc (.cells #[.int .i64 A, .int .i64 B, .slice a zs.length cap] 26)).alloc (.cells #[.int .i64 X, .int .i64 Y, .int .i64 U, .int .i64 V] 28)) (.cells #[.int .i64 0, .int .i64 0, .slice none 0 0] 26)
    rw [World.size_alloc, World.size_alloc] at h
    exact h
  have z0 : w.heap.size + 3 ≤ w0.heap.size := by rw [← hw0]; simp
  rw [hw0] at hA HR ⊢
  clear hw0
  have HA := Lib.hid hA
  have hAd := bl_dr (bl0 w0)
  go_cut [5] from 8 to 19 (fun s wx => ∃ hv fv, s = .pointer (some ⟨fv, 0, none⟩) ∧ hv ≠ fv ∧ w0.heap.size ≤ hv ∧ w0.heap.size ≤ fv ∧ wx.heap[hv]? = some (.cells (madeCells #[.int .u16 0] uv) 64 (0, 0)) ∧ wx.heap[fv]? = some (.cells #[.int .i64 U, .int .i64 V, .slice (some ⟨hv, 0, none⟩) 0 uv] 26 (0, 0)) ∧ Below w0.heap.size w0 wx)
  case first =>
    go_region_held3 (fun w2 => w2.cell? ⟨w.heap.size + 1, 2, none⟩ = some (.int .i64 U) ∧ w2.cell? ⟨w.heap.size + 1, 3, none⟩ = some (.int .i64 V))
      (first | exact ⟨cell_later hAd c2, cell_later hAd c3⟩ | exact ⟨cell_later (bl_al hAd _) c2, cell_later (bl_al hAd _) c3⟩ | exact ⟨cell_later (bl_al (bl_al hAd _) _) c2, cell_later (bl_al (bl_al hAd _) _) c3⟩)
      (fail)
    all_goals
      go_wp2_with fail
      go_meet
      first
        | exact ⟨w0.heap.size, w0.heap.size + 1, rfl, by omega, by omega, by omega, (two_allocs _ _ _).1, (two_allocs _ _ _).2, bl_tr (bl_al (bl_al (bl0 _) _) _) (bl_dr (bl0 _))⟩
        | exact ⟨w0.heap.size + 1, w0.heap.size, rfl, by omega, by omega, by omega, (two_allocs _ _ _).2, (two_allocs _ _ _).1, bl_tr (bl_al (bl_al (bl0 _) _) _) (bl_dr (bl0 _))⟩
  case rest =>
    obtain ⟨hv, fv, rfl, hne, hv1, fv1, hv2, fv2, hB⟩ := hcut
    obtain ⟨W1, hW1⟩ : ∃ W1, W1 = wc := ⟨_, rfl⟩
    rw [← hW1] at hv2 fv2 hB ⊢
    clear hW1
    have c3' := cell_later hB c3
    have zc := blk_lt c3'
    have HI0 := Lib.hid (show CtI w0 A B X Y U V a zs.length cap w0.heap.size fv zs 0 W1 from ⟨hB, _, _, fv2, own_h0 hv1 (by omega) hv2⟩)
    have HFV := Lib.hid fv1
    clear hmk hA hAd hv2 fv2 hB hne hv1 fv1
    go_wp2_with fail
    go_loopw [6, 7, 22] (fun _ _ iv wr => ∃ k : Nat, k ≤ V ∧ iv = .int .i64 k ∧ CtI w0 A B X Y U V a zs.length cap w0.heap.size fv zs k wr) (fun _ _ iv _ => V - (intOf iv).toNat)
    case atStart => exact ⟨0, Nat.zero_le _, rfl, HI0.out⟩
    case round =>
      clear c3' zc
      obtain ⟨k, hk, rfl, hI⟩ := hrel
      have hk0 : (0 : Int) ≤ (k : Int) := by omega
      by_cases hlt : k < V
      · have hlt2 : (k : Int) < (V : Int) := by omega
        obtain ⟨n1, n2, n3, n4, n5, n6⟩ := HNUM.out k hlt
        obtain ⟨va, vc, hfv, hown⟩ := hI.own
        have hbel := hI.bel
        have HNB := Lib.hid (fun w => number_i A B a zs.length cap (X, Y + (k : Int)) (numN A (X, Y + (k : Int)) : Int) w n2 n3)
        have hU2 : U * k ≤ 65536 := Nat.mul_le_mul (show U ≤ 256 by omega) (show k ≤ 256 by omega)
        obtain ⟨at', hat⟩ : ∃ at', numN A (X, Y + (k : Int)) = at' := ⟨_, rfl⟩
        rw [hat] at n4 n5 n6 HNB
        have hsu := HOS.out k
        rw [n6] at hsu
        obtain ⟨pc, hpc⟩ : ∃ pc, (zs.drop at').take U = pc := ⟨_, rfl⟩
        have hpl : pc.length = U := by rw [← hpc]; simp; omega
        have hpz : ∀ i z, pc[i]? = some z → zs[at' + i]? = some z := fun i z h => by
          have hi : i < pc.length := (List.getElem?_eq_some_iff.1 h).1
          rw [← hpc, List.getElem?_take] at h
          split at h
          · rw [List.getElem?_drop] at h; exact h
          · cases h
        rw [hpc] at hsu
        have HPZ := Lib.hid hpz
        have HSU := Lib.hid hsu
        have HOWN := Lib.hid hown
        have HFVV := Lib.hid hfv
        have HBEL := Lib.hid hbel
        replace f0 := cell_later hbel f0; replace f1 := cell_later hbel f1; replace f2 := cell_later hbel f2
        replace c0 := cell_later hbel c0; replace c1 := cell_later hbel c1; replace c2 := cell_later hbel c2
        have zf := blk_lt f0
        have zcc := blk_lt c0
        clear hI n2 n3 hat hpc hpz hsu n6 hown hfv
        go_wp2_with fail
        refine (HNB.out _).mono ?_
        rintro e W2 ⟨rfl, hb2⟩
        have hk2 : Below wr.heap.size wr W2 := bl_tr (bl0 _) hb2
        obtain ⟨en, hen⟩ : ∃ en, at' + U = en := ⟨_, rfl⟩
        rw [hen] at n5
        have HSL := Lib.hid (show ∀ (b : Option Addr) (W : World), (Instr.sliceAt 24 (.slice b zs.length cap) (some (.int .i64 ((at' : Nat) : Int))) (some (.int .i64 ((en : Nat) : Int))) none).run Tryd.prog W = .ok (.slice (b.map (·.add at')) U (cap - at')) W from fun b W => slice_h b zs.length cap at' en U W hen u1 (by omega))
        have hcell : ∃ gb go, a = some ⟨gb, go, none⟩ ∧ ∀ i z, pc[i]? = some z → W2.cell? ⟨gb, go + at' + i, none⟩ = some (.int .u16 z) := by
          rcases HR.out with h | ⟨gb, go, h1, h2⟩
          · rw [h] at n4; simp at n4; omega
          · exact ⟨gb, go, h1, fun i z hz => by
              have := cell_later hk2 (cell_later HBEL.out (h2 _ _ (HPZ.out i z hz)))
              rw [← Nat.add_assoc] at this
              exact this⟩
        obtain ⟨gb, go, rfl, hcell⟩ := hcell
        have hsl := HSL.out (some ⟨gb, go, none⟩)
        simp only [Option.map_some, addr_addN] at hsl
        clear HSL hen
        have HCELL := Lib.hid hcell
        have e0 := cell_later hk2 f2
        have e1 := cell_later hk2 c2
        have e2 : W2.cell? ⟨fv, 2, none⟩ = some (.slice va (U * k) vc) := cell_later hk2 (by simp [World.cell?, HFVV.out])
        clear hb2 hcell
        go_upto_region 6 with fail
        have hD := bl_dr (bl0 W2)
        refine (wpIn_wide (n := 11)).1 ?_
        refine ordZ_begin (z := 12) (S := (fun W9 : World => W9.cell? ⟨w.heap.size, 2, none⟩ = some (.slice (some ⟨gb, go, none⟩) zs.length cap) ∧ W9.cell? ⟨w.heap.size + 1, 2, none⟩ = some (.int .i64 U) ∧ W9.cell? ⟨fv, 2, none⟩ = some (.slice va (U * k) vc))) (by kernel_rfl) ⟨cell_later hD e0, cell_later hD e1, cell_later hD e2⟩ (fun hH => ?_)
        first
          | (refine' ordZ_take (i := 0) (oi := { dst := some 34, op := Op.fieldAddr 26 (Operand.tmp 5) 1, type := 0, pos := _, after := #[], guard := none }) (v := _) rfl (by kernel_rfl) (by kernel_rfl) (by kernel_rfl) (by kernel_rfl) (fun _ _ _ h => h) (by assumption) (by kernel_rfl) (by decide) (by rfl) (Or.inl ⟨by rfl, ?hy91⟩) (fun _ => rfl) ?rest91
             case hy91 => (intro w hSw; (try dsimp only at hSw); go_simp; try with_reducible rfl))
          | (refine ordZ_take (i := 0) (oi := { dst := some 34, op := Op.fieldAddr 26 (Operand.tmp 5) 1, type := 0, pos := _, after := #[], guard := none }) (v := undef) rfl (by kernel_rfl) (by kernel_rfl) (by kernel_rfl) (by kernel_rfl) (fun _ _ _ h => h) (by assumption) (by kernel_rfl) (by decide) (by rfl) (Or.inr ⟨by rfl, rfl⟩) (fun _ => rfl) ?_)
        try simp only [Act.put, List.setIfInBounds_toArray, List.set_cons_zero, List.set_cons_succ]
        first
          | (refine' ordZ_take (i := 1) (oi := { dst := some 35, op := Op.load 24 (Operand.tmp 34), type := 24, pos := _, after := #[{ on := 0, ground := Ground.data }], guard := none }) (v := _) rfl (by kernel_rfl) (by kernel_rfl) (by kernel_rfl) (by kernel_rfl) (fun _ _ _ h => h) (by assumption) (by kernel_rfl) (by decide) (by rfl) (Or.inl ⟨by rfl, ?hy92⟩) (fun _ => rfl) ?rest92
             case hy92 => (intro w hSw; (try dsimp only at hSw); go_simp; try with_reducible rfl))
          | (refine ordZ_take (i := 1) (oi := { dst := some 35, op := Op.load 24 (Operand.tmp 34), type := 24, pos := _, after := #[{ on := 0, ground := Ground.data }], guard := none }) (v := undef) rfl (by kernel_rfl) (by kernel_rfl) (by kernel_rfl) (by kernel_rfl) (fun _ _ _ h => h) (by assumption) (by kernel_rfl) (by decide) (by rfl) (Or.inr ⟨by rfl, rfl⟩) (fun _ => rfl) ?_)
        try simp only [Act.put, List.setIfInBounds_toArray, List.set_cons_zero, List.set_cons_succ]
        first
          | (refine' ordZ_take (i := 2) (oi := { dst := some 36, op := Op.fieldAddr 26 (Operand.tmp 2) 1, type := 0, pos := _, after := #[], guard := none }) (v := _) rfl (by kernel_rfl) (by kernel_rfl) (by kernel_rfl) (by kernel_rfl) (fun _ _ _ h => h) (by assumption) (by kernel_rfl) (by decide) (by rfl) (Or.inl ⟨by rfl, ?hy93⟩) (fun _ => rfl) ?rest93
             case hy93 => (intro w hSw; (try dsimp only at hSw); go_simp; try with_reducible rfl))
          | (refine ordZ_take (i := 2) (oi := { dst := some 36, op := Op.fieldAddr 26 (Operand.tmp 2) 1, type := 0, pos := _, after := #[], guard := none }) (v := undef) rfl (by kernel_rfl) (by kernel_rfl) (by kernel_rfl) (by kernel_rfl) (fun _ _ _ h => h) (by assumption) (by kernel_rfl) (by decide) (by rfl) (Or.inr ⟨by rfl, rfl⟩) (fun _ => rfl) ?_)
        try simp only [Act.put, List.setIfInBounds_toArray, List.set_cons_zero, List.set_cons_succ]
        first
          | (refine' ordZ_take (i := 3) (oi := { dst := some 37, op := Op.load 24 (Operand.tmp 36), type := 24, pos := _, after := #[{ on := 2, ground := Ground.data }], guard := none }) (v := _) rfl (by kernel_rfl) (by kernel_rfl) (by kernel_rfl) (by kernel_rfl) (fun _ _ _ h => h) (by assumption) (by kernel_rfl) (by decide) (by rfl) (Or.inl ⟨by rfl, ?hy94⟩) (fun _ => rfl) ?rest94
             case hy94 => (intro w hSw; (try dsimp only at hSw); go_simp; try with_reducible rfl))
          | (refine ordZ_take (i := 3) (oi := { dst := some 37, op := Op.load 24 (Operand.tmp 36), type := 24, pos := _, after := #[{ on := 2, ground := Ground.data }], guard := none }) (v := undef) rfl (by kernel_rfl) (by kernel_rfl) (by kernel_rfl) (by kernel_rfl) (fun _ _ _ h => h) (by assumption) (by kernel_rfl) (by decide) (by rfl) (Or.inr ⟨by rfl, rfl⟩) (fun _ => rfl) ?_)
        try simp only [Act.put, List.setIfInBounds_toArray, List.set_cons_zero, List.set_cons_succ]
        first
          | (refine' ordZ_take (i := 4) (oi := { dst := some 38, op := Op.move (Operand.tmp 7), type := 3, pos := _, after := #[], guard := none }) (v := _) rfl (by kernel_rfl) (by kernel_rfl) (by kernel_rfl) (by kernel_rfl) (fun _ _ _ h => h) (by assumption) (by kernel_rfl) (by decide) (by rfl) (Or.inl ⟨by rfl, ?hy95⟩) (fun _ => rfl) ?rest95
             case hy95 => (intro w hSw; (try dsimp only at hSw); go_simp; try with_reducible rfl))
          | (refine ordZ_take (i := 4) (oi := { dst := some 38, op := Op.move (Operand.tmp 7), type := 3, pos := _, after := #[], guard := none }) (v := undef) rfl (by kernel_rfl) (by kernel_rfl) (by kernel_rfl) (by kernel_rfl) (fun _ _ _ h => h) (by assumption) (by kernel_rfl) (by decide) (by rfl) (Or.inr ⟨by rfl, rfl⟩) (fun _ => rfl) ?_)
        try simp only [Act.put, List.setIfInBounds_toArray, List.set_cons_zero, List.set_cons_succ]
        first
          | (refine' ordZ_take (i := 5) (oi := { dst := some 39, op := Op.move (Operand.tmp 7), type := 3, pos := _, after := #[], guard := none }) (v := _) rfl (by kernel_rfl) (by kernel_rfl) (by kernel_rfl) (by kernel_rfl) (fun _ _ _ h => h) (by assumption) (by kernel_rfl) (by decide) (by rfl) (Or.inl ⟨by rfl, ?hy96⟩) (fun _ => rfl) ?rest96
             case hy96 => (intro w hSw; (try dsimp only at hSw); go_simp; try with_reducible rfl))
          | (refine ordZ_take (i := 5) (oi := { dst := some 39, op := Op.move (Operand.tmp 7), type := 3, pos := _, after := #[], guard := none }) (v := undef) rfl (by kernel_rfl) (by kernel_rfl) (by kernel_rfl) (by kernel_rfl) (fun _ _ _ h => h) (by assumption) (by kernel_rfl) (by decide) (by rfl) (Or.inr ⟨by rfl, rfl⟩) (fun _ => rfl) ?_)
        try simp only [Act.put, List.setIfInBounds_toArray, List.set_cons_zero, List.set_cons_succ]
        first
          | (refine' ordZ_take (i := 6) (oi := { dst := some 40, op := Op.fieldAddr 28 (Operand.tmp 3) 2, type := 0, pos := _, after := #[], guard := none }) (v := _) rfl (by kernel_rfl) (by kernel_rfl) (by kernel_rfl) (by kernel_rfl) (fun _ _ _ h => h) (by assumption) (by kernel_rfl) (by decide) (by rfl) (Or.inl ⟨by rfl, ?hy97⟩) (fun _ => rfl) ?rest97
             case hy97 => (intro w hSw; (try dsimp only at hSw); go_simp; try with_reducible rfl))
          | (refine ordZ_take (i := 6) (oi := { dst := some 40, op := Op.fieldAddr 28 (Operand.tmp 3) 2, type := 0, pos := _, after := #[], guard := none }) (v := undef) rfl (by kernel_rfl) (by kernel_rfl) (by kernel_rfl) (by kernel_rfl) (fun _ _ _ h => h) (by assumption) (by kernel_rfl) (by decide) (by rfl) (Or.inr ⟨by rfl, rfl⟩) (fun _ => rfl) ?_)
        try simp only [Act.put, List.setIfInBounds_toArray, List.set_cons_zero, List.set_cons_succ]
        first
          | (refine' ordZ_take (i := 7) (oi := { dst := some 41, op := Op.load 3 (Operand.tmp 40), type := 3, pos := _, after := #[{ on := 6, ground := Ground.data }], guard := none }) (v := _) rfl (by kernel_rfl) (by kernel_rfl) (by kernel_rfl) (by kernel_rfl) (fun _ _ _ h => h) (by assumption) (by kernel_rfl) (by decide) (by rfl) (Or.inl ⟨by rfl, ?hy98⟩) (fun _ => rfl) ?rest98
             case hy98 => (intro w hSw; (try dsimp only at hSw); go_simp; try with_reducible rfl))
          | (refine ordZ_take (i := 7) (oi := { dst := some 41, op := Op.load 3 (Operand.tmp 40), type := 3, pos := _, after := #[{ on := 6, ground := Ground.data }], guard := none }) (v := undef) rfl (by kernel_rfl) (by kernel_rfl) (by kernel_rfl) (by kernel_rfl) (fun _ _ _ h => h) (by assumption) (by kernel_rfl) (by decide) (by rfl) (Or.inr ⟨by rfl, rfl⟩) (fun _ => rfl) ?_)
        try simp only [Act.put, List.setIfInBounds_toArray, List.set_cons_zero, List.set_cons_succ]
        first
          | (refine' ordZ_take (i := 8) (oi := { dst := some 42, op := Op.binOp BinOp.add 3 (Operand.tmp 39) (Operand.tmp 41) 3, type := 3, pos := _, after := #[{ on := 5, ground := Ground.data }, { on := 7, ground := Ground.data }], guard := none }) (v := _) rfl (by kernel_rfl) (by kernel_rfl) (by kernel_rfl) (by kernel_rfl) (fun _ _ _ h => h) (by assumption) (by kernel_rfl) (by decide) (by rfl) (Or.inl ⟨by rfl, ?hy99⟩) (fun _ => rfl) ?rest99
             case hy99 => (intro w hSw; (try dsimp only at hSw); go_simp; try with_reducible rfl))
          | (refine ordZ_take (i := 8) (oi := { dst := some 42, op := Op.binOp BinOp.add 3 (Operand.tmp 39) (Operand.tmp 41) 3, type := 3, pos := _, after := #[{ on := 5, ground := Ground.data }, { on := 7, ground := Ground.data }], guard := none }) (v := undef) rfl (by kernel_rfl) (by kernel_rfl) (by kernel_rfl) (by kernel_rfl) (fun _ _ _ h => h) (by assumption) (by kernel_rfl) (by decide) (by rfl) (Or.inr ⟨by rfl, rfl⟩) (fun _ => rfl) ?_)
        try simp only [Act.put, List.setIfInBounds_toArray, List.set_cons_zero, List.set_cons_succ]
        first
          | (refine' ordZ_take (i := 9) (oi := { dst := some 43, op := Op.slice 24 (Operand.tmp 37) (some (Operand.tmp 38)) (some (Operand.tmp 42)) none, type := 24, pos := _, after := #[{ on := 3, ground := Ground.data }, { on := 4, ground := Ground.data }, { on := 8, ground := Ground.data }], guard := none }) (v := _) rfl (by kernel_rfl) (by kernel_rfl) (by kernel_rfl) (by kernel_rfl) (fun _ _ _ h => h) (by assumption) (by kernel_rfl) (by decide) (by rfl) (Or.inl ⟨by rfl, ?hy100⟩) (fun _ => rfl) ?rest100
             case hy100 => (intro w hSw; (try dsimp only at hSw); go_simp; try with_reducible rfl))
          | (refine ordZ_take (i := 9) (oi := { dst := some 43, op := Op.slice 24 (Operand.tmp 37) (some (Operand.tmp 38)) (some (Operand.tmp 42)) none, type := 24, pos := _, after := #[{ on := 3, ground := Ground.data }, { on := 4, ground := Ground.data }, { on := 8, ground := Ground.data }], guard := none }) (v := undef) rfl (by kernel_rfl) (by kernel_rfl) (by kernel_rfl) (by kernel_rfl) (fun _ _ _ h => h) (by assumption) (by kernel_rfl) (by decide) (by rfl) (Or.inr ⟨by rfl, rfl⟩) (fun _ => rfl) ?_)
        try simp only [Act.put, List.setIfInBounds_toArray, List.set_cons_zero, List.set_cons_succ]
        have HD := Lib.hid (bl_dr hk2)
        have hown2 := own_later HOWN.out HD.out
        have hfv3 : W2.drew.heap[fv]? = some (.cells #[.int .i64 U, .int .i64 V, .slice va (U * k) vc] 26 (0, 0)) := ((HD.out).block _ (Array.getElem?_eq_some_iff.1 HFVV.out).1).trans HFVV.out
        have hsz3 := (HD.out).size
        have hsz0 := (HBEL.out).size
        refine ordZ_append (i := 10) (o := { dst := some 44, op := Op.call { callee := Callee.builtin Builtin.append, args := #[Operand.tmp 35, Operand.tmp 43], argTypes := #[24, 24] }, type := 24, pos := _, after := #[{ on := 1, ground := Ground.data }, { on := 9, ground := Ground.data }], guard := none }) _ (by kernel_rfl) rfl (by rfl) _ _ 24 rfl w0.heap.size 64 i0 (.int .u16 0) 1 2 Tryd.underlying24 hi0 hz0 hz1 hz2 rfl (by decide) _ _ _ rfl hown2 ⟨gb, go + at', none⟩ U (cap - at') (cellsHH pc) rfl ?c0 ?c1 ?c2 ?c3 ?c4 ?c5 ?_
        case c0 => rw [Nat.mul_one]; simp [cellsHH, hpl]
        case c1 =>
          intro j u hu
          rw [addr_addN]
          simp only [cellsHH, List.getElem?_map, Option.map_eq_some_iff] at hu
          obtain ⟨z, hz, rfl⟩ := hu
          exact cell_later hD (HCELL.out j z hz)
        case c2 =>
          intro u hu
          simp only [cellsHH, List.mem_map] at hu
          obtain ⟨z, _, rfl⟩ := hu
          rfl
        case c3 => unfold maxLen; omega
        case c4 => omega
        case c5 => omega
        intro v' w6 hown' hgrow
        obtain ⟨va', vc', rfl⟩ := own_shH hown'
        have hne6 : ∀ j, j < w0.heap.size → some j ≠ (Value.slice va (U * k) vc).ownBlock := fun j hj e => by have := (hown2.lt j e.symm).1; omega
        have hnf : some fv ≠ (Value.slice va (U * k) vc).ownBlock := fun e => ownH_ne hown2 hfv3 e.symm
        have hfv6 := (hgrow.block fv (Array.getElem?_eq_some_iff.1 hfv3).1 hnf).trans hfv3
        have hS6 : w6.cell? ⟨w.heap.size, 2, none⟩ = some (.slice (some ⟨gb, go, none⟩) zs.length cap) ∧ w6.cell? ⟨w.heap.size + 1, 2, none⟩ = some (.int .i64 U) ∧ w6.cell? ⟨fv, 2, none⟩ = some (.slice va (U * k) vc) := ⟨hgrow.cell (cell_later hD e0) (hne6 w.heap.size (by omega)), hgrow.cell (cell_later hD e1) (hne6 (w.heap.size + 1) (by omega)), by simp [World.cell?, hfv6]⟩
        refine ⟨fun _ => hS6, ?_⟩
        try simp only [Act.put, List.setIfInBounds_toArray, List.set_cons_zero, List.set_cons_succ]
        first
          | (refine' ordZ_take (i := 11) (oi := { dst := some 45, op := Op.fieldAddr 26 (Operand.tmp 5) 1, type := 0, pos := _, after := #[{ on := 0, ground := Ground.phase }, { on := 1, ground := Ground.phase }, { on := 2, ground := Ground.phase }, { on := 3, ground := Ground.phase }, { on := 4, ground := Ground.phase }, { on := 5, ground := Ground.phase }, { on := 6, ground := Ground.phase }, { on := 7, ground := Ground.phase }, { on := 8, ground := Ground.phase }, { on := 9, ground := Ground.phase }, { on := 10, ground := Ground.phase }], guard := none }) (v := _) rfl (by kernel_rfl) (by kernel_rfl) (by kernel_rfl) (by kernel_rfl) (fun _ _ _ h => h) (by assumption) (by kernel_rfl) (by decide) (by rfl) (Or.inl ⟨by rfl, ?hy101⟩) (fun _ => rfl) ?rest101
             case hy101 => (intro w hSw; (try dsimp only at hSw); go_simp; try with_reducible rfl))
          | (refine ordZ_take (i := 11) (oi := { dst := some 45, op := Op.fieldAddr 26 (Operand.tmp 5) 1, type := 0, pos := _, after := #[{ on := 0, ground := Ground.phase }, { on := 1, ground := Ground.phase }, { on := 2, ground := Ground.phase }, { on := 3, ground := Ground.phase }, { on := 4, ground := Ground.phase }, { on := 5, ground := Ground.phase }, { on := 6, ground := Ground.phase }, { on := 7, ground := Ground.phase }, { on := 8, ground := Ground.phase }, { on := 9, ground := Ground.phase }, { on := 10, ground := Ground.phase }], guard := none }) (v := undef) rfl (by kernel_rfl) (by kernel_rfl) (by kernel_rfl) (by kernel_rfl) (fun _ _ _ h => h) (by assumption) (by kernel_rfl) (by decide) (by rfl) (Or.inr ⟨by rfl, rfl⟩) (fun _ => rfl) ?_)
        try simp only [Act.put, List.setIfInBounds_toArray, List.set_cons_zero, List.set_cons_succ]
        have t2 := hS6.2.2
        have f9 : w6.frozen? ⟨fv, 2, none⟩ = false := by simp [World.frozen?, hfv6]
        have zt2 := blk_lt t2
        refine ordZ_one (i := 12) (o := { dst := none, op := Op.store 24 (Operand.tmp 45) (Operand.tmp 44), type := 0, pos := _, after := #[{ on := 11, ground := Ground.data }, { on := 10, ground := Ground.data }, { on := 10, ground := Ground.chain }, { on := 0, ground := Ground.phase }, { on := 1, ground := Ground.phase }, { on := 2, ground := Ground.phase }, { on := 3, ground := Ground.phase }, { on := 4, ground := Ground.phase }, { on := 5, ground := Ground.phase }, { on := 6, ground := Ground.phase }, { on := 7, ground := Ground.phase }, { on := 8, ground := Ground.phase }, { on := 9, ground := Ground.phase }, { on := 10, ground := Ground.phase }], guard := none }) (by kernel_rfl) rfl (by rfl) (fun K hK => ?_)
        go_simp
        refine hK _ _ (fun h => by cases h) ?_
        clear hK K hH
        try simp only [Act.put, List.setIfInBounds_toArray, List.set_cons_zero, List.set_cons_succ]
        refine ordZ_done (by kernel_rfl) ?_
        have hkept := hown'.kept (hgrown_set w6 fv 2 (.slice va' (U * k + U) vc')) (.inr (ownH_ne hown' hfv6))
        have hset := hset_same w6 fv 2 _ _ (.slice va' (U * k + U) vc') hfv6
        have hsz6 := hgrow.size
        have hb6 : Below w0.heap.size w0 w6 := (bl_tr HBEL.out HD.out).grown hgrow (by omega) (fun j hj => (hown2.lt j hj).1)
        have hb7 := bl_st hb6 (show w0.heap.size ≤ fv from HFV.out) (.slice va' (U * k + U) vc') (o := 2)
        have HI7 := Lib.hid (show CtI w0 A B X Y U V (some ⟨gb, go, none⟩) zs.length cap w0.heap.size fv zs (k + 1) (w6.setCell ⟨fv, 2, none⟩ (.slice va' (U * k + U) vc')) from ⟨hb7, va', vc', by
          rw [hset, Nat.mul_succ]; simp, by
          rw [Nat.mul_succ, HSU.out]
          have e : cellsHH (ownZ A X Y U k zs ++ pc) = cellsHH (ownZ A X Y U k zs) ++ cellsHH pc := by simp [cellsHH]
          rw [e]; exact hkept⟩)
        clear hb6 hb7 hset hkept hown' hgrow t2 f9 zt2 hS6 hfv6 hnf hne6 hown2 hfv3 e0 e1 e2 hD f0 f1 f2 c0 c1 c2 zf zcc hsl
        go_wp2
        go_roundw
        case rel => exact ⟨k + 1, by omega, by go_num, by first | exact HI7.out | exact ⟨(HI7.out).bel, (HI7.out).own⟩⟩
        case measure => simp [intOf]; omega
      · obtain rfl : k = V := by omega
        have hge : ¬ (k : Int) < (k : Int) := by omega
        obtain ⟨va, vc, hfv, hown⟩ := hI.own
        have huv := HUV.out
        have HOK := Lib.hid hown
        have hbel := hI.bel
        have r0' := (hbel.block _ (Array.getElem?_eq_some_iff.1 r0).1).trans r0
        rw [huv] at hfv
        have q0 : wr.cell? ⟨fv, 0, none⟩ = some (.int .i64 U) := by simp [World.cell?, hfv]
        have q1 : wr.cell? ⟨fv, 1, none⟩ = some (.int .i64 k) := by simp [World.cell?, hfv]
        have q2 : wr.cell? ⟨fv, 2, none⟩ = some (.slice va uv vc) := by simp [World.cell?, hfv]
        have s0 : wr.cell? ⟨w.heap.size + 1 + 1, 0, none⟩ = some (.int .i64 0) := by simp [World.cell?, r0']
        have s1 : wr.cell? ⟨w.heap.size + 1 + 1, 1, none⟩ = some (.int .i64 0) := by simp [World.cell?, r0']
        have s2 : wr.cell? ⟨w.heap.size + 1 + 1, 2, none⟩ = some (.slice none 0 0) := by simp [World.cell?, r0']
        have t0 : wr.frozen? ⟨w.heap.size + 1 + 1, 0, none⟩ = false := by simp [World.frozen?, r0']
        have t1 : wr.frozen? ⟨w.heap.size + 1 + 1, 1, none⟩ = false := by simp [World.frozen?, r0']
        have t2 : wr.frozen? ⟨w.heap.size + 1 + 1, 2, none⟩ = false := by simp [World.frozen?, r0']
        have zq := blk_lt q0
        have zs0 := blk_lt s0
        have hne : fv ≠ w.heap.size + 1 + 1 := by have := HFV.out; omega
        have HBL := Lib.hid (bl_tr HA.out hbel)
        have HCA := Lib.hid hbel
        clear hown hfv hI hbel r0' f0 f1 f2 c0 c1 c2 c3 r0
        go_wp2
        have hne2 : (Value.slice va (U * k) vc).ownBlock ≠ some (w.heap.size + 1 + 1) := fun e => by have := (HOK.out.lt _ e).1; omega
        refine bodyPost_ret (v := .agg #[.int .i64 U, .int .i64 k, .slice va uv vc]) (by simp [results, Tryd.results64, go_sem, s0, s1, s2]) rfl ⟨va, ⟨vc, rfl⟩, ?_, ?_⟩
        · exact rowH_own (((HOK.out.kept (hgrown_set _ _ _ _) (.inr hne2)).kept (hgrown_set _ _ _ _) (.inr hne2)).kept (hgrown_set _ _ _ _) (.inr hne2)) (ownZ_len A X Y U k zs)
        · exact bl_st (bl_st (bl_st HBL.out (by omega) _) (by omega) _) (by omega) _
end Go.Proofs.YtgbhafadibdmcaaDoor

/- Tables within a cluster: rows, and the closure that tells one. -/
namespace Go.Proofs.YtgbhafadibdmcaaDoor
open Go.RowKit

/-- A row: how far cells are from one. -/
def rowO (A : Int) (b : BX) (zs : List Int) (c : IC) (cs : List IC) : List Int := cs.map fun d => atD (farO A b zs c) (numN A d)
theorem rowO_len (A : Int) (b : BX) (zs : List Int) (c : IC) (cs : List IC) : (rowO A b zs c cs).length = cs.length := by simp [rowO]
/-- What rows' closure holds. -/
structure RowsAt (A X Y : Int) (U V : Nat) (zs : List Int) (ca : Option Addr) (cc : Nat) (cs : List IC) (o b c : Nat) (va : Option Addr) (vc : Nat) (W : World) : Prop where
  o0 : W.cell? ⟨o, 0, none⟩ = some (.int .i64 U)
  o1 : W.cell? ⟨o, 1, none⟩ = some (.int .i64 V)
  o2 : W.cell? ⟨o, 2, none⟩ = some (.slice va (U * V) vc)
  b0 : W.cell? ⟨b, 0, none⟩ = some (.int .i64 X)
  b1 : W.cell? ⟨b, 1, none⟩ = some (.int .i64 Y)
  b2 : W.cell? ⟨b, 2, none⟩ = some (.int .i64 U)
  b3 : W.cell? ⟨b, 3, none⟩ = some (.int .i64 V)
  c0 : W.cell? ⟨c, 0, none⟩ = some (.slice ca cs.length cc)
  own : RowH W va (ownZ A X Y U V zs)
  cel : RowC W ca cs
theorem RowsAt.below {A X Y : Int} {U V : Nat} {zs : List Int} {ca : Option Addr} {cc : Nat} {cs : List IC} {o b c : Nat} {va : Option Addr} {vc : Nat} {W W' : World} (h : RowsAt A X Y U V zs ca cc cs o b c va vc W) (hb : Below W.heap.size W W') : RowsAt A X Y U V zs ca cc cs o b c va vc W' :=
  ⟨cell_later hb h.o0, cell_later hb h.o1, cell_later hb h.o2, cell_later hb h.b0, cell_later hb h.b1, cell_later hb h.b2, cell_later hb h.b3, cell_later hb h.c0, h.own.below hb, h.cel.below hb⟩
def RowsR (A X Y : Int) (U V : Nat) (zs : List Int) (ca : Option Addr) (cc : Nat) (cs : List IC) (w : World) (e : Ending) (w' : World) : Prop :=
  ∃ o b c va vc, e = .returned (.func (.func 65) #[] #[.pointer (some ⟨o, 0, none⟩), .pointer (some ⟨b, 0, none⟩), .pointer (some ⟨c, 0, none⟩)]) ∧ RowsAt A X Y U V zs ca cc cs o b c va vc w' ∧ Below w.heap.size w w'
set_option maxRecDepth 100000 in
set_option maxHeartbeats 2000000 in
theorem rows_i (A B X Y : Int) (U V : Nat) (a : Option Addr) (cap : Nat) (zs : List Int) (ca : Option Addr) (cc : Nat) (cs : List IC) (w : World) (hr : RowH w a zs) (hc : zs.length ≤ cap) (hn : (zs.length : Int) = A * B) (hx : BoxOn A B X Y U V) (hcs : RowC w ca cs) :
    Calls Tryd.prog 39 #[.agg #[.int .i64 A, .int .i64 B, .slice a zs.length cap], .agg #[.int .i64 X, .int .i64 Y, .int .i64 U, .int .i64 V], .slice ca cs.length cc] w (RowsR A X Y U V zs ca cc cs w) := by
  have hA := bl0 w
  have H1 := Lib.hid (fun w hr => cut_i A B X Y U V a cap zs w hr hc hn hx)
  obtain ⟨uv, huv⟩ : ∃ uv, U * V = uv := ⟨_, rfl⟩
  rw [huv] at H1
  have HUV := Lib.hid huv
  clear hc hn hx huv
  go_enter Tryd.func39, Tryd.ntmps39
  go_wp2_with fail
  refine (H1.out _ (hr.below (by first | exact hA | exact (bl_al hA _) | exact (bl_dr (bl_al hA _)) | exact (bl_al (bl_al hA _) _) | exact (bl_dr (bl_al (bl_al hA _) _)) | exact (bl_al (bl_al (bl_al hA _) _) _) | exact (bl_dr (bl_al (bl_al (bl_al hA _) _) _)) | exact (bl_al (bl_al (bl_al (bl_al hA _) _) _) _) | exact (bl_dr (bl_al (bl_al (bl_al (bl_al hA _) _) _) _)) | exact (bl_al (bl_al (bl_al (bl_al (bl_al hA _) _) _) _) _) | exact (bl_dr (bl_al (bl_al (bl_al (bl_al (bl_al hA _) _) _) _) _)) | exact (bl_al (bl_al (bl_al (bl_al (bl_al (bl_al hA _) _) _) _) _) _) | exact (bl_dr (bl_al (bl_al (bl_al (bl_al (bl_al (bl_al hA _) _) _) _) _) _)) | exact (bl_dr hA)))).mono ?_
  rintro e w1 ⟨va, vc, rfl, hown, hb⟩
  have hk : Below w.heap.size w w1 := by first | exact hb | exact bl_tr (bl_al (bl0 _) _) hb | exact bl_tr (bl_dr (bl_al (bl0 _) _)) hb | exact bl_tr (bl_al (bl_al (bl0 _) _) _) hb | exact bl_tr (bl_dr (bl_al (bl_al (bl0 _) _) _)) hb | exact bl_tr (bl_al (bl_al (bl_al (bl0 _) _) _) _) hb | exact bl_tr (bl_dr (bl_al (bl_al (bl_al (bl0 _) _) _) _)) hb | exact bl_tr (bl_al (bl_al (bl_al (bl_al (bl0 _) _) _) _) _) hb | exact bl_tr (bl_dr (bl_al (bl_al (bl_al (bl_al (bl0 _) _) _) _) _)) hb | exact bl_tr (bl_al (bl_al (bl_al (bl_al (bl_al (bl0 _) _) _) _) _) _) hb | exact bl_tr (bl_dr (bl_al (bl_al (bl_al (bl_al (bl_al (bl0 _) _) _) _) _) _)) hb | exact bl_tr (bl_al (bl_al (bl_al (bl_al (bl_al (bl_al (bl0 _) _) _) _) _) _) _) hb | exact bl_tr (bl_dr (bl_al (bl_al (bl_al (bl_al (bl_al (bl_al (bl0 _) _) _) _) _) _) _)) hb | exact bl_tr (bl_dr (bl0 _)) hb
  replace hA := bl_tr hA hk
  have b0 := cell_later hb (v := .int .i64 X) (a := ⟨w.heap.size + 1, 0, none⟩) (by simp [go_sem])
  have b1 := cell_later hb (v := .int .i64 Y) (a := ⟨w.heap.size + 1, 1, none⟩) (by simp [go_sem])
  have b2 := cell_later hb (v := .int .i64 U) (a := ⟨w.heap.size + 1, 2, none⟩) (by simp [go_sem])
  have b3 := cell_later hb (v := .int .i64 V) (a := ⟨w.heap.size + 1, 3, none⟩) (by simp [go_sem])
  have c0 := cell_later hb (v := .slice ca cs.length cc) (a := ⟨w.heap.size + 1 + 1, 0, none⟩) (by simp [go_sem])
  clear hb hk
  have zb0 := blk_lt b0
  have zb1 := blk_lt b1
  have zb2 := blk_lt b2
  have zb3 := blk_lt b3
  have zc0 := blk_lt c0
  have HOWN := Lib.hid hown
  have HCS := Lib.hid (hcs.below hA)
  clear hown hr hcs
  go_wp2
  go_ret
  have hq := bl_al (bl0 w1) (.cells #[.int .i64 U, .int .i64 V, .slice va uv vc] 26)
  exact ⟨w1.heap.size, w.heap.size + 1, w.heap.size + 1 + 1, va, vc, rfl, ⟨by simp [go_sem], by simp [go_sem], by rw [HUV.out]; simp [go_sem], cell_later hq b0, cell_later hq b1, cell_later hq b2, cell_later hq b3, cell_later hq c0, (HOWN.out).below hq, (HCS.out).below hq⟩, bl_al hA _⟩
/-- What From tells on the box's own field, by the map's numbers. -/
theorem from_own (A B X Y : Int) (U V : Nat) (va : Option Addr) (vc : Nat) (zs : List Int) (c : IC) (w : World) (hz : AllH zs) (hn : (zs.length : Int) = A * B) (hx : BoxOn A B X Y U V) (hc : inBx (X, Y, (U : Int), (V : Int)) c = true) (hr : RowH w va (ownZ A X Y U V zs)) (hs : Stp w) :
    Calls Tryd.prog 23 #[.agg #[.int .i64 (U : Int), .int .i64 (V : Int), .slice va (U * V) vc], .agg #[.int .i64 (relC X Y c).1, .int .i64 (relC X Y c).2]] w fun e w' => ∃ fa fc ds, e = .returned (.tuple #[.slice fa (U * V) fc, .int .i64 0]) ∧ RowU w' fa ds ∧ ds.length = U * V ∧ (∀ d, inBx (X, Y, (U : Int), (V : Int)) d = true → atD ds (numN (U : Int) (relC X Y d)) = atD (farO A (X, Y, (U : Int), (V : Int)) zs c) (numN A d)) ∧ Below w.heap.size w w' := by
  have h := from_any (U : Int) (V : Int) va vc (ownZ A X Y U V zs) (relC X Y c) w (ownZ_in hz) hr hs
  rw [ownZ_len] at h
  refine h.mono ?_
  rintro e w' ⟨⟨fa, fc, ds, rfl, hru, _, hy⟩, hb⟩
  have h2 := (hx.on hc).2
  have hE : errW (U : Int) (V : Int) ((ownZ A X Y U V zs).length : Nat) (0, 0, (U : Int), (V : Int)) (relC X Y c) = 0 := by
    unfold errW
    have hck : chkF (U : Int) (V : Int) ((ownZ A X Y U V zs).length : Nat) = 0 := by
      unfold chkF
      rw [if_pos hx.may2, if_pos (by rw [ownZ_len, Int.natCast_mul])]
    rw [if_pos hck, if_pos ⟨hx.fits2, hx.in0.2 h2⟩]
  have hE2 := hE
  rw [ownZ_len] at hE2
  obtain ⟨hl, hf⟩ := hy (by rw [ownZ_len] at *; exact hE2)
  rw [ownZ_len] at hl
  have hup := far_up hx hn hc hf
  obtain ⟨big, hbig⟩ : ∃ big : List Int, big = (List.range zs.length).map (upD A X Y U V (atD ds)) := ⟨_, rfl⟩
  have hbl : big.length = zs.length := by rw [hbig]; simp
  have hat : atD big = fun i => if i < zs.length then upD A X Y U V (atD ds) i else 18446744073709551615 := by
    funext i
    by_cases q : i < zs.length
    · rw [if_pos q, ← atD_get (by rw [hbl]; exact q)]
      simp only [hbig, List.getElem_map, List.getElem_range]
    · rw [if_neg q, atD_none (by rw [hbl]; omega)]
  rw [← hat] at hup
  have hfo := farO_eq (b := (X, Y, (U : Int), (V : Int))) hx.may hn hz hx.fits hc hbl hup
  refine ⟨fa, fc, ds, by rw [hE, hl], hru, hl, fun d hd => ?_, hb⟩
  rw [hfo, hat]
  obtain ⟨o1, _⟩ := hx.on hd
  obtain ⟨e1, e2⟩ := numN_int o1
  show _ = if numN A d < zs.length then upD A X Y U V (atD ds) (numN A d) else _
  rw [if_pos (by omega)]
  unfold upD
  rw [cellN_num o1, if_pos hd]
end Go.Proofs.YtgbhafadibdmcaaDoor

/- Tables within a cluster: the closure that tells a row. -/
namespace Go.Proofs.YtgbhafadibdmcaaDoor
open Go.RowKit

/-- A row of which the first k cells are told. -/
def rowK (R : List Int) (k : Nat) : List Int := R.take k ++ List.replicate (R.length - k) 0
theorem rowK_zero (R : List Int) : rowK R 0 = List.replicate R.length 0 := by simp [rowK]
theorem rowK_all (R : List Int) : rowK R R.length = R := by simp [rowK]
theorem rowK_len {R : List Int} {k : Nat} (h : k ≤ R.length) : (rowK R k).length = R.length := by simp [rowK]; omega
theorem rowK_set {R : List Int} {k : Nat} (h : k < R.length) : (rowK R k).set k R[k] = rowK R (k + 1) := by
  unfold rowK
  have e1 : R.take (k + 1) = R.take k ++ [R[k]] := List.take_succ_eq_append_getElem h
  have e2 : k - (R.take k).length = 0 := by rw [List.length_take]; omega
  rw [List.set_append_right _ _ (by rw [List.length_take]; omega), e2, show R.length - k = (R.length - (k + 1)) + 1 by omega, List.replicate_succ, e1, List.append_assoc]
  rfl
theorem rowU_heap {W : World} {g : Nat} {l : List Int} (h : W.heap[g]? = some (.cells (cellsU l).toArray 36 (0, 0))) : RowU W (some ⟨g, 0, none⟩) l := by
  refine .inr ⟨g, 0, rfl, fun i z hz => ?_⟩
  obtain ⟨hi, hz2⟩ := List.getElem?_eq_some_iff.1 hz
  rw [Nat.zero_add]
  simp [World.cell?, h, cellsU, hz]

set_option maxRecDepth 100000 in
set_option maxHeartbeats 8000000 in
theorem row_i (A B X Y : Int) (U V : Nat) (zs : List Int) (ca : Option Addr) (cc : Nat) (cs : List IC) (o b c : Nat) (va : Option Addr) (vc : Nat) (p : IC) (w : World) (hz : AllH zs) (hn : (zs.length : Int) = A * B) (hx : BoxOn A B X Y U V) (hp : inBx (X, Y, (U : Int), (V : Int)) p = true)
    (hcs : ∀ d ∈ cs, inBx (X, Y, (U : Int), (V : Int)) d = true) (hl : cs.length ≤ 1048576) (hR : RowsAt A X Y U V zs ca cc cs o b c va vc w) (hs : Stp w) :
    Calls Tryd.prog 65 #[.agg #[.int .i64 p.1, .int .i64 p.2], .pointer (some ⟨o, 0, none⟩), .pointer (some ⟨b, 0, none⟩), .pointer (some ⟨c, 0, none⟩)] w fun e w' => ∃ g, e = .returned (.slice (some ⟨g, 0, none⟩) cs.length cs.length) ∧ w.heap.size ≤ g ∧ w'.heap[g]? = some (.cells (cellsU (rowO A (X, Y, (U : Int), (V : Int)) zs p cs)).toArray 36 (0, 0)) ∧ Below w.heap.size w w' := by
  have hx' := hx
  obtain ⟨⟨a1, a2⟩, ⟨b1, b2⟩, ⟨x1, x2⟩, ⟨y1, y2⟩, u1, v1⟩ := hx'
  have hIN := Lib.hid (fun (d : IC) (hd : inBx (X, Y, (U : Int), (V : Int)) d = true) => (show (IntKind.i64.wrap (d.1 - X) = d.1 - X ∧ IntKind.i64.wrap (d.2 - Y) = d.2 - Y) ∧ (IntKind.i64.wrap ((relC X Y d).2 * (U : Int)) = (relC X Y d).2 * (U : Int) ∧ IntKind.i64.wrap ((relC X Y d).2 * (U : Int) + (relC X Y d).1) = (numN (U : Int) (relC X Y d) : Int)) ∧ numN (U : Int) (relC X Y d) < U * V by
    obtain ⟨q1, q2, q3, q4⟩ := hx.inb.1 hd
    exact ⟨⟨IntWalk.i64_in _ (by omega), IntWalk.i64_in _ (by omega)⟩, num_on (hx.on hd).2, (hx.num (zs := zs) hd).1⟩))
  obtain ⟨⟨i1, i2⟩, _, _⟩ := hIN.out p hp
  have HW := Lib.hid (fun w => within_i X Y U V p w i1 i2)
  have HF := Lib.hid (fun w hr hs => from_own A B X Y U V va vc zs p w hz hn hx hp hr hs)
  obtain ⟨uv, huv⟩ : ∃ uv, U * V = uv := ⟨_, rfl⟩
  have HUV := Lib.hid huv
  have HRO := Lib.hid (show ∀ W, Below w.heap.size w W → W.cell? ⟨o, 2, none⟩ = some (.slice va uv vc) from fun W h => by rw [← huv]; exact (hR.below h).o2)
  have HRA := Lib.hid (fun W (h : Below w.heap.size w W) => hR.below h)
  have HSS := Lib.hid (fun W (h : Below w.heap.size w W) => hs.below h)
  have hl2 : (cs.length : Int) ≤ 1048576 := by omega
  have hmk := fun w => make_u64 cs.length hl w
  have HLT := Lib.hid (show ∀ d, inBx (X, Y, (U : Int), (V : Int)) d = true → numN (U : Int) (relC X Y d) < uv from fun d hd => by rw [← huv]; exact (hIN.out d hd).2.2)
  have HWI := Lib.hid (fun (d : IC) (hd : inBx (X, Y, (U : Int), (V : Int)) d = true) w => within_i X Y U V d w (hIN.out d hd).1.1 (hIN.out d hd).1.2)
  have HNU := Lib.hid (fun (d : IC) (hd : inBx (X, Y, (U : Int), (V : Int)) d = true) a n cap w => number_i (U : Int) (V : Int) a n cap (relC X Y d) (numN (U : Int) (relC X Y d) : Int) w (hIN.out d hd).2.1.1 (hIN.out d hd).2.1.2)
  have HCS := Lib.hid hcs
  rw [huv] at HF
  have hrl := rowO_len A (X, Y, (U : Int), (V : Int)) zs p cs
  have HRAT := Lib.hid (show ∀ (k : Nat) (hk : k < cs.length), (rowO A (X, Y, (U : Int), (V : Int)) zs p cs).getD k 0 = atD (farO A (X, Y, (U : Int), (V : Int)) zs p) (numN A cs[k]) from fun k hk => by
    rw [List.getD_eq_getElem?_getD, List.getElem?_eq_getElem (by rw [rowO_len]; exact hk)]
    simp [rowO])
  obtain ⟨FO, hFO⟩ : ∃ FO, farO A (X, Y, (U : Int), (V : Int)) zs p = FO := ⟨_, rfl⟩
  obtain ⟨R, hRR⟩ : ∃ R, rowO A (X, Y, (U : Int), (V : Int)) zs p cs = R := ⟨_, rfl⟩
  rw [hFO] at HF HRAT
  rw [hRR] at hrl HRAT ⊢
  have HRL := Lib.hid hrl
  obtain ⟨IB, hIB⟩ : ∃ IB : IC → Bool, inBx (X, Y, (U : Int), (V : Int)) = IB := ⟨_, rfl⟩
  rw [hIB] at HF HLT HWI HNU HCS
  have hA := bl_al (bl0 w) (.cells #[.int .i64 p.1, .int .i64 p.2] 30)
  clear hx hz hn hcs hR hs hIN i1 i2 huv hFO hRR hrl hIB hp
  go_enter Tryd.func65, Tryd.ntmps65
  go_upto_region 1 with fail
  obtain ⟨w0, hw0⟩ : ∃ w0, w.alloc (.cells #[.int .i64 p.1, .int .i64 p.2] 30) = w0 := ⟨_, rfl⟩
  have p0 : w0.cell? ⟨w.heap.size, 0, none⟩ = some (.int .i64 p.1) := by rw [← hw0]; simp [go_sem]
  have p1 : w0.cell? ⟨w.heap.size, 1, none⟩ = some (.int .i64 p.2) := by rw [← hw0]; simp [go_sem]
  rw [hw0] at hA ⊢
  clear hw0
  have HA := Lib.hid hA
  have h0 := HRA.out _ hA
  have HSB := Lib.hid (fun W (h : Below w0.heap.size w0 W) => (show W.cell? ⟨o, 0, none⟩ = some (.int .i64 U) ∧ W.cell? ⟨o, 1, none⟩ = some (.int .i64 V) ∧ W.cell? ⟨o, 2, none⟩ = some (.slice va uv vc) ∧ W.cell? ⟨b, 0, none⟩ = some (.int .i64 X) ∧ W.cell? ⟨b, 1, none⟩ = some (.int .i64 Y) ∧ W.cell? ⟨b, 2, none⟩ = some (.int .i64 U) ∧ W.cell? ⟨b, 3, none⟩ = some (.int .i64 V) ∧ W.cell? ⟨w.heap.size, 0, none⟩ = some (.int .i64 p.1) ∧ W.cell? ⟨w.heap.size, 1, none⟩ = some (.int .i64 p.2) from ⟨cell_later h h0.o0, cell_later h h0.o1, HRO.out _ (bl_tr hA h), cell_later h h0.b0, cell_later h h0.b1, cell_later h h0.b2, cell_later h h0.b3, cell_later h p0, cell_later h p1⟩))
  have HOR := Lib.hid (fun W (h : Below w0.heap.size w0 W) => h0.own.below h)
  clear h0 p0 p1 hA
  have hB := bl_dr (bl0 w0)
  have hfr : True := trivial
  go_region_held3 (fun W => W.cell? ⟨o, 0, none⟩ = some (.int .i64 U) ∧ W.cell? ⟨o, 1, none⟩ = some (.int .i64 V) ∧ W.cell? ⟨o, 2, none⟩ = some (.slice va uv vc) ∧ W.cell? ⟨b, 0, none⟩ = some (.int .i64 X) ∧ W.cell? ⟨b, 1, none⟩ = some (.int .i64 Y) ∧ W.cell? ⟨b, 2, none⟩ = some (.int .i64 U) ∧ W.cell? ⟨b, 3, none⟩ = some (.int .i64 V) ∧ W.cell? ⟨w.heap.size, 0, none⟩ = some (.int .i64 p.1) ∧ W.cell? ⟨w.heap.size, 1, none⟩ = some (.int .i64 p.2))
    (exact HSB.out _ hB)
    (first
    | (go_at_call 66; (with_reducible refine (HW.out _).mono ?_); rintro e w8 ⟨rfl, hb8⟩; replace hB := bl_tr hB hb8)
    | (go_at_call 23; (with_reducible refine (HF.out _ (HOR.out _ hB) (HSS.out _ (bl_tr HA.out hB))).mono ?_); rintro e w9 ⟨fa, fc, ds, rfl, hru, hdl, hfar, hb9⟩; replace hB := bl_tr hB hb9))
  all_goals
    have HB := Lib.hid (bl_tr HA.out hB)
    have HRU := Lib.hid hru
    have HDL := Lib.hid hdl
    have HFAR := Lib.hid hfar
    have h1 := HRA.out _ HB.out
    have c0 := h1.c0
    have HC1 := Lib.hid h1.cel
    have zc0 := blk_lt c0
    have zro : (cellsU (rowK R 0)).toArray = Array.replicate cs.length (Value.int .u64 0) := by rw [rowK_zero, HRL.out]; simp [cellsU]
    have hheap : (w9.alloc (.cells (Array.replicate cs.length (Value.int .u64 0)) 36)).heap[w9.heap.size]? = some (.cells (cellsU (rowK R 0)).toArray 36 (0, 0)) := by rw [zro]; exact heap_alloc_new _ _
    have HHP := Lib.hid hheap
    clear hru hdl hfar h1 zro hheap hB HSB HOR HF
    go_wp2_with fail
    go_loopw [9, 10, 24] (fun _ _ iv wr => ∃ k : Nat, k ≤ cs.length ∧ iv = .int .i64 k ∧ Below w9.heap.size w9 wr ∧ wr.heap[w9.heap.size]? = some (.cells (cellsU (rowK R k)).toArray 36 (0, 0))) (fun _ _ iv _ => cs.length - (intOf iv).toNat)
    case atStart => exact ⟨0, Nat.zero_le _, rfl, bl_al (bl0 _) _, HHP.out⟩
    case round =>
      obtain ⟨k, hk, rfl, hbl, hrow⟩ := hrel
      have hk0 : (0 : Int) ≤ (k : Int) := by omega
      by_cases hlt : k < cs.length
      · have hlt2 : (k : Int) < (cs.length : Int) := by omega
        obtain ⟨gb, go, rfl, q0, q1⟩ := (HC1.out.below hbl).cell hlt
        have hin := HCS.out _ (List.getElem_mem hlt)
        have hrat := HRAT.out k hlt
        have hlr : k < R.length := by rw [HRL.out]; exact hlt
        have hrs := rowK_set hlr
        rw [show R[k] = R.getD k 0 by rw [List.getD_eq_getElem?_getD, List.getElem?_eq_getElem hlr]; rfl, hrat] at hrs
        obtain ⟨d, hd⟩ : ∃ d, cs[k] = d := ⟨_, rfl⟩
        rw [hd] at q0 q1 hin hrs
        rw [← HFAR.out d hin] at hrs
        have HWD := Lib.hid (HWI.out d hin)
        have HND := Lib.hid (HNU.out d hin)
        have hltn := HLT.out d hin
        obtain ⟨fb, fo, rfl, qf⟩ := (HRU.out.below hbl).cell (show numN (U : Int) (relC X Y d) < ds.length by rw [HDL.out]; exact hltn)
        obtain ⟨idx, hidx⟩ : ∃ idx, numN (U : Int) (relC X Y d) = idx := ⟨_, rfl⟩
        rw [hidx] at HND qf hltn hrs
        obtain ⟨v, hv⟩ : ∃ v, atD ds idx = v := ⟨_, rfl⟩
        rw [hv] at qf hrs
        generalize relC X Y d = rd at *
        have hix0 : (0 : Int) ≤ (idx : Int) := by omega
        have hix1 : (idx : Int) < (uv : Int) := by omega
        have HRS := Lib.hid hrs
        have HBL := Lib.hid hbl
        have HRW := Lib.hid hrow
        have h1 := HRA.out _ (bl_tr HB.out hbl)
        have e0 := h1.o0; have e1 := h1.o1; have e2 := HRO.out _ (bl_tr HB.out hbl); have e3 := h1.b0; have e4 := h1.b1; have e5 := h1.b2; have e6 := h1.b3
        have hsz := hbl.size
        have ze0 := blk_lt e0; have ze3 := blk_lt e3; have zqf := blk_lt qf
        have zrw := (Array.getElem?_eq_some_iff.1 hrow).1
        clear hd hin hrat hlr hrs hidx hv hbl hrow h1
        go_upto_region 6 with fail
        have hal := bl_al (bl0 wr) (.cells #[.int .i64 d.1, .int .i64 d.2] 30)
        obtain ⟨W1, hW1⟩ : ∃ W1, wr.alloc (.cells #[.int .i64 d.1, .int .i64 d.2] 30) = W1 := ⟨_, rfl⟩
        have d0 : W1.cell? ⟨wr.heap.size, 0, none⟩ = some (.int .i64 d.1) := by rw [← hW1]; simp [go_sem]
        have d1 : W1.cell? ⟨wr.heap.size, 1, none⟩ = some (.int .i64 d.2) := by rw [← hW1]; simp [go_sem]
        rw [hW1] at hal ⊢
        clear hW1
        replace e0 := cell_later hal e0; replace e1 := cell_later hal e1; replace e2 := cell_later hal e2; replace e3 := cell_later hal e3; replace e4 := cell_later hal e4; replace e5 := cell_later hal e5; replace e6 := cell_later hal e6; replace qf := cell_later hal qf
        have HAL := Lib.hid hal
        have zd0 := blk_lt d0
        have ze0' := blk_lt e0; have ze3' := blk_lt e3; have zqf' := blk_lt qf
        clear hal
        have hD := bl_dr (bl0 W1)
        refine (wpIn_wide (n := 11)).1 ?_
        refine ordZ_begin (z := 11) (S := (fun W9 : World => W9.cell? ⟨o, 0, none⟩ = some (.int .i64 U) ∧ W9.cell? ⟨o, 1, none⟩ = some (.int .i64 V) ∧ W9.cell? ⟨o, 2, none⟩ = some (.slice va uv vc) ∧ W9.cell? ⟨b, 0, none⟩ = some (.int .i64 X) ∧ W9.cell? ⟨b, 1, none⟩ = some (.int .i64 Y) ∧ W9.cell? ⟨b, 2, none⟩ = some (.int .i64 U) ∧ W9.cell? ⟨b, 3, none⟩ = some (.int .i64 V) ∧ W9.cell? ⟨wr.heap.size, 0, none⟩ = some (.int .i64 d.1) ∧ W9.cell? ⟨wr.heap.size, 1, none⟩ = some (.int .i64 d.2) ∧ W9.cell? ⟨fb, fo + idx, none⟩ = some (.int .u64 v))) (by kernel_rfl) ⟨cell_later hD e0, cell_later hD e1, cell_later hD e2, cell_later hD e3, cell_later hD e4, cell_later hD e5, cell_later hD e6, cell_later hD d0, cell_later hD d1, cell_later hD qf⟩ (fun hH => ?_)
        first
          | (refine' ordZ_take (i := 0) (oi := { dst := some 29, op := Op.move (Operand.tmp 8), type := 42, pos := _, after := #[], guard := none }) (v := _) rfl (by kernel_rfl) (by kernel_rfl) (by kernel_rfl) (by kernel_rfl) (fun _ _ _ h => h) (by assumption) (by kernel_rfl) (by decide) (by rfl) (Or.inl ⟨by rfl, ?hy178⟩) (fun _ => rfl) ?rest178
             case hy178 => (intro w hSw; (try dsimp only at hSw); go_simp; try with_reducible rfl))
          | (refine ordZ_take (i := 0) (oi := { dst := some 29, op := Op.move (Operand.tmp 8), type := 42, pos := _, after := #[], guard := none }) (v := undef) rfl (by kernel_rfl) (by kernel_rfl) (by kernel_rfl) (by kernel_rfl) (fun _ _ _ h => h) (by assumption) (by kernel_rfl) (by decide) (by rfl) (Or.inr ⟨by rfl, rfl⟩) (fun _ => rfl) ?_)
        try simp only [Act.put, List.setIfInBounds_toArray, List.set_cons_zero, List.set_cons_succ]
        first
          | (refine' ordZ_take (i := 1) (oi := { dst := some 30, op := Op.move (Operand.tmp 9), type := 3, pos := _, after := #[], guard := none }) (v := _) rfl (by kernel_rfl) (by kernel_rfl) (by kernel_rfl) (by kernel_rfl) (fun _ _ _ h => h) (by assumption) (by kernel_rfl) (by decide) (by rfl) (Or.inl ⟨by rfl, ?hy179⟩) (fun _ => rfl) ?rest179
             case hy179 => (intro w hSw; (try dsimp only at hSw); go_simp; try with_reducible rfl))
          | (refine ordZ_take (i := 1) (oi := { dst := some 30, op := Op.move (Operand.tmp 9), type := 3, pos := _, after := #[], guard := none }) (v := undef) rfl (by kernel_rfl) (by kernel_rfl) (by kernel_rfl) (by kernel_rfl) (fun _ _ _ h => h) (by assumption) (by kernel_rfl) (by decide) (by rfl) (Or.inr ⟨by rfl, rfl⟩) (fun _ => rfl) ?_)
        try simp only [Act.put, List.setIfInBounds_toArray, List.set_cons_zero, List.set_cons_succ]
        first
          | (refine' ordZ_take (i := 2) (oi := { dst := some 31, op := Op.move (Operand.tmp 6), type := 42, pos := _, after := #[], guard := none }) (v := _) rfl (by kernel_rfl) (by kernel_rfl) (by kernel_rfl) (by kernel_rfl) (fun _ _ _ h => h) (by assumption) (by kernel_rfl) (by decide) (by rfl) (Or.inl ⟨by rfl, ?hy180⟩) (fun _ => rfl) ?rest180
             case hy180 => (intro w hSw; (try dsimp only at hSw); go_simp; try with_reducible rfl))
          | (refine ordZ_take (i := 2) (oi := { dst := some 31, op := Op.move (Operand.tmp 6), type := 42, pos := _, after := #[], guard := none }) (v := undef) rfl (by kernel_rfl) (by kernel_rfl) (by kernel_rfl) (by kernel_rfl) (fun _ _ _ h => h) (by assumption) (by kernel_rfl) (by decide) (by rfl) (Or.inr ⟨by rfl, rfl⟩) (fun _ => rfl) ?_)
        try simp only [Act.put, List.setIfInBounds_toArray, List.set_cons_zero, List.set_cons_succ]
        first
          | (refine' ordZ_take (i := 3) (oi := { dst := some 32, op := Op.load 26 (Operand.tmp 1), type := 26, pos := _, after := #[], guard := none }) (v := _) rfl (by kernel_rfl) (by kernel_rfl) (by kernel_rfl) (by kernel_rfl) (fun _ _ _ h => h) (by assumption) (by kernel_rfl) (by decide) (by rfl) (Or.inl ⟨by rfl, ?hy181⟩) (fun _ => rfl) ?rest181
             case hy181 => (intro w hSw; (try dsimp only at hSw); go_simp; try with_reducible rfl))
          | (refine ordZ_take (i := 3) (oi := { dst := some 32, op := Op.load 26 (Operand.tmp 1), type := 26, pos := _, after := #[], guard := none }) (v := undef) rfl (by kernel_rfl) (by kernel_rfl) (by kernel_rfl) (by kernel_rfl) (fun _ _ _ h => h) (by assumption) (by kernel_rfl) (by decide) (by rfl) (Or.inr ⟨by rfl, rfl⟩) (fun _ => rfl) ?_)
        try simp only [Act.put, List.setIfInBounds_toArray, List.set_cons_zero, List.set_cons_succ]
        first
          | (refine' ordZ_take (i := 4) (oi := { dst := some 33, op := Op.load 28 (Operand.tmp 2), type := 28, pos := _, after := #[], guard := none }) (v := _) rfl (by kernel_rfl) (by kernel_rfl) (by kernel_rfl) (by kernel_rfl) (fun _ _ _ h => h) (by assumption) (by kernel_rfl) (by decide) (by rfl) (Or.inl ⟨by rfl, ?hy182⟩) (fun _ => rfl) ?rest182
             case hy182 => (intro w hSw; (try dsimp only at hSw); go_simp; try with_reducible rfl))
          | (refine ordZ_take (i := 4) (oi := { dst := some 33, op := Op.load 28 (Operand.tmp 2), type := 28, pos := _, after := #[], guard := none }) (v := undef) rfl (by kernel_rfl) (by kernel_rfl) (by kernel_rfl) (by kernel_rfl) (fun _ _ _ h => h) (by assumption) (by kernel_rfl) (by decide) (by rfl) (Or.inr ⟨by rfl, rfl⟩) (fun _ => rfl) ?_)
        try simp only [Act.put, List.setIfInBounds_toArray, List.set_cons_zero, List.set_cons_succ]
        first
          | (refine' ordZ_take (i := 5) (oi := { dst := some 34, op := Op.load 30 (Operand.tmp 10), type := 30, pos := _, after := #[], guard := none }) (v := _) rfl (by kernel_rfl) (by kernel_rfl) (by kernel_rfl) (by kernel_rfl) (fun _ _ _ h => h) (by assumption) (by kernel_rfl) (by decide) (by rfl) (Or.inl ⟨by rfl, ?hy183⟩) (fun _ => rfl) ?rest183
             case hy183 => (intro w hSw; (try dsimp only at hSw); go_simp; try with_reducible rfl))
          | (refine ordZ_take (i := 5) (oi := { dst := some 34, op := Op.load 30 (Operand.tmp 10), type := 30, pos := _, after := #[], guard := none }) (v := undef) rfl (by kernel_rfl) (by kernel_rfl) (by kernel_rfl) (by kernel_rfl) (fun _ _ _ h => h) (by assumption) (by kernel_rfl) (by decide) (by rfl) (Or.inr ⟨by rfl, rfl⟩) (fun _ => rfl) ?_)
        try simp only [Act.put, List.setIfInBounds_toArray, List.set_cons_zero, List.set_cons_succ]
        refine ordZ_one (i := 6) (o := { dst := some 35, op := Op.call { callee := Callee.value (Operand.func 66), args := #[Operand.tmp 33, Operand.tmp 34], argTypes := #[28, 30] }, type := 30, pos := _, after := #[{ on := 4, ground := Ground.data }, { on := 5, ground := Ground.data }], guard := none }) (by kernel_rfl) rfl (by rfl) (fun K hK => ?_)
        go_simp
        refine ⟨trivial, ?_⟩
        with_reducible refine (callsIn_wide.2 (HWD.out _)).mono ?_
        rintro e W5 ⟨rfl, hb5⟩
        replace hD := bl_tr hD hb5
        have hS5 : (fun W9 : World => W9.cell? ⟨o, 0, none⟩ = some (.int .i64 U) ∧ W9.cell? ⟨o, 1, none⟩ = some (.int .i64 V) ∧ W9.cell? ⟨o, 2, none⟩ = some (.slice va uv vc) ∧ W9.cell? ⟨b, 0, none⟩ = some (.int .i64 X) ∧ W9.cell? ⟨b, 1, none⟩ = some (.int .i64 Y) ∧ W9.cell? ⟨b, 2, none⟩ = some (.int .i64 U) ∧ W9.cell? ⟨b, 3, none⟩ = some (.int .i64 V) ∧ W9.cell? ⟨wr.heap.size, 0, none⟩ = some (.int .i64 d.1) ∧ W9.cell? ⟨wr.heap.size, 1, none⟩ = some (.int .i64 d.2) ∧ W9.cell? ⟨fb, fo + idx, none⟩ = some (.int .u64 v)) W5 := ⟨cell_later hD e0, cell_later hD e1, cell_later hD e2, cell_later hD e3, cell_later hD e4, cell_later hD e5, cell_later hD e6, cell_later hD d0, cell_later hD d1, cell_later hD qf⟩
        refine hK _ _ (fun _ => hS5) ?_
        clear hK K
        try simp only [Act.put, List.setIfInBounds_toArray, List.set_cons_zero, List.set_cons_succ]
        refine ordZ_one (i := 7) (o := { dst := some 36, op := Op.call { callee := Callee.value (Operand.func 67), args := #[Operand.tmp 32, Operand.tmp 35], argTypes := #[26, 30] }, type := 3, pos := _, after := #[{ on := 3, ground := Ground.data }, { on := 6, ground := Ground.data }, { on := 6, ground := Ground.chain }], guard := none }) (by kernel_rfl) rfl (by rfl) (fun K hK => ?_)
        go_simp
        refine ⟨trivial, ?_⟩
        with_reducible refine (callsIn_wide.2 (HND.out _ _ _ _)).mono ?_
        rintro e W6 ⟨rfl, hb6⟩
        replace hD := bl_tr hD hb6
        have hS6 : (fun W9 : World => W9.cell? ⟨o, 0, none⟩ = some (.int .i64 U) ∧ W9.cell? ⟨o, 1, none⟩ = some (.int .i64 V) ∧ W9.cell? ⟨o, 2, none⟩ = some (.slice va uv vc) ∧ W9.cell? ⟨b, 0, none⟩ = some (.int .i64 X) ∧ W9.cell? ⟨b, 1, none⟩ = some (.int .i64 Y) ∧ W9.cell? ⟨b, 2, none⟩ = some (.int .i64 U) ∧ W9.cell? ⟨b, 3, none⟩ = some (.int .i64 V) ∧ W9.cell? ⟨wr.heap.size, 0, none⟩ = some (.int .i64 d.1) ∧ W9.cell? ⟨wr.heap.size, 1, none⟩ = some (.int .i64 d.2) ∧ W9.cell? ⟨fb, fo + idx, none⟩ = some (.int .u64 v)) W6 := ⟨cell_later hD e0, cell_later hD e1, cell_later hD e2, cell_later hD e3, cell_later hD e4, cell_later hD e5, cell_later hD e6, cell_later hD d0, cell_later hD d1, cell_later hD qf⟩
        refine hK _ _ (fun _ => hS6) ?_
        clear hK K
        try simp only [Act.put, List.setIfInBounds_toArray, List.set_cons_zero, List.set_cons_succ]
        first
          | (refine' ordZ_take (i := 8) (oi := { dst := some 37, op := Op.indexAddr 42 (Operand.tmp 31) (Operand.tmp 36), type := 0, pos := _, after := #[{ on := 2, ground := Ground.data }, { on := 7, ground := Ground.data }], guard := none }) (v := _) rfl (by kernel_rfl) (by kernel_rfl) (by kernel_rfl) (by kernel_rfl) (fun _ _ _ h => h) (by assumption) (by kernel_rfl) (by decide) (by rfl) (Or.inl ⟨by rfl, ?hy184⟩) (fun _ => rfl) ?rest184
             case hy184 => (intro w hSw; (try dsimp only at hSw); go_simp; try with_reducible rfl))
          | (refine ordZ_take (i := 8) (oi := { dst := some 37, op := Op.indexAddr 42 (Operand.tmp 31) (Operand.tmp 36), type := 0, pos := _, after := #[{ on := 2, ground := Ground.data }, { on := 7, ground := Ground.data }], guard := none }) (v := undef) rfl (by kernel_rfl) (by kernel_rfl) (by kernel_rfl) (by kernel_rfl) (fun _ _ _ h => h) (by assumption) (by kernel_rfl) (by decide) (by rfl) (Or.inr ⟨by rfl, rfl⟩) (fun _ => rfl) ?_)
        try simp only [Act.put, List.setIfInBounds_toArray, List.set_cons_zero, List.set_cons_succ]
        first
          | (refine' ordZ_take (i := 9) (oi := { dst := some 38, op := Op.load 36 (Operand.tmp 37), type := 36, pos := _, after := #[{ on := 8, ground := Ground.data }], guard := none }) (v := _) rfl (by kernel_rfl) (by kernel_rfl) (by kernel_rfl) (by kernel_rfl) (fun _ _ _ h => h) (by assumption) (by kernel_rfl) (by decide) (by rfl) (Or.inl ⟨by rfl, ?hy185⟩) (fun _ => rfl) ?rest185
             case hy185 => (intro w hSw; (try dsimp only at hSw); go_simp; try with_reducible rfl))
          | (refine ordZ_take (i := 9) (oi := { dst := some 38, op := Op.load 36 (Operand.tmp 37), type := 36, pos := _, after := #[{ on := 8, ground := Ground.data }], guard := none }) (v := undef) rfl (by kernel_rfl) (by kernel_rfl) (by kernel_rfl) (by kernel_rfl) (fun _ _ _ h => h) (by assumption) (by kernel_rfl) (by decide) (by rfl) (Or.inr ⟨by rfl, rfl⟩) (fun _ => rfl) ?_)
        try simp only [Act.put, List.setIfInBounds_toArray, List.set_cons_zero, List.set_cons_succ]
        first
          | (refine' ordZ_take (i := 10) (oi := { dst := some 39, op := Op.indexAddr 42 (Operand.tmp 29) (Operand.tmp 30), type := 0, pos := _, after := #[{ on := 0, ground := Ground.data }, { on := 1, ground := Ground.data }, { on := 0, ground := Ground.phase }, { on := 1, ground := Ground.phase }, { on := 2, ground := Ground.phase }, { on := 3, ground := Ground.phase }, { on := 4, ground := Ground.phase }, { on := 5, ground := Ground.phase }, { on := 6, ground := Ground.phase }, { on := 7, ground := Ground.phase }, { on := 8, ground := Ground.phase }, { on := 9, ground := Ground.phase }], guard := none }) (v := _) rfl (by kernel_rfl) (by kernel_rfl) (by kernel_rfl) (by kernel_rfl) (fun _ _ _ h => h) (by assumption) (by kernel_rfl) (by decide) (by rfl) (Or.inl ⟨by rfl, ?hy186⟩) (fun _ => rfl) ?rest186
             case hy186 => (intro w hSw; (try dsimp only at hSw); go_simp; try with_reducible rfl))
          | (refine ordZ_take (i := 10) (oi := { dst := some 39, op := Op.indexAddr 42 (Operand.tmp 29) (Operand.tmp 30), type := 0, pos := _, after := #[{ on := 0, ground := Ground.data }, { on := 1, ground := Ground.data }, { on := 0, ground := Ground.phase }, { on := 1, ground := Ground.phase }, { on := 2, ground := Ground.phase }, { on := 3, ground := Ground.phase }, { on := 4, ground := Ground.phase }, { on := 5, ground := Ground.phase }, { on := 6, ground := Ground.phase }, { on := 7, ground := Ground.phase }, { on := 8, ground := Ground.phase }, { on := 9, ground := Ground.phase }], guard := none }) (v := undef) rfl (by kernel_rfl) (by kernel_rfl) (by kernel_rfl) (by kernel_rfl) (fun _ _ _ h => h) (by assumption) (by kernel_rfl) (by decide) (by rfl) (Or.inr ⟨by rfl, rfl⟩) (fun _ => rfl) ?_)
        try simp only [Act.put, List.setIfInBounds_toArray, List.set_cons_zero, List.set_cons_succ]
        have HDD := Lib.hid (bl_tr HAL.out hD)
        have hrow6 := ((HDD.out).block _ (Array.getElem?_eq_some_iff.1 HRW.out).1).trans HRW.out
        have hkl : k < (rowK R k).length := by rw [rowK_len (by rw [HRL.out]; exact hk), HRL.out]; exact hlt
        have t0 : W6.cell? ⟨w9.heap.size, k, none⟩ = some (.int .u64 (rowK R k)[k]) := by simp [World.cell?, hrow6, cellsU, hkl]
        have t1 : W6.frozen? ⟨w9.heap.size, k, none⟩ = false := by simp [World.frozen?, hrow6]
        have zt := blk_lt t0
        refine ordZ_one (i := 11) (o := { dst := none, op := Op.store 36 (Operand.tmp 39) (Operand.tmp 38), type := 0, pos := _, after := #[{ on := 10, ground := Ground.data }, { on := 9, ground := Ground.data }, { on := 7, ground := Ground.chain }, { on := 0, ground := Ground.phase }, { on := 1, ground := Ground.phase }, { on := 2, ground := Ground.phase }, { on := 3, ground := Ground.phase }, { on := 4, ground := Ground.phase }, { on := 5, ground := Ground.phase }, { on := 6, ground := Ground.phase }, { on := 7, ground := Ground.phase }, { on := 8, ground := Ground.phase }, { on := 9, ground := Ground.phase }], guard := none }) (by kernel_rfl) rfl (by rfl) (fun K hK => ?_)
        go_simp
        refine hK _ _ (fun h => by cases h) ?_
        clear hK K hH
        try simp only [Act.put, List.setIfInBounds_toArray, List.set_cons_zero, List.set_cons_succ]
        refine ordZ_done (by kernel_rfl) ?_
        have hset := hset_same W6 w9.heap.size k _ _ (.int .u64 v) hrow6
        have HST := Lib.hid (show (W6.setCell ⟨w9.heap.size, k, none⟩ (.int .u64 v)).heap[w9.heap.size]? = some (.cells (cellsU (rowK R (k + 1))).toArray 36 (0, 0)) by rw [hset, ← HRS.out, ← cellsU_set]; simp)
        have HB9 := Lib.hid (bl_st (bl_tr HBL.out HDD.out) (Nat.le_refl _) (.int .u64 v) (o := k))
        clear hset hrow6 t0 t1 zt hS5 hS6 hD e0 e1 e2 e3 e4 e5 e6 qf d0 d1 zd0 ze0 ze0' ze3 ze3' zqf zqf'
        go_wp2
        go_roundw
        case rel => exact ⟨k + 1, by omega, by go_num, HB9.out, HST.out⟩
        case measure => simp [intOf]; omega
      · obtain rfl : k = cs.length := by omega
        have hge : ¬ (cs.length : Int) < (cs.length : Int) := by omega
        have hall : rowK R cs.length = R := by rw [← HRL.out]; exact rowK_all R
        rw [hall] at hrow
        have HR9 := Lib.hid hrow
        have hA9 := bl_tr HB.out hbl
        have HSZ := Lib.hid (HB.out).size
        clear hrow hbl c0 zc0 hall
        go_wp2
        go_ret
        exact ⟨_, rfl, HSZ.out, HR9.out, hA9⟩
end Go.Proofs.YtgbhafadibdmcaaDoor

/- Tables within a cluster: To. -/
namespace Go.Proofs.YtgbhafadibdmcaaDoor
open Go.RowKit

theorem hasI_box {W H S id : Int} (hr : rightP W H S = true) (h0 : 0 ≤ id) (h1 : id < lieN W S * lieN H S) (c : IC) :
    hasI W H S id c = true ↔ bxX S (plcP W S id) ≤ c.1 ∧ c.1 < bxX S (plcP W S id) + bxW W S (plcP W S id) ∧ bxY S (plcP W S id) ≤ c.2 ∧ c.2 < bxY S (plcP W S id) + bxH H S (plcP W S id) := by
  obtain ⟨a1, a2, a3, a4, a5⟩ := plc_in hr h0 h1
  rw [box_has hr a1 a2 a3 a4]
  unfold hasI
  rw [decide_eq_true_eq]
  constructor
  · rintro ⟨e1, e2⟩
    obtain ⟨_, hc⟩ := ofX_yes.1 e1
    unfold ofV at e2
    rw [if_pos e1] at e2
    exact ⟨hc, by rw [← plc_cell hr hc, e2]⟩
  · rintro ⟨hc, hp⟩
    have e1 : ofX W H S c = 0 := ofX_yes.2 ⟨hr, hc⟩
    refine ⟨e1, ?_⟩
    unfold ofV
    rw [if_pos e1]
    unfold ofP
    rw [Prod.ext_iff] at hp
    obtain ⟨p1, p2⟩ := hp
    simp only at p1 p2
    rw [p1, p2]
    exact a5
/-- A cluster's box. -/
def bxB (A B S id : Int) : BX := (bxX S (plcP A S id), bxY S (plcP A S id), bxW A S (plcP A S id), bxH B S (plcP A S id))
theorem clu_box {A B S id : Int} (hp : plcX A B S id = 0) : ∃ (X Y : Int) (U V : Nat), bxB A B S id = (X, Y, (U : Int), (V : Int)) ∧ (bxX S (plcP A S id) = X ∧ bxY S (plcP A S id) = Y ∧ bxW A S (plcP A S id) = U ∧ bxH B S (plcP A S id) = V) ∧ BoxOn A B X Y U V ∧ ∀ c, hasI A B S id c = inBx (X, Y, (U : Int), (V : Int)) c := by
  obtain ⟨hr, h0, h1⟩ := plcX_yes.1 hp
  obtain ⟨⟨a1, a2, a3, a4⟩, a5, a6⟩ := rightP_iff.1 hr
  obtain ⟨p1, p2, p3, p4, _⟩ := plc_in hr h0 h1
  obtain ⟨⟨t1, t2, t3, t4⟩, ⟨t5, t6, t7, t8⟩, t9, t10⟩ := bx_bd hr p1 p2 p3 p4
  have hh := hasI_box hr h0 h1
  unfold bxB
  obtain ⟨X, hX⟩ : ∃ X, bxX S (plcP A S id) = X := ⟨_, rfl⟩
  obtain ⟨Y, hY⟩ : ∃ Y, bxY S (plcP A S id) = Y := ⟨_, rfl⟩
  obtain ⟨U, hU⟩ : ∃ U : Nat, bxW A S (plcP A S id) = (U : Int) := ⟨(bxW A S (plcP A S id)).toNat, by omega⟩
  obtain ⟨V, hV⟩ : ∃ V : Nat, bxH B S (plcP A S id) = (V : Int) := ⟨(bxH B S (plcP A S id)).toNat, by omega⟩
  rw [hX] at t1 t2 t9 hh
  rw [hY] at t3 t4 t10 hh
  rw [hU] at t5 t6 t9 hh
  rw [hV] at t7 t8 t10 hh
  have hbx : BoxOn A B X Y U V := ⟨⟨a1, a2⟩, ⟨a3, a4⟩, ⟨t1, t9⟩, ⟨t3, t10⟩, by omega, by omega⟩
  refine ⟨X, Y, U, V, by rw [hX, hY, hU, hV], ⟨hX, hY, hU, hV⟩, hbx, fun c => ?_⟩
  rw [Bool.eq_iff_iff, hh c, hbx.inb]
theorem chkI_ok {A B n X Y S id : Int} {cs : List IC} (h : chkI A B n X Y S id cs = 0) : chkF A B n = 0 ∧ X = A ∧ Y = B ∧ plcX X Y S id = 0 ∧ wrgI X Y S id cs = 0 := by
  unfold chkI at h
  by_cases h0 : chkF A B n = 0
  · rw [if_neg (fun q => q h0)] at h
    by_cases h1 : X = A ∧ Y = B
    · rw [if_pos h1] at h
      by_cases h2 : plcX X Y S id = 0
      · rw [if_neg (fun q => q h2)] at h
        exact ⟨h0, h1.1, h1.2, h2, h⟩
      · rw [if_pos h2] at h; exact absurd h h2
    · rw [if_neg h1] at h; cases h
  · rw [if_pos h0] at h; exact absurd h h0
theorem wrgT_zero {W H S id : Int} {cs : List IC} (h : wrgI W H S id cs = 0) : ∀ k, k ≤ cs.length → wrgT W H S id cs k = 0 := by
  intro k hk
  apply Classical.byContradiction
  intro hn
  have := wrgT_stay hn (cs.length - k)
  rw [show k + (cs.length - k) = cs.length by omega] at this
  exact hn (this.symm.trans h)
theorem wrg_in {W H S id : Int} {cs : List IC} (h : wrgI W H S id cs = 0) : ∀ c ∈ cs, hasI W H S id c = true := by
  intro c hc
  obtain ⟨k, hk, rfl⟩ := List.getElem_of_mem hc
  have h1 := wrgT_next (wrgT_zero h k (by omega))
  rw [wrgT_zero h (k + 1) (by omega)] at h1
  unfold wrgE at h1
  rw [getD_c hk] at h1
  by_cases q : hasI W H S id cs[k] = true
  · exact q
  · rw [if_neg q] at h1; cases h1
/-- What To tells. -/
def toXi (A B n X Y S id : Int) (cs : List IC) (p : IC) : Int := if chkI A B n X Y S id cs ≠ 0 then chkI A B n X Y S id cs else if hasI X Y S id p = true then 0 else 10
def toLi (A B : Int) (zs : List Int) (X Y S id : Int) (cs : List IC) (p : IC) : List Int := if toXi A B zs.length X Y S id cs p = 0 then rowO A (bxB A B S id) zs p cs else []
def ToR (x : Int) (L : List Int) (w : World) (e : Ending) (w' : World) : Prop :=
  ∃ g cap, e = .returned (.tuple #[.slice g L.length cap, .int .i64 x]) ∧ (L = [] ∨ ∃ b, g = some ⟨b, 0, none⟩ ∧ w.heap.size ≤ b ∧ w'.heap[b]? = some (.cells (cellsU L).toArray 36 (0, 0))) ∧ Below w.heap.size w w'
set_option maxRecDepth 100000 in
set_option maxHeartbeats 8000000 in
theorem to_i (A B : Int) (a : Option Addr) (cap : Nat) (zs : List Int) (X Y S id : Int) (ca : Option Addr) (cc : Nat) (cs : List IC) (ta : Option Addr) (tn tc : Nat) (p : IC) (w : World) (hr : RowH w a zs) (hz : AllH zs) (hc : zs.length ≤ cap) (hcs : RowC w ca cs) (hl : cs.length ≤ 1048576) (hs : Stp w) :
    Calls Tryd.prog 25 #[.agg #[.int .i64 A, .int .i64 B, .slice a zs.length cap], .agg #[.int .i64 X, .int .i64 Y, .int .i64 S], .int .i64 id, .agg #[.slice ca cs.length cc, .slice ta tn tc], .agg #[.int .i64 p.1, .int .i64 p.2]] w (ToR (toXi A B zs.length X Y S id cs p) (toLi A B zs X Y S id cs p) w) := by
  have hA := bl0 w
  have H1 := Lib.hid (fun w hr => check_i A B a zs.length cap X Y S id ca cc cs w hr hl)
  have H2 := Lib.hid (fun w => has_i X Y S id p w)
  have hx : toXi A B zs.length X Y S id cs p = if chkI A B zs.length X Y S id cs ≠ 0 then chkI A B zs.length X Y S id cs else if hasI X Y S id p = true then 0 else 10 := rfl
  have hL : toLi A B zs X Y S id cs p = if toXi A B zs.length X Y S id cs p = 0 then rowO A (bxB A B S id) zs p cs else [] := rfl
  obtain ⟨x, hxx⟩ : ∃ x, toXi A B zs.length X Y S id cs p = x := ⟨_, rfl⟩
  obtain ⟨L, hLL⟩ : ∃ L, toLi A B zs X Y S id cs p = L := ⟨_, rfl⟩
  rw [hxx] at hx hL ⊢
  rw [hLL] at hL ⊢
  clear hxx hLL
  by_cases h0 : chkI A B zs.length X Y S id cs = 0
  case neg =>
    rw [if_pos h0] at hx
    have hx0 : x ≠ 0 := by rw [hx]; exact h0
    rw [if_neg hx0] at hL
    rw [← hx] at H1
    subst hL
    have h1 : (x != 0) = true := by rw [bne_iff_ne]; exact hx0
    generalize zrI x (bxX S (plcP X S id)) = k0 at *
    generalize zrI x (bxY S (plcP X S id)) = k1 at *
    generalize zrI x (bxW X S (plcP X S id)) = k2 at *
    generalize zrI x (bxH Y S (plcP X S id)) = k3 at *
    clear h0 hx hx0 hs hz hr hc
    go_enter Tryd.func25, Tryd.ntmps25
    go_wp2_with fail
    refine (H1.out _ (hcs.below (by first | exact hA | exact (bl_al hA _) | exact (bl_dr (bl_al hA _)) | exact (bl_al (bl_al hA _) _) | exact (bl_dr (bl_al (bl_al hA _) _)) | exact (bl_al (bl_al (bl_al hA _) _) _) | exact (bl_dr (bl_al (bl_al (bl_al hA _) _) _)) | exact (bl_al (bl_al (bl_al (bl_al hA _) _) _) _) | exact (bl_dr (bl_al (bl_al (bl_al (bl_al hA _) _) _) _)) | exact (bl_al (bl_al (bl_al (bl_al (bl_al hA _) _) _) _) _) | exact (bl_dr (bl_al (bl_al (bl_al (bl_al (bl_al hA _) _) _) _) _)) | exact (bl_al (bl_al (bl_al (bl_al (bl_al (bl_al hA _) _) _) _) _) _) | exact (bl_dr (bl_al (bl_al (bl_al (bl_al (bl_al (bl_al hA _) _) _) _) _) _)) | exact (bl_dr hA)))).mono ?_
    rintro e w1 ⟨rfl, hb⟩
    have hk : Below w.heap.size w w1 := by first | exact hb | exact bl_tr (bl_al (bl0 _) _) hb | exact bl_tr (bl_dr (bl_al (bl0 _) _)) hb | exact bl_tr (bl_al (bl_al (bl0 _) _) _) hb | exact bl_tr (bl_dr (bl_al (bl_al (bl0 _) _) _)) hb | exact bl_tr (bl_al (bl_al (bl_al (bl0 _) _) _) _) hb | exact bl_tr (bl_dr (bl_al (bl_al (bl_al (bl0 _) _) _) _)) hb | exact bl_tr (bl_al (bl_al (bl_al (bl_al (bl0 _) _) _) _) _) hb | exact bl_tr (bl_dr (bl_al (bl_al (bl_al (bl_al (bl0 _) _) _) _) _)) hb | exact bl_tr (bl_al (bl_al (bl_al (bl_al (bl_al (bl0 _) _) _) _) _) _) hb | exact bl_tr (bl_dr (bl_al (bl_al (bl_al (bl_al (bl_al (bl0 _) _) _) _) _) _)) hb | exact bl_tr (bl_al (bl_al (bl_al (bl_al (bl_al (bl_al (bl0 _) _) _) _) _) _) _) hb | exact bl_tr (bl_dr (bl_al (bl_al (bl_al (bl_al (bl_al (bl_al (bl0 _) _) _) _) _) _) _)) hb | exact bl_tr (bl_dr (bl0 _)) hb
    replace hA := bl_tr hA hk
    clear hb hk
    go_wp2
    go_ret2
    exact ⟨none, 0, rfl, .inl rfl, bl_al hA _⟩
  case pos =>
  obtain ⟨hck, rfl, rfl, hpx, hwr⟩ := chkI_ok h0
  obtain ⟨hm, hn⟩ := chkF_may hck
  rw [if_neg (fun q => q h0)] at hx
  obtain ⟨BX', BY', U, V, hbb, ⟨e0, e1, e2, e3⟩, hbx, hin⟩ := clu_box hpx
  rw [h0, e0, e1, e2, e3] at H1
  have hz0 : ∀ k : Int, zrI 0 k = k := fun k => if_pos rfl
  rw [hz0, hz0, hz0, hz0] at H1
  rw [hbb] at hL
  cases hh : hasI X Y S id p
  · rw [hh] at hx H2
    rw [if_neg (by decide)] at hx
    subst hx
    rw [if_neg (by decide)] at hL
    subst hL
    clear h0 hck hm hn hpx hwr hbb e0 e1 e2 e3 hbx hin hz0 hh hz hr hc
    go_enter Tryd.func25, Tryd.ntmps25
    go_wp2_with fail
    refine (H1.out _ (hcs.below (by first | exact hA | exact (bl_al hA _) | exact (bl_dr (bl_al hA _)) | exact (bl_al (bl_al hA _) _) | exact (bl_dr (bl_al (bl_al hA _) _)) | exact (bl_al (bl_al (bl_al hA _) _) _) | exact (bl_dr (bl_al (bl_al (bl_al hA _) _) _)) | exact (bl_al (bl_al (bl_al (bl_al hA _) _) _) _) | exact (bl_dr (bl_al (bl_al (bl_al (bl_al hA _) _) _) _)) | exact (bl_al (bl_al (bl_al (bl_al (bl_al hA _) _) _) _) _) | exact (bl_dr (bl_al (bl_al (bl_al (bl_al (bl_al hA _) _) _) _) _)) | exact (bl_al (bl_al (bl_al (bl_al (bl_al (bl_al hA _) _) _) _) _) _) | exact (bl_dr (bl_al (bl_al (bl_al (bl_al (bl_al (bl_al hA _) _) _) _) _) _)) | exact (bl_dr hA)))).mono ?_
    rintro e w1 ⟨rfl, hb⟩
    have hk : Below w.heap.size w w1 := by first | exact hb | exact bl_tr (bl_al (bl0 _) _) hb | exact bl_tr (bl_dr (bl_al (bl0 _) _)) hb | exact bl_tr (bl_al (bl_al (bl0 _) _) _) hb | exact bl_tr (bl_dr (bl_al (bl_al (bl0 _) _) _)) hb | exact bl_tr (bl_al (bl_al (bl_al (bl0 _) _) _) _) hb | exact bl_tr (bl_dr (bl_al (bl_al (bl_al (bl0 _) _) _) _)) hb | exact bl_tr (bl_al (bl_al (bl_al (bl_al (bl0 _) _) _) _) _) hb | exact bl_tr (bl_dr (bl_al (bl_al (bl_al (bl_al (bl0 _) _) _) _) _)) hb | exact bl_tr (bl_al (bl_al (bl_al (bl_al (bl_al (bl0 _) _) _) _) _) _) hb | exact bl_tr (bl_dr (bl_al (bl_al (bl_al (bl_al (bl_al (bl0 _) _) _) _) _) _)) hb | exact bl_tr (bl_al (bl_al (bl_al (bl_al (bl_al (bl_al (bl0 _) _) _) _) _) _) _) hb | exact bl_tr (bl_dr (bl_al (bl_al (bl_al (bl_al (bl_al (bl_al (bl0 _) _) _) _) _) _) _)) hb | exact bl_tr (bl_dr (bl0 _)) hb
    replace hA := bl_tr hA hk
    have p0 := cell_later hb (v := .int .i64 X) (a := ⟨w.heap.size + 1, 0, none⟩) (by simp [go_sem])
    have p1 := cell_later hb (v := .int .i64 Y) (a := ⟨w.heap.size + 1, 1, none⟩) (by simp [go_sem])
    have p2 := cell_later hb (v := .int .i64 S) (a := ⟨w.heap.size + 1, 2, none⟩) (by simp [go_sem])
    have q0 := cell_later hb (v := .int .i64 p.1) (a := ⟨w.heap.size + 1 + 1 + 1, 0, none⟩) (by simp [go_sem])
    have q1 := cell_later hb (v := .int .i64 p.2) (a := ⟨w.heap.size + 1 + 1 + 1, 1, none⟩) (by simp [go_sem])
    clear hb hk
    have zp0 := blk_lt p0
    have zp1 := blk_lt p1
    have zp2 := blk_lt p2
    have zq0 := blk_lt q0
    have zq1 := blk_lt q1
    go_wp2_with fail
    refine (H2.out _).mono ?_
    rintro e w2 ⟨rfl, hb⟩
    have hk : Below w1.heap.size w1 w2 := by first | exact hb | exact bl_tr (bl_al (bl0 _) _) hb | exact bl_tr (bl_dr (bl_al (bl0 _) _)) hb | exact bl_tr (bl_al (bl_al (bl0 _) _) _) hb | exact bl_tr (bl_dr (bl_al (bl_al (bl0 _) _) _)) hb | exact bl_tr (bl_al (bl_al (bl_al (bl0 _) _) _) _) hb | exact bl_tr (bl_dr (bl_al (bl_al (bl_al (bl0 _) _) _) _)) hb | exact bl_tr (bl_al (bl_al (bl_al (bl_al (bl0 _) _) _) _) _) hb | exact bl_tr (bl_dr (bl_al (bl_al (bl_al (bl_al (bl0 _) _) _) _) _)) hb | exact bl_tr (bl_al (bl_al (bl_al (bl_al (bl_al (bl0 _) _) _) _) _) _) hb | exact bl_tr (bl_dr (bl_al (bl_al (bl_al (bl_al (bl_al (bl0 _) _) _) _) _) _)) hb | exact bl_tr (bl_al (bl_al (bl_al (bl_al (bl_al (bl_al (bl0 _) _) _) _) _) _) _) hb | exact bl_tr (bl_dr (bl_al (bl_al (bl_al (bl_al (bl_al (bl_al (bl0 _) _) _) _) _) _) _)) hb | exact bl_tr (bl_dr (bl0 _)) hb
    replace hA := bl_tr hA hk
    clear hb hk
    go_wp2
    go_ret2
    exact ⟨none, 0, rfl, .inl rfl, hA⟩
  · rw [hh] at hx H2
    rw [if_pos rfl] at hx
    subst hx
    rw [if_pos rfl] at hL
    have hci : ∀ d ∈ cs, inBx (BX', BY', (U : Int), (V : Int)) d = true := fun d hd => by rw [← hin]; exact wrg_in hwr d hd
    have hpi : inBx (BX', BY', (U : Int), (V : Int)) p = true := by rw [← hin]; exact hh
    have H3 := Lib.hid (fun w hr hcs => rows_i X Y BX' BY' U V a cap zs ca cc cs w hr hc hn hbx hcs)
    have H4 := Lib.hid (fun o b c va vc w hR hs => row_i X Y BX' BY' U V zs ca cc cs o b c va vc p w hz hn hbx hpi hci hl hR hs)
    unfold RowsR at H3
    rw [← hL] at H4
    have hLl : L.length = cs.length := by rw [hL, rowO_len]
    have HLL := Lib.hid hLl
    clear h0 hck hm hn hpx hwr hbb e0 e1 e2 e3 hbx hin hz0 hh hz hc hci hpi hL hLl
    go_enter Tryd.func25, Tryd.ntmps25
    go_wp2_with fail
    refine (H1.out _ (hcs.below (by first | exact hA | exact (bl_al hA _) | exact (bl_dr (bl_al hA _)) | exact (bl_al (bl_al hA _) _) | exact (bl_dr (bl_al (bl_al hA _) _)) | exact (bl_al (bl_al (bl_al hA _) _) _) | exact (bl_dr (bl_al (bl_al (bl_al hA _) _) _)) | exact (bl_al (bl_al (bl_al (bl_al hA _) _) _) _) | exact (bl_dr (bl_al (bl_al (bl_al (bl_al hA _) _) _) _)) | exact (bl_al (bl_al (bl_al (bl_al (bl_al hA _) _) _) _) _) | exact (bl_dr (bl_al (bl_al (bl_al (bl_al (bl_al hA _) _) _) _) _)) | exact (bl_al (bl_al (bl_al (bl_al (bl_al (bl_al hA _) _) _) _) _) _) | exact (bl_dr (bl_al (bl_al (bl_al (bl_al (bl_al (bl_al hA _) _) _) _) _) _)) | exact (bl_dr hA)))).mono ?_
    rintro e w1 ⟨rfl, hb⟩
    have hk : Below w.heap.size w w1 := by first | exact hb | exact bl_tr (bl_al (bl0 _) _) hb | exact bl_tr (bl_dr (bl_al (bl0 _) _)) hb | exact bl_tr (bl_al (bl_al (bl0 _) _) _) hb | exact bl_tr (bl_dr (bl_al (bl_al (bl0 _) _) _)) hb | exact bl_tr (bl_al (bl_al (bl_al (bl0 _) _) _) _) hb | exact bl_tr (bl_dr (bl_al (bl_al (bl_al (bl0 _) _) _) _)) hb | exact bl_tr (bl_al (bl_al (bl_al (bl_al (bl0 _) _) _) _) _) hb | exact bl_tr (bl_dr (bl_al (bl_al (bl_al (bl_al (bl0 _) _) _) _) _)) hb | exact bl_tr (bl_al (bl_al (bl_al (bl_al (bl_al (bl0 _) _) _) _) _) _) hb | exact bl_tr (bl_dr (bl_al (bl_al (bl_al (bl_al (bl_al (bl0 _) _) _) _) _) _)) hb | exact bl_tr (bl_al (bl_al (bl_al (bl_al (bl_al (bl_al (bl0 _) _) _) _) _) _) _) hb | exact bl_tr (bl_dr (bl_al (bl_al (bl_al (bl_al (bl_al (bl_al (bl0 _) _) _) _) _) _) _)) hb | exact bl_tr (bl_dr (bl0 _)) hb
    replace hA := bl_tr hA hk
    have f0 := cell_later hb (v := .int .i64 X) (a := ⟨w.heap.size, 0, none⟩) (by simp [go_sem])
    have f1 := cell_later hb (v := .int .i64 Y) (a := ⟨w.heap.size, 1, none⟩) (by simp [go_sem])
    have f2 := cell_later hb (v := .slice a zs.length cap) (a := ⟨w.heap.size, 2, none⟩) (by simp [go_sem])
    have p0 := cell_later hb (v := .int .i64 X) (a := ⟨w.heap.size + 1, 0, none⟩) (by simp [go_sem])
    have p1 := cell_later hb (v := .int .i64 Y) (a := ⟨w.heap.size + 1, 1, none⟩) (by simp [go_sem])
    have p2 := cell_later hb (v := .int .i64 S) (a := ⟨w.heap.size + 1, 2, none⟩) (by simp [go_sem])
    have t0 := cell_later hb (v := .slice ca cs.length cc) (a := ⟨w.heap.size + 1 + 1, 0, none⟩) (by simp [go_sem])
    have t1 := cell_later hb (v := .slice ta tn tc) (a := ⟨w.heap.size + 1 + 1, 1, none⟩) (by simp [go_sem])
    have q0 := cell_later hb (v := .int .i64 p.1) (a := ⟨w.heap.size + 1 + 1 + 1, 0, none⟩) (by simp [go_sem])
    have q1 := cell_later hb (v := .int .i64 p.2) (a := ⟨w.heap.size + 1 + 1 + 1, 1, none⟩) (by simp [go_sem])
    clear hb hk
    have zf0 := blk_lt f0
    have zf1 := blk_lt f1
    have zf2 := blk_lt f2
    have zp0 := blk_lt p0
    have zp1 := blk_lt p1
    have zp2 := blk_lt p2
    have zt0 := blk_lt t0
    have zt1 := blk_lt t1
    have zq0 := blk_lt q0
    have zq1 := blk_lt q1
    go_wp2_with fail
    refine (H2.out _).mono ?_
    rintro e w2 ⟨rfl, hb⟩
    have hk : Below w1.heap.size w1 w2 := by first | exact hb | exact bl_tr (bl_al (bl0 _) _) hb | exact bl_tr (bl_dr (bl_al (bl0 _) _)) hb | exact bl_tr (bl_al (bl_al (bl0 _) _) _) hb | exact bl_tr (bl_dr (bl_al (bl_al (bl0 _) _) _)) hb | exact bl_tr (bl_al (bl_al (bl_al (bl0 _) _) _) _) hb | exact bl_tr (bl_dr (bl_al (bl_al (bl_al (bl0 _) _) _) _)) hb | exact bl_tr (bl_al (bl_al (bl_al (bl_al (bl0 _) _) _) _) _) hb | exact bl_tr (bl_dr (bl_al (bl_al (bl_al (bl_al (bl0 _) _) _) _) _)) hb | exact bl_tr (bl_al (bl_al (bl_al (bl_al (bl_al (bl0 _) _) _) _) _) _) hb | exact bl_tr (bl_dr (bl_al (bl_al (bl_al (bl_al (bl_al (bl0 _) _) _) _) _) _)) hb | exact bl_tr (bl_al (bl_al (bl_al (bl_al (bl_al (bl_al (bl0 _) _) _) _) _) _) _) hb | exact bl_tr (bl_dr (bl_al (bl_al (bl_al (bl_al (bl_al (bl_al (bl0 _) _) _) _) _) _) _)) hb | exact bl_tr (bl_dr (bl0 _)) hb
    replace hA := bl_tr hA hk
    replace f0 := cell_later hk f0
    replace f1 := cell_later hk f1
    replace f2 := cell_later hk f2
    replace t0 := cell_later hk t0
    replace t1 := cell_later hk t1
    replace q0 := cell_later hk q0
    replace q1 := cell_later hk q1
    have b0 := cell_later hb (v := .int .i64 BX') (a := ⟨w1.heap.size, 0, none⟩) (by simp [go_sem])
    have b1 := cell_later hb (v := .int .i64 BY') (a := ⟨w1.heap.size, 1, none⟩) (by simp [go_sem])
    have b2 := cell_later hb (v := .int .i64 U) (a := ⟨w1.heap.size, 2, none⟩) (by simp [go_sem])
    have b3 := cell_later hb (v := .int .i64 V) (a := ⟨w1.heap.size, 3, none⟩) (by simp [go_sem])
    clear hb hk
    have zf0 := blk_lt f0
    have zf1 := blk_lt f1
    have zf2 := blk_lt f2
    have zt0 := blk_lt t0
    have zt1 := blk_lt t1
    have zq0 := blk_lt q0
    have zq1 := blk_lt q1
    have zb0 := blk_lt b0
    have zb1 := blk_lt b1
    have zb2 := blk_lt b2
    have zb3 := blk_lt b3
    have HA2 := Lib.hid hA
    have HRH := Lib.hid (hr.below hA)
    have HRC := Lib.hid (hcs.below hA)
    have HST := Lib.hid (hs.below hA)
    have HSS := Lib.hid (fun W (h : Below w2.heap.size w2 W) => (show W.cell? ⟨w.heap.size, 0, none⟩ = some (.int .i64 X) ∧ W.cell? ⟨w.heap.size, 1, none⟩ = some (.int .i64 Y) ∧ W.cell? ⟨w.heap.size, 2, none⟩ = some (.slice a zs.length cap) ∧ W.cell? ⟨w1.heap.size, 0, none⟩ = some (.int .i64 BX') ∧ W.cell? ⟨w1.heap.size, 1, none⟩ = some (.int .i64 BY') ∧ W.cell? ⟨w1.heap.size, 2, none⟩ = some (.int .i64 U) ∧ W.cell? ⟨w1.heap.size, 3, none⟩ = some (.int .i64 V) ∧ W.cell? ⟨w.heap.size + 1 + 1, 0, none⟩ = some (.slice ca cs.length cc) ∧ W.cell? ⟨w.heap.size + 1 + 1 + 1, 0, none⟩ = some (.int .i64 p.1) ∧ W.cell? ⟨w.heap.size + 1 + 1 + 1, 1, none⟩ = some (.int .i64 p.2) from ⟨cell_later h f0, cell_later h f1, cell_later h f2, cell_later h b0, cell_later h b1, cell_later h b2, cell_later h b3, cell_later h t0, cell_later h q0, cell_later h q1⟩))
    clear hr hcs hs hA f0 f1 f2 t0 t1 q0 q1 b0 b1 b2 b3
    go_upto_region 6 with fail
    have hB := bl_dr (bl0 w2)
    go_region_held3 (fun W => W.cell? ⟨w.heap.size, 0, none⟩ = some (.int .i64 X) ∧ W.cell? ⟨w.heap.size, 1, none⟩ = some (.int .i64 Y) ∧ W.cell? ⟨w.heap.size, 2, none⟩ = some (.slice a zs.length cap) ∧ W.cell? ⟨w1.heap.size, 0, none⟩ = some (.int .i64 BX') ∧ W.cell? ⟨w1.heap.size, 1, none⟩ = some (.int .i64 BY') ∧ W.cell? ⟨w1.heap.size, 2, none⟩ = some (.int .i64 U) ∧ W.cell? ⟨w1.heap.size, 3, none⟩ = some (.int .i64 V) ∧ W.cell? ⟨w.heap.size + 1 + 1, 0, none⟩ = some (.slice ca cs.length cc) ∧ W.cell? ⟨w.heap.size + 1 + 1 + 1, 0, none⟩ = some (.int .i64 p.1) ∧ W.cell? ⟨w.heap.size + 1 + 1 + 1, 1, none⟩ = some (.int .i64 p.2))
      (exact HSS.out _ hB)
      (first
      | (go_at_call 39; (with_reducible refine (H3.out _ (HRH.out.below hB) (HRC.out.below hB)).mono ?_); rintro e w8 ⟨o, b, c, va, vc, rfl, hR8, hb8⟩; replace hB := bl_tr hB hb8)
      | (go_at_call 65; (with_reducible refine (H4.out _ _ _ _ _ _ hR8 (HST.out.below hB)).mono ?_); rintro e w9 ⟨g, rfl, hg9, hq9, hb9⟩; have hsz9 := hB.size; replace hB := bl_tr hB hb9))
    all_goals
      have HQ9 := Lib.hid hq9
      have HB9 := Lib.hid (bl_tr HA2.out hB)
      have HG9 := Lib.hid (show w.heap.size ≤ g by have := (HA2.out).size; have := (bl_dr (bl0 w2)).size; omega)
      clear hq9 hB HSS
      go_wp2
      go_ret2
      exact ⟨some ⟨g, 0, none⟩, cs.length, by rw [HLL.out]; rfl, .inr ⟨g, rfl, HG9.out, HQ9.out⟩, HB9.out⟩
end Go.Proofs.YtgbhafadibdmcaaDoor

/- Tables within a cluster: Back. -/
namespace Go.Proofs.YtgbhafadibdmcaaDoor
open Go.RowKit

def backO (A : Int) (b : BX) (zs : List Int) (p : IC) (cs : List IC) : List Int := cs.map fun d => atD (farO A b zs d) (numN A p)
/-- There and back, as the program reckons it. -/
theorem back_eq {A B X Y : Int} {U V : Nat} {zs : List Int} {p d : IC} (hz : AllH zs) (hn : (zs.length : Int) = A * B) (hx : BoxOn A B X Y U V) (hp : inBx (X, Y, (U : Int), (V : Int)) p = true) (hd : inBx (X, Y, (U : Int), (V : Int)) d = true)
    (h1 : Far (gphB A B (X, Y, (U : Int), (V : Int)) zs) (numN A p) (atD (farO A (X, Y, (U : Int), (V : Int)) zs p))) (h2 : Far (gphB A B (X, Y, (U : Int), (V : Int)) zs) (numN A d) (atD (farO A (X, Y, (U : Int), (V : Int)) zs d))) :
    (atD (farO A (X, Y, (U : Int), (V : Int)) zs p) (numN A d) = 18446744073709551615 → atD (farO A (X, Y, (U : Int), (V : Int)) zs d) (numN A p) = 18446744073709551615) ∧
    (atD (farO A (X, Y, (U : Int), (V : Int)) zs p) (numN A d) ≠ 18446744073709551615 → IntKind.u64.wrap (atD (farO A (X, Y, (U : Int), (V : Int)) zs p) (numN A d) + IntKind.u64.wrap (zs.getD (numN A p) 0 - zs.getD (numN A d) 0)) = atD (farO A (X, Y, (U : Int), (V : Int)) zs d) (numN A p)) := by
  have hG := gphB_ok (b := (X, Y, (U : Int), (V : Int))) hx.may hn hz
  obtain ⟨b1, b2⟩ := Far.back hG h1 h2
  have kp : (gphB A B (X, Y, (U : Int), (V : Int)) zs).k (numN A p) = zs.getD (numN A p) 0 := gphB_k (by rw [cellN_num (hx.on hp).1]; exact hp)
  have kd : (gphB A B (X, Y, (U : Int), (V : Int)) zs).k (numN A d) = zs.getD (numN A d) 0 := gphB_k (by rw [cellN_num (hx.on hd).1]; exact hd)
  refine ⟨fun h => b1.1 h, fun h => ?_⟩
  have h3 := b2 h
  rw [kp, kd] at h3
  have z1 := getD_in hz (numN A p)
  have z2 := getD_in hz (numN A d)
  have e1 := h1.bd (numN A d)
  have e2 := h2.bd (numN A p)
  have e3 : atD (farO A (X, Y, (U : Int), (V : Int)) zs d) (numN A p) ≠ 18446744073709551615 := fun q => h (b1.2 q)
  rw [IntKind.wrap_u64, IntKind.wrap_u64]
  omega
/-- What stands in the row behind k rounds. -/
def bakK (R Bk : List Int) (k : Nat) : List Int := Bk.take k ++ R.drop k
theorem bakK_zero (R Bk : List Int) : bakK R Bk 0 = R := by simp [bakK]
theorem bakK_all {R Bk : List Int} (h : R.length = Bk.length) : bakK R Bk Bk.length = Bk := by unfold bakK; rw [List.take_length, ← h, List.drop_length, List.append_nil]
theorem bakK_len {R Bk : List Int} {k : Nat} (h : R.length = Bk.length) (hk : k ≤ Bk.length) : (bakK R Bk k).length = Bk.length := by simp [bakK]; omega
theorem bakK_at {R Bk : List Int} {k : Nat} (h : R.length = Bk.length) (hk : k < Bk.length) : atD (bakK R Bk k) k = R.getD k 0 := by
  have e : (bakK R Bk k)[k]? = some R[k] := by
    unfold bakK
    rw [List.getElem?_append_right (by rw [List.length_take]; omega), List.getElem?_drop, show k + (k - (Bk.take k).length) = k by rw [List.length_take]; omega, List.getElem?_eq_getElem (by omega)]
  unfold atD
  rw [List.getD_eq_getElem?_getD, e, List.getD_eq_getElem?_getD, List.getElem?_eq_getElem (by omega)]
  rfl
theorem bakK_set {R Bk : List Int} {k : Nat} (h : R.length = Bk.length) (hk : k < Bk.length) : (bakK R Bk k).set k (Bk.getD k 0) = bakK R Bk (k + 1) := by
  unfold bakK
  have e1 : Bk.take (k + 1) = Bk.take k ++ [Bk[k]] := List.take_succ_eq_append_getElem hk
  have e2 : k - (Bk.take k).length = 0 := by rw [List.length_take]; omega
  have e3 : R.drop k = R[k] :: R.drop (k + 1) := List.drop_eq_getElem_cons (by omega)
  have e4 : Bk.getD k 0 = Bk[k] := by rw [List.getD_eq_getElem?_getD, List.getElem?_eq_getElem hk]; rfl
  rw [List.set_append_right _ _ (by rw [List.length_take]; omega), e2, e3, e1, e4, List.append_assoc]
  rfl
theorem bakK_keep {R Bk : List Int} {k : Nat} (h : R.length = Bk.length) (hk : k < Bk.length) (he : R.getD k 0 = Bk.getD k 0) : bakK R Bk k = bakK R Bk (k + 1) := by
  rw [← bakK_set h hk, ← he, ← bakK_at h hk]
  have h1 : k < (bakK R Bk k).length := by rw [bakK_len h (by omega)]; exact hk
  rw [← atD_get h1, List.set_getElem_self]
def backLi (A B : Int) (zs : List Int) (X Y S id : Int) (cs : List IC) (p : IC) : List Int := if toXi A B zs.length X Y S id cs p = 0 then backO A (bxB A B S id) zs p cs else []
theorem toXi_ok {A B n X Y S id : Int} {cs : List IC} {p : IC} (h : toXi A B n X Y S id cs p = 0) : chkI A B n X Y S id cs = 0 ∧ hasI X Y S id p = true := by
  unfold toXi at h
  by_cases h0 : chkI A B n X Y S id cs = 0
  · rw [if_neg (fun q => q h0)] at h
    by_cases h1 : hasI X Y S id p = true
    · exact ⟨h0, h1⟩
    · rw [if_neg h1] at h; cases h
  · rw [if_pos h0] at h; exact absurd h h0

set_option maxRecDepth 100000 in
set_option maxHeartbeats 8000000 in
theorem back_i (A B : Int) (a : Option Addr) (cap : Nat) (zs : List Int) (X Y S id : Int) (ca : Option Addr) (cc : Nat) (cs : List IC) (ta : Option Addr) (tn tc : Nat) (p : IC) (w : World) (hr : RowH w a zs) (hz : AllH zs) (hc : zs.length ≤ cap) (hcs : RowC w ca cs) (hl : cs.length ≤ 1048576) (hs : Stp w) :
    Calls Tryd.prog 26 #[.agg #[.int .i64 A, .int .i64 B, .slice a zs.length cap], .agg #[.int .i64 X, .int .i64 Y, .int .i64 S], .int .i64 id, .agg #[.slice ca cs.length cc, .slice ta tn tc], .agg #[.int .i64 p.1, .int .i64 p.2]] w (ToR (toXi A B zs.length X Y S id cs p) (backLi A B zs X Y S id cs p) w) := by
  have hA := bl0 w
  have H1 := Lib.hid (fun w hr hcs hs => to_i A B a cap zs X Y S id ca cc cs ta tn tc p w hr hz hc hcs hl hs)
  unfold ToR at H1
  have hL1 : toLi A B zs X Y S id cs p = if toXi A B zs.length X Y S id cs p = 0 then rowO A (bxB A B S id) zs p cs else [] := rfl
  have hL2 : backLi A B zs X Y S id cs p = if toXi A B zs.length X Y S id cs p = 0 then backO A (bxB A B S id) zs p cs else [] := rfl
  by_cases h0 : toXi A B zs.length X Y S id cs p = 0
  case neg =>
    rw [if_neg h0] at hL1 hL2
    rw [hL1] at H1
    rw [hL2]
    obtain ⟨x, hx⟩ : ∃ x, toXi A B zs.length X Y S id cs p = x := ⟨_, rfl⟩
    rw [hx] at H1 h0 ⊢
    have h1 : (x != 0) = true := by rw [bne_iff_ne]; exact h0
    clear hL1 hL2 h0 hx hz hc hl
    go_enter Tryd.func26, Tryd.ntmps26
    go_wp2_with fail
    refine (H1.out _ (hr.below (by first | exact hA | exact (bl_al hA _) | exact (bl_dr (bl_al hA _)) | exact (bl_al (bl_al hA _) _) | exact (bl_dr (bl_al (bl_al hA _) _)) | exact (bl_al (bl_al (bl_al hA _) _) _) | exact (bl_dr (bl_al (bl_al (bl_al hA _) _) _)) | exact (bl_al (bl_al (bl_al (bl_al hA _) _) _) _) | exact (bl_dr (bl_al (bl_al (bl_al (bl_al hA _) _) _) _)) | exact (bl_al (bl_al (bl_al (bl_al (bl_al hA _) _) _) _) _) | exact (bl_dr (bl_al (bl_al (bl_al (bl_al (bl_al hA _) _) _) _) _)) | exact (bl_al (bl_al (bl_al (bl_al (bl_al (bl_al hA _) _) _) _) _) _) | exact (bl_dr (bl_al (bl_al (bl_al (bl_al (bl_al (bl_al hA _) _) _) _) _) _)) | exact (bl_dr hA))) (hcs.below (by first | exact hA | exact (bl_al hA _) | exact (bl_dr (bl_al hA _)) | exact (bl_al (bl_al hA _) _) | exact (bl_dr (bl_al (bl_al hA _) _)) | exact (bl_al (bl_al (bl_al hA _) _) _) | exact (bl_dr (bl_al (bl_al (bl_al hA _) _) _)) | exact (bl_al (bl_al (bl_al (bl_al hA _) _) _) _) | exact (bl_dr (bl_al (bl_al (bl_al (bl_al hA _) _) _) _)) | exact (bl_al (bl_al (bl_al (bl_al (bl_al hA _) _) _) _) _) | exact (bl_dr (bl_al (bl_al (bl_al (bl_al (bl_al hA _) _) _) _) _)) | exact (bl_al (bl_al (bl_al (bl_al (bl_al (bl_al hA _) _) _) _) _) _) | exact (bl_dr (bl_al (bl_al (bl_al (bl_al (bl_al (bl_al hA _) _) _) _) _) _)) | exact (bl_dr hA))) (hs.below (by first | exact hA | exact (bl_al hA _) | exact (bl_dr (bl_al hA _)) | exact (bl_al (bl_al hA _) _) | exact (bl_dr (bl_al (bl_al hA _) _)) | exact (bl_al (bl_al (bl_al hA _) _) _) | exact (bl_dr (bl_al (bl_al (bl_al hA _) _) _)) | exact (bl_al (bl_al (bl_al (bl_al hA _) _) _) _) | exact (bl_dr (bl_al (bl_al (bl_al (bl_al hA _) _) _) _)) | exact (bl_al (bl_al (bl_al (bl_al (bl_al hA _) _) _) _) _) | exact (bl_dr (bl_al (bl_al (bl_al (bl_al (bl_al hA _) _) _) _) _)) | exact (bl_al (bl_al (bl_al (bl_al (bl_al (bl_al hA _) _) _) _) _) _) | exact (bl_dr (bl_al (bl_al (bl_al (bl_al (bl_al (bl_al hA _) _) _) _) _) _)) | exact (bl_dr hA)))).mono ?_
    rintro e w1 ⟨g, gc, rfl, hgq, hb⟩
    have hk : Below w.heap.size w w1 := by first | exact hb | exact bl_tr (bl_al (bl0 _) _) hb | exact bl_tr (bl_dr (bl_al (bl0 _) _)) hb | exact bl_tr (bl_al (bl_al (bl0 _) _) _) hb | exact bl_tr (bl_dr (bl_al (bl_al (bl0 _) _) _)) hb | exact bl_tr (bl_al (bl_al (bl_al (bl0 _) _) _) _) hb | exact bl_tr (bl_dr (bl_al (bl_al (bl_al (bl0 _) _) _) _)) hb | exact bl_tr (bl_al (bl_al (bl_al (bl_al (bl0 _) _) _) _) _) hb | exact bl_tr (bl_dr (bl_al (bl_al (bl_al (bl_al (bl0 _) _) _) _) _)) hb | exact bl_tr (bl_al (bl_al (bl_al (bl_al (bl_al (bl0 _) _) _) _) _) _) hb | exact bl_tr (bl_dr (bl_al (bl_al (bl_al (bl_al (bl_al (bl0 _) _) _) _) _) _)) hb | exact bl_tr (bl_al (bl_al (bl_al (bl_al (bl_al (bl_al (bl0 _) _) _) _) _) _) _) hb | exact bl_tr (bl_dr (bl_al (bl_al (bl_al (bl_al (bl_al (bl_al (bl0 _) _) _) _) _) _) _)) hb | exact bl_tr (bl_dr (bl0 _)) hb
    replace hA := bl_tr hA hk
    clear hb hk
    clear hgq
    go_wp2
    go_ret2
    exact ⟨none, 0, rfl, .inl rfl, hA⟩
  case pos =>
  obtain ⟨hck0, hh⟩ := toXi_ok h0
  obtain ⟨hck, rfl, rfl, hpx, hwr⟩ := chkI_ok hck0
  obtain ⟨hm, hn⟩ := chkF_may hck
  obtain ⟨BX', BY', U, V, hbb, _, hbx, hin⟩ := clu_box hpx
  rw [if_pos h0, hbb] at hL1 hL2
  rw [h0, hL1] at H1
  rw [h0, hL2]
  have hci : ∀ d ∈ cs, inBx (BX', BY', (U : Int), (V : Int)) d = true := fun d hd => by rw [← hin]; exact wrg_in hwr d hd
  have hpi : inBx (BX', BY', (U : Int), (V : Int)) p = true := by rw [← hin]; exact hh
  have hR1 := rowO_len X (BX', BY', (U : Int), (V : Int)) zs p cs
  have hB1 : (backO X (BX', BY', (U : Int), (V : Int)) zs p cs).length = cs.length := by simp [backO]
  have hF := fun (d : IC) (hd : inBx (BX', BY', (U : Int), (V : Int)) d = true) => farO_far X Y a cap zs (BX', BY', (U : Int), (V : Int)) d w hz hr hs hn hbx.fits hd
  have HEQ := Lib.hid (show ∀ (k : Nat) (hk : k < cs.length), ((rowO X (BX', BY', (U : Int), (V : Int)) zs p cs).getD k 0 = 18446744073709551615 → (backO X (BX', BY', (U : Int), (V : Int)) zs p cs).getD k 0 = 18446744073709551615) ∧ ((rowO X (BX', BY', (U : Int), (V : Int)) zs p cs).getD k 0 ≠ 18446744073709551615 → IntKind.u64.wrap ((rowO X (BX', BY', (U : Int), (V : Int)) zs p cs).getD k 0 + IntKind.u64.wrap (zs.getD (numN X p) 0 - zs.getD (numN X cs[k]) 0)) = (backO X (BX', BY', (U : Int), (V : Int)) zs p cs).getD k 0) from fun k hk => by
    have e1 : (rowO X (BX', BY', (U : Int), (V : Int)) zs p cs).getD k 0 = atD (farO X (BX', BY', (U : Int), (V : Int)) zs p) (numN X cs[k]) := by
      rw [List.getD_eq_getElem?_getD, List.getElem?_eq_getElem (by rw [hR1]; exact hk)]; simp [rowO]
    have e2 : (backO X (BX', BY', (U : Int), (V : Int)) zs p cs).getD k 0 = atD (farO X (BX', BY', (U : Int), (V : Int)) zs cs[k]) (numN X p) := by
      rw [List.getD_eq_getElem?_getD, List.getElem?_eq_getElem (by rw [hB1]; exact hk)]; simp [backO]
    rw [e1, e2]
    have hd := hci _ (List.getElem_mem hk)
    exact back_eq hz hn hbx hpi hd (hF p hpi) (hF _ hd))
  have HC := Lib.hid (fun (d : IC) (hd : inBx (BX', BY', (U : Int), (V : Int)) d = true) w hr => cost_i X Y a cap zs d w hr hz (hbx.on hd).1 hn)
  have HCP := Lib.hid (HC.out p hpi)
  obtain ⟨kp, hkp⟩ : ∃ kp, zs.getD (numN X p) 0 = kp := ⟨_, rfl⟩
  rw [hkp] at HCP HEQ
  have HCI := Lib.hid hci
  obtain ⟨R, hR⟩ : ∃ R, rowO X (BX', BY', (U : Int), (V : Int)) zs p cs = R := ⟨_, rfl⟩
  obtain ⟨Bk, hBk⟩ : ∃ Bk, backO X (BX', BY', (U : Int), (V : Int)) zs p cs = Bk := ⟨_, rfl⟩
  rw [hR] at HEQ H1 hR1
  rw [hBk] at HEQ hB1 ⊢
  have HR1 := Lib.hid hR1
  have HB1 := Lib.hid hB1
  have HRB := Lib.hid (show R.length = Bk.length by omega)
  clear hL1 hL2 h0 hck0 hh hck hm hn hpx hwr hbb hbx hin hci hpi hF hkp hR hBk hR1 hB1 hz hc
  have hl2 : (cs.length : Int) ≤ 1048576 := by omega
  go_enter Tryd.func26, Tryd.ntmps26
  go_wp2_with fail
  refine (H1.out _ (hr.below (by first | exact hA | exact (bl_al hA _) | exact (bl_dr (bl_al hA _)) | exact (bl_al (bl_al hA _) _) | exact (bl_dr (bl_al (bl_al hA _) _)) | exact (bl_al (bl_al (bl_al hA _) _) _) | exact (bl_dr (bl_al (bl_al (bl_al hA _) _) _)) | exact (bl_al (bl_al (bl_al (bl_al hA _) _) _) _) | exact (bl_dr (bl_al (bl_al (bl_al (bl_al hA _) _) _) _)) | exact (bl_al (bl_al (bl_al (bl_al (bl_al hA _) _) _) _) _) | exact (bl_dr (bl_al (bl_al (bl_al (bl_al (bl_al hA _) _) _) _) _)) | exact (bl_al (bl_al (bl_al (bl_al (bl_al (bl_al hA _) _) _) _) _) _) | exact (bl_dr (bl_al (bl_al (bl_al (bl_al (bl_al (bl_al hA _) _) _) _) _) _)) | exact (bl_dr hA))) (hcs.below (by first | exact hA | exact (bl_al hA _) | exact (bl_dr (bl_al hA _)) | exact (bl_al (bl_al hA _) _) | exact (bl_dr (bl_al (bl_al hA _) _)) | exact (bl_al (bl_al (bl_al hA _) _) _) | exact (bl_dr (bl_al (bl_al (bl_al hA _) _) _)) | exact (bl_al (bl_al (bl_al (bl_al hA _) _) _) _) | exact (bl_dr (bl_al (bl_al (bl_al (bl_al hA _) _) _) _)) | exact (bl_al (bl_al (bl_al (bl_al (bl_al hA _) _) _) _) _) | exact (bl_dr (bl_al (bl_al (bl_al (bl_al (bl_al hA _) _) _) _) _)) | exact (bl_al (bl_al (bl_al (bl_al (bl_al (bl_al hA _) _) _) _) _) _) | exact (bl_dr (bl_al (bl_al (bl_al (bl_al (bl_al (bl_al hA _) _) _) _) _) _)) | exact (bl_dr hA))) (hs.below (by first | exact hA | exact (bl_al hA _) | exact (bl_dr (bl_al hA _)) | exact (bl_al (bl_al hA _) _) | exact (bl_dr (bl_al (bl_al hA _) _)) | exact (bl_al (bl_al (bl_al hA _) _) _) | exact (bl_dr (bl_al (bl_al (bl_al hA _) _) _)) | exact (bl_al (bl_al (bl_al (bl_al hA _) _) _) _) | exact (bl_dr (bl_al (bl_al (bl_al (bl_al hA _) _) _) _)) | exact (bl_al (bl_al (bl_al (bl_al (bl_al hA _) _) _) _) _) | exact (bl_dr (bl_al (bl_al (bl_al (bl_al (bl_al hA _) _) _) _) _)) | exact (bl_al (bl_al (bl_al (bl_al (bl_al (bl_al hA _) _) _) _) _) _) | exact (bl_dr (bl_al (bl_al (bl_al (bl_al (bl_al (bl_al hA _) _) _) _) _) _)) | exact (bl_dr hA)))).mono ?_
  rintro e w1 ⟨g, gc, rfl, hgq, hb⟩
  have hk : Below w.heap.size w w1 := by first | exact hb | exact bl_tr (bl_al (bl0 _) _) hb | exact bl_tr (bl_dr (bl_al (bl0 _) _)) hb | exact bl_tr (bl_al (bl_al (bl0 _) _) _) hb | exact bl_tr (bl_dr (bl_al (bl_al (bl0 _) _) _)) hb | exact bl_tr (bl_al (bl_al (bl_al (bl0 _) _) _) _) hb | exact bl_tr (bl_dr (bl_al (bl_al (bl_al (bl0 _) _) _) _)) hb | exact bl_tr (bl_al (bl_al (bl_al (bl_al (bl0 _) _) _) _) _) hb | exact bl_tr (bl_dr (bl_al (bl_al (bl_al (bl_al (bl0 _) _) _) _) _)) hb | exact bl_tr (bl_al (bl_al (bl_al (bl_al (bl_al (bl0 _) _) _) _) _) _) hb | exact bl_tr (bl_dr (bl_al (bl_al (bl_al (bl_al (bl_al (bl0 _) _) _) _) _) _)) hb | exact bl_tr (bl_al (bl_al (bl_al (bl_al (bl_al (bl_al (bl0 _) _) _) _) _) _) _) hb | exact bl_tr (bl_dr (bl_al (bl_al (bl_al (bl_al (bl_al (bl_al (bl0 _) _) _) _) _) _) _)) hb | exact bl_tr (bl_dr (bl0 _)) hb
  replace hA := bl_tr hA hk
  have f0 := cell_later hb (v := .int .i64 X) (a := ⟨w.heap.size, 0, none⟩) (by simp [go_sem])
  have f1 := cell_later hb (v := .int .i64 Y) (a := ⟨w.heap.size, 1, none⟩) (by simp [go_sem])
  have f2 := cell_later hb (v := .slice a zs.length cap) (a := ⟨w.heap.size, 2, none⟩) (by simp [go_sem])
  have t0 := cell_later hb (v := .slice ca cs.length cc) (a := ⟨w.heap.size + 1 + 1, 0, none⟩) (by simp [go_sem])
  have q0 := cell_later hb (v := .int .i64 p.1) (a := ⟨w.heap.size + 1 + 1 + 1, 0, none⟩) (by simp [go_sem])
  have q1 := cell_later hb (v := .int .i64 p.2) (a := ⟨w.heap.size + 1 + 1 + 1, 1, none⟩) (by simp [go_sem])
  clear hb hk
  have zf0 := blk_lt f0
  have zf1 := blk_lt f1
  have zf2 := blk_lt f2
  have zt0 := blk_lt t0
  have zq0 := blk_lt q0
  have zq1 := blk_lt q1
  have HRH := Lib.hid hr
  have HRC := Lib.hid hcs
  have HSZ := Lib.hid hA.size
  have HA := Lib.hid hA
  rw [HR1.out]
  by_cases hc0 : cs = []
  · subst hc0
    have hBn : Bk = [] := List.eq_nil_of_length_eq_zero HB1.out
    subst hBn
    clear hgq hr hcs hs f0 f1 f2 q0 q1
    go_wp2_with fail
    refine wp_loop_rounds 1 ?_
    rw [rounds_succ]
    go_wp2
    go_ret2
    exact ⟨g, gc, rfl, .inl rfl, HA.out⟩
  · have hgq2 : ∃ b, g = some ⟨b, 0, none⟩ ∧ w.heap.size ≤ b ∧ w.heap.size + 1 + 1 + 1 < b ∧ w1.heap[b]? = some (.cells (cellsU R).toArray 36 (0, 0)) := by
      rcases hgq with h | ⟨b, h1, h2, h3⟩
      · rw [h] at HR1
        exact absurd (List.eq_nil_of_length_eq_zero HR1.out.symm) hc0
      · exact ⟨b, h1, by simp at h2; omega, by simp at h2; omega, h3⟩
    obtain ⟨gb, rfl, hg1, hg2, hrow⟩ := hgq2
    have HK0 := Lib.hid (show w1.heap[gb]? = some (.cells (cellsU (bakK R Bk 0)).toArray 36 (0, 0)) by rw [bakK_zero]; exact hrow)
    have F0 := Lib.hid f0; have F1 := Lib.hid f1; have F2 := Lib.hid f2; have Q0 := Lib.hid q0; have Q1 := Lib.hid q1
    have HG2 := Lib.hid hg2
    clear hgq hc0 hr hcs hs hrow f0 f1 f2 q0 q1 zf0 zf1 zf2 zq0 zq1
    go_wp2_with fail
    clear t0 zt0
    go_loopw [14, 15, 31] (fun _ _ iv wr => ∃ k : Nat, k ≤ cs.length ∧ iv = .int .i64 k ∧ w1.grownBy wr (some gb) ∧ wr.heap[gb]? = some (.cells (cellsU (bakK R Bk k)).toArray 36 (0, 0))) (fun _ _ iv _ => cs.length - (intOf iv).toNat)
    case atStart => exact ⟨0, Nat.zero_le _, rfl, World.grownBy.refl _ _, HK0.out⟩
    case round =>
      obtain ⟨k, hk, rfl, hgr, hrow⟩ := hrel
      have hk0 : (0 : Int) ≤ (k : Int) := by omega
      have hne : ∀ j, j ≤ w.heap.size + 1 + 1 + 1 → some j ≠ some gb := fun j hj e => by have := HG2.out; cases e; omega
      by_cases hlt : k < cs.length
      · have hlt2 : (k : Int) < (cs.length : Int) := by omega
        have hW := (HA.out).grown hgr HSZ.out (fun j hj => by cases hj; exact hg1)
        have f0 := hgr.cell F0.out (hne _ (by simp <;> omega))
        have f1 := hgr.cell F1.out (hne _ (by simp <;> omega))
        have f2 := hgr.cell F2.out (hne _ (by simp <;> omega))
        have q0 := hgr.cell Q0.out (hne _ (by simp <;> omega))
        have q1 := hgr.cell Q1.out (hne _ (by simp <;> omega))
        have zf := blk_lt f0
        have zq := blk_lt q0
        obtain ⟨cb, co, rfl, u0, u1⟩ := (HRC.out.below hW).cell hlt
        have hin := HCI.out _ (List.getElem_mem hlt)
        obtain ⟨eq1, eq2⟩ := HEQ.out k hlt
        have hkB : k < Bk.length := by rw [HB1.out]; exact hlt
        have hat := bakK_at (R := R) HRB.out hkB
        have hkeep := bakK_keep (R := R) HRB.out hkB
        have hset := bakK_set (R := R) HRB.out hkB
        have hkl : k < (bakK R Bk k).length := by rw [bakK_len HRB.out (by omega)]; exact hkB
        obtain ⟨d, hd⟩ : ∃ d, cs[k] = d := ⟨_, rfl⟩
        rw [hd] at u0 u1 hin eq2
        have HCD := Lib.hid (HC.out d hin)
        obtain ⟨kd, hkd⟩ : ∃ kd, zs.getD (numN X d) 0 = kd := ⟨_, rfl⟩
        rw [hkd] at HCD eq2
        obtain ⟨D, hD⟩ : ∃ D, R.getD k 0 = D := ⟨_, rfl⟩
        obtain ⟨E, hE⟩ : ∃ E, Bk.getD k 0 = E := ⟨_, rfl⟩
        rw [hD] at eq1 eq2 hat hkeep
        rw [hE] at eq1 eq2 hkeep hset
        have qf : wr.cell? ⟨gb, k, none⟩ = some (.int .u64 D) := by
          have h1 : (bakK R Bk k)[k] = D := by rw [atD_get hkl]; exact hat
          simp [World.cell?, hrow, cellsU, hkl, h1]
        have zqf := blk_lt qf
        have HROW := Lib.hid hrow
        have HGR := Lib.hid hgr
        have HKP := Lib.hid hkeep
        have HST := Lib.hid hset
        have HRHW := Lib.hid (HRH.out.below hW)
        clear hrow hgr hkeep hset hat hkl hkB hd hin hkd hD hE hW
        by_cases hDi : D = 18446744073709551615
        · have hDb : (D != 18446744073709551615) = false := by rw [hDi]; rfl
          have HK := Lib.hid (HKP.out (by rw [hDi]; exact (eq1 hDi).symm))
          clear hDi eq1 eq2 f0 f1 f2 q0 q1
          go_wp2
          go_roundw
          case rel => exact ⟨k + 1, by omega, by go_num, (HGR.out).trans (gq_below (q := gb) (bl_al (bl0 wr) _)), by rw [← HK.out]; exact ((bl_al (bl0 wr) _).block _ (Array.getElem?_eq_some_iff.1 HROW.out).1).trans HROW.out⟩
          case measure => simp [intOf]; omega
        · have hDb : (D != 18446744073709551615) = true := by rw [bne_iff_ne]; exact hDi
          have HE2 := Lib.hid (eq2 hDi)
          clear hDi eq1 eq2
          go_upto_region 8 with fail
          have hal := bl_al (bl0 wr) (.cells #[.int .i64 d.1, .int .i64 d.2] 30)
          obtain ⟨W1, hW1⟩ : ∃ W1, wr.alloc (.cells #[.int .i64 d.1, .int .i64 d.2] 30) = W1 := ⟨_, rfl⟩
          have d0 : W1.cell? ⟨wr.heap.size, 0, none⟩ = some (.int .i64 d.1) := by rw [← hW1]; simp [go_sem]
          have d1 : W1.cell? ⟨wr.heap.size, 1, none⟩ = some (.int .i64 d.2) := by rw [← hW1]; simp [go_sem]
          rw [hW1] at hal ⊢
          clear hW1
          replace f0 := cell_later hal f0; replace f1 := cell_later hal f1; replace f2 := cell_later hal f2; replace q0 := cell_later hal q0; replace q1 := cell_later hal q1; replace qf := cell_later hal qf
          have HAL := Lib.hid hal
          have zd0 := blk_lt d0
          have zf' := blk_lt f0; have zq' := blk_lt q0; have zqf' := blk_lt qf
          clear hal
          have hD := bl_dr (bl0 W1)
          refine (wpIn_wide (n := 11)).1 ?_
          refine ordZ_begin (z := 13) (S := (fun W9 : World => W9.cell? ⟨w.heap.size, 0, none⟩ = some (.int .i64 X) ∧ W9.cell? ⟨w.heap.size, 1, none⟩ = some (.int .i64 Y) ∧ W9.cell? ⟨w.heap.size, 2, none⟩ = some (.slice a zs.length cap) ∧ W9.cell? ⟨w.heap.size + 1 + 1 + 1, 0, none⟩ = some (.int .i64 p.1) ∧ W9.cell? ⟨w.heap.size + 1 + 1 + 1, 1, none⟩ = some (.int .i64 p.2) ∧ W9.cell? ⟨wr.heap.size, 0, none⟩ = some (.int .i64 d.1) ∧ W9.cell? ⟨wr.heap.size, 1, none⟩ = some (.int .i64 d.2) ∧ W9.cell? ⟨gb, k, none⟩ = some (.int .u64 D))) (by kernel_rfl) ⟨cell_later hD f0, cell_later hD f1, cell_later hD f2, cell_later hD q0, cell_later hD q1, cell_later hD d0, cell_later hD d1, cell_later hD qf⟩ (fun hH => ?_)
          first
            | (refine' ordZ_take (i := 0) (oi := { dst := some 41, op := Op.move (Operand.tmp 12), type := 42, pos := _, after := #[], guard := none }) (v := _) rfl (by kernel_rfl) (by kernel_rfl) (by kernel_rfl) (by kernel_rfl) (fun _ _ _ h => h) (by assumption) (by kernel_rfl) (by decide) (by rfl) (Or.inl ⟨by rfl, ?hy187⟩) (fun _ => rfl) ?rest187
               case hy187 => (intro w hSw; (try dsimp only at hSw); go_simp; try with_reducible rfl))
            | (refine ordZ_take (i := 0) (oi := { dst := some 41, op := Op.move (Operand.tmp 12), type := 42, pos := _, after := #[], guard := none }) (v := undef) rfl (by kernel_rfl) (by kernel_rfl) (by kernel_rfl) (by kernel_rfl) (fun _ _ _ h => h) (by assumption) (by kernel_rfl) (by decide) (by rfl) (Or.inr ⟨by rfl, rfl⟩) (fun _ => rfl) ?_)
          try simp only [Act.put, List.setIfInBounds_toArray, List.set_cons_zero, List.set_cons_succ]
          first
            | (refine' ordZ_take (i := 1) (oi := { dst := some 42, op := Op.move (Operand.tmp 14), type := 3, pos := _, after := #[], guard := none }) (v := _) rfl (by kernel_rfl) (by kernel_rfl) (by kernel_rfl) (by kernel_rfl) (fun _ _ _ h => h) (by assumption) (by kernel_rfl) (by decide) (by rfl) (Or.inl ⟨by rfl, ?hy188⟩) (fun _ => rfl) ?rest188
               case hy188 => (intro w hSw; (try dsimp only at hSw); go_simp; try with_reducible rfl))
            | (refine ordZ_take (i := 1) (oi := { dst := some 42, op := Op.move (Operand.tmp 14), type := 3, pos := _, after := #[], guard := none }) (v := undef) rfl (by kernel_rfl) (by kernel_rfl) (by kernel_rfl) (by kernel_rfl) (fun _ _ _ h => h) (by assumption) (by kernel_rfl) (by decide) (by rfl) (Or.inr ⟨by rfl, rfl⟩) (fun _ => rfl) ?_)
          try simp only [Act.put, List.setIfInBounds_toArray, List.set_cons_zero, List.set_cons_succ]
          first
            | (refine' ordZ_take (i := 2) (oi := { dst := some 43, op := Op.indexAddr 42 (Operand.tmp 41) (Operand.tmp 42), type := 0, pos := _, after := #[{ on := 0, ground := Ground.data }, { on := 1, ground := Ground.data }], guard := none }) (v := _) rfl (by kernel_rfl) (by kernel_rfl) (by kernel_rfl) (by kernel_rfl) (fun _ _ _ h => h) (by assumption) (by kernel_rfl) (by decide) (by rfl) (Or.inl ⟨by rfl, ?hy189⟩) (fun _ => rfl) ?rest189
               case hy189 => (intro w hSw; (try dsimp only at hSw); go_simp; try with_reducible rfl))
            | (refine ordZ_take (i := 2) (oi := { dst := some 43, op := Op.indexAddr 42 (Operand.tmp 41) (Operand.tmp 42), type := 0, pos := _, after := #[{ on := 0, ground := Ground.data }, { on := 1, ground := Ground.data }], guard := none }) (v := undef) rfl (by kernel_rfl) (by kernel_rfl) (by kernel_rfl) (by kernel_rfl) (fun _ _ _ h => h) (by assumption) (by kernel_rfl) (by decide) (by rfl) (Or.inr ⟨by rfl, rfl⟩) (fun _ => rfl) ?_)
          try simp only [Act.put, List.setIfInBounds_toArray, List.set_cons_zero, List.set_cons_succ]
          first
            | (refine' ordZ_take (i := 3) (oi := { dst := some 44, op := Op.load 36 (Operand.tmp 43), type := 36, pos := _, after := #[{ on := 2, ground := Ground.data }], guard := none }) (v := _) rfl (by kernel_rfl) (by kernel_rfl) (by kernel_rfl) (by kernel_rfl) (fun _ _ _ h => h) (by assumption) (by kernel_rfl) (by decide) (by rfl) (Or.inl ⟨by rfl, ?hy190⟩) (fun _ => rfl) ?rest190
               case hy190 => (intro w hSw; (try dsimp only at hSw); go_simp; try with_reducible rfl))
            | (refine ordZ_take (i := 3) (oi := { dst := some 44, op := Op.load 36 (Operand.tmp 43), type := 36, pos := _, after := #[{ on := 2, ground := Ground.data }], guard := none }) (v := undef) rfl (by kernel_rfl) (by kernel_rfl) (by kernel_rfl) (by kernel_rfl) (fun _ _ _ h => h) (by assumption) (by kernel_rfl) (by decide) (by rfl) (Or.inr ⟨by rfl, rfl⟩) (fun _ => rfl) ?_)
          try simp only [Act.put, List.setIfInBounds_toArray, List.set_cons_zero, List.set_cons_succ]
          first
            | (refine' ordZ_take (i := 4) (oi := { dst := some 45, op := Op.load 26 (Operand.tmp 5), type := 26, pos := _, after := #[], guard := none }) (v := _) rfl (by kernel_rfl) (by kernel_rfl) (by kernel_rfl) (by kernel_rfl) (fun _ _ _ h => h) (by assumption) (by kernel_rfl) (by decide) (by rfl) (Or.inl ⟨by rfl, ?hy191⟩) (fun _ => rfl) ?rest191
               case hy191 => (intro w hSw; (try dsimp only at hSw); go_simp; try with_reducible rfl))
            | (refine ordZ_take (i := 4) (oi := { dst := some 45, op := Op.load 26 (Operand.tmp 5), type := 26, pos := _, after := #[], guard := none }) (v := undef) rfl (by kernel_rfl) (by kernel_rfl) (by kernel_rfl) (by kernel_rfl) (fun _ _ _ h => h) (by assumption) (by kernel_rfl) (by decide) (by rfl) (Or.inr ⟨by rfl, rfl⟩) (fun _ => rfl) ?_)
          try simp only [Act.put, List.setIfInBounds_toArray, List.set_cons_zero, List.set_cons_succ]
          first
            | (refine' ordZ_take (i := 5) (oi := { dst := some 46, op := Op.load 30 (Operand.tmp 9), type := 30, pos := _, after := #[], guard := none }) (v := _) rfl (by kernel_rfl) (by kernel_rfl) (by kernel_rfl) (by kernel_rfl) (fun _ _ _ h => h) (by assumption) (by kernel_rfl) (by decide) (by rfl) (Or.inl ⟨by rfl, ?hy192⟩) (fun _ => rfl) ?rest192
               case hy192 => (intro w hSw; (try dsimp only at hSw); go_simp; try with_reducible rfl))
            | (refine ordZ_take (i := 5) (oi := { dst := some 46, op := Op.load 30 (Operand.tmp 9), type := 30, pos := _, after := #[], guard := none }) (v := undef) rfl (by kernel_rfl) (by kernel_rfl) (by kernel_rfl) (by kernel_rfl) (fun _ _ _ h => h) (by assumption) (by kernel_rfl) (by decide) (by rfl) (Or.inr ⟨by rfl, rfl⟩) (fun _ => rfl) ?_)
          try simp only [Act.put, List.setIfInBounds_toArray, List.set_cons_zero, List.set_cons_succ]
          first
            | (refine' ordZ_take (i := 7) (oi := { dst := some 48, op := Op.load 26 (Operand.tmp 5), type := 26, pos := _, after := #[], guard := none }) (v := _) rfl (by kernel_rfl) (by kernel_rfl) (by kernel_rfl) (by kernel_rfl) (fun _ _ _ h => h) (by assumption) (by kernel_rfl) (by decide) (by rfl) (Or.inl ⟨by rfl, ?hy193⟩) (fun _ => rfl) ?rest193
               case hy193 => (intro w hSw; (try dsimp only at hSw); go_simp; try with_reducible rfl))
            | (refine ordZ_take (i := 7) (oi := { dst := some 48, op := Op.load 26 (Operand.tmp 5), type := 26, pos := _, after := #[], guard := none }) (v := undef) rfl (by kernel_rfl) (by kernel_rfl) (by kernel_rfl) (by kernel_rfl) (fun _ _ _ h => h) (by assumption) (by kernel_rfl) (by decide) (by rfl) (Or.inr ⟨by rfl, rfl⟩) (fun _ => rfl) ?_)
          try simp only [Act.put, List.setIfInBounds_toArray, List.set_cons_zero, List.set_cons_succ]
          first
            | (refine' ordZ_take (i := 8) (oi := { dst := some 49, op := Op.load 30 (Operand.tmp 15), type := 30, pos := _, after := #[], guard := none }) (v := _) rfl (by kernel_rfl) (by kernel_rfl) (by kernel_rfl) (by kernel_rfl) (fun _ _ _ h => h) (by assumption) (by kernel_rfl) (by decide) (by rfl) (Or.inl ⟨by rfl, ?hy194⟩) (fun _ => rfl) ?rest194
               case hy194 => (intro w hSw; (try dsimp only at hSw); go_simp; try with_reducible rfl))
            | (refine ordZ_take (i := 8) (oi := { dst := some 49, op := Op.load 30 (Operand.tmp 15), type := 30, pos := _, after := #[], guard := none }) (v := undef) rfl (by kernel_rfl) (by kernel_rfl) (by kernel_rfl) (by kernel_rfl) (fun _ _ _ h => h) (by assumption) (by kernel_rfl) (by decide) (by rfl) (Or.inr ⟨by rfl, rfl⟩) (fun _ => rfl) ?_)
          try simp only [Act.put, List.setIfInBounds_toArray, List.set_cons_zero, List.set_cons_succ]
          refine ordZ_one (i := 6) (o := { dst := some 47, op := Op.call { callee := Callee.value (Operand.func 48), args := #[Operand.tmp 45, Operand.tmp 46], argTypes := #[26, 30] }, type := 36, pos := _, after := #[{ on := 4, ground := Ground.data }, { on := 5, ground := Ground.data }], guard := none }) (by kernel_rfl) rfl (by rfl) (fun K hK => ?_)
          go_simp
          refine ⟨trivial, ?_⟩
          with_reducible refine (callsIn_wide.2 (HCP.out _ ((HRHW.out).below (bl_tr HAL.out hD)))).mono ?_
          rintro e W5 ⟨rfl, hb5⟩
          replace hD := bl_tr hD hb5
          have hS5 : (fun W9 : World => W9.cell? ⟨w.heap.size, 0, none⟩ = some (.int .i64 X) ∧ W9.cell? ⟨w.heap.size, 1, none⟩ = some (.int .i64 Y) ∧ W9.cell? ⟨w.heap.size, 2, none⟩ = some (.slice a zs.length cap) ∧ W9.cell? ⟨w.heap.size + 1 + 1 + 1, 0, none⟩ = some (.int .i64 p.1) ∧ W9.cell? ⟨w.heap.size + 1 + 1 + 1, 1, none⟩ = some (.int .i64 p.2) ∧ W9.cell? ⟨wr.heap.size, 0, none⟩ = some (.int .i64 d.1) ∧ W9.cell? ⟨wr.heap.size, 1, none⟩ = some (.int .i64 d.2) ∧ W9.cell? ⟨gb, k, none⟩ = some (.int .u64 D)) W5 := ⟨cell_later hD f0, cell_later hD f1, cell_later hD f2, cell_later hD q0, cell_later hD q1, cell_later hD d0, cell_later hD d1, cell_later hD qf⟩
          refine hK _ _ (fun _ => hS5) ?_
          clear hK K
          try simp only [Act.put, List.setIfInBounds_toArray, List.set_cons_zero, List.set_cons_succ]
          refine ordZ_one (i := 9) (o := { dst := some 50, op := Op.call { callee := Callee.value (Operand.func 48), args := #[Operand.tmp 48, Operand.tmp 49], argTypes := #[26, 30] }, type := 36, pos := _, after := #[{ on := 7, ground := Ground.data }, { on := 8, ground := Ground.data }, { on := 6, ground := Ground.chain }], guard := none }) (by kernel_rfl) rfl (by rfl) (fun K hK => ?_)
          go_simp
          refine ⟨trivial, ?_⟩
          with_reducible refine (callsIn_wide.2 (HCD.out _ ((HRHW.out).below (bl_tr HAL.out hD)))).mono ?_
          rintro e W6 ⟨rfl, hb6⟩
          replace hD := bl_tr hD hb6
          have hS6 : (fun W9 : World => W9.cell? ⟨w.heap.size, 0, none⟩ = some (.int .i64 X) ∧ W9.cell? ⟨w.heap.size, 1, none⟩ = some (.int .i64 Y) ∧ W9.cell? ⟨w.heap.size, 2, none⟩ = some (.slice a zs.length cap) ∧ W9.cell? ⟨w.heap.size + 1 + 1 + 1, 0, none⟩ = some (.int .i64 p.1) ∧ W9.cell? ⟨w.heap.size + 1 + 1 + 1, 1, none⟩ = some (.int .i64 p.2) ∧ W9.cell? ⟨wr.heap.size, 0, none⟩ = some (.int .i64 d.1) ∧ W9.cell? ⟨wr.heap.size, 1, none⟩ = some (.int .i64 d.2) ∧ W9.cell? ⟨gb, k, none⟩ = some (.int .u64 D)) W6 := ⟨cell_later hD f0, cell_later hD f1, cell_later hD f2, cell_later hD q0, cell_later hD q1, cell_later hD d0, cell_later hD d1, cell_later hD qf⟩
          refine hK _ _ (fun _ => hS6) ?_
          clear hK K
          try simp only [Act.put, List.setIfInBounds_toArray, List.set_cons_zero, List.set_cons_succ]
          first
            | (refine' ordZ_take (i := 10) (oi := { dst := some 51, op := Op.binOp BinOp.sub 36 (Operand.tmp 47) (Operand.tmp 50) 36, type := 36, pos := _, after := #[{ on := 6, ground := Ground.data }, { on := 9, ground := Ground.data }], guard := none }) (v := _) rfl (by kernel_rfl) (by kernel_rfl) (by kernel_rfl) (by kernel_rfl) (fun _ _ _ h => h) (by assumption) (by kernel_rfl) (by decide) (by rfl) (Or.inl ⟨by rfl, ?hy195⟩) (fun _ => rfl) ?rest195
               case hy195 => (intro w hSw; (try dsimp only at hSw); go_simp; try with_reducible rfl))
            | (refine ordZ_take (i := 10) (oi := { dst := some 51, op := Op.binOp BinOp.sub 36 (Operand.tmp 47) (Operand.tmp 50) 36, type := 36, pos := _, after := #[{ on := 6, ground := Ground.data }, { on := 9, ground := Ground.data }], guard := none }) (v := undef) rfl (by kernel_rfl) (by kernel_rfl) (by kernel_rfl) (by kernel_rfl) (fun _ _ _ h => h) (by assumption) (by kernel_rfl) (by decide) (by rfl) (Or.inr ⟨by rfl, rfl⟩) (fun _ => rfl) ?_)
          try simp only [Act.put, List.setIfInBounds_toArray, List.set_cons_zero, List.set_cons_succ]
          first
            | (refine' ordZ_take (i := 11) (oi := { dst := some 52, op := Op.binOp BinOp.add 36 (Operand.tmp 44) (Operand.tmp 51) 36, type := 36, pos := _, after := #[{ on := 3, ground := Ground.data }, { on := 10, ground := Ground.data }], guard := none }) (v := _) rfl (by kernel_rfl) (by kernel_rfl) (by kernel_rfl) (by kernel_rfl) (fun _ _ _ h => h) (by assumption) (by kernel_rfl) (by decide) (by rfl) (Or.inl ⟨by rfl, ?hy196⟩) (fun _ => rfl) ?rest196
               case hy196 => (intro w hSw; (try dsimp only at hSw); go_simp; try with_reducible rfl))
            | (refine ordZ_take (i := 11) (oi := { dst := some 52, op := Op.binOp BinOp.add 36 (Operand.tmp 44) (Operand.tmp 51) 36, type := 36, pos := _, after := #[{ on := 3, ground := Ground.data }, { on := 10, ground := Ground.data }], guard := none }) (v := undef) rfl (by kernel_rfl) (by kernel_rfl) (by kernel_rfl) (by kernel_rfl) (fun _ _ _ h => h) (by assumption) (by kernel_rfl) (by decide) (by rfl) (Or.inr ⟨by rfl, rfl⟩) (fun _ => rfl) ?_)
          try simp only [Act.put, List.setIfInBounds_toArray, List.set_cons_zero, List.set_cons_succ]
          first
            | (refine' ordZ_take (i := 12) (oi := { dst := some 53, op := Op.indexAddr 42 (Operand.tmp 41) (Operand.tmp 42), type := 0, pos := _, after := #[{ on := 0, ground := Ground.data }, { on := 1, ground := Ground.data }, { on := 0, ground := Ground.phase }, { on := 1, ground := Ground.phase }, { on := 2, ground := Ground.phase }, { on := 3, ground := Ground.phase }, { on := 4, ground := Ground.phase }, { on := 5, ground := Ground.phase }, { on := 6, ground := Ground.phase }, { on := 7, ground := Ground.phase }, { on := 8, ground := Ground.phase }, { on := 9, ground := Ground.phase }, { on := 10, ground := Ground.phase }, { on := 11, ground := Ground.phase }], guard := none }) (v := _) rfl (by kernel_rfl) (by kernel_rfl) (by kernel_rfl) (by kernel_rfl) (fun _ _ _ h => h) (by assumption) (by kernel_rfl) (by decide) (by rfl) (Or.inl ⟨by rfl, ?hy197⟩) (fun _ => rfl) ?rest197
               case hy197 => (intro w hSw; (try dsimp only at hSw); go_simp; try with_reducible rfl))
            | (refine ordZ_take (i := 12) (oi := { dst := some 53, op := Op.indexAddr 42 (Operand.tmp 41) (Operand.tmp 42), type := 0, pos := _, after := #[{ on := 0, ground := Ground.data }, { on := 1, ground := Ground.data }, { on := 0, ground := Ground.phase }, { on := 1, ground := Ground.phase }, { on := 2, ground := Ground.phase }, { on := 3, ground := Ground.phase }, { on := 4, ground := Ground.phase }, { on := 5, ground := Ground.phase }, { on := 6, ground := Ground.phase }, { on := 7, ground := Ground.phase }, { on := 8, ground := Ground.phase }, { on := 9, ground := Ground.phase }, { on := 10, ground := Ground.phase }, { on := 11, ground := Ground.phase }], guard := none }) (v := undef) rfl (by kernel_rfl) (by kernel_rfl) (by kernel_rfl) (by kernel_rfl) (fun _ _ _ h => h) (by assumption) (by kernel_rfl) (by decide) (by rfl) (Or.inr ⟨by rfl, rfl⟩) (fun _ => rfl) ?_)
          try simp only [Act.put, List.setIfInBounds_toArray, List.set_cons_zero, List.set_cons_succ]
          have HDD := Lib.hid (bl_tr HAL.out hD)
          have hrow6 := ((HDD.out).block _ (Array.getElem?_eq_some_iff.1 HROW.out).1).trans HROW.out
          have t0 := hS6.2.2.2.2.2.2.2
          have t1 : W6.frozen? ⟨gb, k, none⟩ = false := by simp [World.frozen?, hrow6]
          have zt := blk_lt t0
          refine ordZ_one (i := 13) (o := { dst := none, op := Op.store 36 (Operand.tmp 53) (Operand.tmp 52), type := 0, pos := _, after := #[{ on := 12, ground := Ground.data }, { on := 11, ground := Ground.data }, { on := 9, ground := Ground.chain }, { on := 0, ground := Ground.phase }, { on := 1, ground := Ground.phase }, { on := 2, ground := Ground.phase }, { on := 3, ground := Ground.phase }, { on := 4, ground := Ground.phase }, { on := 5, ground := Ground.phase }, { on := 6, ground := Ground.phase }, { on := 7, ground := Ground.phase }, { on := 8, ground := Ground.phase }, { on := 9, ground := Ground.phase }, { on := 10, ground := Ground.phase }, { on := 11, ground := Ground.phase }], guard := none }) (by kernel_rfl) rfl (by rfl) (fun K hK => ?_)
          go_simp
          refine hK _ _ (fun h => by cases h) ?_
          clear hK K hH
          try simp only [Act.put, List.setIfInBounds_toArray, List.set_cons_zero, List.set_cons_succ]
          refine ordZ_done (by kernel_rfl) ?_
          rw [HE2.out]
          have hst := hset_same W6 gb k _ _ (.int .u64 E) hrow6
          have HST2 := Lib.hid (show (W6.setCell ⟨gb, k, none⟩ (.int .u64 E)).heap[gb]? = some (.cells (cellsU (bakK R Bk (k + 1))).toArray 36 (0, 0)) by rw [hst, ← HST.out, ← cellsU_set]; simp)
          have HG9 := Lib.hid (((HGR.out).trans (gq_below (q := gb) HDD.out)).trans (hgrown_set W6 gb k (.int .u64 E)))
          clear hst hrow6 t0 t1 zt hS5 hS6 hD f0 f1 f2 q0 q1 qf d0 d1 zd0 zf zf' zq zq' zqf zqf'
          go_wp2
          go_roundw
          case rel => exact ⟨k + 1, by omega, by go_num, HG9.out, HST2.out⟩
          case measure => simp [intOf]; omega
      · obtain rfl : k = cs.length := by omega
        have hge : ¬ (cs.length : Int) < (cs.length : Int) := by omega
        have hall : bakK R Bk cs.length = Bk := by rw [← HB1.out]; exact bakK_all HRB.out
        rw [hall] at hrow
        have HR9 := Lib.hid hrow
        have HA9 := Lib.hid ((HA.out).grown hgr HSZ.out (fun j hj => by cases hj; exact hg1))
        clear hgr hrow hall
        go_wp2
        go_ret2
        exact ⟨some ⟨gb, 0, none⟩, gc, by rw [HB1.out]; rfl, .inr ⟨gb, rfl, hg1, HR9.out⟩, HA9.out⟩
end Go.Proofs.YtgbhafadibdmcaaDoor
