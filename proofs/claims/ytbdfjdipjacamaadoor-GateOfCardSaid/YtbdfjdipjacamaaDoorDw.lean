/- Parts: two cells beside one another of two clusters: the mathematics. -/
import Derived.Test.YtbdfjdipjacamaaDoorDv
namespace Go.Proofs.YtbdfjdipjacamaaDoor
open Go.RowKit

/-- A step out of a cluster is a step to the cluster beside it. -/
theorem cross {W H S : Int} {c : IC} {d : Int} (hr : rightP W H S = true) (hd : d = 1 ∨ d = 2) (hc : onB W H c = true) (hn : onB W H (stepI c d) = true)
    (hne : ((stepI c d).1 / S, (stepI c d).2 / S) ≠ (c.1 / S, c.2 / S)) :
    ((stepI c d).1 / S, (stepI c d).2 / S) = stepI (c.1 / S, c.2 / S) d ∧ toP W H S (c.1 / S, c.2 / S) d = true ∧
      (if d = 1 then c.1 + 1 = bxX S (c.1 / S, c.2 / S) + bxW W S (c.1 / S, c.2 / S) else c.2 + 1 = bxY S (c.1 / S, c.2 / S) + bxH H S (c.1 / S, c.2 / S)) := by
  obtain ⟨k1, k2, k3, k4⟩ := cell_plc hr hc
  obtain ⟨x, y⟩ := c
  obtain rfl | rfl := hd
  · rw [stepI_1] at hn hne ⊢
    have h := (east_of (p := (x / S, y / S)) (q := ((x + 1) / S, y / S)) hr k1 k2 k3 k4 hc rfl hne).1 ⟨hn, rfl⟩
    obtain ⟨e1, e2, e3⟩ := h
    refine ⟨by rw [stepI_1]; exact e3, ?_, by rw [if_pos rfl]; exact e1⟩
    rw [toP_iff hr, stepI_1]
    exact ⟨by show 0 ≤ x / S + 1; simp only at k1; omega, e2, k3, k4⟩
  · rw [stepI_2] at hn hne ⊢
    have h := (south_of (p := (x / S, y / S)) (q := (x / S, (y + 1) / S)) hr k3 k4 hc rfl hne).1 ⟨hn, rfl⟩
    obtain ⟨e1, e2, e3⟩ := h
    refine ⟨by rw [stepI_2]; exact e3, ?_, by rw [if_neg (by decide)]; exact e1⟩
    rw [toP_iff hr, stepI_2]
    exact ⟨k1, k2, by show 0 ≤ y / S + 1; simp only at k3; omega, e2⟩
theorem prsP_len (W H S : Int) (p : IC) (d : Int) : (prsP W H S p d).length = prsN W H S p d := by simp [prsP]
theorem prsP_at {W H S : Int} {p : IC} {d : Int} {k : Nat} (h : k < (prsP W H S p d).length) : (prsP W H S p d)[k] = prsF W H S p d k := by simp [prsP]
/-- Of which clusters the pairs of a border are. -/
theorem prs_of {W H S : Int} {p : IC} {d : Int} {k : Nat} (hr : rightP W H S = true) (h1 : 0 ≤ p.1) (h2 : p.1 < lieN W S) (h3 : 0 ≤ p.2) (h4 : p.2 < lieN H S) (hd : d = 1 ∨ d = 2) (ht : toP W H S p d = true) (hk : k < prsN W H S p d) :
    ofP W S (prsF W H S p d k).1 = numP W S p ∧ ofP W S (prsF W H S p d k).2 = numP W S (stepI p d) := by
  obtain ⟨o1, o2⟩ := prs_on hr h1 h2 h3 h4 hd ht hk
  obtain ⟨⟨t1, t2, t3, t4⟩, ⟨t5, t6, t7, t8⟩, t9, t10⟩ := bx_bd hr h1 h2 h3 h4
  have ht2 := (toP_iff hr).1 ht
  unfold prsN at hk
  obtain rfl | rfl := hd
  · rw [if_pos rfl] at hk
    rw [stepI_1] at ht2 o2 ⊢
    have e : prsF W H S p 1 k = ((bxX S p + bxW W S p - 1, bxY S p + (k : Int)), stepI (bxX S p + bxW W S p - 1, bxY S p + (k : Int)) 1) := rfl
    rw [e] at o1 o2 ⊢
    have hin := (box_has (c := (bxX S p + bxW W S p - 1, bxY S p + (k : Int))) hr h1 h2 h3 h4).1 ⟨by show bxX S p ≤ bxX S p + bxW W S p - 1; omega, by show bxX S p + bxW W S p - 1 < _; omega, by show bxY S p ≤ bxY S p + (k : Int); omega, by show bxY S p + (k : Int) < _; omega⟩
    have hx := (east_of (p := p) (q := (p.1 + 1, p.2)) (x := bxX S p + bxW W S p - 1) (y := bxY S p + (k : Int)) hr h1 h2 h3 h4 hin.1 hin.2 (fun h => by have := (Prod.ext_iff.1 h).1; simp only at this; omega)).2 ⟨by omega, ht2.2.1, rfl⟩
    refine ⟨?_, ?_⟩
    · show numP W S ((bxX S p + bxW W S p - 1) / S, (bxY S p + (k : Int)) / S) = _
      rw [hin.2]
    · rw [stepI_1]
      show numP W S ((bxX S p + bxW W S p - 1 + 1) / S, (bxY S p + (k : Int)) / S) = _
      rw [hx.2]
  · rw [if_neg (by decide)] at hk
    rw [stepI_2] at ht2 o2 ⊢
    have e : prsF W H S p 2 k = ((bxX S p + (k : Int), bxY S p + bxH H S p - 1), stepI (bxX S p + (k : Int), bxY S p + bxH H S p - 1) 2) := rfl
    rw [e] at o1 o2 ⊢
    have hin := (box_has (c := (bxX S p + (k : Int), bxY S p + bxH H S p - 1)) hr h1 h2 h3 h4).1 ⟨by show bxX S p ≤ bxX S p + (k : Int); omega, by show bxX S p + (k : Int) < _; omega, by show bxY S p ≤ bxY S p + bxH H S p - 1; omega, by show bxY S p + bxH H S p - 1 < _; omega⟩
    have hx := (south_of (p := p) (q := (p.1, p.2 + 1)) (x := bxX S p + (k : Int)) (y := bxY S p + bxH H S p - 1) hr h3 h4 hin.1 hin.2 (fun h => by have := (Prod.ext_iff.1 h).2; simp only at this; omega)).2 ⟨by omega, ht2.2.2.2, rfl⟩
    refine ⟨?_, ?_⟩
    · show numP W S ((bxX S p + (k : Int)) / S, (bxY S p + bxH H S p - 1) / S) = _
      rw [hin.2]
    · rw [stepI_2]
      show numP W S ((bxX S p + (k : Int)) / S, (bxY S p + bxH H S p - 1 + 1) / S) = _
      rw [hx.2]
/-- A cell at a border stands in it once. -/
theorem prs_once {W H S : Int} {c : IC} {d : Int} (hr : rightP W H S = true) (hd : d = 1 ∨ d = 2) (hc : onB W H c = true)
    (he : if d = 1 then c.1 + 1 = bxX S (c.1 / S, c.2 / S) + bxW W S (c.1 / S, c.2 / S) else c.2 + 1 = bxY S (c.1 / S, c.2 / S) + bxH H S (c.1 / S, c.2 / S)) :
    ∃ k0, k0 < prsN W H S (c.1 / S, c.2 / S) d ∧ ∀ k, prsF W H S (c.1 / S, c.2 / S) d k = (c, stepI c d) ↔ k = k0 := by
  obtain ⟨k1, k2, k3, k4⟩ := cell_plc hr hc
  have hin := (box_has (p := (c.1 / S, c.2 / S)) (c := c) hr k1 k2 k3 k4).2 ⟨hc, rfl⟩
  obtain ⟨p, hp⟩ : ∃ p : IC, (c.1 / S, c.2 / S) = p := ⟨_, rfl⟩
  rw [hp] at hin he ⊢
  obtain ⟨⟨t1, t2, t3, t4⟩, ⟨t5, t6, t7, t8⟩, t9, t10⟩ := bx_bd (p := p) hr (by rw [← hp]; exact k1) (by rw [← hp]; exact k2) (by rw [← hp]; exact k3) (by rw [← hp]; exact k4)
  obtain ⟨x, y⟩ := c
  simp only at hin he
  obtain rfl | rfl := hd
  · rw [if_pos rfl] at he
    refine ⟨(y - bxY S p).toNat, by unfold prsN; rw [if_pos rfl]; omega, fun k => ?_⟩
    have e : prsF W H S p 1 k = ((bxX S p + bxW W S p - 1, bxY S p + (k : Int)), stepI (bxX S p + bxW W S p - 1, bxY S p + (k : Int)) 1) := rfl
    rw [e]
    constructor
    · intro h
      have h1 := (Prod.ext_iff.1 (Prod.ext_iff.1 h).1).2
      simp only at h1
      omega
    · intro h
      have h1 : (bxX S p + bxW W S p - 1, bxY S p + (k : Int)) = (x, y) := Prod.ext (by show bxX S p + bxW W S p - 1 = x; omega) (by show bxY S p + (k : Int) = y; omega)
      rw [h1]
  · rw [if_neg (by decide)] at he
    refine ⟨(x - bxX S p).toNat, by unfold prsN; rw [if_neg (by decide)]; omega, fun k => ?_⟩
    have e : prsF W H S p 2 k = ((bxX S p + (k : Int), bxY S p + bxH H S p - 1), stepI (bxX S p + (k : Int), bxY S p + bxH H S p - 1) 2) := rfl
    rw [e]
    constructor
    · intro h
      have h1 := (Prod.ext_iff.1 (Prod.ext_iff.1 h).1).1
      simp only at h1
      omega
    · intro h
      have h1 : (bxX S p + (k : Int), bxY S p + bxH H S p - 1) = (x, y) := Prod.ext (by show bxX S p + (k : Int) = x; omega) (by show bxY S p + bxH H S p - 1 = y; omega)
      rw [h1]
theorem prs_rise (W H S : Int) (p : IC) (d : Int) (hd : d = 1 ∨ d = 2) (k : Nat) :
    ¬ (prsF W H S p d (k + 1)).1.2 < (prsF W H S p d k).1.2 ∧ ((prsF W H S p d (k + 1)).1.2 = (prsF W H S p d k).1.2 → ¬ (prsF W H S p d (k + 1)).1.1 ≤ (prsF W H S p d k).1.1) := by
  obtain rfl | rfl := hd
  · have e : ∀ j : Nat, (prsF W H S p 1 j).1 = (bxX S p + bxW W S p - 1, bxY S p + (j : Int)) := fun j => rfl
    rw [e, e]
    simp only
    omega
  · have e : ∀ j : Nat, (prsF W H S p 2 j).1 = (bxX S p + (j : Int), bxY S p + bxH H S p - 1) := fun j => rfl
    rw [e, e]
    simp only
    omega
theorem stepI_inj {p : IC} {d e : Int} (hd : 0 ≤ d ∧ d < 4) (he : 0 ≤ e ∧ e < 4) (h : stepI p d = stepI p e) : d = e := by
  obtain ⟨x, y⟩ := p
  obtain ⟨h1, h2⟩ := Prod.ext_iff.1 h
  unfold stepI dxI dyI at h1 h2
  simp only at h1 h2
  have : d = 0 ∨ d = 1 ∨ d = 2 ∨ d = 3 := by omega
  have : e = 0 ∨ e = 1 ∨ e = 2 ∨ e = 3 := by omega
  rcases ‹d = 0 ∨ _› with rfl | rfl | rfl | rfl <;> rcases ‹e = 0 ∨ _› with rfl | rfl | rfl | rfl <;> simp at h1 h2 ⊢ <;> omega
/-- Whoever lies beside a cluster is told once. -/
theorem bes_once {W H S a b : Int} {d : Nat} (hr : rightP W H S = true) (a0 : 0 ≤ a) (a1 : a < lieN W S * lieN H S) (hd : d < 4) (ht : toP W H S (plcP W S a) d = true) (hb : numP W S (stepI (plcP W S a) d) = b) :
    ∀ n : Nat, n ≤ 4 → (besP W H S a n).count b = if d < n then 1 else 0
  | 0, _ => by simp [besP]
  | n + 1, hn => by
    have ih := bes_once hr a0 a1 hd ht hb n (by omega)
    obtain ⟨p1, p2, p3, p4, _⟩ := plc_in hr a0 a1
    rw [besP, List.count_append, ih]
    by_cases e : d = n
    · subst e
      rw [if_pos ht, hb]
      simp
    · have hz : (if toP W H S (plcP W S a) n = true then [numP W S (stepI (plcP W S a) n)] else []).count b = 0 := by
        by_cases htn : toP W H S (plcP W S a) n = true
        · rw [if_pos htn]
          have hne : numP W S (stepI (plcP W S a) n) ≠ b := fun h => by
            have t1 := (toP_iff hr).1 ht
            have t2 := (toP_iff hr).1 htn
            have := numP_inj t2.1 t2.2.1 t1.1 t1.2.1 (h.trans hb.symm)
            have := stepI_inj ⟨by omega, by omega⟩ ⟨by omega, by omega⟩ this
            omega
          rw [List.count_singleton]
          simp [hne]
        · rw [if_neg htn]; rfl
      rw [hz]
      by_cases h2 : d < n
      · rw [if_pos h2, if_pos (by omega)]
      · rw [if_neg h2, if_neg (by omega)]
/-- All that is told of a pair across a border. -/
def Sides (W H S : Int) (a b : Int) (pr : IC × IC) (N : Nat) (F : Nat → IC × IC) (k0 : Nat) (dd f g : Int) : Prop :=
  ((N ≤ 16 ∧ k0 < N) ∧ (dd = 1 ∨ dd = 2) ∧ f < g ∧ f + g = a + b) ∧
  ((brdX W H S a b = 0 ∧ brdP W H S a b = (List.range N).map F) ∧ brdX W H S b a = 0 ∧ brdP W H S b a = (List.range N).map F) ∧
  ((besL W H S a).count b = 1 ∧ (besL W H S b).count a = 1) ∧
  (∀ k, F k = pr ↔ k = k0) ∧
  (∀ k, k < N → (onB W H (F k).1 = true ∧ onB W H (F k).2 = true) ∧ ofP W S (F k).1 = f ∧ ofP W S (F k).2 = g ∧ stepI (F k).1 dd = (F k).2) ∧
  (∀ k, ¬ (F (k + 1)).1.2 < (F k).1.2 ∧ ((F (k + 1)).1.2 = (F k).1.2 → ¬ (F (k + 1)).1.1 ≤ (F k).1.1))
theorem Sides.swap {W H S a b : Int} {pr : IC × IC} {N : Nat} {F : Nat → IC × IC} {k0 : Nat} {dd f g : Int} (h : Sides W H S a b pr N F k0 dd f g) : Sides W H S b a pr N F k0 dd f g := by
  obtain ⟨⟨h1, h2, h3, h4⟩, ⟨⟨h5, h6⟩, h7, h8⟩, ⟨h9, h10⟩, h11, h12, h13⟩ := h
  exact ⟨⟨h1, h2, h3, by omega⟩, ⟨⟨h7, h8⟩, h5, h6⟩, ⟨h10, h9⟩, h11, h12, h13⟩
theorem sides_core {W H S : Int} {c : IC} {d : Int} (hr : rightP W H S = true) (hd : d = 1 ∨ d = 2) (hc : onB W H c = true) (hn : onB W H (stepI c d) = true) (hne : ofP W S c ≠ ofP W S (stepI c d)) :
    ∃ N F k0 dd f g, Sides W H S (ofP W S c) (ofP W S (stepI c d)) (c, stepI c d) N F k0 dd f g := by
  obtain ⟨k1, k2, k3, k4⟩ := cell_plc hr hc
  obtain ⟨m1, m2, m3, m4⟩ := cell_plc hr hn
  obtain ⟨o1, o2⟩ := of_bd hr hc
  obtain ⟨r1, r2⟩ := of_bd hr hn
  have hpne : ((stepI c d).1 / S, (stepI c d).2 / S) ≠ (c.1 / S, c.2 / S) := fun h => hne (show numP W S (c.1 / S, c.2 / S) = numP W S ((stepI c d).1 / S, (stepI c d).2 / S) by rw [h])
  obtain ⟨x1, x2, x3⟩ := cross hr hd hc hn hpne
  obtain ⟨k0, hk0, hk⟩ := prs_once hr hd hc x3
  have pc := plc_cell hr hc
  have pn := plc_cell hr hn
  have hff : ofP W S c = numP W S (c.1 / S, c.2 / S) := rfl
  have hgg : ofP W S (stepI c d) = numP W S (stepI (c.1 / S, c.2 / S) d) := by rw [← x1]; rfl
  obtain ⟨p, hp⟩ : ∃ p : IC, (c.1 / S, c.2 / S) = p := ⟨_, rfl⟩
  rw [hp] at x1 x2 x3 hk0 hk pc hff hgg
  rw [x1] at pn
  have p1 : 0 ≤ p.1 := by rw [← hp]; exact k1
  have p2 : p.1 < lieN W S := by rw [← hp]; exact k2
  have p3 : 0 ≤ p.2 := by rw [← hp]; exact k3
  have p4 : p.2 < lieN H S := by rw [← hp]; exact k4
  have hlt : ofP W S c < ofP W S (stepI c d) := by
    rw [hff, hgg]
    unfold numP
    obtain rfl | rfl := hd
    · rw [stepI_1]; simp only; omega
    · rw [stepI_2]; simp only; rw [Int.add_mul, Int.one_mul]; omega
  obtain ⟨f, hf⟩ : ∃ f, ofP W S c = f := ⟨_, rfl⟩
  obtain ⟨g, hg⟩ : ∃ g, ofP W S (stepI c d) = g := ⟨_, rfl⟩
  rw [hf] at hlt o1 o2 pc hff ⊢
  rw [hg] at hlt r1 r2 pn hgg ⊢
  have hs : sideP W H S f g = d := by
    rw [side_eq hr o1 o2 r1 r2, pc, pn]
    obtain rfl | rfl := hd
    · rw [stepI_1, if_pos rfl]
    · rw [stepI_2, if_neg (fun h => by have := (Prod.ext_iff.1 h).1; simp only at this; omega), if_pos rfl]
  have xf : plcX W H S f = 0 := plcX_yes.2 ⟨hr, o1, o2⟩
  have xg : plcX W H S g = 0 := plcX_yes.2 ⟨hr, r1, r2⟩
  have hbx : ∀ u v : Int, min u v = f → max u v = g → brdX W H S u v = 0 ∧ brdP W H S u v = prsP W H S p d := fun u v h1 h2 => by
    have hx : brdX W H S u v = 0 := by
      unfold brdX
      rw [h1, h2, if_neg (fun h => h xf), if_neg (fun h => h xg), hs, if_neg (by omega)]
    exact ⟨hx, by unfold brdP; rw [if_pos hx, h1, h2, hs, pc]⟩
  have b1 := hbx f g (by omega) (by omega)
  have b2 := hbx g f (by omega) (by omega)
  have hbf : besL W H S f = besP W H S f 4 := by unfold besL; rw [if_pos xf]
  have hbg : besL W H S g = besP W H S g 4 := by unfold besL; rw [if_pos xg]
  have c1 : (besL W H S f).count g = 1 := by
    rw [hbf]
    obtain rfl | rfl := hd
    · have := bes_once (b := g) (d := 1) hr o1 o2 (by omega) (by rw [pc]; exact x2) (by rw [pc]; exact hgg.symm) 4 (by omega)
      rw [this, if_pos (by omega)]
    · have := bes_once (b := g) (d := 2) hr o1 o2 (by omega) (by rw [pc]; exact x2) (by rw [pc]; exact hgg.symm) 4 (by omega)
      rw [this, if_pos (by omega)]
  have c2 : (besL W H S g).count f = 1 := by
    rw [hbg]
    obtain rfl | rfl := hd
    · have e : stepI (stepI p 1) ((3 : Nat) : Int) = p := by
        rw [show (((3 : Nat)) : Int) = 3 from rfl, stepI_3, stepI_1]
        exact Prod.ext (by show p.1 + 1 - 1 = p.1; omega) rfl
      have := bes_once (b := f) (d := 3) hr r1 r2 (by omega) (by rw [pn, toP_iff hr, e]; exact ⟨p1, p2, p3, p4⟩) (by rw [pn, e]; exact hff.symm) 4 (by omega)
      rw [this, if_pos (by omega)]
    · have e : stepI (stepI p 2) ((0 : Nat) : Int) = p := by
        rw [show (((0 : Nat)) : Int) = 0 from rfl, stepI_0, stepI_2]
        exact Prod.ext rfl (by show p.2 + 1 - 1 = p.2; omega)
      have := bes_once (b := f) (d := 0) hr r1 r2 (by omega) (by rw [pn, toP_iff hr, e]; exact ⟨p1, p2, p3, p4⟩) (by rw [pn, e]; exact hff.symm) 4 (by omega)
      rw [this, if_pos (by omega)]
  obtain ⟨_, ⟨t5, t6, t7, t8⟩, _, _⟩ := bx_bd hr p1 p2 p3 p4
  have hN : prsN W H S p d ≤ 16 := by unfold prsN; split <;> omega
  refine ⟨prsN W H S p d, prsF W H S p d, k0, d, f, g, ⟨⟨hN, hk0⟩, hd, hlt, rfl⟩, ⟨b1, b2⟩, ⟨c1, c2⟩, hk, fun k hkk => ?_, prs_rise W H S p d hd⟩
  obtain ⟨u1, u2⟩ := prs_on hr p1 p2 p3 p4 hd x2 hkk
  obtain ⟨v1, v2⟩ := prs_of hr p1 p2 p3 p4 hd x2 hkk
  exact ⟨⟨u1, u2⟩, v1.trans hff.symm, v2.trans hgg.symm, rfl⟩
theorem sides_of {W H S : Int} {c : IC} {d : Int} (hr : rightP W H S = true) (d0 : 0 ≤ d) (d4 : d < 4) (hc : onB W H c = true) (hn : onB W H (stepI c d) = true) (hne : ofP W S c ≠ ofP W S (stepI c d)) :
    ∃ N F k0 dd f g, Sides W H S (ofP W S c) (ofP W S (stepI c d)) (if d = 0 ∨ d = 3 then (stepI c d, c) else (c, stepI c d)) N F k0 dd f g := by
  obtain rfl | rfl | rfl | rfl : d = 0 ∨ d = 1 ∨ d = 2 ∨ d = 3 := by omega
  · have e : stepI (stepI c 0) 2 = c := by rw [stepI_2, stepI_0]; exact Prod.ext rfl (by show c.2 - 1 + 1 = c.2; omega)
    obtain ⟨N, F, k0, dd, f, g, h⟩ := sides_core (c := stepI c 0) hr (.inr rfl) hn (by rw [e]; exact hc) (by rw [e]; exact hne.symm)
    rw [e] at h
    rw [if_pos (.inl rfl)]
    exact ⟨N, F, k0, dd, f, g, h.swap⟩
  · rw [if_neg (by decide)]
    exact sides_core hr (.inl rfl) hc hn hne
  · rw [if_neg (by decide)]
    exact sides_core hr (.inr rfl) hc hn hne
  · have e : stepI (stepI c 3) 1 = c := by rw [stepI_1, stepI_3]; exact Prod.ext (by show c.1 - 1 + 1 = c.1; omega) rfl
    obtain ⟨N, F, k0, dd, f, g, h⟩ := sides_core (c := stepI c 3) hr (.inl rfl) hn (by rw [e]; exact hc) (by rw [e]; exact hne.symm)
    rw [e] at h
    rw [if_pos (.inr rfl)]
    exact ⟨N, F, k0, dd, f, g, h.swap⟩
theorem count_take {xs : List Int} {k : Nat} {x : Int} (hk : k < xs.length) : (xs.take (k + 1)).count x = (xs.take k).count x + (if xs[k] = x then 1 else 0) := by
  rw [List.take_succ_eq_append_getElem hk, List.count_append, List.count_singleton]
  by_cases h : xs[k] = x <;> simp [h]
end Go.Proofs.YtbdfjdipjacamaaDoor
