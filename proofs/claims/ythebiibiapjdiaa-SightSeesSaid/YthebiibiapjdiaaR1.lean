/- Texts joined: Sn. -/
import Derived.Test.YthebiibiapjdiaaQ4
/- Sight: what is seen from a cell lies near it; a line goes a step at a time. -/
namespace Go.Proofs.Ythebiibiapjdiaa
open Go.RowKit

theorem farN_eq (e q : Int × Int) : (farN e q : Int) = max (apartI e.1 q.1) (apartI e.2 q.2) := by unfold farN apartI; omega
/-- A line's cells lie no farther from its beginning than its end. -/
theorem line_near {e q c : Int × Int} {n : Nat} (hf : farN e q = n) (h : c ∈ lineF e.1 e.2 q.1 q.2 n) : farN e c ≤ n := by
  unfold lineF at h
  obtain ⟨k, hk, rfl⟩ := List.mem_map.1 h
  rw [List.mem_range] at hk
  obtain ⟨m, hm, hdx, hdy⟩ := far_nat e.1 e.2 q.1 q.2
  have hmn : m = n := by have := farN_eq e q; omega
  subst hmn
  have p := pF_btw (k := k) (n := m) (d := q.1 - e.1) (by omega) hdx
  have r := pF_btw (k := k) (n := m) (d := q.2 - e.2) (by omega) hdy
  have e1 := farN_eq e (lineK e.1 e.2 q.1 q.2 m k)
  unfold lineK at e1 ⊢
  dsimp only at e1
  unfold apartI at e1
  rcases Int.le_total 0 (q.1 - e.1) with h1 | h1 <;> rcases Int.le_total 0 (q.2 - e.2) with h2 | h2
  · have := p.1 h1; have := r.1 h2; omega
  · have := p.1 h1; have := r.2 h2; omega
  · have := p.2 h1; have := r.1 h2; omega
  · have := p.2 h1; have := r.2 h2; omega
theorem sees_near {X Y r : Int} {fs : List Int} {e c : Int × Int} (h : Sees X Y fs r e c) : (farN e c : Int) ≤ r := by
  obtain ⟨q, _, hf, hc⟩ := h
  have := line_near (e := e) (q := q) rfl ((take_prefix_walk _ _).subset hc)
  omega
theorem line_last {e c : Int × Int} : (lineF e.1 e.2 c.1 c.2 (farN e c))[farN e c]? = some c := by
  rw [lineF_at (by omega), line_end (by rw [farN_eq])]
theorem sees_step {X Y r : Int} {fs : List Int} {e c : Int × Int} (hc : inB X Y c.1 c.2 = true) (hf : (farN e c : Int) ≤ r) (h1 : farN e c ≤ 1) : Sees X Y fs r e c := by
  refine ⟨c, hc, hf, ?_⟩
  have hl := line_last (e := e) (c := c)
  have hlen : (lineF e.1 e.2 c.1 c.2 (farN e c)).length = farN e c + 1 := lineF_len
  unfold seenF
  generalize lineF e.1 e.2 c.1 c.2 (farN e c) = l at *
  cases l with
  | nil => simp at hlen
  | cons a t =>
    cases t with
    | nil =>
      have : farN e c = 0 := by simp at hlen; omega
      rw [this] at hl
      simp at hl
      simp [walkL, hl]
    | cons b t =>
      have h2 : farN e c = 1 := by simp at hlen; omega
      rw [h2] at hl
      simp at hl
      subst hl
      rw [walkL, takeTo]
      split <;> simp
theorem sees_free {X Y r : Int} {fs : List Int} {e c : Int × Int} (hc : inB X Y c.1 c.2 = true) (hf : (farN e c : Int) ≤ r) (hw : ∀ d, wallB X fs d = false) : Sees X Y fs r e c := by
  refine ⟨c, hc, hf, ?_⟩
  unfold seenF
  rw [walk_free (fun d _ => hw d)]
  exact List.mem_of_getElem? line_last
theorem no_wall {X : Int} {fs : List Int} (h : fs.any (fun z => z == 0) = false) (d : Int × Int) : wallB X fs d = false := by
  unfold wallB
  rw [beq_eq_false_iff_ne]
  intro e
  rw [List.getD_eq_getElem?_getD] at e
  cases hq : fs[(d.2 * X + d.1).toNat]? with
  | none => rw [hq] at e; cases e
  | some z =>
    rw [hq] at e
    have hz : z = 0 := e
    have : fs.any (fun z => z == 0) = true := List.any_eq_true.2 ⟨z, List.mem_of_getElem? hq, by rw [hz]; rfl⟩
    rw [h] at this
    cases this
/-- One step of a line. -/
theorem pF_step {n : Nat} {v d : Int} (hn : 0 < n) (hd : -(n : Int) ≤ d ∧ d ≤ n) : -1 ≤ pF (v + d) n - pF v n ∧ pF (v + d) n - pF v n ≤ 1 := by
  unfold pF
  rw [if_neg (by omega), if_neg (by omega)]
  have e1 := Int.emod_add_mul_ediv (2 * v + n) (2 * n)
  have e2 := Int.emod_add_mul_ediv (2 * (v + d) + n) (2 * n)
  have b1 := Int.emod_nonneg (2 * v + n) (show (2 * (n : Int)) ≠ 0 by omega)
  have b2 := Int.emod_lt_of_pos (2 * v + n) (show (0 : Int) < 2 * n by omega)
  have b3 := Int.emod_nonneg (2 * (v + d) + n) (show (2 * (n : Int)) ≠ 0 by omega)
  have b4 := Int.emod_lt_of_pos (2 * (v + d) + n) (show (0 : Int) < 2 * n by omega)
  generalize (2 * v + (n : Int)) / (2 * n) = q1 at *
  generalize (2 * (v + d) + (n : Int)) / (2 * n) = q2 at *
  constructor
  · refine Int.not_lt.1 fun h => ?_
    have : q2 + 2 ≤ q1 := by omega
    have h2 : (2 * (n : Int)) * (q2 + 2) ≤ (2 * n) * q1 := Int.mul_le_mul_of_nonneg_left this (by omega)
    rw [Int.mul_add] at h2
    omega
  · refine Int.not_lt.1 fun h => ?_
    have : q1 + 2 ≤ q2 := by omega
    have h2 : (2 * (n : Int)) * (q1 + 2) ≤ (2 * n) * q2 := Int.mul_le_mul_of_nonneg_left this (by omega)
    rw [Int.mul_add] at h2
    omega
theorem line_step {X Y Z V : Int} {n : Nat} (hf : max (apartI X Z) (apartI Y V) = n) {k : Nat} (hk : k < n) :
    max (apartI (lineK X Y Z V n k).1 (lineK X Y Z V n (k + 1)).1) (apartI (lineK X Y Z V n k).2 (lineK X Y Z V n (k + 1)).2) = 1 := by
  have hdx : -(n : Int) ≤ Z - X ∧ Z - X ≤ n := by unfold apartI at hf; omega
  have hdy : -(n : Int) ≤ V - Y ∧ V - Y ≤ n := by unfold apartI at hf; omega
  have ex : ((k + 1 : Nat) : Int) * (Z - X) = k * (Z - X) + (Z - X) := by rw [Int.natCast_add, Int.add_mul]; simp
  have ey : ((k + 1 : Nat) : Int) * (V - Y) = k * (V - Y) + (V - Y) := by rw [Int.natCast_add, Int.add_mul]; simp
  have px := pF_step (v := k * (Z - X)) (by omega) hdx
  have py := pF_step (v := k * (V - Y)) (by omega) hdy
  rw [← ex] at px
  rw [← ey] at py
  have main : ∀ d : Int, d = n ∨ d = -(n : Int) → pF (((k + 1 : Nat) : Int) * d) n - pF (k * d) n = 1 ∨ pF (((k + 1 : Nat) : Int) * d) n - pF (k * d) n = -1 := by
    rintro d (rfl | rfl)
    · have a := pF_all n (k : Int)
      have b := pF_all n ((k + 1 : Nat) : Int)
      rw [if_neg (by omega)] at a b
      omega
    · have a := pF_all n (-(k : Int))
      have b := pF_all n (-((k + 1 : Nat) : Int))
      rw [if_neg (by omega)] at a b
      rw [Int.mul_neg, ← Int.neg_mul, Int.mul_neg, ← Int.neg_mul]
      omega
  have hm : (Z - X = n ∨ Z - X = -(n : Int)) ∨ (V - Y = n ∨ V - Y = -(n : Int)) := by unfold apartI at hf; omega
  show max (apartI (X + pF (k * (Z - X)) n) (X + pF (((k + 1 : Nat) : Int) * (Z - X)) n)) (apartI (Y + pF (k * (V - Y)) n) (Y + pF (((k + 1 : Nat) : Int) * (V - Y)) n)) = 1
  unfold apartI
  rcases hm with h | h
  · rcases main _ h with h' | h' <;> omega
  · rcases main _ h with h' | h' <;> omega
end Go.Proofs.Ythebiibiapjdiaa
