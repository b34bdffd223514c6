/- A row by a table, and by another one: the mathematics of SatVias. -/
import Derived.Test.YtgkeifjnnpcleabUq
namespace Go.Proofs.Ytgkeifjnnpcleab

theorem le_minC {b x y : Int} : b ≤ minC x y ↔ b ≤ x ∧ b ≤ y := by unfold minC; split <;> omega
theorem le_foldl (b : Int) : ∀ (l : List Int) (s : Int), b ≤ l.foldl minC s ↔ b ≤ s ∧ ∀ z ∈ l, b ≤ z
  | [], s => by simp
  | y :: l, s => by
    rw [List.foldl_cons, le_foldl b l (minC s y), le_minC]
    simp only [List.mem_cons, forall_eq_or_imp]
    exact and_assoc
theorem le_viaAt {xs : List Int} {rs : List (List Int)} (he : xs.length = rs.length) (b : Int) (p : Nat) :
    b ≤ viaAt xs rs p ↔ b ≤ 18446744073709551615 ∧ ∀ (i : Nat) (x : Int) (r : List Int), xs[i]? = some x → rs[i]? = some r → b ≤ addC x (r.getD p 0) := by
  unfold viaAt viaTo
  rw [List.take_length, he, List.take_length, le_foldl]
  refine and_congr_right fun _ => ⟨fun h i x r hx hr => h _ ?_, fun h z hz => ?_⟩
  · refine List.mem_of_getElem? (i := i) ?_
    rw [List.getElem?_zipWith, hx, hr]
  · obtain ⟨i, hi⟩ := List.getElem?_of_mem hz
    rw [List.getElem?_zipWith] at hi
    split at hi
    · cases hi
      exact h i _ _ (by assumption) (by assumption)
    · cases hi
theorem eq_of_le {x y : Int} (h : ∀ b : Int, b ≤ x ↔ b ≤ y) : x = y := Int.le_antisymm ((h x).1 (Int.le_refl _)) ((h y).2 (Int.le_refl _))
theorem le_addC {b x y : Int} : b ≤ addC x y ↔ b ≤ 18446744073709551615 ∧ b - y ≤ x := by unfold addC; split <;> omega
theorem AllU.getD {r : List Int} (h : AllU r) (p : Nat) : inU (r.getD p 0) := by
  rw [List.getD_eq_getElem?_getD]
  cases e : r[p]? with
  | none => exact inU0
  | some z => exact h z (List.mem_of_getElem? e)
theorem viaC_at {xs : List Int} {rs : List (List Int)} {p : Nat} (hp : p < wideT rs) : (viaC xs rs)[p]? = some (viaAt xs rs p) := by simp [viaC, hp]
theorem viaC_get {xs : List Int} {rs : List (List Int)} {p : Nat} (hp : p < wideT rs) : (viaC xs rs).getD p 0 = viaAt xs rs p := by rw [List.getD_eq_getElem?_getD, viaC_at hp]; rfl

/-- The rows of a table, each by another table. -/
def byT (rs us : List (List Int)) : List (List Int) := rs.map (fun r => viaC r us)
theorem byT_wide {rs us : List (List Int)} (h : 0 < rs.length) : wideT (byT rs us) = wideT us := by
  cases rs with
  | nil => simp at h
  | cons r l => show (viaC r us).length = _; rw [viaC_len]
theorem byT_even {rs us : List (List Int)} (h : 0 < rs.length) : evenT (byT rs us) = true := by
  refine evenT_of fun j z _ hz => ?_
  rw [byT_wide h]
  simp only [byT, List.getElem?_map, Option.map_eq_some_iff] at hz
  obtain ⟨r, _, rfl⟩ := hz
  exact viaC_len _ _
theorem via_via {xs : List Int} {rs us : List (List Int)} (h0 : 0 < rs.length) (he : xs.length = rs.length) (hev : evenT rs = true) (hu : us.length = wideT rs) (hU : AllT us) (hX : AllU xs) :
    viaC (viaC xs rs) us = viaC xs (byT rs us) := by
  unfold viaC
  rw [byT_wide h0]
  refine List.map_congr_left fun p hp => eq_of_le fun b => ?_
  rw [List.mem_range] at hp
  rw [le_viaAt (show ((List.range (wideT rs)).map (viaAt xs rs)).length = us.length by simp [hu]), le_viaAt (by simp [byT, he])]
  have hpos : ∀ (j : Nat) (u : List Int), us[j]? = some u → 0 ≤ u.getD p 0 := fun j u hj => ((hU u (List.mem_of_getElem? hj)).getD p).1
  constructor
  · rintro ⟨hb, h⟩
    refine ⟨hb, fun i x r hx hr => ?_⟩
    simp only [byT, List.getElem?_map, Option.map_eq_some_iff] at hr
    obtain ⟨r0, hr0, rfl⟩ := hr
    have hl : r0.length = wideT rs := evenT_at hev hr0
    rw [viaC_get hp, addC_comm, le_addC, le_viaAt (by omega)]
    have hx0 : 0 ≤ x := (hX x (List.mem_of_getElem? hx)).1
    refine ⟨hb, ?_⟩
    rw [← le_viaAt (by omega)]
    -- by way of each j
    refine (le_viaAt (by omega) _ _).2 ⟨?_, fun j y u hy hu' => ?_⟩
    · omega
    · have hj : j < wideT rs := by have := (List.getElem?_eq_some_iff.1 hy).1; omega
      have h2 := h j (viaAt xs rs j) u (by simp [hj]) hu'
      rw [le_addC, le_viaAt he] at h2
      have h3 := h2.2.2 i x r0 hx hr0
      rw [show r0.getD j 0 = y by rw [List.getD_eq_getElem?_getD, hy]; rfl] at h3
      have := hpos j u hu'
      unfold addC at h3 ⊢
      split at h3 <;> split <;> omega
  · rintro ⟨hb, h⟩
    refine ⟨hb, fun j v u hv hu' => ?_⟩
    have hj : j < wideT rs := by have := (List.getElem?_eq_some_iff.1 hv).1; simpa using this
    obtain rfl : v = viaAt xs rs j := by simpa [hj] using hv.symm
    rw [le_addC, le_viaAt he]
    have hu0 := hpos j u hu'
    refine ⟨hb, by omega, fun i x r hx hr => ?_⟩
    have hl : r.length = wideT rs := evenT_at hev hr
    have h2 := h i x (viaC r us) hx (by simp [byT, hr])
    rw [viaC_get hp, addC_comm, le_addC, le_viaAt (by omega)] at h2
    have hrj : r[j]? = some r[j] := List.getElem?_eq_getElem (by omega)
    have h3 := h2.2.2 j _ u hrj hu'
    rw [show r.getD j 0 = r[j] by rw [List.getD_eq_getElem?_getD, hrj]; rfl]
    unfold addC at h3 ⊢
    split at h3 <;> split <;> omega
theorem via_twice {xs : List Int} {rs : List (List Int)} (h0 : 0 < rs.length) (he : xs.length = rs.length) : viaC (xs ++ xs) (rs ++ rs) = viaC xs rs := by
  have hw : wideT (rs ++ rs) = wideT rs := by
    cases rs with
    | nil => simp at h0
    | cons r l => rfl
  unfold viaC
  rw [hw]
  refine List.map_congr_left fun p _ => eq_of_le fun b => ?_
  rw [le_viaAt (by simp [he]), le_viaAt he]
  refine and_congr_right fun _ => ⟨fun h i x r hx hr => ?_, fun h i x r hx hr => ?_⟩
  · have h1 := (List.getElem?_eq_some_iff.1 hx).1
    have h2 := (List.getElem?_eq_some_iff.1 hr).1
    exact h i x r (by rw [List.getElem?_append_left h1]; exact hx) (by rw [List.getElem?_append_left h2]; exact hr)
  · by_cases hi : i < xs.length
    · rw [List.getElem?_append_left hi] at hx
      rw [List.getElem?_append_left (by omega)] at hr
      exact h i x r hx hr
    · rw [List.getElem?_append_right (by omega)] at hx
      rw [List.getElem?_append_right (by omega), ← he] at hr
      exact h (i - xs.length) x r hx hr
theorem even_twice {rs : List (List Int)} (h0 : 0 < rs.length) (h : evenT rs = true) : evenT (rs ++ rs) = true ∧ wideT (rs ++ rs) = wideT rs := by
  have hw : wideT (rs ++ rs) = wideT rs := by
    cases rs with
    | nil => simp at h0
    | cons r l => rfl
  refine ⟨evenT_of fun j z _ hz => ?_, hw⟩
  rw [hw]
  have := List.mem_of_getElem? hz
  rw [List.mem_append, or_self] at this
  obtain ⟨k, hk⟩ := List.getElem?_of_mem this
  exact evenT_at h hk
end Go.Proofs.Ytgkeifjnnpcleab
