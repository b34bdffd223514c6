/- Heap's laws: rows of numbers as arguments; a number's place among n. -/
import Derived.Test.YtgcncimeedoplaaHz
namespace Go.Proofs.Ytgcncimeedoplaa
open Go.ChangeShapes Go.WideShapes Go.ChangeAt Go.RowKit Go.Joins

/-- A row of numbers. -/
def RowZ (W : World) (a : Option Addr) (zs : List Int) : Prop := zs = [] ∨ ∃ b o, a = some ⟨b, o, none⟩ ∧ ∀ i z, zs[i]? = some z → W.cell? ⟨b, o + i, none⟩ = some (.int .i64 z)
theorem RowZ.at {W : World} {a : Option Addr} {zs : List Int} (h : RowZ W a zs) {k : Nat} (hk : k < zs.length) : ∃ b o, a = some ⟨b, o, none⟩ ∧ W.cell? ⟨b, o + k, none⟩ = some (.int .i64 (zs.getD k 0)) := by
  have e : zs[k]? = some (zs.getD k 0) := by simp [List.getD_eq_getElem?_getD, hk]
  rcases h with rfl | ⟨b, o, h1, h2⟩
  · simp at hk
  · exact ⟨b, o, h1, h2 k _ e⟩
theorem spot_none {W : World} {a : Addr} {v : Value} (h : W.cell? (a.add 0) = some v) : ∃ b o, a = ⟨b, o, none⟩ := by
  obtain ⟨b, off, spot⟩ := a
  have : spot = none := by simpa [Addr.add] using World.cell?_spot h
  exact ⟨b, off, by rw [this]⟩
theorem open_introw {H : Type} {enc : TypeId × Value → H} {W : World} {r : Reach} {b0 : Nat} {held : Bool} {v : Value} {d : DataW H} {p : List MemPlace}
    (hv : Value.okWide Try.prog W r b0 36 v) (h : DataW.Trod enc Try.prog W 0 (fun _ => true) held 36 v d p) : ∃ (a : Option Addr) (cap : Nat) (zs : List Int), v = .slice a zs.length cap ∧ zs.length ≤ maxLen ∧ RowZ W a zs ∧ ∀ z ∈ zs, (Lit.int .i64 z).wf = true := by
  obtain ⟨a, len, cap, rfl⟩ := okWide_slice Try.underlying36 hv
  obtain ⟨fuel, hf⟩ := h
  rcases open_ints Try.underlying36 Try.underlying3 Try.cInt hf with ⟨e, _⟩ | ⟨a', l, c, zs, e, _, hl, hm, hz, _, hcell, hwf⟩
  · simp [Value.cells] at e
    obtain ⟨rfl, rfl, rfl⟩ := e
    exact ⟨none, 0, [], rfl, Nat.zero_le _, .inl rfl, fun z hz => by cases hz⟩
  · simp [Value.cells] at e
    obtain ⟨rfl, rfl, rfl⟩ := e
    have hz' : zs.length = cap := by simpa using hz
    refine ⟨some a', cap, zs.take len, by simp; omega, by simp; omega, ?_, fun z hz => hwf z (List.mem_of_mem_take hz)⟩
    by_cases h0 : len = 0
    · exact .inl (by rw [h0]; rfl)
    · obtain ⟨b, o, rfl⟩ := spot_none (hcell 0 (by omega))
      refine .inr ⟨b, o, rfl, fun i z hzi => ?_⟩
      rw [List.getElem?_take] at hzi
      split at hzi
      · have hi := (List.getElem?_eq_some_iff.1 hzi).1
        have := hcell i hi
        rw [add_none] at this
        rw [this, List.getD_eq_getElem?_getD, hzi]
        rfl
      · cases hzi
theorem idsR_len (n : Nat) : (idsR n).length = n := by simp [idsR]
theorem idsR_succ (n : Nat) : idsR (n + 1) = idsR n ++ [(n : Int)] := by simp [idsR, List.range_succ]
theorem idsR_nodup (n : Nat) : (idsR n).Nodup := List.Pairwise.map _ (fun a b (h : a ≠ b) (e : (a : Int) = b) => h (by omega)) List.nodup_range
theorem mem_idsR {n : Nat} {x : Int} : x ∈ idsR n ↔ ∃ i : Nat, i < n ∧ x = i := by
  simp only [idsR, List.mem_map, List.mem_range]
  exact ⟨fun ⟨i, h, e⟩ => ⟨i, h, e.symm⟩, fun ⟨i, h, e⟩ => ⟨i, h, e.symm⟩⟩
/-- The place that a number comes to. -/
theorem place_of (x : Int) (n : Nat) (hn : 0 < n) : ∃ (T : Int) (A : Nat), x.tmod n = T ∧ -(n : Int) < T ∧ T < n ∧ (T + n) % n = A ∧ (T + n).tmod n = A ∧ A < n := by
  have h1 : x.tmod n < n := Int.tmod_lt_of_pos x (by omega)
  have h2 : -(n : Int) < x.tmod n := by
    by_cases hx : 0 ≤ x
    · have := Int.tmod_nonneg (n : Int) hx
      omega
    · have h3 : (-x).tmod n < n := Int.tmod_lt_of_pos _ (by omega)
      rw [Int.neg_tmod] at h3
      omega
  have h4 : 0 ≤ (x.tmod n + n) % n := Int.emod_nonneg _ (by omega)
  have h5 : (x.tmod n + n) % n < n := Int.emod_lt_of_pos _ (by omega)
  refine ⟨_, ((x.tmod n + n) % n).toNat, rfl, h2, h1, by omega, ?_, by omega⟩
  rw [Int.tmod_eq_emod_of_nonneg (by omega)]
  omega
end Go.Proofs.Ytgcncimeedoplaa
