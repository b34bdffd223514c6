/- A set's cells, the program's and the reference's; rows of bytes as arguments. -/
import Derived.Test.YtgkeifjnnpcleaaNd
import Derived.Test.YtgkeifjnnpcleaaNb
import Derived.Test.YtgkeifjnnpcleaaJn
namespace Go.Proofs.Ytgkeifjnnpcleaa
open Go.ChangeShapes Go.WideShapes Go.ChangeAt Go.RowKit Go.Joins

theorem filter_less {p : Nat → Bool} {N d : Nat} (h : ∀ i, N ≤ i → p i = false) : (List.range (N + d)).filter p = (List.range N).filter p := by
  induction d with
  | zero => rfl
  | succ d ih => rw [← Nat.add_assoc, List.range_succ, List.filter_append, ih]; simp [h (N + d) (by omega)]
theorem cells_same {X Y : Int} {bs : List Nat} (hg : Good X Y bs) : rcellsC X (fsOf (X * Y).toNat bs) = cellsM X Y bs := by
  obtain ⟨h1, h2, h3, h4⟩ := mayB_iff.1 hg.1
  have m1 : 0 ≤ X * Y := Int.mul_nonneg (by omega) (by omega)
  obtain ⟨N, hN⟩ : ∃ N, (X * Y).toNat = N := ⟨_, rfl⟩
  have hXY : X * Y = (N : Int) := by omega
  have hl := hg.2.1
  have hNL : N ≤ bs.length * 8 := by omega
  rw [hN]
  have hfl : (fsOf N bs).length = N := by simp [fsOf]
  have hget : ∀ i, i < N → (fsOf N bs).getD i false = bitAt bs i := fun i hi => by simp [fsOf, hi]
  have hout : ∀ i, N ≤ i → bitAt bs i = false := fun i hi => hg.2.2.2 i (by omega)
  unfold rcellsC rcellsTo cellsM
  rw [hfl, numsOf_range, List.map_map]
  obtain ⟨d, hd⟩ : ∃ d, bs.length * 8 = N + d := ⟨bs.length * 8 - N, by omega⟩
  rw [hd, filter_less hout]
  rw [List.filter_congr (fun i hi => by rw [hget i (List.mem_range.1 hi)])]
  refine List.map_congr_left fun i hi => ?_
  rw [List.mem_filter, List.mem_range] at hi
  have hmem : (i : Int) ∈ numsOf bs := (mem_nums bs _).2 ⟨by omega, by simpa using hi.2⟩
  exact (cell_of_num hg hmem).symm

theorem Try.cU8 : Try.prog.cellsOf 5 = 1 := by kernel_rfl
theorem open_bytes {H : Type} {enc : TypeId × Value → H} {W : World} {r : Reach} {b0 base : Nat} {held : Bool} {v : Value} {d : DataW H} {p : List MemPlace}
    (hv : Value.okWide Try.prog W r b0 46 v) (h : DataW.Trod enc Try.prog W base (fun _ => true) held 46 v d p) : ∃ (a : Option Addr) (cap : Nat) (bs : List Nat),
      v = .slice a bs.length cap ∧ bs.length ≤ maxLen ∧ (bs = [] ∨ ∃ g o, a = some ⟨g, o, none⟩ ∧ BytesAt W g o bs) ∧ IsBytes bs := by
  obtain ⟨a, len, cap, rfl⟩ := okWide_slice Try.underlying46 hv
  obtain ⟨fuel, hf⟩ := h
  rcases open_ints Try.underlying46 Try.underlying5 Try.cU8 hf with ⟨e, _⟩ | ⟨a', l, c, zs, e, _, hl, hm, hz, _, hcell, hwf⟩
  · simp [Value.cells] at e
    obtain ⟨rfl, rfl, rfl⟩ := e
    exact ⟨none, 0, [], rfl, Nat.zero_le _, .inl rfl, fun z hz => by simp at hz⟩
  · simp [Value.cells] at e
    obtain ⟨rfl, rfl, rfl⟩ := e
    have hz' : zs.length = cap := by simpa using hz
    refine ⟨some a', cap, (zs.take len).map Int.toNat, by simp; omega, by simp; omega, ?_, ?_⟩
    · by_cases h0 : len = 0
      · exact .inl (by rw [h0]; rfl)
      · obtain ⟨b, off, spot⟩ := a'
        have hspot : spot = none := by simpa [Addr.add] using World.cell?_spot (hcell 0 (by omega))
        subst hspot
        refine .inr ⟨b, off, rfl, fun j x hj => ?_⟩
        rw [List.getElem?_map, Option.map_eq_some_iff] at hj
        obtain ⟨z, hzj, rfl⟩ := hj
        rw [List.getElem?_take] at hzj
        split at hzj
        · have hi := (List.getElem?_eq_some_iff.1 hzj).1
          have hc := hcell j hi
          rw [add_none] at hc
          have hb := bounds_u8 (hwf z (List.mem_of_getElem? hzj))
          rw [hc, List.getD_eq_getElem?_getD, hzj]
          simp only [Option.getD_some]
          rw [Int.toNat_of_nonneg hb.1]
        · cases hzj
    · intro x hx
      rw [List.mem_map] at hx
      obtain ⟨z, hz2, rfl⟩ := hx
      have hb := bounds_u8 (hwf z (List.mem_of_mem_take hz2))
      omega
end Go.Proofs.Ytgkeifjnnpcleaa
