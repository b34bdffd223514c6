/- The numbers of a set's cells: which they are, and how many. -/
import Derived.Test.YtgkeifjnnpcleaaJc
namespace Go.Proofs.Ytgkeifjnnpcleaa
open Go.RowKit

theorem numsTo_range (bs : List Nat) (k : Nat) : numsTo bs k = ((List.range (k * 8)).filter (fun i => bitAt bs i)).map (fun i : Nat => (i : Int)) := by
  induction k with
  | zero => rfl
  | succ k ih =>
    rw [numsTo_succ, ih, Nat.add_mul, Nat.one_mul, List.range_add, List.filter_append, List.map_append, List.filter_map, List.map_map]
    congr 1
    have e : (List.range 8).filter ((fun i => bitAt bs i) ∘ fun x => k * 8 + x) = bl (bs.getD k 0) := by
      unfold bl
      refine List.filter_congr fun i hi => ?_
      rw [List.mem_range] at hi
      show bitAt bs (k * 8 + i) = _
      unfold bitAt
      rw [show (k * 8 + i) / 8 = k by omega, show (k * 8 + i) % 8 = i by omega]
    rw [e]
    refine List.map_congr_left fun i _ => ?_
    simp [numOf]
theorem numsOf_range (bs : List Nat) : numsOf bs = ((List.range (bs.length * 8)).filter (fun i => bitAt bs i)).map (fun i : Nat => (i : Int)) := numsTo_range bs _
theorem bl_lens : ∀ n : Fin 256, (bl n.val).length = Lib.onesCount n.val := by decide +kernel
theorem bl_len (x : Nat) (h : x < 256) : (bl x).length = Lib.onesCount x := bl_lens ⟨x, h⟩
theorem numsTo_len (bs : List Nat) (hbs : IsBytes bs) : ∀ k, k ≤ bs.length → (numsTo bs k).length = ones (bs.take k)
  | 0, _ => by simp [numsTo_zero, ones]
  | k + 1, hk => by
    have h := numsTo_len bs hbs k (by omega)
    have hx : bs.getD k 0 = bs[k] := by simp [List.getD_eq_getElem?_getD, show k < bs.length from hk]
    rw [numsTo_succ, List.length_append, List.length_map, h, hx, bl_len _ (hbs _ (List.getElem_mem hk)), List.take_succ_eq_append_getElem hk]
    simp only [ones, List.map_append, List.sum_append, List.map_cons, List.map_nil, List.sum_cons, List.sum_nil, Nat.add_zero]
theorem numsOf_len (bs : List Nat) (hbs : IsBytes bs) : (numsOf bs).length = ones bs := by
  have h := numsTo_len bs hbs bs.length (Nat.le_refl _)
  rwa [List.take_length] at h
theorem cellsM_len (X Y : Int) (bs : List Nat) (hbs : IsBytes bs) : (cellsM X Y bs).length = ones bs := by rw [cellsM, List.length_map, numsOf_len bs hbs]
theorem bit_out (bs : List Nat) (i : Nat) (h : bs.length * 8 ≤ i) : bitAt bs i = false := by
  unfold bitAt
  have h2 : bs.length ≤ i / 8 := by omega
  simp [List.getD_eq_getElem?_getD, h2]
theorem mem_nums (bs : List Nat) (i : Int) : i ∈ numsOf bs ↔ 0 ≤ i ∧ bitAt bs i.toNat = true := by
  rw [numsOf_range]
  simp only [List.mem_map, List.mem_filter, List.mem_range]
  constructor
  · rintro ⟨j, ⟨_, hj⟩, rfl⟩
    exact ⟨Int.natCast_nonneg _, by rwa [Int.toNat_natCast]⟩
  · rintro ⟨h0, hb⟩
    refine ⟨i.toNat, ⟨?_, hb⟩, by omega⟩
    refine Nat.lt_of_not_le fun hle => ?_
    rw [bit_out bs _ hle] at hb
    cases hb
/-- A set's numbers rise. -/
theorem nums_sorted (bs : List Nat) : (numsOf bs).Pairwise (· < ·) := by
  rw [numsOf_range, List.pairwise_map]
  refine List.Pairwise.filter _ ?_
  exact (List.pairwise_lt_range).imp (fun h => by omega)
/-- Every number of a set is a cell of its map. -/
theorem nums_at {X Y : Int} {bs : List Nat} (hg : Good X Y bs) {i : Int} (hi : i ∈ numsOf bs) : atB X Y i = true := by
  obtain ⟨h0, hb⟩ := (mem_nums bs i).1 hi
  obtain ⟨m, _, _, g⟩ := hg
  obtain ⟨h1, h2, h3, h4⟩ := mayB_iff.1 m
  refine atB_iff.2 ⟨h1, h2, h3, h4, h0, ?_⟩
  refine Int.lt_of_not_ge fun hle => ?_
  rw [g i.toNat (by omega)] at hb
  cases hb
theorem cell_of_num {X Y : Int} {bs : List Nat} (hg : Good X Y bs) {i : Int} (hi : i ∈ numsOf bs) : cellAt X Y i = (i % X, i / X) := by simp [cellAt, nums_at hg hi]
/-- .. and its cell's number is it. -/
theorem num_of_cell {X Y : Int} {bs : List Nat} (hg : Good X Y bs) {i : Int} (hi : i ∈ numsOf bs) : (cellAt X Y i).2 * X + (cellAt X Y i).1 = i ∧ inB X Y (cellAt X Y i).1 (cellAt X Y i).2 = true := by
  rw [cell_of_num hg hi]
  obtain ⟨h1, h2, h3, h4, h5, h6⟩ := atB_iff.1 (nums_at hg hi)
  have e := Int.emod_add_mul_ediv i X
  have q0 := Int.emod_nonneg i (show X ≠ 0 by omega)
  have q1 := Int.emod_lt_of_pos i (show 0 < X by omega)
  have q2 : 0 ≤ i / X := Int.ediv_nonneg h5 (by omega)
  have q3 : i / X < Y := Int.ediv_lt_of_lt_mul (by omega) (by rw [Int.mul_comm]; exact h6)
  refine ⟨?_, ?_⟩
  · dsimp only
    rw [Int.mul_comm]; omega
  · rw [inB_iff]
    dsimp only
    refine ⟨?_, ?_, ?_, ?_, ?_, ?_, ?_, ?_⟩ <;> omega
end Go.Proofs.Ytgkeifjnnpcleaa
