/- The program's sets and the reference's: the same cells. -/
import Derived.Test.YtgkeifjnnpcleaaNf
import Derived.Test.YtgkeifjnnpcleaaNe
import Derived.Test.YtgkeifjnnpcleaaJy
namespace Go.Proofs.Ytgkeifjnnpcleaa
open Go.RowKit

theorem fsOf_len (N : Nat) (bs : List Nat) : (fsOf N bs).length = N := by simp [fsOf]
theorem fsOf_get {N : Nat} {bs : List Nat} {i : Nat} (h : i < N) : (fsOf N bs).getD i false = bitAt bs i := by simp [fsOf, h]
theorem fsOf_zero (N n : Nat) : fsOf N (List.replicate n 0) = List.replicate N false := by
  refine List.ext_getElem (by simp [fsOf]) fun j h1 h2 => ?_
  simp only [fsOf, List.getElem_map, List.getElem_range, List.getElem_replicate]
  unfold bitAt
  rw [List.getD_eq_getElem?_getD, List.getElem?_replicate]
  split <;> simp
theorem fsOf_set {N : Nat} {bs : List Nat} {i : Nat} (v : Bool) (h : i / 8 < bs.length) : fsOf N (setB bs i v) = (fsOf N bs).set i v := by
  refine List.ext_getElem (by simp [fsOf]) fun j h1 h2 => ?_
  simp only [fsOf, List.getElem_map, List.getElem_range, List.getElem_set, bitAt_setB _ _ _ h]
  by_cases e : j = i
  · subst e; simp
  · rw [if_neg e, if_neg (fun x => e x.symm)]
theorem bytes_same {X Y : Int} {bs : List Nat} (hg : Good X Y bs) : bsOf (fsOf (X * Y).toNat bs) = bs := by
  obtain ⟨h1, h2, h3, h4⟩ := mayB_iff.1 hg.1
  have m1 : 0 ≤ X * Y := Int.mul_nonneg (by omega) (by omega)
  obtain ⟨N, hN⟩ : ∃ N, (X * Y).toNat = N := ⟨_, rfl⟩
  have hXY : X * Y = (N : Int) := by omega
  have hl := hg.2.1
  rw [hN]
  have hlen : (bsOf (fsOf N bs)).length = bs.length := by unfold bsOf; rw [bsTo_len, fsOf_len]; omega
  refine ext_bits (bsTo_bytes _ _) hg.2.2.1 hlen fun j _ => ?_
  unfold bsOf
  rw [bsTo_bit _ _ (Nat.le_refl _), fsOf_len]
  by_cases h : j < N
  · rw [decide_eq_true h, Bool.true_and, fsOf_get h]
  · rw [decide_eq_false h, Bool.false_and]
    exact (hg.2.2.2 j (by omega)).symm

theorem RefAt.lt {W : World} {b h : Nat} {X Y : Int} {fs : List Bool} (m : RefAt W b h X Y fs) : b < W.heap.size ∧ h < W.heap.size := ⟨(Array.getElem?_eq_some_iff.1 m.1).1, (Array.getElem?_eq_some_iff.1 m.2).1⟩
theorem RefAt.row {W W' : World} {b h g : Nat} {X Y : Int} {fs : List Bool} (m : RefAt W b h X Y fs) (hg : W.grownBy W' (some g)) (h1 : b ≠ g) (h2 : h ≠ g) : RefAt W' b h X Y fs :=
  ⟨(hg.block b m.lt.1 (fun e => h1 (Option.some.inj e))).trans m.1, (hg.block h m.lt.2 (fun e => h2 (Option.some.inj e))).trans m.2⟩
theorem mul_in {X Y : Int} (h : mayB X Y = true) : ((X * Y).toNat : Int) = X * Y := by
  obtain ⟨h1, h2, h3, h4⟩ := mayB_iff.1 h
  have m1 : 0 ≤ X * Y := Int.mul_nonneg (by omega) (by omega)
  omega
theorem rset_all (b h : Nat) (X Y x y : Int) (bs : List Nat) (v : Bool) (w : World) (hm : RefAt w b h X Y (fsOf (X * Y).toNat bs)) (hg : Good X Y bs) (hne : b ≠ h) :
    Calls Try.prog 15 #[.pointer (some ⟨b, 0, none⟩), .agg #[.int .i64 x, .int .i64 y], .bool v] w fun e w' => e = .returned (.int .i64 (setE X Y x y)) ∧ RefAt w' b h X Y (fsOf (X * Y).toNat (setM X Y bs x y v)) ∧ w.grownBy w' (some h) := by
  cases hi : inB X Y x y
  · have h1 : ¬ inB X Y x y = true := by rw [hi]; simp
    rw [show setE X Y x y = 10 from if_neg h1, show setM X Y bs x y v = bs from if_neg h1]
    exact (rset_no b h X Y x y v _ w hm hi).mono fun _ _ ⟨e1, e2⟩ => ⟨e1, hm.below e2, grown_weak (grown_of_below e2) _⟩
  · rw [show setE X Y x y = 0 from if_pos hi, show setM X Y bs x y v = setB bs (y * X + x).toNat v from if_pos hi, fsOf_set v (hg.idx hi)]
    exact rset_yes b h X Y x y v _ w hm hne (by rw [fsOf_len, mul_in hg.1]) hi
theorem rhas_mem (b h : Nat) (X Y x y : Int) (bs : List Nat) (w : World) (hm : RefAt w b h X Y (fsOf (X * Y).toNat bs)) (hg : Good X Y bs) :
    Calls Try.prog 17 #[.pointer (some ⟨b, 0, none⟩), .agg #[.int .i64 x, .int .i64 y]] w fun e w' => e = .returned (.bool (memB X Y bs x y)) ∧ Below w.heap.size w w' := by
  unfold memB
  cases hi : inB X Y x y
  · exact rhas_no b h X Y x y _ w hm hi
  · rw [Bool.true_and]
    obtain ⟨i0, i1⟩ := idx_lt hi
    have hN := mul_in hg.1
    rw [← fsOf_get (N := (X * Y).toNat) (bs := bs) (show (y * X + x).toNat < (X * Y).toNat by omega)]
    exact rhas_yes b h X Y x y _ w hm (by rw [fsOf_len, hN]) hi
end Go.Proofs.Ytgkeifjnnpcleaa
