/- Sets as cells are put in and taken out: Has and Set by one contract each; rows of acts in memory. -/
import Derived.Test.YtgkeifjnnpcleaaJu
import Derived.Test.YtgkeifjnnpcleaaJe
import Derived.Test.YtgkeifjnnpcleaaJn
import Derived.Test.YtgkeifjnnpcleaaJo
import Derived.Test.YtgkeifjnnpcleaaJp
import Derived.Test.YtgkeifjnnpcleaaKo
namespace Go.Proofs.Ytgkeifjnnpcleaa
open Go.RowKit

/-- Is the cell in the set? -/
def memB (X Y : Int) (bs : List Nat) (x y : Int) : Bool := inB X Y x y && bitAt bs (y * X + x).toNat
def setM (X Y : Int) (bs : List Nat) (x y : Int) (v : Bool) : List Nat := if inB X Y x y = true then setB bs (y * X + x).toNat v else bs
def setE (X Y : Int) (x y : Int) : Int := if inB X Y x y = true then 0 else 10
theorem setE_yes {X Y x y : Int} (h : inB X Y x y = true) : setE X Y x y = 0 := if_pos h
theorem setM_good {X Y : Int} {bs : List Nat} (g : Good X Y bs) (x y : Int) (v : Bool) : Good X Y (setM X Y bs x y v) := by
  unfold setM
  split
  · exact g.set (by assumption) v
  · exact g
theorem idx_inj {X Y x y x2 y2 : Int} (h : inB X Y x y = true) (h2 : inB X Y x2 y2 = true) (he : (y * X + x).toNat = (y2 * X + x2).toNat) : x = x2 ∧ y = y2 := by
  obtain ⟨a1, a2⟩ := idx_lt h
  obtain ⟨b1, b2⟩ := idx_lt h2
  obtain ⟨_, _, _, _, h5, h6, h7, h8⟩ := inB_iff.1 h
  obtain ⟨_, _, _, _, k5, k6, k7, k8⟩ := inB_iff.1 h2
  have e : y * X + x = y2 * X + x2 := by omega
  have m1 : (y * X + x) % X = x := by rw [Int.add_comm, Int.add_mul_emod_self_right]; exact Int.emod_eq_of_lt h5 h6
  have m2 : (y2 * X + x2) % X = x2 := by rw [Int.add_comm, Int.add_mul_emod_self_right]; exact Int.emod_eq_of_lt k5 k6
  have hx : x = x2 := by rw [← m1, e, m2]
  refine ⟨hx, ?_⟩
  subst hx
  have : y * X = y2 * X := by omega
  exact Int.eq_of_mul_eq_mul_right (by omega) this
theorem memB_set {X Y : Int} {bs : List Nat} (g : Good X Y bs) (x y : Int) (v : Bool) (P Q : Int) : memB X Y (setM X Y bs x y v) P Q = if x = P ∧ y = Q ∧ inB X Y P Q = true then v else memB X Y bs P Q := by
  unfold memB setM
  by_cases h : inB X Y x y = true
  · rw [if_pos h]
    by_cases h2 : inB X Y P Q = true
    · rw [h2, Bool.true_and, Bool.true_and, bitAt_setB _ _ _ (g.idx h)]
      by_cases e : x = P ∧ y = Q
      · obtain ⟨rfl, rfl⟩ := e
        rw [if_pos rfl, if_pos ⟨rfl, rfl, rfl⟩]
      · rw [if_neg (fun he => e (by have := idx_inj h2 h he; exact ⟨this.1.symm, this.2.symm⟩)), if_neg (fun he => e ⟨he.1, he.2.1⟩)]
    · rw [Bool.not_eq_true] at h2
      rw [h2]
      simp
  · rw [if_neg h, if_neg (fun he => h (by rw [he.1, he.2.1]; exact he.2.2))]
theorem memB_zero (X Y P Q : Int) (n : Nat) : memB X Y (List.replicate n 0) P Q = false := by
  unfold memB bitAt
  rw [List.getD_eq_getElem?_getD, List.getElem?_replicate]
  split <;> simp

theorem has_mem (b h : Nat) (X Y x y : Int) (bs : List Nat) (w : World) (hm : MaskAt w b h X Y bs) (hg : Good X Y bs) :
    Calls Try.prog 16 #[.pointer (some ⟨b, 0, none⟩), .agg #[.int .i64 x, .int .i64 y]] w fun e w' => e = .returned (.bool (memB X Y bs x y)) ∧ Below w.heap.size w w' := by
  unfold memB
  cases hi : inB X Y x y
  · exact has_no b h X Y x y bs w hm hi
  · rw [Bool.true_and]
    exact has_yes b h X Y x y bs w hm hg hi
theorem set_all (b h : Nat) (X Y x y : Int) (bs : List Nat) (v : Bool) (w : World) (hm : MaskAt w b h X Y bs) (hg : Good X Y bs) (hne : b ≠ h) :
    Calls Try.prog 14 #[.pointer (some ⟨b, 0, none⟩), .agg #[.int .i64 x, .int .i64 y], .bool v] w fun e w' => e = .returned (.int .i64 (setE X Y x y)) ∧ MaskAt w' b h X Y (setM X Y bs x y v) ∧ w.grownBy w' (some h) := by
  cases hi : inB X Y x y
  · have h1 : ¬ inB X Y x y = true := by rw [hi]; simp
    rw [show setE X Y x y = 10 from if_neg h1, show setM X Y bs x y v = bs from if_neg h1]
    exact (set_no b h X Y x y bs v w hm hi).mono fun _ _ ⟨e1, e2⟩ => ⟨e1, hm.below e2, grown_weak (grown_of_below e2) _⟩
  · rw [show setE X Y x y = 0 from if_pos hi, show setM X Y bs x y v = setB bs (y * X + x).toNat v from if_pos hi]
    exact set_yes b h X Y x y bs v w hm hg hne hi

/-- A row of acts in memory. -/
def ActsC (W : World) (a : Option Addr) (ls : List ((Int × Int) × Bool)) : Prop :=
  ls = [] ∨ ∃ b o, a = some ⟨b, o, none⟩ ∧ ∀ i t, ls[i]? = some t → W.cell? ⟨b, o + i * 3, none⟩ = some (.int .i64 t.1.1) ∧ W.cell? ⟨b, o + i * 3 + 1, none⟩ = some (.int .i64 t.1.2) ∧ W.cell? ⟨b, o + i * 3 + 2, none⟩ = some (.bool t.2)
theorem ActsC.below {W W' : World} {a : Option Addr} {ls : List ((Int × Int) × Bool)} (h : ActsC W a ls) (hb : Below W.heap.size W W') : ActsC W' a ls := by
  rcases h with h | ⟨b, o, h1, h2⟩
  · exact .inl h
  · exact .inr ⟨b, o, h1, fun i z hz => ⟨cell_later hb (h2 i z hz).1, cell_later hb (h2 i z hz).2.1, cell_later hb (h2 i z hz).2.2⟩⟩
/-- The set behind acts. -/
def actsM (X Y : Int) (bs : List Nat) (ls : List ((Int × Int) × Bool)) : List Nat := ls.foldl (fun bs a => setM X Y bs a.1.1 a.1.2 a.2) bs
theorem actsM_succ (X Y : Int) (bs : List Nat) (ls : List ((Int × Int) × Bool)) (k : Nat) (hk : k < ls.length) : actsM X Y bs (ls.take (k + 1)) = setM X Y (actsM X Y bs (ls.take k)) ls[k].1.1 ls[k].1.2 ls[k].2 := by
  unfold actsM
  rw [List.take_succ_eq_append_getElem hk, List.foldl_append]
  rfl
theorem actsM_good {X Y : Int} {bs : List Nat} (g : Good X Y bs) : ∀ ls, Good X Y (actsM X Y bs ls) := by
  intro ls
  induction ls generalizing bs with
  | nil => exact g
  | cons a ls ih => exact ih (setM_good g _ _ _)
theorem memB_in {X Y P Q : Int} {bs : List Nat} (h : inB X Y P Q = false) : memB X Y bs P Q = false := by unfold memB; rw [h]; rfl

/-- A cell that is told is in the set, and all of the set are told, by rising numbers. -/
theorem cellsM_at {X Y : Int} {bs : List Nat} (hg : Good X Y bs) {k : Nat} {c : Int × Int} (h : (cellsM X Y bs)[k]? = some c) : inB X Y c.1 c.2 = true ∧ memB X Y bs c.1 c.2 = true ∧ (numsOf bs)[k]? = some (c.2 * X + c.1) := by
  simp only [cellsM, List.getElem?_map, Option.map_eq_some_iff] at h
  obtain ⟨i, hi, rfl⟩ := h
  have hmem := List.mem_of_getElem? hi
  obtain ⟨e1, e2⟩ := num_of_cell hg hmem
  refine ⟨e2, ?_, by rw [e1]; exact hi⟩
  unfold memB
  rw [e2, e1, Bool.true_and]
  exact ((mem_nums bs i).1 hmem).2
theorem cellsM_mem {X Y : Int} {bs : List Nat} (hg : Good X Y bs) (P Q : Int) : (P, Q) ∈ cellsM X Y bs ↔ memB X Y bs P Q = true := by
  constructor
  · intro h
    obtain ⟨k, hk⟩ := List.getElem?_of_mem h
    exact (cellsM_at hg hk).2.1
  · intro h
    unfold memB at h
    rw [Bool.and_eq_true] at h
    have i0 := (idx_lt h.1).1
    have hm : (Q * X + P) ∈ numsOf bs := (mem_nums bs _).2 ⟨i0, h.2⟩
    obtain ⟨e1, e2⟩ := num_of_cell hg hm
    have := idx_inj e2 h.1 (by rw [e1])
    simp only [cellsM, List.mem_map]
    exact ⟨_, hm, Prod.ext this.1 this.2⟩
theorem nums_rise {bs : List Nat} {j k : Nat} {x y : Int} (hjk : j < k) (hx : (numsOf bs)[j]? = some x) (hy : (numsOf bs)[k]? = some y) : x < y := by
  have h := nums_sorted bs
  rw [List.pairwise_iff_getElem] at h
  obtain ⟨a, rfl⟩ := List.getElem?_eq_some_iff.1 hx
  obtain ⟨b, rfl⟩ := List.getElem?_eq_some_iff.1 hy
  exact h j k a b hjk
/-- A small map has no more than 576 cells. -/
theorem cellsM_small {X Y : Int} {bs : List Nat} (hg : Good X Y bs) (hs : smallB X Y = true) : (cellsM X Y bs).length ≤ 584 := by
  rw [cellsM_len X Y bs hg.2.2.1]
  have h1 := ones_le bs hg.2.2.1
  have h2 := hg.2.1
  obtain ⟨m1, m2, m3, m4⟩ := mayB_iff.1 hg.1
  simp only [smallB, hg.1, Bool.not_true, Bool.false_or, Bool.and_eq_true, decide_eq_true_eq] at hs
  have a : X * Y ≤ 24 * Y := Int.mul_le_mul_of_nonneg_right hs.1 (by omega)
  have := bs.length
  omega
end Go.Proofs.Ytgkeifjnnpcleaa
