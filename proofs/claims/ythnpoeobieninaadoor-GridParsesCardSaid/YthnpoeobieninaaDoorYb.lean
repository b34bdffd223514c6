/- The text of a field: what it is, and what Print's loops hold. -/
import Derived.Test.YthnpoeobieninaaDoorYa
import Derived.Test.YthnpoeobieninaaDoorVe
namespace Go.Proofs.YthnpoeobieninaaDoor
open Go.RowKit Go.Shelf

/-- A cost in a row: a blank ahead of all but the first one, and its digits. -/
def costT (x : Nat) (z : Int) : List UInt8 := (if x = 0 then [] else [32]) ++ Lib.decDigits z.toNat
/-- The first x costs of row number j, of rows that are k long. -/
def rowTo (k : Nat) (zs : List Int) (j x : Nat) : List UInt8 := (List.range x).flatMap (fun i => costT i (zs.getD (j * k + i) 0))
def rowT (k : Nat) (zs : List Int) (j : Nat) : List UInt8 := rowTo k zs j k ++ [10]
def textTo (k : Nat) (zs : List Int) (m : Nat) : List UInt8 := (List.range m).flatMap (rowT k zs)
theorem rowTo_zero (k : Nat) (zs : List Int) (j : Nat) : rowTo k zs j 0 = [] := rfl
theorem rowTo_succ (k : Nat) (zs : List Int) (j x : Nat) : rowTo k zs j (x + 1) = rowTo k zs j x ++ costT x (zs.getD (j * k + x) 0) := by simp [rowTo, List.range_succ]
theorem textTo_zero (k : Nat) (zs : List Int) : textTo k zs 0 = [] := rfl
theorem textTo_succ (k : Nat) (zs : List Int) (m : Nat) : textTo k zs (m + 1) = textTo k zs m ++ (rowTo k zs m k ++ [10]) := by simp [textTo, List.range_succ, rowT]
theorem getD_in {zs : List Int} (h : AllH zs) (i : Nat) : inH (zs.getD i 0) := by
  rw [List.getD_eq_getElem?_getD]
  cases he : zs[i]? with
  | none => exact ⟨Int.le_refl _, by show (0 : Int) ≤ 65535; omega⟩
  | some z => exact h z (List.mem_of_getElem? he)
theorem costT_len {z : Int} (x : Nat) (h : inH z) : (costT x z).length ≤ 6 := by
  have h1 := digits_lt 4 z.toNat (by have := h.2; omega)
  unfold costT
  rw [List.length_append]
  split
  · rw [List.length_nil]; omega
  · rw [List.length_singleton]; omega
theorem rowTo_len {zs : List Int} (h : AllH zs) (k j : Nat) : ∀ x, (rowTo k zs j x).length ≤ 6 * x
  | 0 => by simp [rowTo]
  | x + 1 => by
    have h1 := rowTo_len h k j x
    have h2 := costT_len x (getD_in h (j * k + x))
    rw [rowTo_succ, List.length_append]
    omega
theorem textTo_len {zs : List Int} (h : AllH zs) (k : Nat) : ∀ m, (textTo k zs m).length ≤ m * (6 * k + 1)
  | 0 => by simp [textTo]
  | m + 1 => by
    have h1 := textTo_len h k m
    have h2 := rowTo_len h k m k
    rw [textTo_succ, List.length_append, List.length_append, List.length_singleton, Nat.add_mul, Nat.one_mul]
    omega

theorem Tryd.infoU8 : (Tryd.prog.info? 5).map (fun i => (i.zero, i.size, i.bytes)) = some (some (.int .u8 0), 1, 1) := by kernel_rfl

/-- What the loops hold: the text so far, in the box tb, in a row of its own from block B on. -/
def PrintI (w1 : World) (B tb : Nat) (txt : List UInt8) (W : World) : Prop := Below tb w1 W ∧ B ≤ W.heap.size ∧ ∃ v, Boxed W tb 66 v ∧ W.ownsRow B 5 1 v txt.length (Lib.byteCells txt)
section
variable {w1 : World} {B tb : Nat} {txt : List UInt8}
theorem printI_grown {A C : World} {row : Option Nat} (h : PrintI w1 B tb txt A) (hg : A.grownBy C row) (hw : tb ≤ w1.heap.size) (hr : ∀ r, row = some r → tb < r ∧ ∀ cur, A.heap[r]? = some (.cells cur 5 (0, 0)) → B ≤ r → False) : PrintI w1 B tb txt C := by
  obtain ⟨hb, hz, v, hv, hrow⟩ := h
  refine ⟨hb.grown hg (Nat.le_trans hw hb.size) (fun r e => Nat.le_of_lt (hr r e).1), Nat.le_trans hz hg.size, v, hv.kept hg (fun e => ?_), hrow.kept hg ?_⟩
  · have h1 := (hr tb e.symm).1
    omega
  · rcases hrow.2 with ⟨rfl, _⟩ | ⟨g, cap, cur, rfl, hB, hgc, _⟩
    · exact .inl rfl
    · exact .inr fun e => (hr g (by simpa [Value.ownBlock] using e.symm)).2 cur hgc hB
theorem printI_below {A C : World} (h : PrintI w1 B tb txt A) (hb : Below A.heap.size A C) (hw : tb ≤ w1.heap.size) : PrintI w1 B tb txt C :=
  printI_grown h (grown_of_below hb) hw (fun r e => by cases e)
theorem printI_own {n₁ : Nat} (hn : B ≤ n₁) (htb : tb < B) (hw : tb ≤ w1.heap.size) {A C : World} {row : Option Nat} (h : PrintI w1 B tb txt A) (hg : A.grownBy C row) (hr : ∀ r, row = some r → n₁ ≤ r ∧ ∃ o : Obj, A.heap[r]? = some o ∧ o.isCells = false) : PrintI w1 B tb txt C :=
  printI_grown h hg hw (fun r e => by
    obtain ⟨h1, o, ho, hc⟩ := hr r e
    refine ⟨by omega, fun cur hcur _ => ?_⟩
    rw [hcur] at ho; cases ho; cases hc)
theorem printI_abp (htb : tb + 3 = B) (hw : tb ≤ w1.heap.size) {A C : World} {row : Option Nat} (h : PrintI w1 B tb txt A) (hg : A.grownBy C row) (hr : ∀ r, row = some r → tb + 1 ≤ r ∧ r < tb + 1 + 2 ∧ SameKind A C r) : PrintI w1 B tb txt C :=
  printI_grown h hg hw (fun r e => ⟨by have := (hr r e).1; omega, fun cur _ h1 => by have := (hr r e).2.1; omega⟩)
theorem printI_set {w5 : World} {v v' : Value} {more : List UInt8} (hv : Boxed w5 tb 66 v) (hown : w5.ownsRow B 5 1 v' (txt ++ more).length (Lib.byteCells (txt ++ more))) (hb : Below tb w1 w5) (hz : B ≤ w5.heap.size) : PrintI w1 B tb (txt ++ more) (w5.setCell ⟨tb, 0, none⟩ v') :=
  ⟨hb.setCell (p := ⟨tb, 0, none⟩) (Nat.le_refl _) _, by simpa using hz, v', hv.set v', hown.kept (grownBy_setCell' w5 tb v') (.inr (hv.not_row (by decide) hown).symm)⟩
/-- Behind an append. -/
theorem printI_app {W w5 : World} {tmp : Obj} {v v' : Value} {more : List UInt8} (htb : tb + 3 = B) (hw : tb ≤ w1.heap.size) (hb : Below tb w1 W) (hz : B ≤ W.heap.size) (hv : Boxed W tb 66 v) (hrow : W.ownsRow B 5 1 v txt.length (Lib.byteCells txt))
    (hown : w5.ownsRow B 5 1 v' (txt ++ more).length (Lib.byteCells (txt ++ more))) (hgrow : (W.alloc tmp).grownBy w5 v.ownBlock) :
    Boxed w5 tb 66 v ∧ PrintI w1 B tb (txt ++ more) (w5.setCell ⟨tb, 0, none⟩ v') ∧ (∀ n, KeepsFrom n W (w5.setCell ⟨tb, 0, none⟩ v')) ∧ KP (tb + 1) 2 W (w5.setCell ⟨tb, 0, none⟩ v') := by
  have hv5 : Boxed w5 tb 66 v := (hv.alloc tmp).kept hgrow (hv.not_row (by decide) hrow)
  have hsz := hgrow.size
  rw [World.size_alloc] at hsz
  have hlow : ∀ j, v.ownBlock = some j → B ≤ j := fun j e => (hrow.lt j e).1
  refine ⟨hv5, printI_set hv5 hown (((hb.alloc (Nat.le_trans hw hb.size) tmp)).grown hgrow (by rw [World.size_alloc]; have := hb.size; omega) (fun j e => by have := hlow j e; omega)) (by omega), fun n => ?_, ?_⟩
  · refine ((KeepsOthers.alloc W tmp).trans (KeepsOthers.of_grownBy hgrow fun j o ej hj => ?_)).trans (KeepsOthers.setCell _ _ _) |>.from n
    rcases (hrow.alloc tmp).2 with ⟨rfl, _⟩ | ⟨g, cap, cur, rfl, _, hgb, _⟩
    · simp [Value.ownBlock] at ej
    · obtain rfl : g = j := by simpa [Value.ownBlock] using ej
      rw [hgb] at hj; cases hj; rfl
  · refine ⟨by simp; omega, fun k h1 h2 => ?_⟩
    refine (Below.heap_setCell _ _ _ k (show k ≠ tb by omega)).trans ((hgrow.block k (by rw [World.size_alloc]; omega) (fun e => ?_)).trans (Below.heap_alloc _ _ _ (by omega)))
    have := hlow k e.symm
    omega
/-- Behind a call that appends. -/
theorem printI_call {W w5 : World} {v v' : Value} {more : List UInt8} (htb : tb + 3 = B) (hb : Below tb w1 W) (hz : B ≤ W.heap.size) (hv : Boxed W tb 66 v)
    (hown : w5.ownsRow B 5 1 v' (txt ++ more).length (Lib.byteCells (txt ++ more))) (hb5 : Below B W w5) (hk : Lib.OthersKept 5 none W w5) :
    Boxed w5 tb 66 v ∧ PrintI w1 B tb (txt ++ more) (w5.setCell ⟨tb, 0, none⟩ v') ∧ (∀ n, KeepsFrom n W (w5.setCell ⟨tb, 0, none⟩ v')) ∧ KP (tb + 1) 2 W (w5.setCell ⟨tb, 0, none⟩ v') := by
  have hv5 : Boxed w5 tb 66 v := (hb5.block tb (by omega)).trans hv
  have hsz := hb5.size
  refine ⟨hv5, printI_set hv5 hown (hb.trans (hb5.mono (by omega))) (by omega), fun n => ?_, ?_⟩
  · refine KeepsFrom.trans ⟨hsz, fun k o _ ho hc => hk k o ho (by simp) (fun c fz e => by rw [e] at hc; cases hc)⟩ (KeepsOthers.from (KeepsOthers.setCell _ _ _) n)
  · refine ⟨by simpa using hsz, fun k h1 h2 => ?_⟩
    exact (Below.heap_setCell _ _ _ k (show k ≠ tb by omega)).trans (hb5.block k (by omega))
end

set_option maxHeartbeats 1000000 in
theorem appendu_any (B n u : Nat) (hu : u ≤ 65535) (sv : Value) (xs : List Value) (w : World) (hown : w.ownsRow B 5 1 sv n xs) (hBw : B ≤ w.heap.size) (hlim : n + 20 ≤ 140737488355328) (hS : Sits w) :
    Calls Tryd.prog 31 #[sv, .int .u64 u, .int .i64 10] w fun e w' => ∃ v', e = .returned v' ∧ w'.ownsRow B 5 1 v' (n + (Lib.decDigits u).length) (xs ++ Lib.byteCells (Lib.decDigits u)) ∧ Below B w w' ∧ Lib.OthersKept 5 none w w' := by
  have key : Calls Tryd.prog 46 #[sv, .int .u64 u, .int .i64 10] w fun e w' => ∃ v', e = .returned v' ∧ w'.ownsRow B 5 1 v' (n + (Lib.decDigits u).length) (xs ++ Lib.byteCells (Lib.decDigits u)) ∧ Below B w w' ∧ Lib.OthersKept 5 none w w' := by
    by_cases h : u < 100
    · exact Tryd.internal_strconv_AppendUint_10_small B n u h sv xs w hown hBw hlim
    · exact Tryd.internal_strconv_AppendUint_10_big B n u (by omega) (by omega) sv xs w hown hBw hlim hS.1
  go_enter Tryd.func31, Tryd.ntmps31
  go_wp2_with fail
  refine key.mono ?_
  rintro e w1 ⟨v', rfl, h1, h2, h3⟩
  go_wp2
  go_ret
  exact ⟨_, rfl, h1, h2, h3⟩
end Go.Proofs.YthnpoeobieninaaDoor
