/- Sets: the same contracts, their answers as numbers and truths that are named. -/
import Derived.Test.YtgkeifjnnpcleaaKn
import Derived.Test.YtgkeifjnnpcleaaKj
namespace Go.Proofs.Ytgkeifjnnpcleaa
open Go.RowKit

theorem count_as (n : Int) (b h : Nat) (X Y : Int) (bs : List Nat) (w : World) (hm : MaskAt w b h X Y bs) (g : Good X Y bs) (hn : ((ones bs : Nat) : Int) = n) :
    Calls Try.prog 19 #[.pointer (some ⟨b, 0, none⟩)] w fun e w' => e = .returned (.int .i64 n) ∧ w = w' := by
  subst hn; exact count_any b h X Y bs w hm g.2.2.1 g.small
theorem add_as (n : Int) (b h b2 h2 : Nat) (X Y : Int) (cs ds : List Nat) (w : World) (hm : MaskAt w b h X Y cs) (hm2 : MaskAt w b2 h2 X Y ds) (gc : Good X Y cs) (gd : Good X Y ds) (n1 : b ≠ h) (n2 : b2 ≠ h) (n3 : h2 ≠ h)
    (hn : ((turnK (fun a b => a ||| b) cs ds cs.length : Nat) : Int) = n) :
    Calls Try.prog 31 #[.pointer (some ⟨b, 0, none⟩), .pointer (some ⟨b2, 0, none⟩)] w fun e w' => e = .returned (.tuple #[.int .i64 n, .int .i64 0]) ∧ MaskAt w' b h X Y (joinB (fun a b => a ||| b) cs ds) ∧ w.grownBy w' (some h) := by
  subst hn; exact add_any b h b2 h2 X Y cs ds w hm hm2 gc gd n1 n2 n3
theorem keep_as (n : Int) (b h b2 h2 : Nat) (X Y : Int) (cs ds : List Nat) (w : World) (hm : MaskAt w b h X Y cs) (hm2 : MaskAt w b2 h2 X Y ds) (gc : Good X Y cs) (gd : Good X Y ds) (n1 : b ≠ h) (n2 : b2 ≠ h) (n3 : h2 ≠ h)
    (hn : ((turnK (fun a b => a &&& b) cs ds cs.length : Nat) : Int) = n) :
    Calls Try.prog 32 #[.pointer (some ⟨b, 0, none⟩), .pointer (some ⟨b2, 0, none⟩)] w fun e w' => e = .returned (.tuple #[.int .i64 n, .int .i64 0]) ∧ MaskAt w' b h X Y (joinB (fun a b => a &&& b) cs ds) ∧ w.grownBy w' (some h) := by
  subst hn; exact keep_any b h b2 h2 X Y cs ds w hm hm2 gc gd n1 n2 n3

/-- Whether a cell is in a set. -/
def hasV (X Y : Int) (bs : List Nat) (x y : Int) : Bool := inB X Y x y && bitAt bs (y * X + x).toNat
theorem has_as (v : Bool) (b h : Nat) (X Y x y : Int) (bs : List Nat) (w : World) (hm : MaskAt w b h X Y bs) (hg : Good X Y bs) (hv : hasV X Y bs x y = v) :
    Calls Try.prog 16 #[.pointer (some ⟨b, 0, none⟩), .agg #[.int .i64 x, .int .i64 y]] w fun e w' => e = .returned (.bool v) ∧ Below w.heap.size w w' := by
  subst hv
  cases hi : inB X Y x y
  · have := has_no b h X Y x y bs w hm hi
    simpa [hasV, hi] using this
  · have := has_yes b h X Y x y bs w hm hg hi
    simpa [hasV, hi] using this
theorem hasV_or {X Y : Int} {cs ds : List Nat} (gc : Good X Y cs) (gd : Good X Y ds) (x y : Int) : hasV X Y (joinB (fun a b => a ||| b) cs ds) x y = (hasV X Y cs x y || hasV X Y ds x y) := by
  unfold hasV
  rw [bitAt_or (gc.len gd)]
  cases inB X Y x y <;> simp
theorem hasV_and {X Y : Int} {cs ds : List Nat} (gc : Good X Y cs) (gd : Good X Y ds) (x y : Int) : hasV X Y (joinB (fun a b => a &&& b) cs ds) x y = (hasV X Y cs x y && hasV X Y ds x y) := by
  unfold hasV
  rw [bitAt_and (gc.len gd)]
  cases inB X Y x y <;> simp
theorem same_yes (b h b2 h2 : Nat) (X Y : Int) (cs ds : List Nat) (w : World) (hm : MaskAt w b h X Y cs) (hm2 : MaskAt w b2 h2 X Y ds) (hc : Good X Y cs) (hd : Good X Y ds) (he : cs = ds) :
    Calls Try.prog 33 #[.pointer (some ⟨b, 0, none⟩), .pointer (some ⟨b2, 0, none⟩)] w fun e w' => e = .returned (.bool true) ∧ Below w.heap.size w w' := by
  have := same_any b h b2 h2 X Y cs ds w hm hm2 hc.2.2.1 hd.2.2.1
  rw [decide_eq_true he] at this
  exact this

theorem le_cast (s l : Nat) (h1 : s ≤ 8 * l) (h2 : l ≤ 65536) : (s : Int) ≤ 600000 := by omega
theorem ones_bound {X Y : Int} {bs : List Nat} (g : Good X Y bs) : ((ones bs : Nat) : Int) ≤ 600000 := by
  have h1 := ones_le bs g.2.2.1
  have h2 := g.small
  exact le_cast _ _ h1 h2
theorem arith_joins (so bo ca cb n k : Nat) (h1 : so = ca + n) (h2 : ca = bo + k) (h3 : so + bo = ca + cb) (b1 : (so : Int) ≤ 600000) (b2 : (ca : Int) ≤ 600000) (b3 : (cb : Int) ≤ 600000) :
    ∃ so' bo' ca' cb' n' k' : Int, ((so : Nat) : Int) = so' ∧ ((bo : Nat) : Int) = bo' ∧ ((ca : Nat) : Int) = ca' ∧ ((cb : Nat) : Int) = cb' ∧ ((n : Nat) : Int) = n' ∧ ((k : Nat) : Int) = k' ∧
      (0 ≤ so' ∧ so' ≤ 600000) ∧ (0 ≤ bo' ∧ bo' ≤ 600000) ∧ (0 ≤ ca' ∧ ca' ≤ 600000) ∧ (0 ≤ cb' ∧ cb' ≤ 600000) ∧ (0 ≤ n' ∧ n' ≤ 600000) ∧ (0 ≤ k' ∧ k' ≤ 600000) ∧ so' = ca' + n' ∧ bo' = ca' - k' ∧ so' + bo' = ca' + cb' :=
  ⟨_, _, _, _, _, _, rfl, rfl, rfl, rfl, rfl, rfl, by omega, by omega, by omega, by omega, by omega, by omega, by omega, by omega, by omega⟩
/-- The numbers of two sets, and of what is joined and kept. -/
theorem joins_numbers {X Y : Int} {cs ds : List Nat} (gc : Good X Y cs) (gd : Good X Y ds) :
    ∃ so bo ca cb n k : Int, ((ones (joinB (fun a b => a ||| b) cs ds) : Nat) : Int) = so ∧ ((ones (joinB (fun a b => a &&& b) cs ds) : Nat) : Int) = bo ∧ ((ones cs : Nat) : Int) = ca ∧ ((ones ds : Nat) : Int) = cb ∧
      ((turnK (fun a b => a ||| b) cs ds cs.length : Nat) : Int) = n ∧ ((turnK (fun a b => a &&& b) cs ds cs.length : Nat) : Int) = k ∧
      (0 ≤ so ∧ so ≤ 600000) ∧ (0 ≤ bo ∧ bo ≤ 600000) ∧ (0 ≤ ca ∧ ca ≤ 600000) ∧ (0 ≤ cb ∧ cb ≤ 600000) ∧ (0 ≤ n ∧ n ≤ 600000) ∧ (0 ≤ k ∧ k ≤ 600000) ∧ so = ca + n ∧ bo = ca - k ∧ so + bo = ca + cb := by
  have hl := gc.len gd
  rw [turnK_full _ hl, turnK_full _ hl]
  exact arith_joins _ _ _ _ _ _ (join_or cs ds hl gc.2.2.1 gd.2.2.1) (join_and cs ds hl gc.2.2.1 gd.2.2.1) (join_sum cs ds hl gc.2.2.1 gd.2.2.1) (ones_bound (gc.or gd)) (ones_bound gc) (ones_bound gd)
theorem orand (a b : Nat) : (a ||| b) ||| (a &&& b) = a ||| b := by
  apply Nat.eq_of_testBit_eq
  intro j
  rw [Nat.testBit_or, Nat.testBit_or, Nat.testBit_and]
  cases a.testBit j <;> cases b.testBit j <;> rfl
theorem or_and_b (cs ds : List Nat) : joinB (fun a b => a ||| b) (joinB (fun a b => a ||| b) cs ds) (joinB (fun a b => a &&& b) cs ds) = joinB (fun a b => a ||| b) cs ds :=
  jext (by simp [joinB]) fun i _ _ => by
    simp only [joinB, List.getElem_zipWith]
    exact orand _ _
theorem again_none {X Y : Int} {cs ds : List Nat} (gc : Good X Y cs) (gd : Good X Y ds) :
    ((turnK (fun a b => a ||| b) (joinB (fun a b => a ||| b) cs ds) (joinB (fun a b => a &&& b) cs ds) (joinB (fun a b => a ||| b) cs ds).length : Nat) : Int) = 0 := by
  have go := gc.or gd
  have ga := gc.and gd
  have h := join_or _ _ (go.len ga) go.2.2.1 ga.2.2.1
  rw [or_and_b cs ds] at h
  rw [turnK_full _ (go.len ga)]
  exact Int.ofNat_eq_zero.2 (Nat.left_eq_add.1 h)
theorem MaskAt.row {W W' : World} {b h g : Nat} {X Y : Int} {bs : List Nat} (m : MaskAt W b h X Y bs) (hg : W.grownBy W' (some g)) (h1 : b ≠ g) (h2 : h ≠ g) : MaskAt W' b h X Y bs :=
  m.kept hg (fun e => h1 (Option.some.inj e)) (fun e => h2 (Option.some.inj e))
/-- The set of the cells of a row that are on the map. -/
def setOf (A B : Int) (zs : List (Int × Int)) : List Nat := setAll A (List.replicate ((A * B + 7) / 8).toNat 0) (onMap A B zs)
theorem onMap_in (A B : Int) (zs : List (Int × Int)) : ∀ z ∈ onMap A B zs, inB A B z.1 z.2 = true := fun _ hz => (List.mem_filter.1 hz).2
theorem setOf_good {A B : Int} (h : mayB A B = true) (zs : List (Int × Int)) : Good A B (setOf A B zs) := (good_zero h).setAll _ (onMap_in A B zs)
end Go.Proofs.Ytgkeifjnnpcleaa
