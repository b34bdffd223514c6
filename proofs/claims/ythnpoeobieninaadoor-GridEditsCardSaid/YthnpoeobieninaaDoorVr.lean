/- An edit, whatever it is. -/
import Derived.Test.YthnpoeobieninaaDoorVq
namespace Go.Proofs.YthnpoeobieninaaDoor
open Go.RowKit

theorem turnF_self (X : Int) (xs : List Int) : turnF X xs xs = [] := List.eq_nil_of_length_eq_zero ((turnF_nil (X := X) rfl).2 rfl)
theorem Kept2.low {g h : Nat} {A B : World} (x : Below A.heap.size A B) : Kept2 g h A B := Kept2.of_below x
theorem edit_all (B g h cap : Nat) (X Y x y c : Int) (zs : List Int) (k : Int) (w : World) (m : GridAt w B g h cap X Y zs k) (hin : AllH zs) (hc : chkF X Y zs.length = 0) (hk0 : 0 ≤ k) (hk : k < 1000000) :
    Calls Tryd.prog 13 #[.pointer (some ⟨g, 0, none⟩), .agg #[.int .i64 x, .int .i64 y, .int .i64 c]] w fun e w' => ∃ (r q : Int) (zs2 : List Int) (k2 : Int), e = .returned (.tuple #[.int .i64 r, .int .i64 q]) ∧ zs2.length = zs.length ∧
      (turnF X zs zs2 = [] ∨ (turnF X zs zs2 = [(x, y)] ∧ q = 0)) ∧ GridAt w' B g h cap X Y zs2 k2 ∧ Kept2 g h w w' := by
  by_cases h1 : c < 0 ∨ 65535 < c
  · refine (edit_arg g x y c w h1).mono ?_
    rintro e w' ⟨rfl, hb⟩
    exact ⟨0, 1, zs, k, rfl, rfl, .inl (turnF_self X zs), m.below hb, Kept2.of_below hb⟩
  · cases h2 : inB X Y x y with
    | false =>
      refine (edit_no B g h cap X Y x y c zs k w m (by omega) (by omega) h2).mono ?_
      rintro e w' ⟨rfl, hb⟩
      exact ⟨0, 10, zs, k, rfl, rfl, .inl (turnF_self X zs), m.below hb, Kept2.of_below hb⟩
    | true =>
      obtain ⟨_, hn, _, _⟩ := chk_ok hc
      obtain ⟨i1, i2, i3, i4, i5, i6, i7, i8⟩ := inB_iff.1 h2
      have hy : 0 ≤ y * X := Int.mul_nonneg i7 (by omega)
      have hlt : y * X + x < zs.length := by
        have : (y + 1) * X ≤ Y * X := Int.mul_le_mul_of_nonneg_right (by omega) (by omega)
        rw [Int.add_mul, Int.one_mul] at this
        rw [hn, Int.mul_comm X Y]
        omega
      have hj : y * X + x = ((y * X + x).toNat : Int) := by omega
      generalize (y * X + x).toNat = j at hj
      have hl : j < zs.length := by omega
      have hx : (j : Int) % X = x := by
        rw [← hj, Int.add_comm, Int.add_mul_emod_self_right]
        exact Int.emod_eq_of_lt i5 i6
      have hd : (j : Int) / X = y := by
        rw [← hj, Int.add_comm, Int.add_mul_ediv_right _ _ (by omega), Int.ediv_eq_zero_of_lt i5 i6, Int.zero_add]
      refine (edit_yes B g h cap X Y x y c zs k w m (by omega) (by omega) h2 j hj hl (hin.at hl) hk0 hk).mono ?_
      rintro e w' ⟨rfl, hg, hb⟩
      refine ⟨_, _, _, _, rfl, List.length_set, ?_, hg, hb⟩
      rcases turnF_set (c := c) hl hx hd with e | e
      · exact .inl e
      · exact .inr ⟨e, rfl⟩
end Go.Proofs.YthnpoeobieninaaDoor
