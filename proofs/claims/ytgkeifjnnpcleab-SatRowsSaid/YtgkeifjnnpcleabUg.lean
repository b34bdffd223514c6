/- Rows of costs that grow; the reference's Join. -/
import Derived.Test.YtgkeifjnnpcleabUf
namespace Go.Proofs.Ytgkeifjnnpcleab
open Go.RowKit

def cellsU (zs : List Int) : List Value := zs.map (Value.int .u64)
theorem cellsU_snoc (zs : List Int) (z : Int) : cellsU (zs ++ [z]) = cellsU zs ++ [.int .u64 z] := by simp [cellsU]
theorem own_later {w w' : World} {B : Nat} {e : TypeId} {size : Nat} {v : Value} {n : Nat} {xs : List Value} (h : w.ownsRow B e size v n xs) (hb : Below w.heap.size w w') : w'.ownsRow B e size v n xs := by
  refine ⟨h.1, ?_⟩
  rcases h.2 with h | ⟨g, cap, cur, h1, h2, h3, h4⟩
  · exact .inl h
  · exact .inr ⟨g, cap, cur, h1, h2, (hb.block g (Array.getElem?_eq_some_iff.1 h3).1).trans h3, h4⟩
theorem own_empty {w : World} {B : Nat} (t : TypeId) (hB : B ≤ w.heap.size) : (w.alloc (.cells #[] t)).ownsRow B t 1 (.slice (some ⟨w.heap.size, 0, none⟩) 0 0) 0 [] :=
  ⟨rfl, .inr ⟨w.heap.size, 0, #[], rfl, hB, heap_alloc_new w _, Nat.le_refl _, Nat.zero_le _, rfl, rfl⟩⟩
theorem cell_one_new (w : World) (a : Value) (t : TypeId) : ∀ j u, [a][j]? = some u → (w.alloc (.cells #[a] t)).cell? ((⟨w.heap.size, 0, none⟩ : Addr).add j) = some u := by
  intro j u hj
  match j, hj with
  | 0, hj => simp at hj; subst hj; simp [Addr.add]
theorem rowU_of_own {w : World} {base : Nat} {v : Value} {zs : List Int} (h : w.ownsRow base 23 1 v zs.length (cellsU zs)) : ∃ a cap, v = .slice a zs.length cap ∧ RowU w a zs := by
  have hown := h
  rcases h.2 with ⟨rfl, h0⟩ | ⟨g, cap, cur, rfl, hb, hg, _⟩
  · refine ⟨none, 0, by rw [h0], .inl (List.eq_nil_of_length_eq_zero h0)⟩
  · refine ⟨_, cap, rfl, .inr ⟨g, 0, rfl, fun i z hz => ?_⟩⟩
    have hadd : ∀ j, (⟨g, 0, none⟩ : Addr).add j = ⟨g, j, none⟩ := fun j => by unfold Addr.add; split <;> simp_all
    have a0 := hown.cells (g := g) rfl i (.int .u64 z) (by simp [cellsU, hz])
    rw [hadd] at a0
    rw [Nat.zero_add]
    exact a0
theorem joinC_take {xs ys : List Int} {k : Nat} (hx : k < xs.length) (hy : k < ys.length) : joinC (xs.take (k + 1)) (ys.take (k + 1)) = joinC (xs.take k) (ys.take k) ++ [minC xs[k] ys[k]] := by
  unfold joinC
  rw [List.take_succ_eq_append_getElem hx, List.take_succ_eq_append_getElem hy, List.zipWith_append (by simp; omega)]
  rfl

set_option maxHeartbeats 1600000 in
theorem rjoin_yes (a a2 : Option Addr) (c c2 : Nat) (xs ys : List Int) (w : World) (hl : xs.length ≤ 1048576) (he : xs.length = ys.length) (hr : RowU w a xs) (hr2 : RowU w a2 ys) :
    Calls Try.prog 19 #[.slice a xs.length c, .slice a2 ys.length c2] w fun e w' => ∃ b cap, e = .returned (.tuple #[.slice b (joinC xs ys).length cap, .int .i64 0]) ∧ RowU w' b (joinC xs ys) ∧ Below w.heap.size w w' := by
  obtain ⟨i0, hi, hz0, hz1, hz2⟩ := info_parts Try.infoU64
  have hl2 : (xs.length : Int) ≤ 1048576 := by omega
  have h1 : ((xs.length : Int) != (xs.length : Int)) = false := bne_self_eq_false _
  have HE := Lib.hid he
  rw [← he]
  clear he
  have hA := bl_al (bl0 w) (.cells #[] 23)
  have hown0 := own_empty (w := w) (B := w.heap.size) 23 (Nat.le_refl _)
  have HO := Lib.hid hown0
  clear hown0
  go_enter Try.func19, Try.ntmps19
  go_wp2
  go_loopw [6, 7] (fun v i wr => ∃ k : Nat, k ≤ xs.length ∧ i = .int .i64 k ∧ wr.ownsRow w.heap.size 23 1 v k (cellsU (joinC (xs.take k) (ys.take k))) ∧ Below w.heap.size w wr) (fun _ i _ => xs.length - (intOf i).toNat)
  case atStart => exact ⟨0, Nat.zero_le _, rfl, HO.out, hA⟩
  case round =>
    obtain ⟨k, hk, rfl, hown, hB⟩ := hrel
    clear hA HO
    by_cases hlt : k < xs.length
    · have hlt2 : (k : Int) < (xs.length : Int) := by omega
      have hk0 : (0 : Int) ≤ (k : Int) := by omega
      have hlty : k < ys.length := by rw [← HE.out]; exact hlt
      obtain ⟨gb, go, rfl, q⟩ := hr.cell hlt
      obtain ⟨gb2, go2, rfl, q2⟩ := hr2.cell hlty
      replace q := cell_later hB q
      replace q2 := cell_later hB q2
      have HJ := Lib.hid (joinC_take hlt hlty)
      clear hr hr2
      generalize xs[k] = x at *
      generalize ys[k] = y at *
      by_cases hc : x < y
      · have HM := Lib.hid (show minC x y = x by unfold minC; rw [if_neg (by omega)])
        go_wp2
        go_quiet (fail)
        obtain ⟨W2, hW2⟩ : ∃ W2, wr.drewN nq = W2 := ⟨_, rfl⟩
        have hA2 : Below wr.heap.size wr W2 := by rw [← hW2]; exact bl_drn wr nq
        rw [hW2]
        clear hW2
        replace hB := bl_tr hB hA2
        replace hown := own_later hown hA2
        replace q := cell_later hA2 q
        replace q2 := cell_later hA2 q2
        clear hA2
        go_wp2_with (at_builtin; refine wpList_append_own _ rfl _ _ 22 rfl w.heap.size 23 i0 (.int .u64 0) 1 8 Try.underlying22 hi hz0 hz1 hz2 rfl (by decide) _ _ _ rfl (hown.alloc _) ⟨W2.heap.size, 0, none⟩ 1 1 [.int .u64 x] rfl rfl ?c1 ?c2 ?c3 ?c4 ?c5 ?_)
        case c1 => exact cell_one_new _ _ _
        case c2 => intro u hu; simp at hu; rcases hu with rfl; rfl
        case c3 => unfold maxLen; omega
        case c4 => omega
        case c5 => (have := hB.size; first | (simp; omega) | omega)
        intro v' w1 hown' hgrow _
        have hB1 : Below w.heap.size w w1 := (bl_al hB _).grown hgrow (by have := hB.size; simp; omega) (fun j hj => by have := (hown.lt j hj).1; omega)
        rw [← cellsU_snoc] at hown'
        rw [← HM.out, ← HJ.out] at hown'
        clear hgrow hown hB q q2
        go_wp2
        go_roundw
        case rel => exact ⟨k + 1, by omega, by go_num, hown', hB1⟩
        case measure => simp [intOf]; omega
      · have HM := Lib.hid (show minC x y = y by unfold minC; split <;> omega)
        go_wp2
        go_quiet (fail)
        obtain ⟨W2, hW2⟩ : ∃ W2, wr.drewN nq = W2 := ⟨_, rfl⟩
        have hA2 : Below wr.heap.size wr W2 := by rw [← hW2]; exact bl_drn wr nq
        rw [hW2]
        clear hW2
        replace hB := bl_tr hB hA2
        replace hown := own_later hown hA2
        replace q := cell_later hA2 q
        replace q2 := cell_later hA2 q2
        clear hA2
        go_wp2_with (at_builtin; refine wpList_append_own _ rfl _ _ 22 rfl w.heap.size 23 i0 (.int .u64 0) 1 8 Try.underlying22 hi hz0 hz1 hz2 rfl (by decide) _ _ _ rfl (hown.alloc _) ⟨W2.heap.size, 0, none⟩ 1 1 [.int .u64 y] rfl rfl ?c1 ?c2 ?c3 ?c4 ?c5 ?_)
        case c1 => exact cell_one_new _ _ _
        case c2 => intro u hu; simp at hu; rcases hu with rfl; rfl
        case c3 => unfold maxLen; omega
        case c4 => omega
        case c5 => (have := hB.size; first | (simp; omega) | omega)
        intro v' w1 hown' hgrow _
        have hB1 : Below w.heap.size w w1 := (bl_al hB _).grown hgrow (by have := hB.size; simp; omega) (fun j hj => by have := (hown.lt j hj).1; omega)
        rw [← cellsU_snoc] at hown'
        rw [← HM.out, ← HJ.out] at hown'
        clear hgrow hown hB q q2
        go_wp2
        go_roundw
        case rel => exact ⟨k + 1, by omega, by go_num, hown', hB1⟩
        case measure => simp [intOf]; omega
    · obtain rfl : k = xs.length := by omega
      have hge : (xs.length : Int) ≤ (xs.length : Int) := by omega
      have HT := Lib.hid (show joinC (xs.take xs.length) (ys.take xs.length) = joinC xs ys by rw [List.take_length, List.take_of_length_le (by rw [HE.out]; exact Nat.le_refl _)])
      have HL := Lib.hid (show (joinC xs ys).length = xs.length by rw [joinC_len]; have := HE.out; omega)
      have HW := Lib.hid hown
      clear hown
      go_wp2
      go_ret2
      have hown := HW.out
      rw [HT.out] at hown
      rw [← HL.out] at hown
      obtain ⟨b, cap, rfl, hrow⟩ := rowU_of_own hown
      exact ⟨b, cap, rfl, hrow, hB⟩

set_option maxHeartbeats 800000 in
theorem rjoin_no (a a2 : Option Addr) (c c2 : Nat) (n m : Nat) (w : World) (he : n ≠ m) :
    Calls Try.prog 19 #[.slice a n c, .slice a2 m c2] w fun e w' => e = .returned (.tuple #[.slice none 0 0, .int .i64 12]) ∧ Below w.heap.size w w' := by
  have h1 : ((n : Int) != (m : Int)) = true := by rw [bne_iff_ne]; omega
  have h2 : ((n : Int) == (m : Int)) = false := by rw [beq_eq_false_iff_ne]; omega
  clear he
  go_enter Try.func19, Try.ntmps19
  go_wp2
  go_ret2
  exact ⟨rfl, bl0 w⟩
end Go.Proofs.Ytgkeifjnnpcleab
