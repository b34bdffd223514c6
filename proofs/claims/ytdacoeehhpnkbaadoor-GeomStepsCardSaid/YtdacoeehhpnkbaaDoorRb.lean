/- The reference's list of all cells of a map: its contract. -/
import Derived.Test.YtdacoeehhpnkbaaDoorRa
import Derived.Deep.LoopGhost
import Derived.Lib.Hide
namespace Go.Proofs.YtdacoeehhpnkbaaDoor
open Go.RowKit

def cellAt (W j : Nat) : List Value := [.int .i64 ((j % W : Nat) : Int), .int .i64 ((j / W : Nat) : Int)]
def flat (W n : Nat) : List Value := (List.range n).flatMap (cellAt W)
theorem flat_zero (W : Nat) : flat W 0 = [] := rfl
theorem flat_succ (W n : Nat) : flat W (n + 1) = flat W n ++ cellAt W n := by
  simp [flat, List.range_succ, List.flatMap_append]
theorem flat_len (W n : Nat) : (flat W n).length = n * 2 := by
  induction n with
  | zero => rfl
  | succ n ih => rw [flat_succ, List.length_append, ih]; simp [cellAt]; omega
theorem cellAt_of {W x y : Nat} (h : x < W) : cellAt W (y * W + x) = [.int .i64 (x : Int), .int .i64 (y : Int)] := by
  have e1 : (y * W + x) % W = x := by rw [Nat.add_comm, Nat.add_mul_mod_self_right, Nat.mod_eq_of_lt h]
  have e2 : (y * W + x) / W = y := by rw [Nat.add_comm, Nat.add_mul_div_right _ _ (by omega), Nat.div_eq_of_lt h, Nat.zero_add]
  simp [cellAt, e1, e2]
theorem flat_step {W x y : Nat} (h : x < W) : flat W (y * W + x) ++ [.int .i64 (x : Int), .int .i64 (y : Int)] = flat W (y * W + x + 1) := by
  rw [flat_succ, cellAt_of h]

theorem Tryd.infoCell : (Tryd.prog.info? 25).map (fun i => (i.zero, i.size, i.bytes)) = some (some (.agg #[.int .i64 0, .int .i64 0]), 2, 16) := by kernel_rfl

theorem own_base {w : World} {B B' : Nat} {e : TypeId} {size : Nat} {v : Value} {n : Nat} {xs : List Value} (h : w.ownsRow B e size v n xs) (hB : B' ≤ B) : w.ownsRow B' e size v n xs := by
  refine ⟨h.1, ?_⟩
  rcases h.2 with h | ⟨g, cap, cur, h1, h2, h3⟩
  · exact .inl h
  · exact .inr ⟨g, cap, cur, h1, Nat.le_trans hB h2, h3⟩
theorem own_later {w w' : World} {B : Nat} {e : TypeId} {size : Nat} {v : Value} {n : Nat} {xs : List Value} (h : w.ownsRow B e size v n xs) (hb : Below w.heap.size w w') : w'.ownsRow B e size v n xs := by
  refine ⟨h.1, ?_⟩
  rcases h.2 with h | ⟨g, cap, cur, h1, h2, h3, h4⟩
  · exact .inl h
  · exact .inr ⟨g, cap, cur, h1, h2, (hb.block g (Array.getElem?_eq_some_iff.1 h3).1).trans h3, h4⟩

set_option maxHeartbeats 1600000 in
theorem rcells_yes (W H : Nat) (w : World) (hW : W ≤ 256) (hH : H ≤ 256) :
    Calls Tryd.prog 18 #[.agg #[.int .i64 (W : Int), .int .i64 (H : Int)]] w fun e w' => ∃ v, e = .returned v ∧ w'.ownsRow w.heap.size 25 2 v (H * W) (flat W (H * W)) ∧ Below w.heap.size w w' := by
  obtain ⟨i0, hi, hz0, hz1, hz2⟩ := info_parts Tryd.infoCell
  have hA := bl_al (bl0 w) (.cells #[.int .i64 (W : Int), .int .i64 (H : Int)] 23)
  go_enter Tryd.func18, Tryd.ntmps18
  go_wp2
  go_loopw [3, 4] (fun v i wr => ∃ y : Nat, y ≤ H ∧ i = .int .i64 y ∧ wr.ownsRow (w.heap.size + 1) 25 2 v (y * W) (flat W (y * W)) ∧ Below w.heap.size w wr ∧
      wr.cell? ⟨w.heap.size, 0, none⟩ = some (.int .i64 (W : Int)) ∧ wr.cell? ⟨w.heap.size, 1, none⟩ = some (.int .i64 (H : Int))) (fun _ i _ => H - (intOf i).toNat)
  case atStart => exact ⟨0, Nat.zero_le _, rfl, by simpa [flat_zero] using World.ownsRow_nil _ _ _ _, hA, by simp [go_sem], by simp [go_sem]⟩
  case round =>
    obtain ⟨y, hy, rfl, hown, hB, s0, s1⟩ := hrel
    clear hA
    by_cases hlt : y < H
    · have hlt' : (y : Int) < (H : Int) := by omega
      go_wp2
      have hbd : y * W ≤ 65536 := by
        have a : y * W ≤ 256 * 256 := Nat.mul_le_mul (by omega) hW
        omega
      go_loopw [3, 5] (fun v i wx => ∃ x : Nat, x ≤ W ∧ i = .int .i64 x ∧ wx.ownsRow (w.heap.size + 1) 25 2 v (y * W + x) (flat W (y * W + x)) ∧ Below w.heap.size w wx ∧
          wx.cell? ⟨w.heap.size, 0, none⟩ = some (.int .i64 (W : Int)) ∧ wx.cell? ⟨w.heap.size, 1, none⟩ = some (.int .i64 (H : Int))) (fun _ i _ => W - (intOf i).toNat)
      case atStart => exact ⟨0, Nat.zero_le _, rfl, by simpa using hown, hB, s0, s1⟩
      case round =>
        obtain ⟨x, hx, rfl, hownx, hBx, q0, q1⟩ := hrel
        clear hown hB s0 s1
        by_cases hl2 : x < W
        · have hl2' : (x : Int) < (W : Int) := by omega
          have zq := blk_lt q0
          have hst := flat_step (y := y) hl2
          have HST := Lib.hid hst
          clear hst
          go_wp2_with (at_builtin; refine wpList_append_own _ rfl _ _ 34 rfl (w.heap.size + 1) 25 i0 (.agg #[.int .i64 0, .int .i64 0]) 2 16 Tryd.underlying34 hi hz0 hz1 hz2 rfl (by decide) _ _ _ rfl (hownx.alloc _) ⟨wr.heap.size, 0, none⟩ 1 1 [.int .i64 (x : Int), .int .i64 (y : Int)] rfl rfl ?c1 ?c2 ?c3 ?c4 ?c5 ?_)
          case c1 => exact cell_two_new _ _ _ _
          case c2 => intro u hu; simp at hu; rcases hu with rfl | rfl <;> rfl
          case c3 => unfold maxLen; omega
          case c4 => omega
          case c5 => simp; omega
          intro v' w1 hown' hgrow _
          have hne : some w.heap.size ≠ Value.ownBlock u3 := fun e => by have := (hownx.lt _ e.symm).1; omega
          have hB1 : Below w.heap.size w w1 := (bl_al hBx _).grown hgrow (by simp; omega) (fun k hk => by have := (hownx.lt k hk).1; omega)
          rw [HST.out] at hown'
          have q0' := hgrow.cell (cell_later (bl_al (bl0 _) _) q0) hne
          have q1' := hgrow.cell (cell_later (bl_al (bl0 _) _) q1) hne
          clear hgrow hownx q0 q1 hBx zq hne
          go_wp2
          go_roundw
          case rel => exact ⟨x + 1, by omega, by go_num, hown', hB1, q0', q1'⟩
          case measure => simp [intOf]; omega
        · have hl2' : ¬ (x : Int) < (W : Int) := by omega
          obtain rfl : x = W := by omega
          go_wp2
          go_roundw
          case rel => exact ⟨y + 1, by omega, by go_num, by rw [Nat.add_mul, Nat.one_mul]; exact hownx, hBx, q0, q1⟩
          case measure => simp [intOf]; omega
    · have hlt' : ¬ (y : Int) < (H : Int) := by omega
      obtain rfl : y = H := by omega
      go_wp2
      go_ret
      exact ⟨_, rfl, own_base hown (by omega), hB⟩
end Go.Proofs.YtdacoeehhpnkbaaDoor
