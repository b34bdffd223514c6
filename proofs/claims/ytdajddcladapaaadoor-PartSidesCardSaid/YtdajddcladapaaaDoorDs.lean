/- Parts: the reference's cluster of a cell. -/
import Derived.Test.YtdajddcladapaaaDoorDr
namespace Go.Proofs.YtdajddcladapaaaDoor
open Go.RowKit

theorem has8_k {W H S : Int} {k : Nat} (c : IC) (hr : rightP W H S = true) (hk : k < cntN W H S) (hc : w64 c.1 ∧ w64 c.2) (w : World) :
    Calls Tryd.prog 24 #[.agg #[.int .i64 (bxF W H S k).1.1, .int .i64 (bxF W H S k).1.2, .int .i64 (bxF W H S k).2.1, .int .i64 (bxF W H S k).2.2], .agg #[.int .i64 c.1, .int .i64 c.2]] w fun e w' => e = .returned (.bool (hasK W H S c k)) ∧ Below w.heap.size w w' := by
  obtain ⟨e, _, _⟩ := cntN_eq hr
  obtain ⟨p1, p2, p3, p4, _⟩ := plc_in (id := (k : Int)) hr (by omega) (by omega)
  obtain ⟨⟨t1, t2, t3, t4⟩, ⟨t5, t6, t7, t8⟩, t9, t10⟩ := bx_bd hr p1 p2 p3 p4
  exact has8_p (bxX S (plcP W S k)) (bxY S (plcP W S k)) (bxW W S (plcP W S k)) (bxH H S (plcP W S k)) c w ⟨⟨by omega, by omega, by omega, by omega⟩, by omega, by omega, by omega, by omega⟩ hc

set_option maxRecDepth 100000 in
set_option maxHeartbeats 4000000 in
theorem of11 (W H S : Int) (a : Option Addr) (cap : Nat) (c : IC) (w : World) (hr : rightP W H S = true) (hc : w64 c.1 ∧ w64 c.2) (hrow : RowPP w a (boxL W H S)) :
    Calls Tryd.prog 18 #[.slice a (cntN W H S) cap, .agg #[.int .i64 c.1, .int .i64 c.2]] w fun e w' => e = .returned (.int .i64 (ofR W H S c)) ∧ Below w.heap.size w w' := by
  have hA := bl0 w
  obtain ⟨hn, n1, n2⟩ := cntN_eq hr
  have HB := Lib.hid (fun (k : Nat) (hk : k < cntN W H S) w => has8_k c hr hk hc w)
  have HAT := Lib.hid (fun (k : Nat) (hk : k < cntN W H S) => @ofR_at W H S c k hr hk)
  have HNO := Lib.hid (fun (h : ∀ k, k < cntN W H S → hasK W H S c k = false) => ofR_none hr h)
  have hz : ∀ k (h : k < (boxL W H S).length), (boxL W H S)[k] = bxF W H S k := fun k h => boxL_at h
  have HZ := Lib.hid hz
  have HLN := Lib.hid (boxL_len W H S)
  obtain ⟨n, hnn⟩ : ∃ n, cntN W H S = n := ⟨_, rfl⟩
  rw [hnn] at HB HAT HNO HLN ⊢
  have hn2 : (n : Int) ≤ 16384 := by rw [← hnn, hn]; exact n2
  obtain ⟨o, ho⟩ : ∃ o, ofR W H S c = o := ⟨_, rfl⟩
  rw [ho] at HAT HNO ⊢
  clear hz hn n1 n2 hnn ho hr hc
  go_enter Tryd.func18, Tryd.ntmps18
  go_wp2_with fail
  go_loopw [5] (fun i wr => ∃ k : Nat, k ≤ n ∧ i = .int .i64 k ∧ (∀ j, j < k → hasK W H S c j = false) ∧ Below w.heap.size w wr ∧ wr.cell? ⟨w.heap.size, 0, none⟩ = some (.int .i64 c.1) ∧ wr.cell? ⟨w.heap.size, 1, none⟩ = some (.int .i64 c.2)) (fun i _ => n - (intOf i).toNat)
  case atStart => exact ⟨0, Nat.zero_le _, rfl, (fun j h => absurd h (by omega)), bl_al hA _, by simp [go_sem], by simp [go_sem]⟩
  case round =>
    clear hA
    obtain ⟨k, hk, rfl, hno, hA, c0, c1⟩ := hrel
    have HN := Lib.hid hno
    clear hno
    have hk0 : (0 : Int) ≤ (k : Int) := by omega
    by_cases hlt : k < n
    · have hlt2 : (k : Int) < (n : Int) := by omega
      obtain ⟨gb, go, rfl, ⟨q0, q1⟩, q2, q3⟩ := (hrow.below hA).cell (k := k) (by rw [HLN.out]; exact hlt)
      rw [HZ.out] at q0 q1 q2 q3
      have hb := HB.out k hlt
      have hat := HAT.out k hlt
      have hnx : hasK W H S c k = false → ∀ j, j < k + 1 → hasK W H S c j = false := fun h j hj => by
        by_cases e : j = k
        · rw [e]; exact h
        · exact HN.out j (by omega)
      have HBB := Lib.hid hb
      have HAA := Lib.hid hat
      have HNX := Lib.hid hnx
      obtain ⟨t, ht⟩ : ∃ t, hasK W H S c k = t := ⟨_, rfl⟩
      rw [ht] at HBB HAA HNX
      clear hb hat hnx ht hrow
      generalize bxF W H S k = z at *
      go_upto_region 4 with fail
      have hB := bl_dr (bl0 wr)
      go_region_held3 (fun w' => w'.cell? ⟨w.heap.size, 0, none⟩ = some (.int .i64 c.1) ∧ w'.cell? ⟨w.heap.size, 1, none⟩ = some (.int .i64 c.2) ∧ (w'.cell? ⟨gb, go + k * 4, none⟩ = some (.int .i64 z.1.1) ∧ w'.cell? ⟨gb, go + k * 4 + 1, none⟩ = some (.int .i64 z.1.2)) ∧ w'.cell? ⟨gb, go + k * 4 + 2, none⟩ = some (.int .i64 z.2.1) ∧ w'.cell? ⟨gb, go + k * 4 + 3, none⟩ = some (.int .i64 z.2.2))
        (exact ⟨cell_later hB c0, cell_later hB c1, ⟨cell_later hB q0, cell_later hB q1⟩, cell_later hB q2, cell_later hB q3⟩)
        ((go_at_call 24; (with_reducible refine (HBB.out _).mono ?_); rintro e w9 ⟨rfl, hb9⟩; replace hB := bl_tr hB hb9))
      all_goals
        have hA9 := bl_tr hA hB
        have c0' := cell_later hB c0
        have c1' := cell_later hB c1
        clear hB q0 q1 q2 q3
        cases t
        · go_wp2
          go_roundw
          case rel => exact ⟨k + 1, by omega, by go_num, HNX.out rfl, hA9, c0', c1'⟩
          case measure => simp [intOf]; omega
        · go_wp2
          go_ret
          exact ⟨ret_int (HAA.out (by trivial)).symm, hA9⟩
    · obtain rfl : k = n := by omega
      have ho : o = -1 := HNO.out HN.out
      subst ho
      go_wp2
      go_ret
      exact ⟨rfl, hA⟩
end Go.Proofs.YtdajddcladapaaaDoor
