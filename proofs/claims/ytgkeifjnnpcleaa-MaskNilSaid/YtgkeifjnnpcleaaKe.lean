/- Package mask: Clone, Count, and what is told of nothing. -/
import Derived.Test.YtgkeifjnnpcleaaKd
import Derived.LoopTactic
namespace Go.Proofs.Ytgkeifjnnpcleaa
open Go.RowKit

set_option maxHeartbeats 1600000 in
theorem clone_any (b h : Nat) (X Y : Int) (bs : List Nat) (w : World) (hm : MaskAt w b h X Y bs) (hl : bs.length ≤ 65536) :
    Calls Try.prog 30 #[.pointer (some ⟨b, 0, none⟩)] w fun e w' => ∃ b' h', e = .returned (.pointer (some ⟨b', 0, none⟩)) ∧ MaskAt w' b' h' X Y bs ∧ w.heap.size ≤ b' ∧ w.heap.size ≤ h' ∧ b' ≠ h' ∧ Below w.heap.size w w' := by
  have c0 := hm.c0
  have c1 := hm.c1
  have z0 := hm.lt.1
  have hA := bl_dr (bl0 w)
  go_enter Try.func30, Try.ntmps30
  go_wp2_with fail
  go_region_held3 (fun w2 => w2.cell? ⟨b, 0, none⟩ = some (.int .i64 X) ∧ w2.cell? ⟨b, 1, none⟩ = some (.int .i64 Y))
    (first | exact ⟨cell_later hA c0, cell_later hA c1⟩ | exact ⟨cell_later (bl_al hA _) c0, cell_later (bl_al hA _) c1⟩)
    ((go_at_call 23; refine (bytes_any b h X Y bs _ (hm.below hA) hl).mono ?_; rintro e W2 ⟨rfl, hrow, hb⟩; have HR := Lib.hid hrow; have hzz := hb.size; replace hA := bl_tr hA hb; clear hb hrow))
  go_wp2
  go_ret
  have hz : w.heap.size + 1 ≤ W2.heap.size := by
    have := (Array.getElem?_eq_some_iff.1 HR.out).1
    exact this
  refine ⟨W2.heap.size, w.heap.size, rfl, ⟨heap_alloc_new W2 _, ?_⟩, by omega, by omega, by omega, bl_al hA _⟩
  rw [Below.heap_alloc _ _ _ (by omega)]
  exact HR.out

/-- How many bits bytes have. -/
def ones (bs : List Nat) : Nat := (bs.map Lib.onesCount).sum
theorem ones_le : ∀ bs : List Nat, IsBytes bs → ones bs ≤ 8 * bs.length
  | [], _ => by simp [ones]
  | x :: bs, h => by
    have a := Lib.onesCount_le8 ⟨x, h x (by simp)⟩
    have b := ones_le bs (fun y hy => h y (by simp [hy]))
    simp only [ones, List.map_cons, List.sum_cons, List.length_cons] at b ⊢
    simp only at a
    omega
theorem ones_succ (bs : List Nat) (k : Nat) (hk : k < bs.length) : ones (bs.take (k + 1)) = ones (bs.take k) + Lib.onesCount bs[k] := by
  rw [List.take_succ_eq_append_getElem hk]
  unfold ones
  rw [List.map_append, List.sum_append]
  simp only [List.map_cons, List.map_nil, List.sum_cons, List.sum_nil, Nat.add_zero]
theorem IsBytes.take {bs : List Nat} (h : IsBytes bs) (k : Nat) : IsBytes (bs.take k) := fun x hx => h x (List.mem_of_mem_take hx)
theorem room_arith (s c l : Nat) (h : s + c ≤ 8 * l) (hl : l ≤ 65536) : (s : Int) + (c : Int) ≤ 600000 ∧ (0 : Int) ≤ (s : Int) ∧ (0 : Int) ≤ (c : Int) := by omega
theorem ones_room (bs : List Nat) (hb : IsBytes bs) (hl : bs.length ≤ 65536) (k : Nat) (hk : k < bs.length) : (ones (bs.take k) : Int) + (Lib.onesCount bs[k] : Int) ≤ 600000 ∧ (0 : Int) ≤ (ones (bs.take k) : Int) ∧ (0 : Int) ≤ (Lib.onesCount bs[k] : Int) := by
  exact room_arith _ _ _ (Nat.le_trans (Nat.le_of_eq (ones_succ bs k hk).symm) (Nat.le_trans (ones_le _ (hb.take _)) (Nat.mul_le_mul_left 8 (List.length_take_le' _ _)))) hl
theorem ones_call (x : Nat) (hx : x < 256) (w : World) : Calls Try.prog 43 #[.int .u8 (x : Int)] w fun e w' => e = .returned (.int .i64 (Lib.onesCount x : Nat)) ∧ w = w' := by
  refine (Try.bits_OnesCount8 (x : Int) w (by omega) (by omega)).mono ?_
  rintro e w' ⟨rfl, rfl⟩
  exact ⟨rfl, rfl⟩

set_option maxHeartbeats 1600000 in
theorem count_any (b h : Nat) (X Y : Int) (bs : List Nat) (w : World) (hm : MaskAt w b h X Y bs) (hb : IsBytes bs) (hl : bs.length ≤ 65536) :
    Calls Try.prog 19 #[.pointer (some ⟨b, 0, none⟩)] w fun e w' => e = .returned (.int .i64 (ones bs : Nat)) ∧ w = w' := by
  have c2 := hm.c2
  have z0 := hm.lt.1
  have hl2 : (bs.length : Int) ≤ 65536 := by omega
  go_enter Try.func19, Try.ntmps19
  go_wp2
  go_loop [3, 13] (fun n i => ∃ k : Nat, k ≤ bs.length ∧ i = .int .i64 k ∧ n = .int .i64 (ones (bs.take k) : Nat)) (fun _ i => bs.length - (intOf i).toNat)
  case atStart => exact ⟨0, Nat.zero_le _, rfl, rfl⟩
  case round =>
    obtain ⟨k, hk, rfl, rfl⟩ := hrel
    by_cases hlt : k < bs.length
    · have q := hm.at (List.getElem?_eq_getElem hlt)
      have hx : bs[k] < 256 := hb _ (List.getElem_mem hlt)
      have hlt2 : (k : Int) < (bs.length : Int) := by omega
      have HS := Lib.hid (ones_succ bs k hlt)
      obtain ⟨hle2, hle3, hle4⟩ := ones_room bs hb hl k hlt
      go_wp2_with fail
      refine (ones_call _ hx _).mono ?_
      rintro e w' ⟨rfl, rfl⟩
      go_wp2
      go_round
      case rel => exact ⟨k + 1, by omega, by go_num, by rw [HS.out]; go_num⟩
      case measure => simp [intOf]; omega
    · obtain rfl : k = bs.length := by omega
      have ht : bs.take bs.length = bs := List.take_length
      go_wp2
      go_ret
      exact ⟨rfl, rfl⟩

theorem bytes_nil (w : World) : Calls Try.prog 23 #[.pointer none] w fun e w' => e = .returned (.slice none 0 0) ∧ w = w' := by
  go_enter Try.func23, Try.ntmps23
  go_wp2
  go_ret
  exact ⟨rfl, rfl⟩
theorem clone_nil (w : World) : Calls Try.prog 30 #[.pointer none] w fun e w' => e = .returned (.pointer none) ∧ w = w' := by
  go_enter Try.func30, Try.ntmps30
  go_wp2
  go_ret
  exact ⟨rfl, rfl⟩
theorem count_nil (w : World) : Calls Try.prog 19 #[.pointer none] w fun e w' => e = .returned (.int .i64 0) ∧ w = w' := by
  go_enter Try.func19, Try.ntmps19
  go_wp2
  go_ret
  exact ⟨rfl, rfl⟩
end Go.Proofs.Ytgkeifjnnpcleaa
