/- The laws' helpers 'same' and 'bytes', of two rows that hold the same. -/
import Derived.Test.YtgkeifjnnpcleaaKi
import Derived.Test.YtgkeifjnnpcleaaJo
namespace Go.Proofs.Ytgkeifjnnpcleaa
open Go.RowKit

set_option maxHeartbeats 1600000 in
theorem same_rows (a a' : Option Addr) (c c' : Nat) (zs : List (Int × Int)) (w : World) (hr : RowC w a zs) (hr' : RowC w a' zs) (hl : zs.length ≤ 1048576) :
    Calls Try.prog 20 #[.slice a zs.length c, .slice a' zs.length c'] w fun e w' => e = .returned (.bool true) ∧ Below w.heap.size w w' := by
  have hl2 : (zs.length : Int) ≤ 1048576 := by omega
  go_enter Try.func20, Try.ntmps20
  go_wp2
  go_loopw [5] (fun i wr => ∃ k : Nat, k ≤ zs.length ∧ i = .int .i64 k ∧ Below w.heap.size w wr) (fun i _ => zs.length - (intOf i).toNat)
  case atStart => exact ⟨0, Nat.zero_le _, rfl, bl0 w⟩
  case round =>
    obtain ⟨k, hk, rfl, hB⟩ := hrel
    by_cases hlt : k < zs.length
    · have hlt2 : (k : Int) < (zs.length : Int) := by omega
      have hk0 : (0 : Int) ≤ (k : Int) := by omega
      rcases hr with rfl | ⟨g, o, rfl, hc⟩
      · simp at hlt
      rcases hr' with rfl | ⟨g', o', rfl, hc'⟩
      · simp at hlt
      obtain ⟨q0, q1⟩ := hc k _ (List.getElem?_eq_getElem hlt)
      obtain ⟨r0, r1⟩ := hc' k _ (List.getElem?_eq_getElem hlt)
      replace q0 := cell_later hB q0
      replace q1 := cell_later hB q1
      replace r0 := cell_later hB r0
      replace r1 := cell_later hB r1
      clear hc hc'
      generalize zs[k] = z at q0 q1 r0 r1
      go_wp2
      go_region
      all_goals go_wp2
      go_roundw
      case rel => exact ⟨k + 1, by omega, by go_num, bl_tr hB (bl_dr (bl0 _))⟩
      case measure => simp [intOf]; omega
    · obtain rfl : k = zs.length := by omega
      go_wp2
      go_ret
      exact ⟨rfl, hB⟩

set_option maxHeartbeats 1600000 in
theorem bytes_rows (h o h' o' c c' : Nat) (bs : List Nat) (w : World) (hr : BytesAt w h o bs) (hr' : BytesAt w h' o' bs) (hl : bs.length ≤ 1048576) :
    Calls Try.prog 22 #[.slice (some ⟨h, o, none⟩) bs.length c, .slice (some ⟨h', o', none⟩) bs.length c'] w fun e w' => e = .returned (.bool true) ∧ Below w.heap.size w w' := by
  have hl2 : (bs.length : Int) ≤ 1048576 := by omega
  go_enter Try.func22, Try.ntmps22
  go_wp2
  go_loopw [5] (fun i wr => ∃ k : Nat, k ≤ bs.length ∧ i = .int .i64 k ∧ Below w.heap.size w wr) (fun i _ => bs.length - (intOf i).toNat)
  case atStart => exact ⟨0, Nat.zero_le _, rfl, bl0 w⟩
  case round =>
    obtain ⟨k, hk, rfl, hB⟩ := hrel
    by_cases hlt : k < bs.length
    · have hlt2 : (k : Int) < (bs.length : Int) := by omega
      have hk0 : (0 : Int) ≤ (k : Int) := by omega
      have q0 := cell_later hB (hr k _ (List.getElem?_eq_getElem hlt))
      have r0 := cell_later hB (hr' k _ (List.getElem?_eq_getElem hlt))
      clear hr hr'
      generalize bs[k] = z at q0 r0
      go_wp2
      go_region
      all_goals go_wp2
      go_roundw
      case rel => exact ⟨k + 1, by omega, by go_num, bl_tr hB (bl_dr (bl0 _))⟩
      case measure => simp [intOf]; omega
    · obtain rfl : k = bs.length := by omega
      go_wp2
      go_ret
      exact ⟨rfl, hB⟩
end Go.Proofs.Ytgkeifjnnpcleaa
