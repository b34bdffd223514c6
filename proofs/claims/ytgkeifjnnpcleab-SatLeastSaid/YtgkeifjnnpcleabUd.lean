/- The reference's Least. -/
import Derived.Test.YtgkeifjnnpcleabUc
namespace Go.Proofs.Ytgkeifjnnpcleab
open Go.RowKit

/-- What the inner loop says of the first k costs. -/
def firstOf (v : Int) (i : Nat) (zs : List Int) (k : Nat) : Bool := decide (v < 18446744073709551615) && (List.range k).all (fun j => match zs[j]? with
    | none => true
    | some z => decide (v < z) || (decide (v = z) && decide (i ≤ j)))
theorem firstOf_succ {v : Int} {i k : Nat} {zs : List Int} {z : Int} (hz : zs[k]? = some z) : firstOf v i zs (k + 1) = (firstOf v i zs k && (decide (v < z) || (decide (v = z) && decide (i ≤ k)))) := by
  unfold firstOf
  rw [List.range_succ, List.all_append, Bool.and_assoc]
  simp [hz]
theorem isLeast_first {v : Int} {i : Nat} {zs : List Int} (hv : zs[i]? = some v) : isLeast zs i = firstOf v i zs zs.length := by
  unfold isLeast firstOf; rw [hv]; rfl
theorem isLeast_far {i : Nat} {zs : List Int} (h : zs.length ≤ i) : isLeast zs i = false := by
  unfold isLeast; rw [List.getElem?_eq_none h]

set_option maxHeartbeats 3200000 in
theorem rleast_any (a : Option Addr) (cap : Nat) (zs : List Int) (w : World) (hr : RowU w a zs) (hu : AllU zs) (hl : zs.length ≤ 1048576) :
    Calls Try.prog 16 #[.slice a zs.length cap] w fun e w' => e = .returned (.tuple #[.int .i64 (leastC zs).1, .bool (leastC zs).2]) ∧ Below w.heap.size w w' := by
  have hl2 : (zs.length : Int) ≤ 1048576 := by omega
  go_enter Try.func16, Try.ntmps16
  go_wp2
  go_loopw [4] (fun i wr => ∃ k : Nat, k ≤ zs.length ∧ i = .int .i64 k ∧ (∀ j, j < k → isLeast zs j = false) ∧ Below w.heap.size w wr) (fun i _ => zs.length - (intOf i).toNat)
  case atStart => exact ⟨0, Nat.zero_le _, rfl, fun j h => by omega, bl0 w⟩
  case round =>
    obtain ⟨i, hi, rfl, hno, hB⟩ := hrel
    have HNO := Lib.hid hno
    clear hno
    by_cases hlt : i < zs.length
    · have hlt2 : (i : Int) < (zs.length : Int) := by omega
      have hi0 : (0 : Int) ≤ (i : Int) := by omega
      obtain ⟨gb, go, rfl, q⟩ := hr.cell hlt
      have hq := cell_later hB q
      have HF := Lib.hid (isLeast_first (List.getElem?_eq_getElem hlt))
      have hv := hu.at hlt
      have hvb : (zs[i] != 18446744073709551615) = decide (zs[i] < 18446744073709551615) := by
        have := hv.2
        rw [Bool.eq_iff_iff, bne_iff_ne, decide_eq_true_eq]; omega
      have HV0 := Lib.hid (show firstOf zs[i] i zs 0 = decide (zs[i] < 18446744073709551615) by unfold firstOf; simp)
      clear hv
      generalize zs[i] = v at *
      have HVB := Lib.hid hvb
      clear hvb
      go_wp2
      rw [HVB.out, ← HV0.out]
      go_loopw [5, 6] (fun b j wq => ∃ k : Nat, k ≤ zs.length ∧ j = .int .i64 k ∧ b = .bool (firstOf v i zs k) ∧ Below w.heap.size w wq) (fun _ j _ => zs.length - (intOf j).toNat)
      case atStart => exact ⟨0, Nat.zero_le _, rfl, rfl, hB⟩
      case round =>
        clear hB hq
        obtain ⟨k, hk, rfl, rfl, hB⟩ := hrel
        by_cases hkt : k < zs.length
        · have hkt2 : (k : Int) < (zs.length : Int) := by omega
          have hk0 : (0 : Int) ≤ (k : Int) := by omega
          obtain ⟨gb2, go2, ha, c⟩ := hr.cell hkt
          cases ha
          replace c := cell_later hB c
          replace q := cell_later hB q
          have HS := Lib.hid (firstOf_succ (v := v) (i := i) (List.getElem?_eq_getElem hkt))
          generalize zs[k] = z at *
          have HR := Lib.hid hr
          clear hr
          cases hb : firstOf v i zs k
          · have HE := Lib.hid (show firstOf v i zs (k + 1) = false by rw [HS.out, hb]; rfl)
            clear hb
            go_wp2
            go_quiet (fail)
            go_wp2
            go_roundw
            case rel => exact ⟨k + 1, by omega, by go_num, by rw [HE.out]; all_goals (first | rfl | (simp; omega)), bl_tr hB (bl_drn _ _)⟩
            case measure => simp [intOf]; omega
          · by_cases h1 : v < z
            · have HE := Lib.hid (show firstOf v i zs (k + 1) = true by rw [HS.out, hb]; simp [h1])
              clear hb
              go_wp2
              go_quiet (fail)
              go_wp2
              go_roundw
              case rel => exact ⟨k + 1, by omega, by go_num, by rw [HE.out]; all_goals (first | rfl | (simp; omega)), bl_tr hB (bl_drn _ _)⟩
              case measure => simp [intOf]; omega
            · by_cases h2 : v = z
              · have h3 : (z == v) = true := by rw [h2]; exact beq_self_eq_true _
                have h3' : (v == z) = true := by rw [h2]; exact beq_self_eq_true _
                by_cases h4 : i ≤ k
                · have HE := Lib.hid (show firstOf v i zs (k + 1) = true by rw [HS.out, hb]; simp [h2, h4])
                  have h5 : (i : Int) ≤ (k : Int) := by omega
                  clear hb h2
                  go_wp2
                  go_quiet (fail)
                  go_wp2
                  go_roundw
                  case rel => exact ⟨k + 1, by omega, by go_num, by rw [HE.out]; all_goals (first | rfl | (simp; omega)), bl_tr hB (bl_drn _ _)⟩
                  case measure => simp [intOf]; omega
                · have HE := Lib.hid (show firstOf v i zs (k + 1) = false by rw [HS.out, hb]; simp [h2, h4])
                  have h5 : ¬ (i : Int) ≤ (k : Int) := by omega
                  clear hb h2
                  go_wp2
                  go_quiet (fail)
                  go_wp2
                  go_roundw
                  case rel => exact ⟨k + 1, by omega, by go_num, by rw [HE.out]; all_goals (first | rfl | (simp; omega)), bl_tr hB (bl_drn _ _)⟩
                  case measure => simp [intOf]; omega
              · have h3 : (z == v) = false := by rw [beq_eq_false_iff_ne]; exact fun e => h2 e.symm
                have h3' : (v == z) = false := by rw [beq_eq_false_iff_ne]; exact h2
                have HE := Lib.hid (show firstOf v i zs (k + 1) = false by rw [HS.out, hb]; simp [h1, h2])
                clear hb h2
                go_wp2
                go_quiet (fail)
                go_wp2
                go_roundw
                case rel => exact ⟨k + 1, by omega, by go_num, by rw [HE.out]; all_goals (first | rfl | (simp; omega)), bl_tr hB (bl_drn _ _)⟩
                case measure => simp [intOf]; omega
        · have HK := Lib.hid (show k = zs.length by omega)
          have hge : (zs.length : Int) ≤ (k : Int) := by omega
          cases hb : firstOf v i zs k
          · have HN2 := Lib.hid (show ∀ j, j < i + 1 → isLeast zs j = false from fun j hj => by
              by_cases e : j = i
              · rw [e, HF.out, ← HK.out, hb]
              · exact HNO.out j (by omega))
            clear hb
            go_wp2
            go_roundw
            case rel => exact ⟨i + 1, by omega, by go_num, HN2.out, hB⟩
            case measure => simp [intOf]; omega
          · have HY := Lib.hid (leastC_yes (show isLeast zs i = true by rw [HF.out, ← HK.out, hb]))
            clear hb
            go_wp2
            go_ret2
            exact ⟨by rw [HY.out]; rfl, hB⟩
    · have hge : (zs.length : Int) ≤ (i : Int) := by omega
      have HY := Lib.hid (leastC_no (l := zs) (fun j => if h : j < i then HNO.out j h else isLeast_far (by omega)))
      go_wp2
      go_ret2
      exact ⟨by rw [HY.out]; rfl, hB⟩
end Go.Proofs.Ytgkeifjnnpcleab
