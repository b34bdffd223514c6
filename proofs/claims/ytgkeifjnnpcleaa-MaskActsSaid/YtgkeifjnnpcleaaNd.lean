/- The document's answer for sets: Of. -/
import Derived.Test.YtgkeifjnnpcleaaNc
import Derived.Test.YtgkeifjnnpcleaaJw
import Derived.Test.YtgkeifjnnpcleaaJz
namespace Go.Proofs.Ytgkeifjnnpcleaa
open Go.RowKit

/-- A byte, so often halved. -/
def halfs (v k : Nat) : Int := ((v / 2 ^ k : Nat) : Int)
theorem halfs_zero (v : Nat) : halfs v 0 = (v : Int) := by simp [halfs]
theorem halfs_succ (v k : Nat) : halfs v k / 2 = halfs v (k + 1) := by
  unfold halfs
  rw [Nat.pow_succ, ← Nat.div_div_eq_div_mul]
  omega
theorem halfs_bd {v : Nat} (k : Nat) (h : v < 256) : 0 ≤ halfs v k ∧ halfs v k ≤ 255 := by
  unfold halfs
  have := Nat.div_le_self v (2 ^ k)
  generalize v / 2 ^ k = m at *
  omega
theorem halfs_bit (v k : Nat) : (halfs v k % 2 == 0) = !v.testBit k := by
  unfold halfs
  rw [Nat.testBit_eq_decide_div_mod_eq]
  generalize v / 2 ^ k = m
  have hm : m % 2 = 0 ∨ m % 2 = 1 := by omega
  rcases hm with hm | hm
  · rw [decide_eq_false (by omega), show ((m : Int) % 2) = 0 by omega]; rfl
  · rw [decide_eq_true hm, show ((m : Int) % 2) = 1 by omega]; rfl

/-- The set of the first i bits. -/
def fsTo (N : Nat) (bs : List Nat) (i : Nat) : List Bool := (List.range N).map (fun j => decide (j < i) && bitAt bs j)
theorem fsTo_len (N : Nat) (bs : List Nat) (i : Nat) : (fsTo N bs i).length = N := by simp [fsTo]
theorem fsTo_zero (N : Nat) (bs : List Nat) : fsTo N bs 0 = List.replicate N false := by
  refine List.ext_getElem (by simp [fsTo]) fun j h1 h2 => ?_
  simp [fsTo]
theorem fsTo_yes {N : Nat} {bs : List Nat} {i : Nat} (h : bitAt bs i = true) : (fsTo N bs i).set i true = fsTo N bs (i + 1) := by
  refine List.ext_getElem (by simp [fsTo]) fun j h1 h2 => ?_
  simp only [fsTo, List.getElem_set, List.getElem_map, List.getElem_range]
  by_cases e : i = j
  · subst e; simp [h]
  · rw [if_neg e]
    congr 1
    rw [Bool.eq_iff_iff]
    simp
    omega
theorem fsTo_no {N : Nat} {bs : List Nat} {i : Nat} (h : bitAt bs i = false) : fsTo N bs i = fsTo N bs (i + 1) := by
  refine List.map_congr_left fun j _ => ?_
  by_cases e : j = i
  · subst e; simp [h]
  · congr 1
    rw [Bool.eq_iff_iff]
    simp
    omega
/-- All of them. -/
def fsOf (N : Nat) (bs : List Nat) : List Bool := (List.range N).map (fun j => bitAt bs j)
theorem fsTo_all {N : Nat} {bs : List Nat} {i : Nat} (h : N ≤ i) : fsTo N bs i = fsOf N bs := by
  refine List.map_congr_left fun j hj => ?_
  have := List.mem_range.1 hj
  rw [decide_eq_true (show j < i by omega), Bool.true_and]

set_option maxHeartbeats 800000 in
theorem rof_no (X Y : Int) (a : Option Addr) (n c : Nat) (w : World) (hm : mayB X Y = false) :
    Calls Try.prog 26 #[.agg #[.int .i64 X, .int .i64 Y], .slice a n c] w fun e w' => e = .returned (.tuple #[.pointer none, .int .i64 10]) ∧ Below w.heap.size w w' := by
  go_enter Try.func26, Try.ntmps26
  go_wp2_with fail
  refine (rnew_no X Y _ hm).mono ?_
  rintro e w1 ⟨rfl, hb⟩
  have HB := Lib.hid (bl_tr (bl_al (bl0 w) _) hb)
  clear hb
  go_wp2
  go_ret2
  exact ⟨rfl, HB.out⟩

set_option maxHeartbeats 800000 in
theorem rof_len (X Y : Int) (a : Option Addr) (n c : Nat) (w : World) (hm : mayB X Y = true) (hne : (n : Int) ≠ (X * Y + 7) / 8) :
    Calls Try.prog 26 #[.agg #[.int .i64 X, .int .i64 Y], .slice a n c] w fun e w' => e = .returned (.tuple #[.pointer none, .int .i64 11]) ∧ Below w.heap.size w w' := by
  obtain ⟨h1, h2, h3, h4⟩ := mayB_iff.1 hm
  obtain ⟨m1, m2⟩ : 0 ≤ X * Y ∧ X * Y ≤ 65536 := ⟨Int.mul_nonneg (by omega) (by omega), by have a : X * Y ≤ 256 * Y := Int.mul_le_mul_of_nonneg_right h2 (by omega); omega⟩
  obtain ⟨N, hN⟩ : ∃ N, (X * Y).toNat = N := ⟨_, rfl⟩
  have hNb : (N : Int) ≤ 65536 := by omega
  have g1 : ((n : Int) == ((N : Int) + 7) / 8) = false := by rw [beq_eq_false_iff_ne]; omega
  have g2 : ((n : Int) != ((N : Int) + 7) / 8) = true := by rw [bne_iff_ne]; omega
  have hnew := rnew_yes X Y (w.alloc (.cells #[.int .i64 X, .int .i64 Y] 23)) hm
  rw [hN] at hnew
  have NEW := Lib.hid hnew
  clear hnew hN hne m1 m2 h1 h2 h3 h4
  go_enter Try.func26, Try.ntmps26
  go_wp2_with fail
  refine NEW.out.mono ?_
  rintro e w1 ⟨b, h, rfl, hr, _, _, _, hb⟩
  have HB := Lib.hid (bl_tr (bl_al (bl0 w) _) hb)
  have c2 := hr.c2
  rw [List.length_replicate] at c2
  clear hb NEW hr
  go_wp2
  go_ret2
  exact ⟨rfl, HB.out⟩

set_option maxRecDepth 100000 in
set_option maxHeartbeats 3200000 in
theorem rof_any (X Y : Int) (g o c : Nat) (bs : List Nat) (w : World) (hm : mayB X Y = true) (hlen : (bs.length : Int) = (X * Y + 7) / 8) (hcell : BytesAt w g o bs) (hbs : IsBytes bs) :
    Calls Try.prog 26 #[.agg #[.int .i64 X, .int .i64 Y], .slice (some ⟨g, o, none⟩) bs.length c] w fun e w' =>
      (e = .returned (.tuple #[.pointer none, .int .i64 11]) ∧ (∃ i : Nat, X * Y ≤ (i : Int) ∧ bitAt bs i = true) ∧ Below w.heap.size w w') ∨
      (∃ b h, e = .returned (.tuple #[.pointer (some ⟨b, 0, none⟩), .int .i64 0]) ∧ RefAt w' b h X Y (fsOf (X * Y).toNat bs) ∧ (∀ i : Nat, X * Y ≤ (i : Int) → bitAt bs i = false) ∧ Below w.heap.size w w') := by
  obtain ⟨h1, h2, h3, h4⟩ := mayB_iff.1 hm
  obtain ⟨m1, m2⟩ : 0 ≤ X * Y ∧ X * Y ≤ 65536 := ⟨Int.mul_nonneg (by omega) (by omega), by have a : X * Y ≤ 256 * Y := Int.mul_le_mul_of_nonneg_right h2 (by omega); omega⟩
  obtain ⟨N, hN⟩ : ∃ N, (X * Y).toNat = N := ⟨_, rfl⟩
  have HXY := Lib.hid (show X * Y = (N : Int) by omega)
  have hNb : (N : Int) ≤ 65536 := by omega
  have hLb : (bs.length : Int) ≤ 65536 := by omega
  have g1 : ((bs.length : Int) == ((N : Int) + 7) / 8) = true := by rw [beq_iff_eq]; omega
  have g2 : ((bs.length : Int) != ((N : Int) + 7) / 8) = false := by rw [bne_eq_false_iff_eq]; omega
  have hNL : N ≤ 8 * bs.length := by omega
  have hnew := rnew_yes X Y (w.alloc (.cells #[.int .i64 X, .int .i64 Y] 23)) hm
  rw [hN] at hnew
  rw [hN]
  have NEW := Lib.hid hnew
  have HC := Lib.hid hcell
  clear hnew hN hlen m1 m2 h1 h2 h3 h4 hcell hm
  go_enter Try.func26, Try.ntmps26
  go_wp2_with fail
  refine NEW.out.mono ?_
  rintro e w1 ⟨b, h, rfl, hr, _, hh, hne, hb⟩
  have HB := Lib.hid (bl_tr (bl_al (bl0 w) _) hb)
  have hhw : w.heap.size ≤ h := by have : (w.alloc (.cells #[.int .i64 X, .int .i64 Y] 23)).heap.size = w.heap.size + 1 := World.size_alloc _ _
                                   omega
  rw [← fsTo_zero N bs] at hr
  have HR := Lib.hid hr
  have c2 := hr.c2
  rw [fsTo_len] at c2
  clear hb NEW hr hh
  go_wp2
  clear g1 g2 c2
  go_loopw [7] (fun t wr => ∃ i : Nat, i ≤ 8 * bs.length ∧ t = .int .i64 i ∧ RefAt wr b h X Y (fsTo N bs i) ∧ (∀ j : Nat, j < i → N ≤ j → bitAt bs j = false) ∧ Below w.heap.size w wr) (fun t _ => 8 * bs.length - (intOf t).toNat)
  case atStart => exact ⟨0, Nat.zero_le _, rfl, HR.out, fun j h => by omega, HB.out⟩
  case round =>
    clear HR HB
    obtain ⟨i, hi, rfl, hR, hno, hB⟩ := hrel
    have HR := Lib.hid hR
    have HNO := Lib.hid hno
    have HB := Lib.hid hB
    clear hR hno hB
    have c2 := HR.out.c2
    rw [fsTo_len] at c2
    by_cases hlt : i < 8 * bs.length
    · have hlt2 : (i : Int) < 8 * (bs.length : Int) := by omega
      have hi0 : (0 : Int) ≤ (i : Int) := by omega
      have hk8 : i / 8 < bs.length := by omega
      obtain ⟨v, hv⟩ : ∃ v, bs[i / 8]? = some v := ⟨_, List.getElem?_eq_getElem hk8⟩
      have hvb : v < 256 := hbs v (List.mem_of_getElem? hv)
      have q := cell_later HB.out (HC.out (i / 8) v hv)
      have HBIT := Lib.hid (show bitAt bs i = v.testBit (i % 8) by unfold bitAt; rw [List.getD_eq_getElem?_getD, hv]; rfl)
      have HV0 := Lib.hid (halfs_zero v)
      have hk82 : (i : Int) / 8 < (bs.length : Int) := by omega
      have hk80 : 0 ≤ (i : Int) / 8 := by omega
      clear hv hk8
      go_wp2
      rw [← HV0.out]
      go_loopw [8, 9] (fun x t wq => ∃ k : Nat, k ≤ i % 8 ∧ t = .int .i64 k ∧ x = .int .u8 (halfs v k) ∧ wr = wq) (fun _ t _ => i % 8 - (intOf t).toNat)
      case atStart => exact ⟨0, Nat.zero_le _, rfl, rfl, rfl⟩
      case round =>
        obtain ⟨k, hk, rfl, rfl, rfl⟩ := hrel
        obtain ⟨b1, b2⟩ := halfs_bd k hvb
        by_cases hkt : k < i % 8
        · have hkt2 : (k : Int) < (i : Int) % 8 := by omega
          have HS := Lib.hid (halfs_succ v k)
          go_wp2
          go_roundw
          case rel => exact ⟨k + 1, by omega, by go_num, by rw [HS.out], by trivial⟩
          case measure => simp [intOf]; omega
        · have hkt2 : ¬ (k : Int) < (i : Int) % 8 := by omega
          have HKE := Lib.hid (show k = i % 8 by omega)
          have hbit := halfs_bit v k
          cases hb : v.testBit k
          · have HF := Lib.hid (show bitAt bs i = false by rw [HBIT.out, ← HKE.out, hb])
            rw [hb] at hbit
            have HFN := Lib.hid (fsTo_no (N := N) HF.out)
            clear hb
            go_wp2
            go_roundw
            case rel => exact ⟨i + 1, by omega, by go_num, by rw [← HFN.out]; exact HR.out, (fun j hj hN => by
              by_cases e : j = i
              · rw [e]; exact HF.out
              · exact HNO.out j (by omega) hN), HB.out⟩
            case measure => simp [intOf]; omega
          · have HF := Lib.hid (show bitAt bs i = true by rw [HBIT.out, ← HKE.out, hb])
            rw [hb] at hbit
            clear hb
            by_cases hiN : i < N
            · have hiN2 : (i : Int) < (N : Int) := by omega
              have HFN := Lib.hid (fsTo_yes (N := N) HF.out)
              have fz := HR.out.fz (k := i)
              obtain ⟨old, hold⟩ : ∃ old, (fsTo N bs i)[i]? = some old := ⟨_, List.getElem?_eq_getElem (by rw [fsTo_len]; exact hiN)⟩
              have qi := HR.out.at hold
              clear hold
              have HST := Lib.hid (HR.out.set hne i true)
              rw [HFN.out] at HST
              go_wp2
              go_roundw
              case rel => exact ⟨i + 1, by omega, by go_num, HST.out, (fun j hj hN => HNO.out j (by omega) hN), bl_st HB.out hhw _⟩
              case measure => simp [intOf]; omega
            · have hiN2 : ¬ (i : Int) < (N : Int) := by omega
              have hge : (N : Int) ≤ (i : Int) := by omega
              go_wp2
              go_ret2
              exact .inl ⟨rfl, ⟨i, by rw [HXY.out]; exact hge, HF.out⟩, HB.out⟩
    · have hge : 8 * (bs.length : Int) ≤ (i : Int) := by omega
      have HAll := Lib.hid (fsTo_all (N := N) (bs := bs) (i := i) (by omega))
      have HOUT := Lib.hid (show ∀ j : Nat, X * Y ≤ (j : Int) → bitAt bs j = false from fun j hj => by
        by_cases e : j < i
        · exact HNO.out j e (by have := HXY.out; omega)
        · exact bitAt_out (by omega))
      go_wp2
      go_ret2
      exact .inr ⟨b, h, rfl, by rw [← HAll.out]; exact HR.out, HOUT.out, HB.out⟩
end Go.Proofs.Ytgkeifjnnpcleaa
