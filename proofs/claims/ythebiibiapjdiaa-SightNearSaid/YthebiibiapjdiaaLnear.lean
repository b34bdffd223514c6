/- SightNear: the law's walk. -/
import Derived.Test.YthebiibiapjdiaaR1
import Derived.Test.YthebiibiapjdiaaQ4
import Derived.Deep.CutRange
namespace Go.Proofs.Ythebiibiapjdiaa
open Go.RowKit

set_option maxRecDepth 100000 in
set_option maxHeartbeats 4000000 in
theorem near_out1 (A B P Q r : Int) (a : Option Addr) (m cap : Nat) (w : World) (h1 : smallB A B m = false) :
    Calls Try.prog 5 #[.agg #[.int .i64 A, .int .i64 B, .slice a m cap], .agg #[.int .i64 P, .int .i64 Q], .int .i64 r] w fun e w' => e = .returned (.bool true) ∧ Below w.heap.size w w' := by
  have hA := bl0 w
  have H1 := Lib.hid h1
  clear h1
  go_enter Try.func5, Try.ntmps5
  go_wp2_with fail
  refine (small_any _ _ _ _ _ _).mono ?_
  rintro e w1 ⟨rfl, hb⟩
  have hk : Below w.heap.size w w1 := by first | exact hb | exact bl_tr (bl_al (bl0 _) _) hb | exact bl_tr (bl_dr (bl_al (bl0 _) _)) hb | exact bl_tr (bl_al (bl_al (bl0 _) _) _) hb | exact bl_tr (bl_dr (bl_al (bl_al (bl0 _) _) _)) hb | exact bl_tr (bl_al (bl_al (bl_al (bl0 _) _) _) _) hb | exact bl_tr (bl_dr (bl_al (bl_al (bl_al (bl0 _) _) _) _)) hb | exact bl_tr (bl_al (bl_al (bl_al (bl_al (bl0 _) _) _) _) _) hb | exact bl_tr (bl_dr (bl_al (bl_al (bl_al (bl_al (bl0 _) _) _) _) _)) hb | exact bl_tr (bl_al (bl_al (bl_al (bl_al (bl_al (bl0 _) _) _) _) _) _) hb | exact bl_tr (bl_dr (bl_al (bl_al (bl_al (bl_al (bl_al (bl0 _) _) _) _) _) _)) hb | exact bl_tr (bl_al (bl_al (bl_al (bl_al (bl_al (bl_al (bl0 _) _) _) _) _) _) _) hb | exact bl_tr (bl_dr (bl_al (bl_al (bl_al (bl_al (bl_al (bl_al (bl0 _) _) _) _) _) _) _)) hb | exact bl_tr (bl_dr (bl0 _)) hb
  replace hA := bl_tr hA hk
  clear hb hk
  rw [H1.out]
  go_wp2_with fail
  refine (awake_any _).mono ?_
  rintro e w2 ⟨rfl, hb⟩
  have hk : Below w1.heap.size w1 w2 := by first | exact hb | exact bl_tr (bl_al (bl0 _) _) hb | exact bl_tr (bl_dr (bl_al (bl0 _) _)) hb | exact bl_tr (bl_al (bl_al (bl0 _) _) _) hb | exact bl_tr (bl_dr (bl_al (bl_al (bl0 _) _) _)) hb | exact bl_tr (bl_al (bl_al (bl_al (bl0 _) _) _) _) hb | exact bl_tr (bl_dr (bl_al (bl_al (bl_al (bl0 _) _) _) _)) hb | exact bl_tr (bl_al (bl_al (bl_al (bl_al (bl0 _) _) _) _) _) hb | exact bl_tr (bl_dr (bl_al (bl_al (bl_al (bl_al (bl0 _) _) _) _) _)) hb | exact bl_tr (bl_al (bl_al (bl_al (bl_al (bl_al (bl0 _) _) _) _) _) _) hb | exact bl_tr (bl_dr (bl_al (bl_al (bl_al (bl_al (bl_al (bl0 _) _) _) _) _) _)) hb | exact bl_tr (bl_al (bl_al (bl_al (bl_al (bl_al (bl_al (bl0 _) _) _) _) _) _) _) hb | exact bl_tr (bl_dr (bl_al (bl_al (bl_al (bl_al (bl_al (bl_al (bl0 _) _) _) _) _) _) _)) hb | exact bl_tr (bl_dr (bl0 _)) hb
  replace hA := bl_tr hA hk
  clear hb hk
  go_wp2
  go_ret
  exact ⟨rfl, hA⟩
set_option maxRecDepth 100000 in
set_option maxHeartbeats 4000000 in
theorem near_out2 (A B P Q r : Int) (a : Option Addr) (m cap : Nat) (w : World) (h1 : smallB A B m = true) (he : errA A B m r [(P, Q)] ≠ 0) :
    Calls Try.prog 5 #[.agg #[.int .i64 A, .int .i64 B, .slice a m cap], .agg #[.int .i64 P, .int .i64 Q], .int .i64 r] w fun e w' => e = .returned (.bool true) ∧ Below w.heap.size w w' := by
  have hA := bl0 w
  have H1 := Lib.hid h1
  have HE := Lib.hid he
  obtain ⟨q, hq⟩ : ∃ q, errA A B m r [(P, Q)] = q := ⟨_, rfl⟩
  have HQ := Lib.hid hq
  have hq0 : (q != 0) = true := by rw [bne_iff_ne, ← hq]; exact he
  clear h1 he hq
  go_enter Try.func5, Try.ntmps5
  go_wp2_with fail
  refine (small_any _ _ _ _ _ _).mono ?_
  rintro e w1 ⟨rfl, hb⟩
  have hk : Below w.heap.size w w1 := by first | exact hb | exact bl_tr (bl_al (bl0 _) _) hb | exact bl_tr (bl_dr (bl_al (bl0 _) _)) hb | exact bl_tr (bl_al (bl_al (bl0 _) _) _) hb | exact bl_tr (bl_dr (bl_al (bl_al (bl0 _) _) _)) hb | exact bl_tr (bl_al (bl_al (bl_al (bl0 _) _) _) _) hb | exact bl_tr (bl_dr (bl_al (bl_al (bl_al (bl0 _) _) _) _)) hb | exact bl_tr (bl_al (bl_al (bl_al (bl_al (bl0 _) _) _) _) _) hb | exact bl_tr (bl_dr (bl_al (bl_al (bl_al (bl_al (bl0 _) _) _) _) _)) hb | exact bl_tr (bl_al (bl_al (bl_al (bl_al (bl_al (bl0 _) _) _) _) _) _) hb | exact bl_tr (bl_dr (bl_al (bl_al (bl_al (bl_al (bl_al (bl0 _) _) _) _) _) _)) hb | exact bl_tr (bl_al (bl_al (bl_al (bl_al (bl_al (bl_al (bl0 _) _) _) _) _) _) _) hb | exact bl_tr (bl_dr (bl_al (bl_al (bl_al (bl_al (bl_al (bl_al (bl0 _) _) _) _) _) _) _)) hb | exact bl_tr (bl_dr (bl0 _)) hb
  replace hA := bl_tr hA hk
  have f0 := cell_later hb (v := .int .i64 A) (a := ⟨w.heap.size, 0, none⟩) (by simp [go_sem])
  have f1 := cell_later hb (v := .int .i64 B) (a := ⟨w.heap.size, 1, none⟩) (by simp [go_sem])
  have f2 := cell_later hb (v := .slice a m cap) (a := ⟨w.heap.size, 2, none⟩) (by simp [go_sem])
  have a0 := cell_later hb (v := .int .i64 P) (a := ⟨w.heap.size + 1, 0, none⟩) (by simp [go_sem])
  have a1 := cell_later hb (v := .int .i64 Q) (a := ⟨w.heap.size + 1, 1, none⟩) (by simp [go_sem])
  clear hb hk
  have zf0 := blk_lt f0
  have zf1 := blk_lt f1
  have zf2 := blk_lt f2
  have za0 := blk_lt a0
  have za1 := blk_lt a1
  rw [H1.out]
  go_wp2_with fail
  refine (visible_no _ _ _ _ _ _ _ _ _ HE.out).mono ?_
  rintro e w2 ⟨rfl, hb⟩
  have hk : Below w1.heap.size w1 w2 := by first | exact hb | exact bl_tr (bl_al (bl0 _) _) hb | exact bl_tr (bl_dr (bl_al (bl0 _) _)) hb | exact bl_tr (bl_al (bl_al (bl0 _) _) _) hb | exact bl_tr (bl_dr (bl_al (bl_al (bl0 _) _) _)) hb | exact bl_tr (bl_al (bl_al (bl_al (bl0 _) _) _) _) hb | exact bl_tr (bl_dr (bl_al (bl_al (bl_al (bl0 _) _) _) _)) hb | exact bl_tr (bl_al (bl_al (bl_al (bl_al (bl0 _) _) _) _) _) hb | exact bl_tr (bl_dr (bl_al (bl_al (bl_al (bl_al (bl0 _) _) _) _) _)) hb | exact bl_tr (bl_al (bl_al (bl_al (bl_al (bl_al (bl0 _) _) _) _) _) _) hb | exact bl_tr (bl_dr (bl_al (bl_al (bl_al (bl_al (bl_al (bl0 _) _) _) _) _) _)) hb | exact bl_tr (bl_al (bl_al (bl_al (bl_al (bl_al (bl_al (bl0 _) _) _) _) _) _) _) hb | exact bl_tr (bl_dr (bl_al (bl_al (bl_al (bl_al (bl_al (bl_al (bl0 _) _) _) _) _) _) _)) hb | exact bl_tr (bl_dr (bl0 _)) hb
  replace hA := bl_tr hA hk
  clear hb hk
  rw [HQ.out]
  go_wp2_with fail
  refine (awake_any _).mono ?_
  rintro e w3 ⟨rfl, hb⟩
  have hk : Below w2.heap.size w2 w3 := by first | exact hb | exact bl_tr (bl_al (bl0 _) _) hb | exact bl_tr (bl_dr (bl_al (bl0 _) _)) hb | exact bl_tr (bl_al (bl_al (bl0 _) _) _) hb | exact bl_tr (bl_dr (bl_al (bl_al (bl0 _) _) _)) hb | exact bl_tr (bl_al (bl_al (bl_al (bl0 _) _) _) _) hb | exact bl_tr (bl_dr (bl_al (bl_al (bl_al (bl0 _) _) _) _)) hb | exact bl_tr (bl_al (bl_al (bl_al (bl_al (bl0 _) _) _) _) _) hb | exact bl_tr (bl_dr (bl_al (bl_al (bl_al (bl_al (bl0 _) _) _) _) _)) hb | exact bl_tr (bl_al (bl_al (bl_al (bl_al (bl_al (bl0 _) _) _) _) _) _) hb | exact bl_tr (bl_dr (bl_al (bl_al (bl_al (bl_al (bl_al (bl0 _) _) _) _) _) _)) hb | exact bl_tr (bl_al (bl_al (bl_al (bl_al (bl_al (bl_al (bl0 _) _) _) _) _) _) _) hb | exact bl_tr (bl_dr (bl_al (bl_al (bl_al (bl_al (bl_al (bl_al (bl0 _) _) _) _) _) _) _)) hb | exact bl_tr (bl_dr (bl0 _)) hb
  replace hA := bl_tr hA hk
  clear hb hk
  go_wp2
  go_ret
  exact ⟨rfl, hA⟩

set_option maxRecDepth 100000 in
set_option maxHeartbeats 20000000 in
theorem near_yes (A B P Q r : Int) (a : Option Addr) (cap : Nat) (fs : List Int) (w : World) (hr : RowH w a fs) (h1 : smallB A B fs.length = true) (he : errA A B fs.length r [(P, Q)] = 0) :
    Calls Try.prog 5 #[.agg #[.int .i64 A, .int .i64 B, .slice a fs.length cap], .agg #[.int .i64 P, .int .i64 Q], .int .i64 r] w fun e w' => e = .returned (.bool true) ∧ Below w.heap.size w w' := by
  have hA := bl0 w
  obtain ⟨hc, hr0, hr1, hin⟩ := errA_ok he
  have hiP : inB A B P Q = true := hin (P, Q) (by simp)
  obtain ⟨hmay, harea⟩ := chk_ok hc
  have hlen : fs.length ≤ 600 := by
    unfold smallB at h1
    rw [Bool.and_eq_true, decide_eq_true_eq] at h1
    omega
  have H1 := Lib.hid h1
  have HE := Lib.hid he
  have HIP := Lib.hid hiP
  have HAREA := Lib.hid harea
  obtain ⟨ms, hms⟩ : ∃ ms, allB A B fs r [(P, Q)] = ms := ⟨_, rfl⟩
  have hgood := allB_good (r := r) (fs := fs) hmay hin
  have HALL := Lib.hid (allB_iff (fs := fs) hmay hin hr0 hr1)
  rw [hms] at hgood HALL
  have HMS := Lib.hid hms
  have HFAR := Lib.hid (fun (c : Int × Int) (h : inM A B ms c = true) => (by
    obtain ⟨e, he, hs⟩ := (HALL.out c).1 h
    simp at he; subst he
    exact sees_near hs : (farN (P, Q) c : Int) ≤ r))
  have HSTEP := Lib.hid (fun (c : Int × Int) (hi : inB A B c.1 c.2 = true) (h : (farN (P, Q) c : Int) ≤ r) (h1 : farN (P, Q) c ≤ 1) => (by
    exact (HALL.out c).2 ⟨(P, Q), by simp, sees_step hi h h1⟩ : inM A B ms c = true))
  have HFREE := Lib.hid (fun (hw : fs.any (fun z => z == 0) = false) (c : Int × Int) (hi : inB A B c.1 c.2 = true) (h : (farN (P, Q) c : Int) ≤ r) => (by
    exact (HALL.out c).2 ⟨(P, Q), by simp, sees_free hi h (no_wall hw)⟩ : inM A B ms c = true))
  clear h1 he hiP harea hms HALL hc
  go_enter Try.func5, Try.ntmps5
  go_wp2_with fail
  refine (small_any _ _ _ _ _ _).mono ?_
  rintro e w1 ⟨rfl, hb⟩
  have hk : Below w.heap.size w w1 := by first | exact hb | exact bl_tr (bl_al (bl0 _) _) hb | exact bl_tr (bl_dr (bl_al (bl0 _) _)) hb | exact bl_tr (bl_al (bl_al (bl0 _) _) _) hb | exact bl_tr (bl_dr (bl_al (bl_al (bl0 _) _) _)) hb | exact bl_tr (bl_al (bl_al (bl_al (bl0 _) _) _) _) hb | exact bl_tr (bl_dr (bl_al (bl_al (bl_al (bl0 _) _) _) _)) hb | exact bl_tr (bl_al (bl_al (bl_al (bl_al (bl0 _) _) _) _) _) hb | exact bl_tr (bl_dr (bl_al (bl_al (bl_al (bl_al (bl0 _) _) _) _) _)) hb | exact bl_tr (bl_al (bl_al (bl_al (bl_al (bl_al (bl0 _) _) _) _) _) _) hb | exact bl_tr (bl_dr (bl_al (bl_al (bl_al (bl_al (bl_al (bl0 _) _) _) _) _) _)) hb | exact bl_tr (bl_al (bl_al (bl_al (bl_al (bl_al (bl_al (bl0 _) _) _) _) _) _) _) hb | exact bl_tr (bl_dr (bl_al (bl_al (bl_al (bl_al (bl_al (bl_al (bl0 _) _) _) _) _) _) _)) hb | exact bl_tr (bl_dr (bl0 _)) hb
  replace hA := bl_tr hA hk
  have f0 := cell_later hb (v := .int .i64 A) (a := ⟨w.heap.size, 0, none⟩) (by simp [go_sem])
  have f1 := cell_later hb (v := .int .i64 B) (a := ⟨w.heap.size, 1, none⟩) (by simp [go_sem])
  have f2 := cell_later hb (v := .slice a fs.length cap) (a := ⟨w.heap.size, 2, none⟩) (by simp [go_sem])
  have a0 := cell_later hb (v := .int .i64 P) (a := ⟨w.heap.size + 1, 0, none⟩) (by simp [go_sem])
  have a1 := cell_later hb (v := .int .i64 Q) (a := ⟨w.heap.size + 1, 1, none⟩) (by simp [go_sem])
  clear hb hk
  have zf0 := blk_lt f0
  have zf1 := blk_lt f1
  have zf2 := blk_lt f2
  have za0 := blk_lt a0
  have za1 := blk_lt a1
  rw [H1.out]
  go_wp2_with fail
  refine (visible_yes A B r P Q a cap fs _ (hr.below hA) HE.out).mono ?_
  rintro e w2 ⟨b1, q1, rfl, hm, _, _, _, hb⟩
  have hk : Below w1.heap.size w1 w2 := by first | exact hb | exact bl_tr (bl_al (bl0 _) _) hb | exact bl_tr (bl_dr (bl_al (bl0 _) _)) hb | exact bl_tr (bl_al (bl_al (bl0 _) _) _) hb | exact bl_tr (bl_dr (bl_al (bl_al (bl0 _) _) _)) hb | exact bl_tr (bl_al (bl_al (bl_al (bl0 _) _) _) _) hb | exact bl_tr (bl_dr (bl_al (bl_al (bl_al (bl0 _) _) _) _)) hb | exact bl_tr (bl_al (bl_al (bl_al (bl_al (bl0 _) _) _) _) _) hb | exact bl_tr (bl_dr (bl_al (bl_al (bl_al (bl_al (bl0 _) _) _) _) _)) hb | exact bl_tr (bl_al (bl_al (bl_al (bl_al (bl_al (bl0 _) _) _) _) _) _) hb | exact bl_tr (bl_dr (bl_al (bl_al (bl_al (bl_al (bl_al (bl0 _) _) _) _) _) _)) hb | exact bl_tr (bl_al (bl_al (bl_al (bl_al (bl_al (bl_al (bl0 _) _) _) _) _) _) _) hb | exact bl_tr (bl_dr (bl_al (bl_al (bl_al (bl_al (bl_al (bl_al (bl0 _) _) _) _) _) _) _)) hb | exact bl_tr (bl_dr (bl0 _)) hb
  replace hA := bl_tr hA hk
  replace f0 := cell_later hk f0
  replace f1 := cell_later hk f1
  replace f2 := cell_later hk f2
  replace a0 := cell_later hk a0
  replace a1 := cell_later hk a1
  clear hb hk
  have zf0 := blk_lt f0
  have zf1 := blk_lt f1
  have zf2 := blk_lt f2
  have za0 := blk_lt a0
  have za1 := blk_lt a1
  rw [HMS.out] at hm
  have F0 := Lib.hid f0
  have F1 := Lib.hid f1
  have F2 := Lib.hid f2
  have A0 := Lib.hid a0
  have A1 := Lib.hid a1
  have hr2 := hr.below hA
  go_wp2_with fail
  clear f0 f1 f2 a0 a1
  go_loopw [9, 10] (fun v i wr => ∃ k : Nat, k ≤ fs.length ∧ i = .int .i64 k ∧ v = .bool ((fs.take k).any (fun z => z == 0)) ∧ Below w2.heap.size w2 wr) (fun _ i _ => fs.length - (intOf i).toNat)
  case atStart => exact ⟨0, Nat.zero_le _, rfl, by simp, bl0 _⟩
  case round =>
    obtain ⟨k, hk, rfl, rfl, hB⟩ := hrel
    have hk0 : (0 : Int) ≤ (k : Int) := by omega
    have f2 := cell_later hB F2.out
    have zf2 := blk_lt f2
    by_cases hlt : k < fs.length
    · have hlt2 : (k : Int) < (fs.length : Int) := by omega
      obtain ⟨gb, go, rfl, q⟩ := (hr2.below hB).cell hlt
      have zq := blk_lt q
      obtain ⟨z, hz⟩ : ∃ z, fs[k] = z := ⟨_, rfl⟩
      rw [hz] at q
      have hs : (fs.take (k + 1)).any (fun z => z == 0) = ((fs.take k).any (fun z => z == 0) || (z == 0)) := by
        rw [List.take_succ_eq_append_getElem hlt, List.any_append, hz]; simp
      have HS := Lib.hid hs
      have HB := Lib.hid hB
      obtain ⟨v, hv⟩ : ∃ v, (fs.take k).any (fun z => z == 0) = v := ⟨_, rfl⟩
      rw [hv] at HS
      rw [hv]
      clear hs hv hB hz
      cases v
      · obtain ⟨t, ht⟩ : ∃ t, (z == 0) = t := ⟨_, rfl⟩
        rw [ht] at HS
        go_wp2
        go_roundw
        case rel => exact ⟨k + 1, by omega, by go_num, by rw [HS.out, ← ht]; rfl, HB.out⟩
        case measure => simp [intOf]; omega
      · go_wp2
        go_roundw
        case rel => exact ⟨k + 1, by omega, by go_num, by rw [HS.out]; rfl, HB.out⟩
        case measure => simp [intOf]; omega
    · obtain rfl : k = fs.length := by omega
      rw [List.take_length]
      obtain ⟨bw, hbw⟩ : ∃ bw, fs.any (fun z => z == 0) = bw := ⟨_, rfl⟩
      rw [hbw] at HFREE
      rw [hbw]
      have HBW := Lib.hid hbw
      have HB3 := Lib.hid hB
      clear hbw hB
      go_wp2_with fail
      clear f2 zf2
      go_loopw [11] (fun i wr2 => ∃ k : Nat, k ≤ fs.length ∧ i = .int .i64 k ∧ Below w2.heap.size w2 wr2) (fun i _ => fs.length - (intOf i).toNat)
      case atStart => exact ⟨0, Nat.zero_le _, rfl, HB3.out⟩
      case round =>
        obtain ⟨k, hk, rfl, hB⟩ := hrel
        have hk0 : (0 : Int) ≤ (k : Int) := by omega
        have f0 := cell_later hB F0.out
        have f1 := cell_later hB F1.out
        have f2 := cell_later hB F2.out
        have a0 := cell_later hB A0.out
        have a1 := cell_later hB A1.out
        have zf0 := blk_lt f0
        have za0 := blk_lt a0
        by_cases hlt : k < fs.length
        · have hlt2 : (k : Int) < (fs.length : Int) := by omega
          obtain ⟨hat1, _, hat3⟩ := atC_num (i := k) hmay (by rw [← HAREA.out]; exact hlt2)
          obtain ⟨m, hmm⟩ : ∃ m, farN (P, Q) (atC A k) = m := ⟨_, rfl⟩
          obtain ⟨sp, hsp⟩ : ∃ sp, apartI P ((k : Int) % A) + apartI Q ((k : Int) / A) = sp := ⟨_, rfl⟩
          have hmx : max (apartI P ((k : Int) % A)) (apartI Q ((k : Int) / A)) = (m : Int) := by
            have := farN_eq (P, Q) (atC A k)
            rw [hmm] at this
            exact this.symm
          have hs1 : sp = 1 → m ≤ 1 := fun h => by unfold apartI at hmx hsp; omega
          have hm255 : m ≤ 255 := by have := far_in HIP.out hat1; have e := farN_eq (P, Q) (atC A k); rw [hmm] at e; unfold atC at e; unfold atC at this; dsimp only at e this; omega
          have hF := HFAR.out (atC A k)
          have hS := HSTEP.out (atC A k) hat1
          have hR := fun h => HFREE.out h (atC A k) hat1
          rw [hmm] at hF hS hR
          obtain ⟨is, his⟩ : ∃ is, inM A B ms (atC A k) = is := ⟨_, rfl⟩
          rw [his] at hF hS hR
          have HPL := Lib.hid (in_plain hat1)
          have hin2 : inB A B ((k : Int) % A) ((k : Int) / A) = true := hat1
          have HMX := Lib.hid hmx
          have HSP := Lib.hid hsp
          have HISS := Lib.hid (show inM A B ms ((k : Int) % A, (k : Int) / A) = is from his)
          have HF := Lib.hid hF
          have HS := Lib.hid hS
          have HR := Lib.hid hR
          have HS1 := Lib.hid hs1
          have HB4 := Lib.hid hB
          obtain ⟨x, hx⟩ : ∃ x, (k : Int) % A = x := ⟨_, rfl⟩
          obtain ⟨y, hy⟩ : ∃ y, (k : Int) / A = y := ⟨_, rfl⟩
          have HX := Lib.hid hx
          have HY := Lib.hid hy
          have hpl : plainB ((k : Int) % A) ((k : Int) / A) = true := HPL.out
          rw [hx, hy] at hpl HMX HSP HISS hin2
          have HIN := Lib.hid hin2
          have HPL2 := Lib.hid hpl
          clear hF hS hR hs1 hmx hsp his hmm hat1 hB HPL hx hy hpl hin2
          go_wp2_with fail
          refine (at_yes A B k _ hat3).mono ?_
          rintro e w3 ⟨rfl, hb3⟩
          rw [HX.out, HY.out]
          replace f0 := cell_later hb3 f0
          replace f1 := cell_later hb3 f1
          replace f2 := cell_later hb3 f2
          replace a0 := cell_later hb3 a0
          replace a1 := cell_later hb3 a1
          have HB5 := Lib.hid (bl_tr HB4.out hb3)
          clear hb3 HB4
          obtain ⟨w4, hw4⟩ : ∃ w4, w3.alloc (.cells #[.int .i64 x, .int .i64 y] 37) = w4 := ⟨_, rfl⟩
          have hz4 : w4.heap.size = w3.heap.size + 1 := by rw [← hw4]; simp
          have hb4 : Below w3.heap.size w3 w4 := by rw [← hw4]; exact bl_al (bl0 _) _
          have c0 : w4.cell? ⟨w3.heap.size, 0, none⟩ = some (.int .i64 x) := by rw [← hw4]; simp [go_sem]
          have c1 : w4.cell? ⟨w3.heap.size, 1, none⟩ = some (.int .i64 y) := by rw [← hw4]; simp [go_sem]
          replace f2 := cell_later hb4 f2
          replace a0 := cell_later hb4 a0
          replace a1 := cell_later hb4 a1
          have hB6 := bl_tr HB5.out hb4
          have HW4 := Lib.hid hw4
          clear hw4 hb4 HB5 f0 f1
          have zc := blk_lt c0
          go_upto_region 15 with fail
          rw [HW4.out]
          go_wp2_with fail
          refine (far_yes P Q x y _ (in_plain HIP.out) HPL2.out).mono ?_
          rintro e w5 ⟨rfl, hb5⟩
          rw [HMX.out]
          replace f2 := cell_later hb5 f2
          replace a0 := cell_later hb5 a0
          replace a1 := cell_later hb5 a1
          replace c0 := cell_later hb5 c0
          replace c1 := cell_later hb5 c1
          replace hB6 := bl_tr hB6 hb5
          have za := blk_lt a0
          have zc := blk_lt c0
          clear hb5
          go_wp2_with fail
          refine (walk_yes P Q x y _ (in_plain HIP.out) HPL2.out).mono ?_
          rintro e w6 ⟨rfl, hb6⟩
          rw [HSP.out]
          replace f2 := cell_later hb6 f2
          replace a0 := cell_later hb6 a0
          replace a1 := cell_later hb6 a1
          replace c0 := cell_later hb6 c0
          replace c1 := cell_later hb6 c1
          replace hB6 := bl_tr hB6 hb6
          have za := blk_lt a0
          have zc := blk_lt c0
          clear hb6
          go_wp2_with fail
          refine (has_all b1 q1 A B x y ms _ (hm.below hB6) hgood).mono ?_
          rintro e w7 ⟨rfl, hb7⟩
          rw [HISS.out]
          replace f2 := cell_later hb7 f2
          replace a0 := cell_later hb7 a0
          replace a1 := cell_later hb7 a1
          replace c0 := cell_later hb7 c0
          replace c1 := cell_later hb7 c1
          replace hB6 := bl_tr hB6 hb7
          have za := blk_lt a0
          have zc := blk_lt c0
          clear hb7
          go_upto_region 20 with fail
          go_cut [127] from 97 to 127 (fun s wx => s = .bool false ∧ wx = w7)
          case first =>
            cases is
            · have e0 : ((m : Int) == 0) = false := beq_eq_false_iff_ne.2 (fun h => by cases HS.out (by omega) (by omega))
              by_cases h1 : sp = 1
              · have e1 : (sp == 1) = true := beq_iff_eq.2 h1
                have e2 : ¬ (0 : Int) < r := fun h => by cases HS.out (by have := HS1.out h1; omega) (HS1.out h1)
                clear h1
                cases bw
                · have e3 : ¬ (m : Int) ≤ r := fun h => by cases HR.out rfl h
                  go_wp2_with fail
                  go_meet
                  exact ⟨rfl, rfl⟩
                · go_wp2_with fail
                  go_meet
                  exact ⟨rfl, rfl⟩
              · have e1 : (sp == 1) = false := beq_eq_false_iff_ne.2 h1
                clear h1
                cases bw
                · have e3 : ¬ (m : Int) ≤ r := fun h => by cases HR.out rfl h
                  go_wp2_with fail
                  go_meet
                  exact ⟨rfl, rfl⟩
                · go_wp2_with fail
                  go_meet
                  exact ⟨rfl, rfl⟩
            · have e0 : ¬ r < (m : Int) := by have := HF.out rfl; omega
              go_wp2_with fail
              go_meet
              exact ⟨rfl, rfl⟩
          case rest =>
            obtain ⟨rfl, rfl⟩ := hcut
            clear f2
            go_wp2_with fail
            refine (line_yes P Q x y m _ (in_plain HIP.out) HPL2.out HMX.out (by omega)).mono ?_
            rintro e w8 ⟨bl, capl, rfl, hrl, hb8⟩
            rw [lineF_len]
            obtain ⟨gl, gol, rfl, _⟩ := hrl.cell (k := 0) (by rw [lineF_len]; omega)
            have HLC := Lib.hid (fun (j : Nat) (hj : j ≤ m) => (by
              rcases hrl with e | ⟨b', o', e, h'⟩
              · have := congrArg List.length e; rw [lineF_len] at this; simp at this
              · cases e; exact h' j _ (lineF_at (by omega)) : w8.cell? ⟨gl, gol + j * 2, none⟩ = some (.int .i64 (lineK P Q x y m j).1) ∧ w8.cell? ⟨gl, gol + j * 2 + 1, none⟩ = some (.int .i64 (lineK P Q x y m j).2)))
            obtain ⟨l0, l1⟩ := HLC.out 0 (Nat.zero_le _)
            obtain ⟨e0, e1⟩ := HLC.out m (Nat.le_refl _)
            rw [line_fst] at l0 l1
            rw [line_end HMX.out] at e0 e1
            rw [Nat.zero_mul, Nat.add_zero] at l0 l1
            replace a0 := cell_later hb8 a0
            replace a1 := cell_later hb8 a1
            replace c0 := cell_later hb8 c0
            replace c1 := cell_later hb8 c1
            have HB9 := Lib.hid (bl_tr hB6 hb8)
            have bP := beq_self_eq_true P
            have bQ := beq_self_eq_true Q
            have bx := beq_self_eq_true x
            have by' := beq_self_eq_true y
            have hm0 : (0 : Int) ≤ (m : Int) := by omega
            have bm : ((m : Int) + 1 != (m : Int) + 1) = false := by simp
            have bl9 : (m : Int) < (m : Int) + 1 := by omega
            have ew : IntKind.i64.wrap ((m : Int) + 1) = (m : Int) + 1 := IntWalk.i64_in _ (by omega)
            clear hb8 hrl hB6
            go_upto_region 23 with fail
            refine (wpIn_wide (n := 11)).1 ?_
            have hD := bl_dr (bl0 w8)
            refine ordS_begin (S := (fun w' : World => w'.cell? ⟨w.heap.size + 1, 0, none⟩ = some (.int .i64 P) ∧ w'.cell? ⟨w.heap.size + 1, 1, none⟩ = some (.int .i64 Q) ∧ w'.cell? ⟨w3.heap.size, 0, none⟩ = some (.int .i64 x) ∧ w'.cell? ⟨w3.heap.size, 1, none⟩ = some (.int .i64 y) ∧ w'.cell? ⟨gl, gol, none⟩ = some (.int .i64 P) ∧ w'.cell? ⟨gl, gol + 1, none⟩ = some (.int .i64 Q) ∧ w'.cell? ⟨gl, gol + m * 2, none⟩ = some (.int .i64 x) ∧ w'.cell? ⟨gl, gol + m * 2 + 1, none⟩ = some (.int .i64 y))) (by kernel_rfl) ⟨cell_later hD a0, cell_later hD a1, cell_later hD c0, cell_later hD c1, cell_later hD l0, cell_later hD l1, cell_later hD e0, cell_later hD e1⟩ (fun hH => ?_)
            first
              | (refine' ordS_take (i := 0) (oi := { dst := some 134, op := Op.move (Operand.tmp 20), type := 31, pos := _, after := #[], guard := none }) (v := _) rfl (by kernel_rfl) (by kernel_rfl) (by kernel_rfl) (by kernel_rfl) (fun _ _ _ h => h) (by assumption) (Or.inl ⟨by rfl, ?hy1⟩) (fun _ => rfl) ?rest1
                 case hy1 => (intro w hSw; (try dsimp only at hSw); go_simp; try with_reducible rfl))
              | (refine ordS_take (i := 0) (oi := { dst := some 134, op := Op.move (Operand.tmp 20), type := 31, pos := _, after := #[], guard := none }) (v := undef) rfl (by kernel_rfl) (by kernel_rfl) (by kernel_rfl) (by kernel_rfl) (fun _ _ _ h => h) (by assumption) (Or.inr ⟨by rfl, rfl⟩) (fun _ => rfl) ?_)
            try simp only [Act.put, List.setIfInBounds_toArray, List.set_cons_zero, List.set_cons_succ]
            first
              | (refine' ordS_take (i := 1) (oi := { dst := some 135, op := Op.binOp BinOp.neq 31 (Operand.tmp 134) (Operand.const (Value.int IntKind.i64 0)) 31, type := 4, pos := _, after := #[{ on := 0, ground := Ground.data }], guard := none }) (v := _) rfl (by kernel_rfl) (by kernel_rfl) (by kernel_rfl) (by kernel_rfl) (fun _ _ _ h => h) (by assumption) (Or.inl ⟨by rfl, ?hy2⟩) (fun _ => rfl) ?rest2
                 case hy2 => (intro w hSw; (try dsimp only at hSw); go_simp; try with_reducible rfl))
              | (refine ordS_take (i := 1) (oi := { dst := some 135, op := Op.binOp BinOp.neq 31 (Operand.tmp 134) (Operand.const (Value.int IntKind.i64 0)) 31, type := 4, pos := _, after := #[{ on := 0, ground := Ground.data }], guard := none }) (v := undef) rfl (by kernel_rfl) (by kernel_rfl) (by kernel_rfl) (by kernel_rfl) (fun _ _ _ h => h) (by assumption) (Or.inr ⟨by rfl, rfl⟩) (fun _ => rfl) ?_)
            try simp only [Act.put, List.setIfInBounds_toArray, List.set_cons_zero, List.set_cons_succ]
            first
              | (refine' ordS_take (i := 2) (oi := { dst := some 136, op := Op.move (Operand.tmp 135), type := 4, pos := _, after := #[{ on := 1, ground := Ground.data }], guard := none }) (v := _) rfl (by kernel_rfl) (by kernel_rfl) (by kernel_rfl) (by kernel_rfl) (fun _ _ _ h => h) (by assumption) (Or.inl ⟨by rfl, ?hy3⟩) (fun _ => rfl) ?rest3
                 case hy3 => (intro w hSw; (try dsimp only at hSw); go_simp; try with_reducible rfl))
              | (refine ordS_take (i := 2) (oi := { dst := some 136, op := Op.move (Operand.tmp 135), type := 4, pos := _, after := #[{ on := 1, ground := Ground.data }], guard := none }) (v := undef) rfl (by kernel_rfl) (by kernel_rfl) (by kernel_rfl) (by kernel_rfl) (fun _ _ _ h => h) (by assumption) (Or.inr ⟨by rfl, rfl⟩) (fun _ => rfl) ?_)
            try simp only [Act.put, List.setIfInBounds_toArray, List.set_cons_zero, List.set_cons_succ]
            first
              | (refine' ordS_take (i := 3) (oi := { dst := some 137, op := Op.move (Operand.tmp 19), type := 27, pos := _, after := #[{ on := 2, ground := Ground.guard }], guard := some (2, false) }) (v := _) rfl (by kernel_rfl) (by kernel_rfl) (by kernel_rfl) (by kernel_rfl) (fun _ _ _ h => h) (by assumption) (Or.inl ⟨by rfl, ?hy4⟩) (fun _ => rfl) ?rest4
                 case hy4 => (intro w hSw; (try dsimp only at hSw); go_simp; try with_reducible rfl))
              | (refine ordS_take (i := 3) (oi := { dst := some 137, op := Op.move (Operand.tmp 19), type := 27, pos := _, after := #[{ on := 2, ground := Ground.guard }], guard := some (2, false) }) (v := undef) rfl (by kernel_rfl) (by kernel_rfl) (by kernel_rfl) (by kernel_rfl) (fun _ _ _ h => h) (by assumption) (Or.inr ⟨by rfl, rfl⟩) (fun _ => rfl) ?_)
            try simp only [Act.put, List.setIfInBounds_toArray, List.set_cons_zero, List.set_cons_succ]
            first
              | (refine' ordS_take (i := 4) (oi := { dst := some 138, op := Op.call { callee := Callee.builtin Builtin.len, args := #[Operand.tmp 137], argTypes := #[27] }, type := 3, pos := _, after := #[{ on := 3, ground := Ground.data }, { on := 2, ground := Ground.guard }], guard := some (2, false) }) (v := _) rfl (by kernel_rfl) (by kernel_rfl) (by kernel_rfl) (by kernel_rfl) (fun _ _ _ h => h) (by assumption) (Or.inl ⟨by rfl, ?hy5⟩) (fun _ => rfl) ?rest5
                 case hy5 => (intro w hSw; (try dsimp only at hSw); go_simp; try with_reducible rfl))
              | (refine ordS_take (i := 4) (oi := { dst := some 138, op := Op.call { callee := Callee.builtin Builtin.len, args := #[Operand.tmp 137], argTypes := #[27] }, type := 3, pos := _, after := #[{ on := 3, ground := Ground.data }, { on := 2, ground := Ground.guard }], guard := some (2, false) }) (v := undef) rfl (by kernel_rfl) (by kernel_rfl) (by kernel_rfl) (by kernel_rfl) (fun _ _ _ h => h) (by assumption) (Or.inr ⟨by rfl, rfl⟩) (fun _ => rfl) ?_)
            try simp only [Act.put, List.setIfInBounds_toArray, List.set_cons_zero, List.set_cons_succ]
            first
              | (refine' ordS_take (i := 5) (oi := { dst := some 139, op := Op.move (Operand.tmp 14), type := 3, pos := _, after := #[{ on := 2, ground := Ground.guard }], guard := some (2, false) }) (v := _) rfl (by kernel_rfl) (by kernel_rfl) (by kernel_rfl) (by kernel_rfl) (fun _ _ _ h => h) (by assumption) (Or.inl ⟨by rfl, ?hy6⟩) (fun _ => rfl) ?rest6
                 case hy6 => (intro w hSw; (try dsimp only at hSw); go_simp; try with_reducible rfl))
              | (refine ordS_take (i := 5) (oi := { dst := some 139, op := Op.move (Operand.tmp 14), type := 3, pos := _, after := #[{ on := 2, ground := Ground.guard }], guard := some (2, false) }) (v := undef) rfl (by kernel_rfl) (by kernel_rfl) (by kernel_rfl) (by kernel_rfl) (fun _ _ _ h => h) (by assumption) (Or.inr ⟨by rfl, rfl⟩) (fun _ => rfl) ?_)
            try simp only [Act.put, List.setIfInBounds_toArray, List.set_cons_zero, List.set_cons_succ]
            first
              | (refine' ordS_take (i := 6) (oi := { dst := some 140, op := Op.binOp BinOp.add 3 (Operand.tmp 139) (Operand.const (Value.int IntKind.i64 1)) 3, type := 3, pos := _, after := #[{ on := 5, ground := Ground.data }, { on := 2, ground := Ground.guard }], guard := some (2, false) }) (v := _) rfl (by kernel_rfl) (by kernel_rfl) (by kernel_rfl) (by kernel_rfl) (fun _ _ _ h => h) (by assumption) (Or.inl ⟨by rfl, ?hy7⟩) (fun _ => rfl) ?rest7
                 case hy7 => (intro w hSw; (try dsimp only at hSw); go_simp; try with_reducible rfl))
              | (refine ordS_take (i := 6) (oi := { dst := some 140, op := Op.binOp BinOp.add 3 (Operand.tmp 139) (Operand.const (Value.int IntKind.i64 1)) 3, type := 3, pos := _, after := #[{ on := 5, ground := Ground.data }, { on := 2, ground := Ground.guard }], guard := some (2, false) }) (v := undef) rfl (by kernel_rfl) (by kernel_rfl) (by kernel_rfl) (by kernel_rfl) (fun _ _ _ h => h) (by assumption) (Or.inr ⟨by rfl, rfl⟩) (fun _ => rfl) ?_)
            try simp only [Act.put, List.setIfInBounds_toArray, List.set_cons_zero, List.set_cons_succ]
            first
              | (refine' ordS_take (i := 7) (oi := { dst := some 141, op := Op.binOp BinOp.neq 3 (Operand.tmp 138) (Operand.tmp 140) 3, type := 4, pos := _, after := #[{ on := 4, ground := Ground.data }, { on := 6, ground := Ground.data }, { on := 2, ground := Ground.guard }], guard := some (2, false) }) (v := _) rfl (by kernel_rfl) (by kernel_rfl) (by kernel_rfl) (by kernel_rfl) (fun _ _ _ h => h) (by assumption) (Or.inl ⟨by rfl, ?hy8⟩) (fun _ => rfl) ?rest8
                 case hy8 => (intro w hSw; (try dsimp only at hSw); go_simp; try with_reducible rfl))
              | (refine ordS_take (i := 7) (oi := { dst := some 141, op := Op.binOp BinOp.neq 3 (Operand.tmp 138) (Operand.tmp 140) 3, type := 4, pos := _, after := #[{ on := 4, ground := Ground.data }, { on := 6, ground := Ground.data }, { on := 2, ground := Ground.guard }], guard := some (2, false) }) (v := undef) rfl (by kernel_rfl) (by kernel_rfl) (by kernel_rfl) (by kernel_rfl) (fun _ _ _ h => h) (by assumption) (Or.inr ⟨by rfl, rfl⟩) (fun _ => rfl) ?_)
            try simp only [Act.put, List.setIfInBounds_toArray, List.set_cons_zero, List.set_cons_succ]
            first
              | (refine' ordS_take (i := 8) (oi := { dst := some 142, op := Op.pick (Operand.tmp 136) (Operand.const (Value.bool true)) (Operand.tmp 141), type := 4, pos := _, after := #[{ on := 2, ground := Ground.data }, { on := 7, ground := Ground.data }], guard := none }) (v := _) rfl (by kernel_rfl) (by kernel_rfl) (by kernel_rfl) (by kernel_rfl) (fun _ _ _ h => h) (by assumption) (Or.inl ⟨by rfl, ?hy9⟩) (fun _ => rfl) ?rest9
                 case hy9 => (intro w hSw; (try dsimp only at hSw); go_simp; try with_reducible rfl))
              | (refine ordS_take (i := 8) (oi := { dst := some 142, op := Op.pick (Operand.tmp 136) (Operand.const (Value.bool true)) (Operand.tmp 141), type := 4, pos := _, after := #[{ on := 2, ground := Ground.data }, { on := 7, ground := Ground.data }], guard := none }) (v := undef) rfl (by kernel_rfl) (by kernel_rfl) (by kernel_rfl) (by kernel_rfl) (fun _ _ _ h => h) (by assumption) (Or.inr ⟨by rfl, rfl⟩) (fun _ => rfl) ?_)
            try simp only [Act.put, List.setIfInBounds_toArray, List.set_cons_zero, List.set_cons_succ]
            first
              | (refine' ordS_take (i := 9) (oi := { dst := some 143, op := Op.move (Operand.tmp 142), type := 4, pos := _, after := #[{ on := 8, ground := Ground.data }, { on := 2, ground := Ground.chain }], guard := none }) (v := _) rfl (by kernel_rfl) (by kernel_rfl) (by kernel_rfl) (by kernel_rfl) (fun _ _ _ h => h) (by assumption) (Or.inl ⟨by rfl, ?hy10⟩) (fun _ => rfl) ?rest10
                 case hy10 => (intro w hSw; (try dsimp only at hSw); go_simp; try with_reducible rfl))
              | (refine ordS_take (i := 9) (oi := { dst := some 143, op := Op.move (Operand.tmp 142), type := 4, pos := _, after := #[{ on := 8, ground := Ground.data }, { on := 2, ground := Ground.chain }], guard := none }) (v := undef) rfl (by kernel_rfl) (by kernel_rfl) (by kernel_rfl) (by kernel_rfl) (fun _ _ _ h => h) (by assumption) (Or.inr ⟨by rfl, rfl⟩) (fun _ => rfl) ?_)
            try simp only [Act.put, List.setIfInBounds_toArray, List.set_cons_zero, List.set_cons_succ]
            first
              | (refine' ordS_take (i := 10) (oi := { dst := some 144, op := Op.move (Operand.tmp 19), type := 27, pos := _, after := #[{ on := 9, ground := Ground.guard }], guard := some (9, false) }) (v := _) rfl (by kernel_rfl) (by kernel_rfl) (by kernel_rfl) (by kernel_rfl) (fun _ _ _ h => h) (by assumption) (Or.inl ⟨by rfl, ?hy11⟩) (fun _ => rfl) ?rest11
                 case hy11 => (intro w hSw; (try dsimp only at hSw); go_simp; try with_reducible rfl))
              | (refine ordS_take (i := 10) (oi := { dst := some 144, op := Op.move (Operand.tmp 19), type := 27, pos := _, after := #[{ on := 9, ground := Ground.guard }], guard := some (9, false) }) (v := undef) rfl (by kernel_rfl) (by kernel_rfl) (by kernel_rfl) (by kernel_rfl) (fun _ _ _ h => h) (by assumption) (Or.inr ⟨by rfl, rfl⟩) (fun _ => rfl) ?_)
            try simp only [Act.put, List.setIfInBounds_toArray, List.set_cons_zero, List.set_cons_succ]
            first
              | (refine' ordS_take (i := 11) (oi := { dst := some 145, op := Op.indexAddr 27 (Operand.tmp 144) (Operand.const (Value.int IntKind.i64 0)), type := 0, pos := _, after := #[{ on := 10, ground := Ground.data }, { on := 9, ground := Ground.guard }], guard := some (9, false) }) (v := _) rfl (by kernel_rfl) (by kernel_rfl) (by kernel_rfl) (by kernel_rfl) (fun _ _ _ h => h) (by assumption) (Or.inl ⟨by rfl, ?hy12⟩) (fun _ => rfl) ?rest12
                 case hy12 => (intro w hSw; (try dsimp only at hSw); go_simp; try with_reducible rfl))
              | (refine ordS_take (i := 11) (oi := { dst := some 145, op := Op.indexAddr 27 (Operand.tmp 144) (Operand.const (Value.int IntKind.i64 0)), type := 0, pos := _, after := #[{ on := 10, ground := Ground.data }, { on := 9, ground := Ground.guard }], guard := some (9, false) }) (v := undef) rfl (by kernel_rfl) (by kernel_rfl) (by kernel_rfl) (by kernel_rfl) (fun _ _ _ h => h) (by assumption) (Or.inr ⟨by rfl, rfl⟩) (fun _ => rfl) ?_)
            try simp only [Act.put, List.setIfInBounds_toArray, List.set_cons_zero, List.set_cons_succ]
            first
              | (refine' ordS_take (i := 12) (oi := { dst := some 146, op := Op.load 37 (Operand.tmp 145), type := 37, pos := _, after := #[{ on := 11, ground := Ground.data }, { on := 9, ground := Ground.guard }], guard := some (9, false) }) (v := _) rfl (by kernel_rfl) (by kernel_rfl) (by kernel_rfl) (by kernel_rfl) (fun _ _ _ h => h) (by assumption) (Or.inl ⟨by rfl, ?hy13⟩) (fun _ => rfl) ?rest13
                 case hy13 => (intro w hSw; (try dsimp only at hSw); go_simp; try with_reducible rfl))
              | (refine ordS_take (i := 12) (oi := { dst := some 146, op := Op.load 37 (Operand.tmp 145), type := 37, pos := _, after := #[{ on := 11, ground := Ground.data }, { on := 9, ground := Ground.guard }], guard := some (9, false) }) (v := undef) rfl (by kernel_rfl) (by kernel_rfl) (by kernel_rfl) (by kernel_rfl) (fun _ _ _ h => h) (by assumption) (Or.inr ⟨by rfl, rfl⟩) (fun _ => rfl) ?_)
            try simp only [Act.put, List.setIfInBounds_toArray, List.set_cons_zero, List.set_cons_succ]
            first
              | (refine' ordS_take (i := 13) (oi := { dst := some 147, op := Op.load 37 (Operand.tmp 4), type := 37, pos := _, after := #[{ on := 9, ground := Ground.guard }], guard := some (9, false) }) (v := _) rfl (by kernel_rfl) (by kernel_rfl) (by kernel_rfl) (by kernel_rfl) (fun _ _ _ h => h) (by assumption) (Or.inl ⟨by rfl, ?hy14⟩) (fun _ => rfl) ?rest14
                 case hy14 => (intro w hSw; (try dsimp only at hSw); go_simp; try with_reducible rfl))
              | (refine ordS_take (i := 13) (oi := { dst := some 147, op := Op.load 37 (Operand.tmp 4), type := 37, pos := _, after := #[{ on := 9, ground := Ground.guard }], guard := some (9, false) }) (v := undef) rfl (by kernel_rfl) (by kernel_rfl) (by kernel_rfl) (by kernel_rfl) (fun _ _ _ h => h) (by assumption) (Or.inr ⟨by rfl, rfl⟩) (fun _ => rfl) ?_)
            try simp only [Act.put, List.setIfInBounds_toArray, List.set_cons_zero, List.set_cons_succ]
            refine ordS_one (i := 14) (o := { dst := some 148, op := Op.binOp BinOp.neq 37 (Operand.tmp 146) (Operand.tmp 147) 37, type := 4, pos := _, after := #[{ on := 12, ground := Ground.data }, { on := 13, ground := Ground.data }, { on := 9, ground := Ground.guard }], guard := some (9, false) }) (by kernel_rfl) rfl (by rfl) (fun K hK => ?_)
            go_simp
            refine hK _ _ hH ?_
            clear hK K
            try simp only [Act.put, List.setIfInBounds_toArray, List.set_cons_zero, List.set_cons_succ]
            first
              | (refine' ordS_take (i := 15) (oi := { dst := some 149, op := Op.pick (Operand.tmp 143) (Operand.const (Value.bool true)) (Operand.tmp 148), type := 4, pos := _, after := #[{ on := 9, ground := Ground.data }, { on := 14, ground := Ground.data }], guard := none }) (v := _) rfl (by kernel_rfl) (by kernel_rfl) (by kernel_rfl) (by kernel_rfl) (fun _ _ _ h => h) (by assumption) (Or.inl ⟨by rfl, ?hy15⟩) (fun _ => rfl) ?rest15
                 case hy15 => (intro w hSw; (try dsimp only at hSw); go_simp; try with_reducible rfl))
              | (refine ordS_take (i := 15) (oi := { dst := some 149, op := Op.pick (Operand.tmp 143) (Operand.const (Value.bool true)) (Operand.tmp 148), type := 4, pos := _, after := #[{ on := 9, ground := Ground.data }, { on := 14, ground := Ground.data }], guard := none }) (v := undef) rfl (by kernel_rfl) (by kernel_rfl) (by kernel_rfl) (by kernel_rfl) (fun _ _ _ h => h) (by assumption) (Or.inr ⟨by rfl, rfl⟩) (fun _ => rfl) ?_)
            try simp only [Act.put, List.setIfInBounds_toArray, List.set_cons_zero, List.set_cons_succ]
            first
              | (refine' ordS_take (i := 16) (oi := { dst := some 150, op := Op.move (Operand.tmp 149), type := 4, pos := _, after := #[{ on := 15, ground := Ground.data }, { on := 9, ground := Ground.chain }], guard := none }) (v := _) rfl (by kernel_rfl) (by kernel_rfl) (by kernel_rfl) (by kernel_rfl) (fun _ _ _ h => h) (by assumption) (Or.inl ⟨by rfl, ?hy16⟩) (fun _ => rfl) ?rest16
                 case hy16 => (intro w hSw; (try dsimp only at hSw); go_simp; try with_reducible rfl))
              | (refine ordS_take (i := 16) (oi := { dst := some 150, op := Op.move (Operand.tmp 149), type := 4, pos := _, after := #[{ on := 15, ground := Ground.data }, { on := 9, ground := Ground.chain }], guard := none }) (v := undef) rfl (by kernel_rfl) (by kernel_rfl) (by kernel_rfl) (by kernel_rfl) (fun _ _ _ h => h) (by assumption) (Or.inr ⟨by rfl, rfl⟩) (fun _ => rfl) ?_)
            try simp only [Act.put, List.setIfInBounds_toArray, List.set_cons_zero, List.set_cons_succ]
            first
              | (refine' ordS_take (i := 17) (oi := { dst := some 151, op := Op.move (Operand.tmp 19), type := 27, pos := _, after := #[{ on := 16, ground := Ground.guard }], guard := some (16, false) }) (v := _) rfl (by kernel_rfl) (by kernel_rfl) (by kernel_rfl) (by kernel_rfl) (fun _ _ _ h => h) (by assumption) (Or.inl ⟨by rfl, ?hy17⟩) (fun _ => rfl) ?rest17
                 case hy17 => (intro w hSw; (try dsimp only at hSw); go_simp; try with_reducible rfl))
              | (refine ordS_take (i := 17) (oi := { dst := some 151, op := Op.move (Operand.tmp 19), type := 27, pos := _, after := #[{ on := 16, ground := Ground.guard }], guard := some (16, false) }) (v := undef) rfl (by kernel_rfl) (by kernel_rfl) (by kernel_rfl) (by kernel_rfl) (fun _ _ _ h => h) (by assumption) (Or.inr ⟨by rfl, rfl⟩) (fun _ => rfl) ?_)
            try simp only [Act.put, List.setIfInBounds_toArray, List.set_cons_zero, List.set_cons_succ]
            first
              | (refine' ordS_take (i := 18) (oi := { dst := some 152, op := Op.move (Operand.tmp 14), type := 3, pos := _, after := #[{ on := 16, ground := Ground.guard }], guard := some (16, false) }) (v := _) rfl (by kernel_rfl) (by kernel_rfl) (by kernel_rfl) (by kernel_rfl) (fun _ _ _ h => h) (by assumption) (Or.inl ⟨by rfl, ?hy18⟩) (fun _ => rfl) ?rest18
                 case hy18 => (intro w hSw; (try dsimp only at hSw); go_simp; try with_reducible rfl))
              | (refine ordS_take (i := 18) (oi := { dst := some 152, op := Op.move (Operand.tmp 14), type := 3, pos := _, after := #[{ on := 16, ground := Ground.guard }], guard := some (16, false) }) (v := undef) rfl (by kernel_rfl) (by kernel_rfl) (by kernel_rfl) (by kernel_rfl) (fun _ _ _ h => h) (by assumption) (Or.inr ⟨by rfl, rfl⟩) (fun _ => rfl) ?_)
            try simp only [Act.put, List.setIfInBounds_toArray, List.set_cons_zero, List.set_cons_succ]
            first
              | (refine' ordS_take (i := 19) (oi := { dst := some 153, op := Op.indexAddr 27 (Operand.tmp 151) (Operand.tmp 152), type := 0, pos := _, after := #[{ on := 17, ground := Ground.data }, { on := 18, ground := Ground.data }, { on := 16, ground := Ground.guard }], guard := some (16, false) }) (v := _) rfl (by kernel_rfl) (by kernel_rfl) (by kernel_rfl) (by kernel_rfl) (fun _ _ _ h => h) (by assumption) (Or.inl ⟨by rfl, ?hy19⟩) (fun _ => rfl) ?rest19
                 case hy19 => (intro w hSw; (try dsimp only at hSw); go_simp; try with_reducible rfl))
              | (refine ordS_take (i := 19) (oi := { dst := some 153, op := Op.indexAddr 27 (Operand.tmp 151) (Operand.tmp 152), type := 0, pos := _, after := #[{ on := 17, ground := Ground.data }, { on := 18, ground := Ground.data }, { on := 16, ground := Ground.guard }], guard := some (16, false) }) (v := undef) rfl (by kernel_rfl) (by kernel_rfl) (by kernel_rfl) (by kernel_rfl) (fun _ _ _ h => h) (by assumption) (Or.inr ⟨by rfl, rfl⟩) (fun _ => rfl) ?_)
            try simp only [Act.put, List.setIfInBounds_toArray, List.set_cons_zero, List.set_cons_succ]
            first
              | (refine' ordS_take (i := 20) (oi := { dst := some 154, op := Op.load 37 (Operand.tmp 153), type := 37, pos := _, after := #[{ on := 19, ground := Ground.data }, { on := 16, ground := Ground.guard }], guard := some (16, false) }) (v := _) rfl (by kernel_rfl) (by kernel_rfl) (by kernel_rfl) (by kernel_rfl) (fun _ _ _ h => h) (by assumption) (Or.inl ⟨by rfl, ?hy20⟩) (fun _ => rfl) ?rest20
                 case hy20 => (intro w hSw; (try dsimp only at hSw); go_simp; try with_reducible rfl))
              | (refine ordS_take (i := 20) (oi := { dst := some 154, op := Op.load 37 (Operand.tmp 153), type := 37, pos := _, after := #[{ on := 19, ground := Ground.data }, { on := 16, ground := Ground.guard }], guard := some (16, false) }) (v := undef) rfl (by kernel_rfl) (by kernel_rfl) (by kernel_rfl) (by kernel_rfl) (fun _ _ _ h => h) (by assumption) (Or.inr ⟨by rfl, rfl⟩) (fun _ => rfl) ?_)
            try simp only [Act.put, List.setIfInBounds_toArray, List.set_cons_zero, List.set_cons_succ]
            first
              | (refine' ordS_take (i := 21) (oi := { dst := some 155, op := Op.load 37 (Operand.tmp 12), type := 37, pos := _, after := #[{ on := 16, ground := Ground.guard }], guard := some (16, false) }) (v := _) rfl (by kernel_rfl) (by kernel_rfl) (by kernel_rfl) (by kernel_rfl) (fun _ _ _ h => h) (by assumption) (Or.inl ⟨by rfl, ?hy21⟩) (fun _ => rfl) ?rest21
                 case hy21 => (intro w hSw; (try dsimp only at hSw); go_simp; try with_reducible rfl))
              | (refine ordS_take (i := 21) (oi := { dst := some 155, op := Op.load 37 (Operand.tmp 12), type := 37, pos := _, after := #[{ on := 16, ground := Ground.guard }], guard := some (16, false) }) (v := undef) rfl (by kernel_rfl) (by kernel_rfl) (by kernel_rfl) (by kernel_rfl) (fun _ _ _ h => h) (by assumption) (Or.inr ⟨by rfl, rfl⟩) (fun _ => rfl) ?_)
            try simp only [Act.put, List.setIfInBounds_toArray, List.set_cons_zero, List.set_cons_succ]
            refine ordS_one (i := 22) (o := { dst := some 156, op := Op.binOp BinOp.neq 37 (Operand.tmp 154) (Operand.tmp 155) 37, type := 4, pos := _, after := #[{ on := 20, ground := Ground.data }, { on := 21, ground := Ground.data }, { on := 16, ground := Ground.guard }], guard := some (16, false) }) (by kernel_rfl) rfl (by rfl) (fun K hK => ?_)
            go_simp
            refine hK _ _ hH ?_
            clear hK K
            try simp only [Act.put, List.setIfInBounds_toArray, List.set_cons_zero, List.set_cons_succ]
            first
              | (refine' ordS_take (i := 23) (oi := { dst := some 157, op := Op.pick (Operand.tmp 150) (Operand.const (Value.bool true)) (Operand.tmp 156), type := 4, pos := _, after := #[{ on := 16, ground := Ground.data }, { on := 22, ground := Ground.data }], guard := none }) (v := _) rfl (by kernel_rfl) (by kernel_rfl) (by kernel_rfl) (by kernel_rfl) (fun _ _ _ h => h) (by assumption) (Or.inl ⟨by rfl, ?hy22⟩) (fun _ => rfl) ?rest22
                 case hy22 => (intro w hSw; (try dsimp only at hSw); go_simp; try with_reducible rfl))
              | (refine ordS_take (i := 23) (oi := { dst := some 157, op := Op.pick (Operand.tmp 150) (Operand.const (Value.bool true)) (Operand.tmp 156), type := 4, pos := _, after := #[{ on := 16, ground := Ground.data }, { on := 22, ground := Ground.data }], guard := none }) (v := undef) rfl (by kernel_rfl) (by kernel_rfl) (by kernel_rfl) (by kernel_rfl) (fun _ _ _ h => h) (by assumption) (Or.inr ⟨by rfl, rfl⟩) (fun _ => rfl) ?_)
            try simp only [Act.put, List.setIfInBounds_toArray, List.set_cons_zero, List.set_cons_succ]
            refine ordS_done (by kernel_rfl) ?_
            obtain ⟨w9, hw9⟩ : ∃ w9, w8.drew = w9 := ⟨_, rfl⟩
            rw [hw9] at hD
            rw [hw9]
            have HB10 := Lib.hid (bl_tr HB9.out hD)
            have HLD := Lib.hid hD
            clear hH hD hw9 HB9 l0 l1 e0 e1 a0 a1 c0 c1 bP bQ bx by' bm ew bl9
            go_wp2_with fail
            go_loopw [21] (fun i wr3 => ∃ j : Nat, j ≤ m ∧ i = .int .i64 ((j + 1 : Nat) : Int) ∧ Below w9.heap.size w9 wr3) (fun i _ => m + 1 - (intOf i).toNat)
            case atStart => exact ⟨0, Nat.zero_le _, rfl, bl0 _⟩
            case round =>
              obtain ⟨j, hj, rfl, hB⟩ := hrel
              have hj0 : (0 : Int) ≤ (j : Int) := by omega
              by_cases hlj : j < m
              · have hlj2 : (j : Int) + 1 < (m : Int) + 1 := by omega
                have hlj3 : (j : Int) < (m : Int) + 1 := by omega
                obtain ⟨p0, p1⟩ := HLC.out j (by omega)
                obtain ⟨r0, r1⟩ := HLC.out (j + 1) (by omega)
                have hst := line_step (X := P) (Y := Q) (Z := x) (V := y) HMX.out hlj
                have hi1 : plainB (lineK P Q x y m j).1 (lineK P Q x y m j).2 = true := by
                  have hx2 : inB A B x y = true := HIN.out
                  obtain ⟨m2, e2, h1, h2⟩ := far_nat P Q x y
                  have : m2 = m := by have := HMX.out; omega
                  subst this
                  exact in_plain (line_in HIP.out hx2 h1 h2 (by omega))
                have hi2 : plainB (lineK P Q x y m (j + 1)).1 (lineK P Q x y m (j + 1)).2 = true := by
                  have hx2 : inB A B x y = true := HIN.out
                  obtain ⟨m2, e2, h1, h2⟩ := far_nat P Q x y
                  have : m2 = m := by have := HMX.out; omega
                  subst this
                  exact in_plain (line_in HIP.out hx2 h1 h2 (by omega))
                obtain ⟨px, hpx⟩ : ∃ px, (lineK P Q x y m j).1 = px := ⟨_, rfl⟩
                obtain ⟨py, hpy⟩ : ∃ py, (lineK P Q x y m j).2 = py := ⟨_, rfl⟩
                obtain ⟨qx, hqx⟩ : ∃ qx, (lineK P Q x y m (j + 1)).1 = qx := ⟨_, rfl⟩
                obtain ⟨qy, hqy⟩ : ∃ qy, (lineK P Q x y m (j + 1)).2 = qy := ⟨_, rfl⟩
                rw [hpx, hpy] at hst hi1
                rw [hqx, hqy] at hst hi2
                rw [hpx] at p0
                rw [hpy] at p1
                rw [hqx] at r0
                rw [hqy] at r1
                have hLB := bl_tr HLD.out hB
                replace p0 := cell_later hLB p0
                replace p1 := cell_later hLB p1
                replace r0 := cell_later hLB r0
                replace r1 := cell_later hLB r1
                have HST := Lib.hid hst
                have HI1 := Lib.hid hi1
                have HI2 := Lib.hid hi2
                have ej : IntKind.i64.wrap ((j : Int) + 1 - 1) = j := by rw [Int.add_sub_cancel]; exact IntWalk.i64_in _ (by omega)
                have ej2 : IntKind.i64.wrap (j : Int) = j := IntWalk.i64_in _ (by omega)
                have ej0 : (0 : Int) ≤ (j : Int) + 1 := by omega
                clear hst hi1 hi2 hpx hpy hqx hqy hLB
                go_upto_region 28 with fail
                refine (wpIn_wide (n := 11)).1 ?_
                have hD := bl_dr (bl0 wr)
                refine ordS_begin (S := (fun w' : World => w'.cell? ⟨gl, gol + j * 2, none⟩ = some (.int .i64 px) ∧ w'.cell? ⟨gl, gol + j * 2 + 1, none⟩ = some (.int .i64 py) ∧ w'.cell? ⟨gl, gol + (j + 1) * 2, none⟩ = some (.int .i64 qx) ∧ w'.cell? ⟨gl, gol + (j + 1) * 2 + 1, none⟩ = some (.int .i64 qy))) (by kernel_rfl) ⟨cell_later hD p0, cell_later hD p1, cell_later hD r0, cell_later hD r1⟩ (fun hH => ?_)
                first
                  | (refine' ordS_take (i := 0) (oi := { dst := some 165, op := Op.move (Operand.tmp 19), type := 27, pos := _, after := #[], guard := none }) (v := _) rfl (by kernel_rfl) (by kernel_rfl) (by kernel_rfl) (by kernel_rfl) (fun _ _ _ h => h) (by assumption) (Or.inl ⟨by rfl, ?hy23⟩) (fun _ => rfl) ?rest23
                     case hy23 => (intro w hSw; (try dsimp only at hSw); go_simp; try with_reducible rfl))
                  | (refine ordS_take (i := 0) (oi := { dst := some 165, op := Op.move (Operand.tmp 19), type := 27, pos := _, after := #[], guard := none }) (v := undef) rfl (by kernel_rfl) (by kernel_rfl) (by kernel_rfl) (by kernel_rfl) (fun _ _ _ h => h) (by assumption) (Or.inr ⟨by rfl, rfl⟩) (fun _ => rfl) ?_)
                try simp only [Act.put, List.setIfInBounds_toArray, List.set_cons_zero, List.set_cons_succ]
                first
                  | (refine' ordS_take (i := 1) (oi := { dst := some 166, op := Op.move (Operand.tmp 21), type := 3, pos := _, after := #[], guard := none }) (v := _) rfl (by kernel_rfl) (by kernel_rfl) (by kernel_rfl) (by kernel_rfl) (fun _ _ _ h => h) (by assumption) (Or.inl ⟨by rfl, ?hy24⟩) (fun _ => rfl) ?rest24
                     case hy24 => (intro w hSw; (try dsimp only at hSw); go_simp; try with_reducible rfl))
                  | (refine ordS_take (i := 1) (oi := { dst := some 166, op := Op.move (Operand.tmp 21), type := 3, pos := _, after := #[], guard := none }) (v := undef) rfl (by kernel_rfl) (by kernel_rfl) (by kernel_rfl) (by kernel_rfl) (fun _ _ _ h => h) (by assumption) (Or.inr ⟨by rfl, rfl⟩) (fun _ => rfl) ?_)
                try simp only [Act.put, List.setIfInBounds_toArray, List.set_cons_zero, List.set_cons_succ]
                first
                  | (refine' ordS_take (i := 2) (oi := { dst := some 167, op := Op.binOp BinOp.sub 3 (Operand.tmp 166) (Operand.const (Value.int IntKind.i64 1)) 3, type := 3, pos := _, after := #[{ on := 1, ground := Ground.data }], guard := none }) (v := _) rfl (by kernel_rfl) (by kernel_rfl) (by kernel_rfl) (by kernel_rfl) (fun _ _ _ h => h) (by assumption) (Or.inl ⟨by rfl, ?hy25⟩) (fun _ => rfl) ?rest25
                     case hy25 => (intro w hSw; (try dsimp only at hSw); go_simp; try with_reducible rfl))
                  | (refine ordS_take (i := 2) (oi := { dst := some 167, op := Op.binOp BinOp.sub 3 (Operand.tmp 166) (Operand.const (Value.int IntKind.i64 1)) 3, type := 3, pos := _, after := #[{ on := 1, ground := Ground.data }], guard := none }) (v := undef) rfl (by kernel_rfl) (by kernel_rfl) (by kernel_rfl) (by kernel_rfl) (fun _ _ _ h => h) (by assumption) (Or.inr ⟨by rfl, rfl⟩) (fun _ => rfl) ?_)
                try simp only [Act.put, List.setIfInBounds_toArray, List.set_cons_zero, List.set_cons_succ]
                first
                  | (refine' ordS_take (i := 3) (oi := { dst := some 168, op := Op.indexAddr 27 (Operand.tmp 165) (Operand.tmp 167), type := 0, pos := _, after := #[{ on := 0, ground := Ground.data }, { on := 2, ground := Ground.data }], guard := none }) (v := _) rfl (by kernel_rfl) (by kernel_rfl) (by kernel_rfl) (by kernel_rfl) (fun _ _ _ h => h) (by assumption) (Or.inl ⟨by rfl, ?hy26⟩) (fun _ => rfl) ?rest26
                     case hy26 => (intro w hSw; (try dsimp only at hSw); go_simp; try with_reducible rfl))
                  | (refine ordS_take (i := 3) (oi := { dst := some 168, op := Op.indexAddr 27 (Operand.tmp 165) (Operand.tmp 167), type := 0, pos := _, after := #[{ on := 0, ground := Ground.data }, { on := 2, ground := Ground.data }], guard := none }) (v := undef) rfl (by kernel_rfl) (by kernel_rfl) (by kernel_rfl) (by kernel_rfl) (fun _ _ _ h => h) (by assumption) (Or.inr ⟨by rfl, rfl⟩) (fun _ => rfl) ?_)
                try simp only [Act.put, List.setIfInBounds_toArray, List.set_cons_zero, List.set_cons_succ]
                first
                  | (refine' ordS_take (i := 4) (oi := { dst := some 169, op := Op.load 37 (Operand.tmp 168), type := 37, pos := _, after := #[{ on := 3, ground := Ground.data }], guard := none }) (v := _) rfl (by kernel_rfl) (by kernel_rfl) (by kernel_rfl) (by kernel_rfl) (fun _ _ _ h => h) (by assumption) (Or.inl ⟨by rfl, ?hy27⟩) (fun _ => rfl) ?rest27
                     case hy27 => (intro w hSw; (try dsimp only at hSw); go_simp; try with_reducible rfl))
                  | (refine ordS_take (i := 4) (oi := { dst := some 169, op := Op.load 37 (Operand.tmp 168), type := 37, pos := _, after := #[{ on := 3, ground := Ground.data }], guard := none }) (v := undef) rfl (by kernel_rfl) (by kernel_rfl) (by kernel_rfl) (by kernel_rfl) (fun _ _ _ h => h) (by assumption) (Or.inr ⟨by rfl, rfl⟩) (fun _ => rfl) ?_)
                try simp only [Act.put, List.setIfInBounds_toArray, List.set_cons_zero, List.set_cons_succ]
                first
                  | (refine' ordS_take (i := 5) (oi := { dst := some 170, op := Op.move (Operand.tmp 19), type := 27, pos := _, after := #[], guard := none }) (v := _) rfl (by kernel_rfl) (by kernel_rfl) (by kernel_rfl) (by kernel_rfl) (fun _ _ _ h => h) (by assumption) (Or.inl ⟨by rfl, ?hy28⟩) (fun _ => rfl) ?rest28
                     case hy28 => (intro w hSw; (try dsimp only at hSw); go_simp; try with_reducible rfl))
                  | (refine ordS_take (i := 5) (oi := { dst := some 170, op := Op.move (Operand.tmp 19), type := 27, pos := _, after := #[], guard := none }) (v := undef) rfl (by kernel_rfl) (by kernel_rfl) (by kernel_rfl) (by kernel_rfl) (fun _ _ _ h => h) (by assumption) (Or.inr ⟨by rfl, rfl⟩) (fun _ => rfl) ?_)
                try simp only [Act.put, List.setIfInBounds_toArray, List.set_cons_zero, List.set_cons_succ]
                first
                  | (refine' ordS_take (i := 6) (oi := { dst := some 171, op := Op.move (Operand.tmp 21), type := 3, pos := _, after := #[], guard := none }) (v := _) rfl (by kernel_rfl) (by kernel_rfl) (by kernel_rfl) (by kernel_rfl) (fun _ _ _ h => h) (by assumption) (Or.inl ⟨by rfl, ?hy29⟩) (fun _ => rfl) ?rest29
                     case hy29 => (intro w hSw; (try dsimp only at hSw); go_simp; try with_reducible rfl))
                  | (refine ordS_take (i := 6) (oi := { dst := some 171, op := Op.move (Operand.tmp 21), type := 3, pos := _, after := #[], guard := none }) (v := undef) rfl (by kernel_rfl) (by kernel_rfl) (by kernel_rfl) (by kernel_rfl) (fun _ _ _ h => h) (by assumption) (Or.inr ⟨by rfl, rfl⟩) (fun _ => rfl) ?_)
                try simp only [Act.put, List.setIfInBounds_toArray, List.set_cons_zero, List.set_cons_succ]
                first
                  | (refine' ordS_take (i := 7) (oi := { dst := some 172, op := Op.indexAddr 27 (Operand.tmp 170) (Operand.tmp 171), type := 0, pos := _, after := #[{ on := 5, ground := Ground.data }, { on := 6, ground := Ground.data }], guard := none }) (v := _) rfl (by kernel_rfl) (by kernel_rfl) (by kernel_rfl) (by kernel_rfl) (fun _ _ _ h => h) (by assumption) (Or.inl ⟨by rfl, ?hy30⟩) (fun _ => rfl) ?rest30
                     case hy30 => (intro w hSw; (try dsimp only at hSw); go_simp; try with_reducible rfl))
                  | (refine ordS_take (i := 7) (oi := { dst := some 172, op := Op.indexAddr 27 (Operand.tmp 170) (Operand.tmp 171), type := 0, pos := _, after := #[{ on := 5, ground := Ground.data }, { on := 6, ground := Ground.data }], guard := none }) (v := undef) rfl (by kernel_rfl) (by kernel_rfl) (by kernel_rfl) (by kernel_rfl) (fun _ _ _ h => h) (by assumption) (Or.inr ⟨by rfl, rfl⟩) (fun _ => rfl) ?_)
                try simp only [Act.put, List.setIfInBounds_toArray, List.set_cons_zero, List.set_cons_succ]
                first
                  | (refine' ordS_take (i := 8) (oi := { dst := some 173, op := Op.load 37 (Operand.tmp 172), type := 37, pos := _, after := #[{ on := 7, ground := Ground.data }], guard := none }) (v := _) rfl (by kernel_rfl) (by kernel_rfl) (by kernel_rfl) (by kernel_rfl) (fun _ _ _ h => h) (by assumption) (Or.inl ⟨by rfl, ?hy31⟩) (fun _ => rfl) ?rest31
                     case hy31 => (intro w hSw; (try dsimp only at hSw); go_simp; try with_reducible rfl))
                  | (refine ordS_take (i := 8) (oi := { dst := some 173, op := Op.load 37 (Operand.tmp 172), type := 37, pos := _, after := #[{ on := 7, ground := Ground.data }], guard := none }) (v := undef) rfl (by kernel_rfl) (by kernel_rfl) (by kernel_rfl) (by kernel_rfl) (fun _ _ _ h => h) (by assumption) (Or.inr ⟨by rfl, rfl⟩) (fun _ => rfl) ?_)
                try simp only [Act.put, List.setIfInBounds_toArray, List.set_cons_zero, List.set_cons_succ]
                refine ordS_one (i := 9) (o := { dst := some 174, op := Op.call { callee := Callee.value (Operand.func 27), args := #[Operand.tmp 169, Operand.tmp 173], argTypes := #[37, 37] }, type := 52, pos := _, after := #[{ on := 4, ground := Ground.data }, { on := 8, ground := Ground.data }], guard := none }) (by kernel_rfl) rfl (by rfl) (fun K hK => ?_)
                go_simp
                refine ⟨trivial, ?_⟩
                with_reducible refine (callsIn_wide.2 (far_yes px py qx qy _ HI1.out HI2.out)).mono ?_
                rintro e w10 ⟨rfl, hb10⟩
                rw [HST.out]
                have hb10' := bl_tr hD hb10
                have hS10 : (fun w' : World => w'.cell? ⟨gl, gol + j * 2, none⟩ = some (.int .i64 px) ∧ w'.cell? ⟨gl, gol + j * 2 + 1, none⟩ = some (.int .i64 py) ∧ w'.cell? ⟨gl, gol + (j + 1) * 2, none⟩ = some (.int .i64 qx) ∧ w'.cell? ⟨gl, gol + (j + 1) * 2 + 1, none⟩ = some (.int .i64 qy)) w10 := ⟨cell_later hb10' p0, cell_later hb10' p1, cell_later hb10' r0, cell_later hb10' r1⟩
                have HB11 := Lib.hid (bl_tr hB hb10')
                refine hK _ _ hS10 ?_
                clear hK K hH hb10
                try simp only [Act.put, List.setIfInBounds_toArray, List.set_cons_zero, List.set_cons_succ]
                first
                  | (refine' ordS_take (i := 10) (oi := { dst := some 164, op := Op.move (Operand.tmp 174), type := 52, pos := _, after := #[{ on := 9, ground := Ground.data }], guard := none }) (v := _) rfl (by kernel_rfl) (by kernel_rfl) (by kernel_rfl) (by kernel_rfl) (fun _ _ _ h => h) (by assumption) (Or.inl ⟨by rfl, ?hy32⟩) (fun _ => rfl) ?rest32
                     case hy32 => (intro w hSw; (try dsimp only at hSw); go_simp; try with_reducible rfl))
                  | (refine ordS_take (i := 10) (oi := { dst := some 164, op := Op.move (Operand.tmp 174), type := 52, pos := _, after := #[{ on := 9, ground := Ground.data }], guard := none }) (v := undef) rfl (by kernel_rfl) (by kernel_rfl) (by kernel_rfl) (by kernel_rfl) (fun _ _ _ h => h) (by assumption) (Or.inr ⟨by rfl, rfl⟩) (fun _ => rfl) ?_)
                try simp only [Act.put, List.setIfInBounds_toArray, List.set_cons_zero, List.set_cons_succ]
                first
                  | (refine' ordS_take (i := 11) (oi := { dst := some 175, op := Op.extract (Operand.tmp 164) 0, type := 3, pos := _, after := #[{ on := 10, ground := Ground.data }], guard := none }) (v := _) rfl (by kernel_rfl) (by kernel_rfl) (by kernel_rfl) (by kernel_rfl) (fun _ _ _ h => h) (by assumption) (Or.inl ⟨by rfl, ?hy33⟩) (fun _ => rfl) ?rest33
                     case hy33 => (intro w hSw; (try dsimp only at hSw); go_simp; try with_reducible rfl))
                  | (refine ordS_take (i := 11) (oi := { dst := some 175, op := Op.extract (Operand.tmp 164) 0, type := 3, pos := _, after := #[{ on := 10, ground := Ground.data }], guard := none }) (v := undef) rfl (by kernel_rfl) (by kernel_rfl) (by kernel_rfl) (by kernel_rfl) (fun _ _ _ h => h) (by assumption) (Or.inr ⟨by rfl, rfl⟩) (fun _ => rfl) ?_)
                try simp only [Act.put, List.setIfInBounds_toArray, List.set_cons_zero, List.set_cons_succ]
                first
                  | (refine' ordS_take (i := 12) (oi := { dst := some 176, op := Op.extract (Operand.tmp 164) 1, type := 31, pos := _, after := #[{ on := 10, ground := Ground.data }, { on := 13, ground := Ground.gcOnly Departure.lateStores }], guard := none }) (v := _) rfl (by kernel_rfl) (by kernel_rfl) (by kernel_rfl) (by kernel_rfl) (fun _ _ _ h => h) (by assumption) (Or.inl ⟨by rfl, ?hy34⟩) (fun _ => rfl) ?rest34
                     case hy34 => (intro w hSw; (try dsimp only at hSw); go_simp; try with_reducible rfl))
                  | (refine ordS_take (i := 12) (oi := { dst := some 176, op := Op.extract (Operand.tmp 164) 1, type := 31, pos := _, after := #[{ on := 10, ground := Ground.data }, { on := 13, ground := Ground.gcOnly Departure.lateStores }], guard := none }) (v := undef) rfl (by kernel_rfl) (by kernel_rfl) (by kernel_rfl) (by kernel_rfl) (fun _ _ _ h => h) (by assumption) (Or.inr ⟨by rfl, rfl⟩) (fun _ => rfl) ?_)
                try simp only [Act.put, List.setIfInBounds_toArray, List.set_cons_zero, List.set_cons_succ]
                first
                  | (refine' ordS_take (i := 13) (oi := { dst := some 22, op := Op.assign (Operand.tmp 175), type := 3, pos := _, after := #[{ on := 11, ground := Ground.data }, { on := 9, ground := Ground.chain }, { on := 0, ground := Ground.phase }, { on := 1, ground := Ground.phase }, { on := 2, ground := Ground.phase }, { on := 3, ground := Ground.phase }, { on := 4, ground := Ground.phase }, { on := 5, ground := Ground.phase }, { on := 6, ground := Ground.phase }, { on := 7, ground := Ground.phase }, { on := 8, ground := Ground.phase }, { on := 9, ground := Ground.phase }, { on := 10, ground := Ground.phase }, { on := 11, ground := Ground.phase }, { on := 12, ground := Ground.textOnly Departure.lateStores }], guard := none }) (v := _) rfl (by kernel_rfl) (by kernel_rfl) (by kernel_rfl) (by kernel_rfl) (fun _ _ _ h => h) (by assumption) (Or.inl ⟨by rfl, ?hy35⟩) (fun _ => rfl) ?rest35
                     case hy35 => (intro w hSw; (try dsimp only at hSw); go_simp; try with_reducible rfl))
                  | (refine ordS_take (i := 13) (oi := { dst := some 22, op := Op.assign (Operand.tmp 175), type := 3, pos := _, after := #[{ on := 11, ground := Ground.data }, { on := 9, ground := Ground.chain }, { on := 0, ground := Ground.phase }, { on := 1, ground := Ground.phase }, { on := 2, ground := Ground.phase }, { on := 3, ground := Ground.phase }, { on := 4, ground := Ground.phase }, { on := 5, ground := Ground.phase }, { on := 6, ground := Ground.phase }, { on := 7, ground := Ground.phase }, { on := 8, ground := Ground.phase }, { on := 9, ground := Ground.phase }, { on := 10, ground := Ground.phase }, { on := 11, ground := Ground.phase }, { on := 12, ground := Ground.textOnly Departure.lateStores }], guard := none }) (v := undef) rfl (by kernel_rfl) (by kernel_rfl) (by kernel_rfl) (by kernel_rfl) (fun _ _ _ h => h) (by assumption) (Or.inr ⟨by rfl, rfl⟩) (fun _ => rfl) ?_)
                try simp only [Act.put, List.setIfInBounds_toArray, List.set_cons_zero, List.set_cons_succ]
                first
                  | (refine' ordS_take (i := 14) (oi := { dst := some 23, op := Op.assign (Operand.tmp 176), type := 31, pos := _, after := #[{ on := 12, ground := Ground.data }, { on := 13, ground := Ground.chain }, { on := 0, ground := Ground.phase }, { on := 1, ground := Ground.phase }, { on := 2, ground := Ground.phase }, { on := 3, ground := Ground.phase }, { on := 4, ground := Ground.phase }, { on := 5, ground := Ground.phase }, { on := 6, ground := Ground.phase }, { on := 7, ground := Ground.phase }, { on := 8, ground := Ground.phase }, { on := 9, ground := Ground.phase }, { on := 10, ground := Ground.phase }, { on := 11, ground := Ground.phase }, { on := 12, ground := Ground.phase }, { on := 13, ground := Ground.phase }], guard := none }) (v := _) rfl (by kernel_rfl) (by kernel_rfl) (by kernel_rfl) (by kernel_rfl) (fun _ _ _ h => h) (by assumption) (Or.inl ⟨by rfl, ?hy36⟩) (fun _ => rfl) ?rest36
                     case hy36 => (intro w hSw; (try dsimp only at hSw); go_simp; try with_reducible rfl))
                  | (refine ordS_take (i := 14) (oi := { dst := some 23, op := Op.assign (Operand.tmp 176), type := 31, pos := _, after := #[{ on := 12, ground := Ground.data }, { on := 13, ground := Ground.chain }, { on := 0, ground := Ground.phase }, { on := 1, ground := Ground.phase }, { on := 2, ground := Ground.phase }, { on := 3, ground := Ground.phase }, { on := 4, ground := Ground.phase }, { on := 5, ground := Ground.phase }, { on := 6, ground := Ground.phase }, { on := 7, ground := Ground.phase }, { on := 8, ground := Ground.phase }, { on := 9, ground := Ground.phase }, { on := 10, ground := Ground.phase }, { on := 11, ground := Ground.phase }, { on := 12, ground := Ground.phase }, { on := 13, ground := Ground.phase }], guard := none }) (v := undef) rfl (by kernel_rfl) (by kernel_rfl) (by kernel_rfl) (by kernel_rfl) (fun _ _ _ h => h) (by assumption) (Or.inr ⟨by rfl, rfl⟩) (fun _ => rfl) ?_)
                try simp only [Act.put, List.setIfInBounds_toArray, List.set_cons_zero, List.set_cons_succ]
                refine ordS_done (by kernel_rfl) ?_
                clear hS10 hb10' hB p0 p1 r0 r1 ej ej2
                go_wp2
                go_roundw
                case rel => exact ⟨j + 1, by omega, by go_num, HB11.out⟩
                case measure => simp [intOf]; omega
              · obtain rfl : j = m := by omega
                have HB12 := Lib.hid (bl_tr HB10.out hB)
                clear hB
                go_wp2
                go_roundw
                case rel => exact ⟨k + 1, by omega, by go_num, HB12.out⟩
                case measure => simp [intOf]; omega
        · obtain rfl : k = fs.length := by omega
          have hA5 := bl_tr hA hB
          clear hB
          go_wp2_with fail
          refine (awake_any _).mono ?_
          rintro e w9 ⟨rfl, hb9⟩
          have hA9 := bl_tr hA5 hb9
          clear hb9 hA5
          go_wp2
          go_ret
          exact ⟨rfl, hA9⟩

theorem near_walk (A B P Q r : Int) (a : Option Addr) (cap : Nat) (fs : List Int) (w : World) (hr : RowH w a fs) :
    Calls Try.prog 5 #[.agg #[.int .i64 A, .int .i64 B, .slice a fs.length cap], .agg #[.int .i64 P, .int .i64 Q], .int .i64 r] w fun e w' => e = .returned (.bool true) ∧ Below w.heap.size w w' := by
  cases h1 : smallB A B fs.length with
  | false => exact near_out1 A B P Q r a _ cap w h1
  | true =>
    by_cases he : errA A B fs.length r [(P, Q)] = 0
    · exact near_yes A B P Q r a cap fs w hr h1 he
    · exact near_out2 A B P Q r a _ cap w h1 he
end Go.Proofs.Ythebiibiapjdiaa
