/- Paths: the document's answer: Cost. -/
import Derived.Test.YtlmloedjakpogabDoorAo
import Derived.Test.YtlmloedjakpogabDoorAm
namespace Go.Proofs.YtlmloedjakpogabDoor
open Go.RowKit

theorem tail_snoc {l : List IC} {k : Nat} (h : k + 1 < l.length) : l.tail.take (k + 1) = l.tail.take k ++ [cK l (k + 1)] := by
  have hl : k < l.tail.length := by rw [List.length_tail]; omega
  rw [List.take_succ_eq_append_getElem hl, List.getElem_tail, cK_get h]
theorem pathE_ok {A B : Int} {zs : List Int} {l : List IC} (hp : pathE A B zs l (chkF A B zs.length) = 0) : chkF A B zs.length = 0 ∧ l ≠ [] ∧ firstE (pathAt A B zs l) l.length = 0 := by
  unfold pathE at hp
  split at hp
  · rename_i h; exact absurd hp h
  · rename_i h
    split at hp
    · cases hp
    · rename_i h2; exact ⟨by simpa using h, h2, hp⟩

set_option maxRecDepth 100000 in
set_option maxHeartbeats 4000000 in
theorem rcost9_any (A B : Int) (a b : Option Addr) (cap cap2 : Nat) (zs : List Int) (l : List IC) (w : World) (hr : RowH w a zs) (hin : AllH zs) (hrc : RowC w b l) (hl : l.length ≤ 1048576) (hp : pathE A B zs l (chkF A B zs.length) = 0) :
    Calls Tryd.prog 13 #[.agg #[.int .i64 A, .int .i64 B, .slice a zs.length cap], .slice b l.length cap2] w fun e w' => e = .returned (.int .u64 (costS A zs l.tail)) ∧ Below w.heap.size w w' := by
  obtain ⟨hc, hne, hok⟩ := pathE_ok hp
  have hzn := chk_area hc
  have hon : ∀ k, k < l.length → onB A B (cK l k) = true := fun k hk => pathAt_on (firstE_zero.1 hok k hk)
  have hA := bl_al (bl0 w) (.cells #[.int .i64 A, .int .i64 B, .slice a zs.length cap] 26)
  have f0 : (w.alloc (.cells #[.int .i64 A, .int .i64 B, .slice a zs.length cap] 26)).cell? ⟨w.heap.size, 0, none⟩ = some (.int .i64 A) := by simp [go_sem]
  have f1 : (w.alloc (.cells #[.int .i64 A, .int .i64 B, .slice a zs.length cap] 26)).cell? ⟨w.heap.size, 1, none⟩ = some (.int .i64 B) := by simp [go_sem]
  have f2 : (w.alloc (.cells #[.int .i64 A, .int .i64 B, .slice a zs.length cap] 26)).cell? ⟨w.heap.size, 2, none⟩ = some (.slice a zs.length cap) := by simp [go_sem]
  have HON := Lib.hid hon
  clear hc hok hp hon
  go_enter Tryd.func13, Tryd.ntmps13
  go_wp2
  go_loopw [5, 6] (fun n i wr => ∃ k : Nat, k ≤ l.length - 1 ∧ i = .int .i64 ((k : Int) + 1) ∧ n = .int .u64 (costS A zs (l.tail.take k)) ∧ Below w.heap.size w wr ∧ wr.cell? ⟨w.heap.size, 0, none⟩ = some (.int .i64 A) ∧ wr.cell? ⟨w.heap.size, 1, none⟩ = some (.int .i64 B) ∧ wr.cell? ⟨w.heap.size, 2, none⟩ = some (.slice a zs.length cap)) (fun _ i _ => l.length + 1 - (intOf i).toNat)
  case atStart => exact ⟨0, Nat.zero_le _, rfl, rfl, hA, f0, f1, f2⟩
  case round =>
    clear hA f0 f1 f2
    obtain ⟨k, hk, rfl, rfl, hB, f0, f1, f2⟩ := hrel
    by_cases hlt : k + 1 < l.length
    · have hlt2 : (k : Int) + 1 < (l.length : Int) := by omega
      have hk1' : (0 : Int) ≤ (k : Int) + 1 := by omega
      have e0 : ((k : Int) + 1).toNat = k + 1 := by omega
      obtain ⟨gb, go, rfl, q0, q1⟩ := (hrc.below hB).two hlt
      have hrz := hr.below hB
      have hcall := fun W h => rcost8_any A B a cap zs (cK l (k + 1)) W h hin (HON.out _ hlt) hzn
      have hcb := costAt_in (A := A) hin (cK l (k + 1))
      have hsb := costS_in (A := A) hin (l.tail.take k)
      have hsn : costS A zs (l.tail.take (k + 1)) = costS A zs (l.tail.take k) + costAt A zs (cK l (k + 1)) := by rw [tail_snoc hlt]; exact costS_snoc _ _ _ _
      have hkl : ((l.tail.take k).length : Int) ≤ 1048576 := by rw [List.length_take]; omega
      generalize cK l (k + 1) = c at *
      generalize costAt A zs c = cv at *
      generalize costS A zs (l.tail.take k) = S at *
      have e2 : IntKind.u64.wrap (S + cv) = S + cv := by rw [IntKind.wrap_u64]; omega
      have HSN := Lib.hid hsn; have HC := Lib.hid hcall
      have hk1 := bl0 wr
      have HS := Lib.hid (show ∀ W', Below wr.heap.size wr W' → W'.cell? ⟨w.heap.size, 0, none⟩ = some (.int .i64 A) ∧ W'.cell? ⟨w.heap.size, 1, none⟩ = some (.int .i64 B) ∧ W'.cell? ⟨w.heap.size, 2, none⟩ = some (.slice a zs.length cap) ∧ W'.cell? ⟨gb, go + (k + 1) * 2, none⟩ = some (.int .i64 c.1) ∧ W'.cell? ⟨gb, go + (k + 1) * 2 + 1, none⟩ = some (.int .i64 c.2) from fun W' h => ⟨cell_later h f0, cell_later h f1, cell_later h f2, cell_later h q0, cell_later h q1⟩)
      clear hsn hcall hcb hsb hkl
      go_upto_region 5 with fail
      go_region_held3 (fun W' => W'.cell? ⟨w.heap.size, 0, none⟩ = some (.int .i64 A) ∧ W'.cell? ⟨w.heap.size, 1, none⟩ = some (.int .i64 B) ∧ W'.cell? ⟨w.heap.size, 2, none⟩ = some (.slice a zs.length cap) ∧ W'.cell? ⟨gb, go + (k + 1) * 2, none⟩ = some (.int .i64 c.1) ∧ W'.cell? ⟨gb, go + (k + 1) * 2 + 1, none⟩ = some (.int .i64 c.2))
        (first | exact HS.out _ hk1 | exact HS.out _ (bl_dr hk1))
        ((go_at_call 24; (with_reducible refine (HC.out _ (hrz.below (bl_dr hk1))).mono ?_); rintro e wz ⟨rfl, hb⟩; replace hk1 := bl_tr (bl_dr hk1) hb; clear hb))
      have s0 := (HS.out _ hk1).1
      have s1 := (HS.out _ hk1).2.1
      have s2 := (HS.out _ hk1).2.2.1
      go_wp2
      go_roundw
      case rel => exact ⟨k + 1, by omega, by go_num, by rw [HSN.out], bl_tr hB hk1, s0, s1, s2⟩
      case measure => simp [intOf]; omega
    · have hge : (l.length : Int) ≤ (k : Int) + 1 := by omega
      have hall : l.tail.take k = l.tail := List.take_of_length_le (by rw [List.length_tail]; omega)
      rw [hall]
      go_wp2
      go_ret
      exact ⟨rfl, hB⟩

set_option maxRecDepth 100000 in
set_option maxHeartbeats 4000000 in
theorem rchecks_walk (A B : Int) (a b : Option Addr) (cap cap2 : Nat) (zs : List Int) (l : List IC) (w : World) (hs : Stp w) (hr : RowH w a zs) (hin : AllH zs) (hrc : RowC w b l) :
    Calls Tryd.prog 3 #[.agg #[.int .i64 A, .int .i64 B, .slice a zs.length cap], .slice b l.length cap2] w fun e w' => e = .returned (.bool true) ∧ Below w.heap.size w w' := by
  have hA := bl0 w
  cases hsm : smR zs.length l.length
  · have HSM := Lib.hid hsm
    clear hsm
    go_enter Tryd.func3, Tryd.ntmps3
    go_wp2_with fail
    refine (small_any _ _ _ _ _ _ _ _ _).mono ?_
    rintro e w1 ⟨rfl, hb⟩
    have hk : Below w.heap.size w w1 := by first | exact hb | exact bl_tr (bl_al (bl0 _) _) hb | exact bl_tr (bl_dr (bl_al (bl0 _) _)) hb | exact bl_tr (bl_al (bl_al (bl0 _) _) _) hb | exact bl_tr (bl_dr (bl_al (bl_al (bl0 _) _) _)) hb | exact bl_tr (bl_al (bl_al (bl_al (bl0 _) _) _) _) hb | exact bl_tr (bl_dr (bl_al (bl_al (bl_al (bl0 _) _) _) _)) hb | exact bl_tr (bl_al (bl_al (bl_al (bl_al (bl0 _) _) _) _) _) hb | exact bl_tr (bl_dr (bl_al (bl_al (bl_al (bl_al (bl0 _) _) _) _) _)) hb | exact bl_tr (bl_al (bl_al (bl_al (bl_al (bl_al (bl0 _) _) _) _) _) _) hb | exact bl_tr (bl_dr (bl_al (bl_al (bl_al (bl_al (bl_al (bl0 _) _) _) _) _) _)) hb | exact bl_tr (bl_al (bl_al (bl_al (bl_al (bl_al (bl_al (bl0 _) _) _) _) _) _) _) hb | exact bl_tr (bl_dr (bl_al (bl_al (bl_al (bl_al (bl_al (bl_al (bl0 _) _) _) _) _) _) _)) hb | exact bl_tr (bl_dr (bl0 _)) hb
    replace hA := bl_tr hA hk
    clear hb hk
    rw [HSM.out]
    go_wp2_with fail
    refine (awake_any _ (hs.below hA)).mono ?_
    rintro e w2 ⟨rfl, hb⟩
    have hk : Below w1.heap.size w1 w2 := by first | exact hb | exact bl_tr (bl_al (bl0 _) _) hb | exact bl_tr (bl_dr (bl_al (bl0 _) _)) hb | exact bl_tr (bl_al (bl_al (bl0 _) _) _) hb | exact bl_tr (bl_dr (bl_al (bl_al (bl0 _) _) _)) hb | exact bl_tr (bl_al (bl_al (bl_al (bl0 _) _) _) _) hb | exact bl_tr (bl_dr (bl_al (bl_al (bl_al (bl0 _) _) _) _)) hb | exact bl_tr (bl_al (bl_al (bl_al (bl_al (bl0 _) _) _) _) _) hb | exact bl_tr (bl_dr (bl_al (bl_al (bl_al (bl_al (bl0 _) _) _) _) _)) hb | exact bl_tr (bl_al (bl_al (bl_al (bl_al (bl_al (bl0 _) _) _) _) _) _) hb | exact bl_tr (bl_dr (bl_al (bl_al (bl_al (bl_al (bl_al (bl0 _) _) _) _) _) _)) hb | exact bl_tr (bl_al (bl_al (bl_al (bl_al (bl_al (bl_al (bl0 _) _) _) _) _) _) _) hb | exact bl_tr (bl_dr (bl_al (bl_al (bl_al (bl_al (bl_al (bl_al (bl0 _) _) _) _) _) _) _)) hb | exact bl_tr (bl_dr (bl0 _)) hb
    replace hA := bl_tr hA hk
    clear hb hk
    go_wp2
    go_ret
    exact ⟨rfl, hA⟩
  · have hl : l.length ≤ 1048576 := by
      unfold smR at hsm
      rw [Bool.and_eq_true, decide_eq_true_eq, decide_eq_true_eq] at hsm
      omega
    have HSM := Lib.hid hsm
    clear hsm
    have hck := fun W h1 h2 => rcheck9_any A B a b cap cap2 zs l W h1 hin h2 hl
    have hco := fun W h1 h2 h3 => cost_path A B a b cap cap2 zs l W h1 hin h2 h3 hl
    have hch := fun W h1 h2 h3 => check_path A B a b cap cap2 zs l W h1 h2 h3 hl
    have hrc9 := fun hp W h1 h2 => rcost9_any A B a b cap cap2 zs l W h1 hin h2 hl hp
    have hcp : costP A B zs l = if pathE A B zs l (chkF A B zs.length) = 0 then costS A zs l.tail else 0 := rfl
    generalize pathE A B zs l (chkF A B zs.length) = P at *
    have HCK := Lib.hid hck; have HCO := Lib.hid hco; have HCH := Lib.hid hch; have HRC := Lib.hid hrc9; have HCP := Lib.hid hcp
    clear hck hco hch hrc9 hcp
    have p1 := beq_self_eq_true P
    have p2 : (P != P) = false := by simp
    go_enter Tryd.func3, Tryd.ntmps3
    go_wp2_with fail
    refine (small_any _ _ _ _ _ _ _ _ _).mono ?_
    rintro e w1 ⟨rfl, hb⟩
    have hk : Below w.heap.size w w1 := by first | exact hb | exact bl_tr (bl_al (bl0 _) _) hb | exact bl_tr (bl_dr (bl_al (bl0 _) _)) hb | exact bl_tr (bl_al (bl_al (bl0 _) _) _) hb | exact bl_tr (bl_dr (bl_al (bl_al (bl0 _) _) _)) hb | exact bl_tr (bl_al (bl_al (bl_al (bl0 _) _) _) _) hb | exact bl_tr (bl_dr (bl_al (bl_al (bl_al (bl0 _) _) _) _)) hb | exact bl_tr (bl_al (bl_al (bl_al (bl_al (bl0 _) _) _) _) _) hb | exact bl_tr (bl_dr (bl_al (bl_al (bl_al (bl_al (bl0 _) _) _) _) _)) hb | exact bl_tr (bl_al (bl_al (bl_al (bl_al (bl_al (bl0 _) _) _) _) _) _) hb | exact bl_tr (bl_dr (bl_al (bl_al (bl_al (bl_al (bl_al (bl0 _) _) _) _) _) _)) hb | exact bl_tr (bl_al (bl_al (bl_al (bl_al (bl_al (bl_al (bl0 _) _) _) _) _) _) _) hb | exact bl_tr (bl_dr (bl_al (bl_al (bl_al (bl_al (bl_al (bl_al (bl0 _) _) _) _) _) _) _)) hb | exact bl_tr (bl_dr (bl0 _)) hb
    replace hA := bl_tr hA hk
    have f0 := cell_later hb (v := .int .i64 A) (a := ⟨w.heap.size, 0, none⟩) (by simp [go_sem])
    have f1 := cell_later hb (v := .int .i64 B) (a := ⟨w.heap.size, 1, none⟩) (by simp [go_sem])
    have f2 := cell_later hb (v := .slice a zs.length cap) (a := ⟨w.heap.size, 2, none⟩) (by simp [go_sem])
    clear hb hk
    have zf0 := blk_lt f0
    have zf1 := blk_lt f1
    have zf2 := blk_lt f2
    rw [HSM.out]
    go_wp2_with fail
    refine (HCK.out _ (hr.below hA) (hrc.below hA)).mono ?_
    rintro e w2 ⟨rfl, hb⟩
    have hk : Below w1.heap.size w1 w2 := by first | exact hb | exact bl_tr (bl_al (bl0 _) _) hb | exact bl_tr (bl_dr (bl_al (bl0 _) _)) hb | exact bl_tr (bl_al (bl_al (bl0 _) _) _) hb | exact bl_tr (bl_dr (bl_al (bl_al (bl0 _) _) _)) hb | exact bl_tr (bl_al (bl_al (bl_al (bl0 _) _) _) _) hb | exact bl_tr (bl_dr (bl_al (bl_al (bl_al (bl0 _) _) _) _)) hb | exact bl_tr (bl_al (bl_al (bl_al (bl_al (bl0 _) _) _) _) _) hb | exact bl_tr (bl_dr (bl_al (bl_al (bl_al (bl_al (bl0 _) _) _) _) _)) hb | exact bl_tr (bl_al (bl_al (bl_al (bl_al (bl_al (bl0 _) _) _) _) _) _) hb | exact bl_tr (bl_dr (bl_al (bl_al (bl_al (bl_al (bl_al (bl0 _) _) _) _) _) _)) hb | exact bl_tr (bl_al (bl_al (bl_al (bl_al (bl_al (bl_al (bl0 _) _) _) _) _) _) _) hb | exact bl_tr (bl_dr (bl_al (bl_al (bl_al (bl_al (bl_al (bl_al (bl0 _) _) _) _) _) _) _)) hb | exact bl_tr (bl_dr (bl0 _)) hb
    replace hA := bl_tr hA hk
    replace f0 := cell_later hk f0
    replace f1 := cell_later hk f1
    replace f2 := cell_later hk f2
    clear hb hk
    have zf0 := blk_lt f0
    have zf1 := blk_lt f1
    have zf2 := blk_lt f2
    go_wp2_with fail
    refine (HCO.out _ (hr.below hA) (hrc.below hA) (hs.below hA)).mono ?_
    rintro e w3 ⟨rfl, hb⟩
    have hk : Below w2.heap.size w2 w3 := by first | exact hb | exact bl_tr (bl_al (bl0 _) _) hb | exact bl_tr (bl_dr (bl_al (bl0 _) _)) hb | exact bl_tr (bl_al (bl_al (bl0 _) _) _) hb | exact bl_tr (bl_dr (bl_al (bl_al (bl0 _) _) _)) hb | exact bl_tr (bl_al (bl_al (bl_al (bl0 _) _) _) _) hb | exact bl_tr (bl_dr (bl_al (bl_al (bl_al (bl0 _) _) _) _)) hb | exact bl_tr (bl_al (bl_al (bl_al (bl_al (bl0 _) _) _) _) _) hb | exact bl_tr (bl_dr (bl_al (bl_al (bl_al (bl_al (bl0 _) _) _) _) _)) hb | exact bl_tr (bl_al (bl_al (bl_al (bl_al (bl_al (bl0 _) _) _) _) _) _) hb | exact bl_tr (bl_dr (bl_al (bl_al (bl_al (bl_al (bl_al (bl0 _) _) _) _) _) _)) hb | exact bl_tr (bl_al (bl_al (bl_al (bl_al (bl_al (bl_al (bl0 _) _) _) _) _) _) _) hb | exact bl_tr (bl_dr (bl_al (bl_al (bl_al (bl_al (bl_al (bl_al (bl0 _) _) _) _) _) _) _)) hb | exact bl_tr (bl_dr (bl0 _)) hb
    replace hA := bl_tr hA hk
    replace f0 := cell_later hk f0
    replace f1 := cell_later hk f1
    replace f2 := cell_later hk f2
    clear hb hk
    have zf0 := blk_lt f0
    have zf1 := blk_lt f1
    have zf2 := blk_lt f2
    go_wp2_with fail
    refine (HCH.out _ (hr.below hA) (hrc.below hA) (hs.below hA)).mono ?_
    rintro e w4 ⟨rfl, hb⟩
    have hk : Below w3.heap.size w3 w4 := by first | exact hb | exact bl_tr (bl_al (bl0 _) _) hb | exact bl_tr (bl_dr (bl_al (bl0 _) _)) hb | exact bl_tr (bl_al (bl_al (bl0 _) _) _) hb | exact bl_tr (bl_dr (bl_al (bl_al (bl0 _) _) _)) hb | exact bl_tr (bl_al (bl_al (bl_al (bl0 _) _) _) _) hb | exact bl_tr (bl_dr (bl_al (bl_al (bl_al (bl0 _) _) _) _)) hb | exact bl_tr (bl_al (bl_al (bl_al (bl_al (bl0 _) _) _) _) _) hb | exact bl_tr (bl_dr (bl_al (bl_al (bl_al (bl_al (bl0 _) _) _) _) _)) hb | exact bl_tr (bl_al (bl_al (bl_al (bl_al (bl_al (bl0 _) _) _) _) _) _) hb | exact bl_tr (bl_dr (bl_al (bl_al (bl_al (bl_al (bl_al (bl0 _) _) _) _) _) _)) hb | exact bl_tr (bl_al (bl_al (bl_al (bl_al (bl_al (bl_al (bl0 _) _) _) _) _) _) _) hb | exact bl_tr (bl_dr (bl_al (bl_al (bl_al (bl_al (bl_al (bl_al (bl0 _) _) _) _) _) _) _)) hb | exact bl_tr (bl_dr (bl0 _)) hb
    replace hA := bl_tr hA hk
    replace f0 := cell_later hk f0
    replace f1 := cell_later hk f1
    replace f2 := cell_later hk f2
    clear hb hk
    have zf0 := blk_lt f0
    have zf1 := blk_lt f1
    have zf2 := blk_lt f2
    by_cases hp : P = 0
    · subst hp
      have hcv := HCP.out
      rw [if_pos rfl] at hcv
      rw [hcv]
      generalize hS : costS A zs l.tail = S at *
      have p3 := beq_self_eq_true S
      have HS := Lib.hid hS
      clear hS hcv
      go_wp2_with fail
      refine (HRC.out trivial _ (hr.below hA) (hrc.below hA)).mono ?_
      rintro e w5 ⟨rfl, hb⟩
      have hk : Below w4.heap.size w4 w5 := by first | exact hb | exact bl_tr (bl_al (bl0 _) _) hb | exact bl_tr (bl_dr (bl_al (bl0 _) _)) hb | exact bl_tr (bl_al (bl_al (bl0 _) _) _) hb | exact bl_tr (bl_dr (bl_al (bl_al (bl0 _) _) _)) hb | exact bl_tr (bl_al (bl_al (bl_al (bl0 _) _) _) _) hb | exact bl_tr (bl_dr (bl_al (bl_al (bl_al (bl0 _) _) _) _)) hb | exact bl_tr (bl_al (bl_al (bl_al (bl_al (bl0 _) _) _) _) _) hb | exact bl_tr (bl_dr (bl_al (bl_al (bl_al (bl_al (bl0 _) _) _) _) _)) hb | exact bl_tr (bl_al (bl_al (bl_al (bl_al (bl_al (bl0 _) _) _) _) _) _) hb | exact bl_tr (bl_dr (bl_al (bl_al (bl_al (bl_al (bl_al (bl0 _) _) _) _) _) _)) hb | exact bl_tr (bl_al (bl_al (bl_al (bl_al (bl_al (bl_al (bl0 _) _) _) _) _) _) _) hb | exact bl_tr (bl_dr (bl_al (bl_al (bl_al (bl_al (bl_al (bl_al (bl0 _) _) _) _) _) _) _)) hb | exact bl_tr (bl_dr (bl0 _)) hb
      replace hA := bl_tr hA hk
      replace f0 := cell_later hk f0
      replace f1 := cell_later hk f1
      replace f2 := cell_later hk f2
      clear hb hk
      have zf0 := blk_lt f0
      have zf1 := blk_lt f1
      have zf2 := blk_lt f2
      go_wp2_with fail
      refine (awake_any _ (hs.below hA)).mono ?_
      rintro e w6 ⟨rfl, hb⟩
      have hk : Below w5.heap.size w5 w6 := by first | exact hb | exact bl_tr (bl_al (bl0 _) _) hb | exact bl_tr (bl_dr (bl_al (bl0 _) _)) hb | exact bl_tr (bl_al (bl_al (bl0 _) _) _) hb | exact bl_tr (bl_dr (bl_al (bl_al (bl0 _) _) _)) hb | exact bl_tr (bl_al (bl_al (bl_al (bl0 _) _) _) _) hb | exact bl_tr (bl_dr (bl_al (bl_al (bl_al (bl0 _) _) _) _)) hb | exact bl_tr (bl_al (bl_al (bl_al (bl_al (bl0 _) _) _) _) _) hb | exact bl_tr (bl_dr (bl_al (bl_al (bl_al (bl_al (bl0 _) _) _) _) _)) hb | exact bl_tr (bl_al (bl_al (bl_al (bl_al (bl_al (bl0 _) _) _) _) _) _) hb | exact bl_tr (bl_dr (bl_al (bl_al (bl_al (bl_al (bl_al (bl0 _) _) _) _) _) _)) hb | exact bl_tr (bl_al (bl_al (bl_al (bl_al (bl_al (bl_al (bl0 _) _) _) _) _) _) _) hb | exact bl_tr (bl_dr (bl_al (bl_al (bl_al (bl_al (bl_al (bl_al (bl0 _) _) _) _) _) _) _)) hb | exact bl_tr (bl_dr (bl0 _)) hb
      replace hA := bl_tr hA hk
      clear hb hk
      go_wp2
      go_ret
      exact ⟨rfl, hA⟩
    · have hcv := HCP.out
      rw [if_neg hp] at hcv
      rw [hcv]
      have p3 : (P != 0) = true := by rw [bne_iff_ne]; exact hp
      clear hp hcv
      go_wp2_with fail
      refine (awake_any _ (hs.below hA)).mono ?_
      rintro e w5 ⟨rfl, hb⟩
      have hk : Below w4.heap.size w4 w5 := by first | exact hb | exact bl_tr (bl_al (bl0 _) _) hb | exact bl_tr (bl_dr (bl_al (bl0 _) _)) hb | exact bl_tr (bl_al (bl_al (bl0 _) _) _) hb | exact bl_tr (bl_dr (bl_al (bl_al (bl0 _) _) _)) hb | exact bl_tr (bl_al (bl_al (bl_al (bl0 _) _) _) _) hb | exact bl_tr (bl_dr (bl_al (bl_al (bl_al (bl0 _) _) _) _)) hb | exact bl_tr (bl_al (bl_al (bl_al (bl_al (bl0 _) _) _) _) _) hb | exact bl_tr (bl_dr (bl_al (bl_al (bl_al (bl_al (bl0 _) _) _) _) _)) hb | exact bl_tr (bl_al (bl_al (bl_al (bl_al (bl_al (bl0 _) _) _) _) _) _) hb | exact bl_tr (bl_dr (bl_al (bl_al (bl_al (bl_al (bl_al (bl0 _) _) _) _) _) _)) hb | exact bl_tr (bl_al (bl_al (bl_al (bl_al (bl_al (bl_al (bl0 _) _) _) _) _) _) _) hb | exact bl_tr (bl_dr (bl_al (bl_al (bl_al (bl_al (bl_al (bl_al (bl0 _) _) _) _) _) _) _)) hb | exact bl_tr (bl_dr (bl0 _)) hb
      replace hA := bl_tr hA hk
      clear hb hk
      go_wp2
      go_ret
      exact ⟨rfl, hA⟩
end Go.Proofs.YtlmloedjakpogabDoor
