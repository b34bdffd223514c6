/- Paths: the document's answer: Check, Cost. -/
import Derived.Test.YtlmloedjakpogabDoorAn
import Derived.Test.YtlmloedjakpogabDoorAj
namespace Go.Proofs.YtlmloedjakpogabDoor
open Go.RowKit

theorem pathAt_no {A B : Int} {zs : List Int} {l : List IC} {k : Nat} (h : onB A B (cK l k) = false) : pathAt A B zs l k = 10 := by
  cases k with
  | zero => show errC A B zs (cK l 0) = 10; unfold errC; rw [if_neg (by rw [h]; decide)]
  | succ k => show errP A B zs (cK l k) (cK l (k + 1)) = 10; unfold errP; rw [if_neg (by rw [h]; decide)]
theorem pathAt_cost {A B : Int} {zs : List Int} {l : List IC} {k : Nat} (h : onB A B (cK l k) = true) (hb : ∀ m, k = m + 1 → besI (cK l m) (cK l k) ≠ -1) : pathAt A B zs l k = if costAt A zs (cK l k) = 0 then 21 else 0 := by
  cases k with
  | zero => show errC A B zs (cK l 0) = _; unfold errC; rw [if_pos h]
  | succ k => show errP A B zs (cK l k) (cK l (k + 1)) = _; unfold errP; rw [if_pos h, if_neg (hb k rfl)]
theorem pathAt_bes {A B : Int} {zs : List Int} {l : List IC} {k : Nat} (h : onB A B (cK l (k + 1)) = true) (hb : besI (cK l k) (cK l (k + 1)) = -1) : pathAt A B zs l (k + 1) = 11 := by
  show errP A B zs (cK l k) (cK l (k + 1)) = _; unfold errP; rw [if_pos h, if_pos hb]

set_option maxRecDepth 100000 in
set_option maxHeartbeats 4000000 in
theorem rcheck9_any (A B : Int) (a b : Option Addr) (cap cap2 : Nat) (zs : List Int) (l : List IC) (w : World) (hr : RowH w a zs) (hin : AllH zs) (hrc : RowC w b l) (hl : l.length ≤ 1048576) :
    Calls Tryd.prog 10 #[.agg #[.int .i64 A, .int .i64 B, .slice a zs.length cap], .slice b l.length cap2] w fun e w' => e = .returned (.int .i64 (pathE A B zs l (chkF A B zs.length))) ∧ Below w.heap.size w w' := by
  obtain ⟨chk, hchk⟩ : ∃ chk, chkF A B zs.length = chk := ⟨_, rfl⟩
  have hA := bl0 w
  by_cases h0 : chk = 0
  case neg =>
    have hpe : pathE A B zs l chk = chk := by unfold pathE; rw [if_pos h0]
    have h1 : (chk != 0) = true := by rw [bne_iff_ne]; exact h0
    rw [hchk, hpe]
    clear hpe h0
    have HC := Lib.hid hchk
    clear hchk
    go_enter Tryd.func10, Tryd.ntmps10
    go_wp2_with fail
    refine (rcheck_any _ _ _ _ _ _).mono ?_
    rintro e w1 ⟨rfl, hb⟩
    have hk : Below w.heap.size w w1 := by first | exact hb | exact bl_tr (bl_al (bl0 _) _) hb | exact bl_tr (bl_dr (bl_al (bl0 _) _)) hb | exact bl_tr (bl_al (bl_al (bl0 _) _) _) hb | exact bl_tr (bl_dr (bl_al (bl_al (bl0 _) _) _)) hb | exact bl_tr (bl_al (bl_al (bl_al (bl0 _) _) _) _) hb | exact bl_tr (bl_dr (bl_al (bl_al (bl_al (bl0 _) _) _) _)) hb | exact bl_tr (bl_al (bl_al (bl_al (bl_al (bl0 _) _) _) _) _) hb | exact bl_tr (bl_dr (bl_al (bl_al (bl_al (bl_al (bl0 _) _) _) _) _)) hb | exact bl_tr (bl_al (bl_al (bl_al (bl_al (bl_al (bl0 _) _) _) _) _) _) hb | exact bl_tr (bl_dr (bl_al (bl_al (bl_al (bl_al (bl_al (bl0 _) _) _) _) _) _)) hb | exact bl_tr (bl_al (bl_al (bl_al (bl_al (bl_al (bl_al (bl0 _) _) _) _) _) _) _) hb | exact bl_tr (bl_dr (bl_al (bl_al (bl_al (bl_al (bl_al (bl_al (bl0 _) _) _) _) _) _) _)) hb | exact bl_tr (bl_dr (bl0 _)) hb
    replace hA := bl_tr hA hk
    clear hb hk
    rw [HC.out]
    go_wp2
    go_ret
    exact ⟨rfl, hA⟩
  case pos =>
    subst h0
    have HC := Lib.hid hchk
    by_cases hl0 : l = []
    · have hpe : pathE A B zs l 0 = 11 := by unfold pathE; rw [if_neg (fun e => e rfl), if_pos hl0]
      rw [hchk, hpe]
      clear hpe hchk
      subst hl0
      go_enter Tryd.func10, Tryd.ntmps10
      go_wp2_with fail
      refine (rcheck_any _ _ _ _ _ _).mono ?_
      rintro e w1 ⟨rfl, hb⟩
      have hk : Below w.heap.size w w1 := by first | exact hb | exact bl_tr (bl_al (bl0 _) _) hb | exact bl_tr (bl_dr (bl_al (bl0 _) _)) hb | exact bl_tr (bl_al (bl_al (bl0 _) _) _) hb | exact bl_tr (bl_dr (bl_al (bl_al (bl0 _) _) _)) hb | exact bl_tr (bl_al (bl_al (bl_al (bl0 _) _) _) _) hb | exact bl_tr (bl_dr (bl_al (bl_al (bl_al (bl0 _) _) _) _)) hb | exact bl_tr (bl_al (bl_al (bl_al (bl_al (bl0 _) _) _) _) _) hb | exact bl_tr (bl_dr (bl_al (bl_al (bl_al (bl_al (bl0 _) _) _) _) _)) hb | exact bl_tr (bl_al (bl_al (bl_al (bl_al (bl_al (bl0 _) _) _) _) _) _) hb | exact bl_tr (bl_dr (bl_al (bl_al (bl_al (bl_al (bl_al (bl0 _) _) _) _) _) _)) hb | exact bl_tr (bl_al (bl_al (bl_al (bl_al (bl_al (bl_al (bl0 _) _) _) _) _) _) _) hb | exact bl_tr (bl_dr (bl_al (bl_al (bl_al (bl_al (bl_al (bl_al (bl0 _) _) _) _) _) _) _)) hb | exact bl_tr (bl_dr (bl0 _)) hb
      replace hA := bl_tr hA hk
      clear hb hk
      rw [HC.out]
      go_wp2
      go_ret
      exact ⟨rfl, hA⟩
    · rw [hchk, pathE_at rfl hl0]
      have hzn := chk_area hchk
      have hp0 := List.length_pos_iff.2 hl0
      have hL0 : ((l.length : Int) == 0) = false := by rw [beq_eq_false_iff_ne]; omega
      clear hchk hl0 hp0
      go_enter Tryd.func10, Tryd.ntmps10
      go_wp2_with fail
      refine (rcheck_any _ _ _ _ _ _).mono ?_
      rintro e w1 ⟨rfl, hb⟩
      have hk : Below w.heap.size w w1 := by first | exact hb | exact bl_tr (bl_al (bl0 _) _) hb | exact bl_tr (bl_dr (bl_al (bl0 _) _)) hb | exact bl_tr (bl_al (bl_al (bl0 _) _) _) hb | exact bl_tr (bl_dr (bl_al (bl_al (bl0 _) _) _)) hb | exact bl_tr (bl_al (bl_al (bl_al (bl0 _) _) _) _) hb | exact bl_tr (bl_dr (bl_al (bl_al (bl_al (bl0 _) _) _) _)) hb | exact bl_tr (bl_al (bl_al (bl_al (bl_al (bl0 _) _) _) _) _) hb | exact bl_tr (bl_dr (bl_al (bl_al (bl_al (bl_al (bl0 _) _) _) _) _)) hb | exact bl_tr (bl_al (bl_al (bl_al (bl_al (bl_al (bl0 _) _) _) _) _) _) hb | exact bl_tr (bl_dr (bl_al (bl_al (bl_al (bl_al (bl_al (bl0 _) _) _) _) _) _)) hb | exact bl_tr (bl_al (bl_al (bl_al (bl_al (bl_al (bl_al (bl0 _) _) _) _) _) _) _) hb | exact bl_tr (bl_dr (bl_al (bl_al (bl_al (bl_al (bl_al (bl_al (bl0 _) _) _) _) _) _) _)) hb | exact bl_tr (bl_dr (bl0 _)) hb
      replace hA := bl_tr hA hk
      have f0 := cell_later hb (v := .int .i64 A) (a := ⟨w.heap.size, 0, none⟩) (by simp [go_sem])
      have f1 := cell_later hb (v := .int .i64 B) (a := ⟨w.heap.size, 1, none⟩) (by simp [go_sem])
      have f2 := cell_later hb (v := .slice a zs.length cap) (a := ⟨w.heap.size, 2, none⟩) (by simp [go_sem])
      clear hb hk
      have zf0 := blk_lt f0
      have zf1 := blk_lt f1
      have zf2 := blk_lt f2
      rw [HC.out]
      go_wp2
      go_loopw [6] (fun i wr => ∃ k : Nat, k ≤ l.length ∧ i = .int .i64 k ∧ firstE (pathAt A B zs l) k = 0 ∧ Below w.heap.size w wr ∧ wr.cell? ⟨w.heap.size, 0, none⟩ = some (.int .i64 A) ∧ wr.cell? ⟨w.heap.size, 1, none⟩ = some (.int .i64 B) ∧ wr.cell? ⟨w.heap.size, 2, none⟩ = some (.slice a zs.length cap)) (fun i _ => l.length - (intOf i).toNat)
      case atStart => exact ⟨0, Nat.zero_le _, rfl, rfl, hA, f0, f1, f2⟩
      case round =>
        clear hA f0 f1 f2
        obtain ⟨k, hk, rfl, hfe, hB, f0, f1, f2⟩ := hrel
        by_cases hlt : k < l.length
        · have hlt2 : (k : Int) < (l.length : Int) := by omega
          have hk0 : (0 : Int) ≤ (k : Int) := by omega
          have hrc1 := hrc.below hB
          have hrz := hr.below hB
          obtain ⟨gb, go, hbb, q0, q1⟩ := hrc1.two hlt
          have hnx : firstE (pathAt A B zs l) (k + 1) = pathAt A B zs l k := firstE_next hfe
          have hst : pathAt A B zs l k ≠ 0 → firstE (pathAt A B zs l) l.length = pathAt A B zs l k := fun h => firstE_at hfe hlt h
          have hno := @pathAt_no A B zs l k
          have hco := @pathAt_cost A B zs l k
          obtain ⟨E, hE⟩ : ∃ E, pathAt A B zs l k = E := ⟨_, rfl⟩
          obtain ⟨c, hc⟩ : ∃ c, cK l k = c := ⟨_, rfl⟩
          rw [hE] at hnx hst hno hco
          rw [hc] at hno hco q0 q1
          have hk1 := bl0 wr
          have HS := Lib.hid (show ∀ W', Below wr.heap.size wr W' → W'.cell? ⟨w.heap.size, 0, none⟩ = some (.int .i64 A) ∧ W'.cell? ⟨w.heap.size, 1, none⟩ = some (.int .i64 B) ∧ W'.cell? ⟨w.heap.size, 2, none⟩ = some (.slice a zs.length cap) ∧ W'.cell? ⟨gb, go + k * 2, none⟩ = some (.int .i64 c.1) ∧ W'.cell? ⟨gb, go + k * 2 + 1, none⟩ = some (.int .i64 c.2) from fun W' h => ⟨cell_later h f0, cell_later h f1, cell_later h f2, cell_later h q0, cell_later h q1⟩)
          cases hon : onB A B c
          · have hE10 := hno hon
            have hend := hst (by rw [hE10]; decide)
            rw [hE10] at hend
            have HE := Lib.hid hend
            have HON := Lib.hid (show inB A B c.1 c.2 = false from hon)
            clear hno hco hnx hst hon hfe hE hc hE10 hend hrc1 hrc
            subst hbb
            go_upto_region 9 with fail
            go_region_held3 (fun W' => W'.cell? ⟨w.heap.size, 0, none⟩ = some (.int .i64 A) ∧ W'.cell? ⟨w.heap.size, 1, none⟩ = some (.int .i64 B) ∧ W'.cell? ⟨w.heap.size, 2, none⟩ = some (.slice a zs.length cap) ∧ W'.cell? ⟨gb, go + k * 2, none⟩ = some (.int .i64 c.1) ∧ W'.cell? ⟨gb, go + k * 2 + 1, none⟩ = some (.int .i64 c.2))
              (first | exact HS.out _ hk1 | exact HS.out _ (bl_dr hk1))
              ((go_at_call 22; (with_reducible refine (rin_any _ _ _ _ _).mono ?_); rintro e wz ⟨rfl, hb⟩; rw [HON.out]; replace hk1 := bl_tr (bl_dr hk1) hb; clear hb))
            go_wp2
            go_ret
            exact ⟨by rw [HE.out]; rfl, bl_tr hB hk1⟩
          · have HON := Lib.hid (show inB A B c.1 c.2 = true from hon)
            have HST := Lib.hid hst
            have hcall := fun W h => rcost8_any A B a cap zs c W h hin hon hzn
            have hcell : ∀ W', Below wr.heap.size wr W' → RowC W' b l := fun W' h => hrc1.below h
            have HCELL := Lib.hid hcell
            obtain ⟨z, hz⟩ : ∃ z, costAt A zs c = z := ⟨_, rfl⟩
            rw [hz] at hcall
            have HCALL := Lib.hid hcall
            clear hst hcall hcell hno hrc
            subst hbb
            have hfin : E = (if z = 0 then 21 else 0) → (z = 0 → firstE (pathAt A B zs l) l.length = 21) ∧ (z ≠ 0 → firstE (pathAt A B zs l) (k + 1) = 0) := fun h => by
              refine ⟨fun hz0 => ?_, fun hz0 => ?_⟩
              · rw [if_pos hz0] at h
                rw [HST.out (by rw [h]; decide), h]
              · rw [if_neg hz0] at h
                rw [hnx, h]
            have HFIN := Lib.hid hfin
            clear hfin hnx
            by_cases hk0' : k = 0
            · have hE2 : E = if z = 0 then 21 else 0 := by rw [hco hon (fun m hm => by omega), hz]
              have H21 := Lib.hid (HFIN.out hE2).1; have HGO := Lib.hid (HFIN.out hE2).2
              have hd1 : decide ((0 : Int) < (k : Int)) = false := decide_eq_false (by omega)
              have hd2 : decide (0 < k) = false := decide_eq_false (by omega)
              clear hE2 hco hE hc hfe hk0' hz hon
              go_upto_region 9 with fail
              go_region_held3 (fun W' => W'.cell? ⟨w.heap.size, 0, none⟩ = some (.int .i64 A) ∧ W'.cell? ⟨w.heap.size, 1, none⟩ = some (.int .i64 B) ∧ W'.cell? ⟨w.heap.size, 2, none⟩ = some (.slice a zs.length cap) ∧ W'.cell? ⟨gb, go + k * 2, none⟩ = some (.int .i64 c.1) ∧ W'.cell? ⟨gb, go + k * 2 + 1, none⟩ = some (.int .i64 c.2))
                (first | exact HS.out _ hk1 | exact HS.out _ (bl_dr hk1))
                ((go_at_call 22; (with_reducible refine (rin_any _ _ _ _ _).mono ?_); rintro e wz ⟨rfl, hb⟩; rw [HON.out]; replace hk1 := bl_tr (bl_dr hk1) hb; clear hb))
              go_upto_region 11 with fail
              replace hk1 := bl_dr hk1
              refine (wpIn_wide (n := 11)).1 ?_
              refine ordS_begin (S := (fun _ => True)) (by kernel_rfl) trivial (fun hH => ?_)
              first
                | (refine' ordS_take (i := 0) (oi := { dst := some 29, op := Op.move (Operand.tmp 6), type := 3, pos := _, after := #[], guard := none }) (v := _) rfl (by kernel_rfl) (by kernel_rfl) (by kernel_rfl) (by kernel_rfl) (fun _ _ _ h => h) (by assumption) (Or.inl ⟨by rfl, ?hy1⟩) (fun _ => rfl) ?rest1
                   case hy1 => (intro w hSw; (try dsimp only at hSw); go_simp; try with_reducible rfl))
                | (refine ordS_take (i := 0) (oi := { dst := some 29, op := Op.move (Operand.tmp 6), type := 3, pos := _, after := #[], guard := none }) (v := undef) rfl (by kernel_rfl) (by kernel_rfl) (by kernel_rfl) (by kernel_rfl) (fun _ _ _ h => h) (by assumption) (Or.inr ⟨by rfl, rfl⟩) (fun _ => rfl) ?_)
              try simp only [Act.put, List.setIfInBounds_toArray, List.set_cons_zero, List.set_cons_succ]
              first
                | (refine' ordS_take (i := 1) (oi := { dst := some 30, op := Op.binOp BinOp.gtr 3 (Operand.tmp 29) (Operand.const (Value.int IntKind.i64 0)) 3, type := 4, pos := _, after := #[{ on := 0, ground := Ground.data }], guard := none }) (v := _) rfl (by kernel_rfl) (by kernel_rfl) (by kernel_rfl) (by kernel_rfl) (fun _ _ _ h => h) (by assumption) (Or.inl ⟨by rfl, ?hy2⟩) (fun _ => rfl) ?rest2
                   case hy2 => (intro w hSw; (try dsimp only at hSw); go_simp; try with_reducible rfl))
                | (refine ordS_take (i := 1) (oi := { dst := some 30, op := Op.binOp BinOp.gtr 3 (Operand.tmp 29) (Operand.const (Value.int IntKind.i64 0)) 3, type := 4, pos := _, after := #[{ on := 0, ground := Ground.data }], guard := none }) (v := undef) rfl (by kernel_rfl) (by kernel_rfl) (by kernel_rfl) (by kernel_rfl) (fun _ _ _ h => h) (by assumption) (Or.inr ⟨by rfl, rfl⟩) (fun _ => rfl) ?_)
              try simp only [Act.put, List.setIfInBounds_toArray, List.set_cons_zero, List.set_cons_succ]
              first
                | (refine' ordS_take (i := 2) (oi := { dst := some 31, op := Op.move (Operand.tmp 30), type := 4, pos := _, after := #[{ on := 1, ground := Ground.data }], guard := none }) (v := _) rfl (by kernel_rfl) (by kernel_rfl) (by kernel_rfl) (by kernel_rfl) (fun _ _ _ h => h) (by assumption) (Or.inl ⟨by rfl, ?hy3⟩) (fun _ => rfl) ?rest3
                   case hy3 => (intro w hSw; (try dsimp only at hSw); go_simp; try with_reducible rfl))
                | (refine ordS_take (i := 2) (oi := { dst := some 31, op := Op.move (Operand.tmp 30), type := 4, pos := _, after := #[{ on := 1, ground := Ground.data }], guard := none }) (v := undef) rfl (by kernel_rfl) (by kernel_rfl) (by kernel_rfl) (by kernel_rfl) (fun _ _ _ h => h) (by assumption) (Or.inr ⟨by rfl, rfl⟩) (fun _ => rfl) ?_)
              try simp only [Act.put, List.setIfInBounds_toArray, List.set_cons_zero, List.set_cons_succ]
              first
                | (refine' ordS_take (i := 3) (oi := { dst := some 32, op := Op.move (Operand.tmp 1), type := 27, pos := _, after := #[{ on := 2, ground := Ground.guard }], guard := some (2, true) }) (v := _) rfl (by kernel_rfl) (by kernel_rfl) (by kernel_rfl) (by kernel_rfl) (fun _ _ _ h => h) (by assumption) (Or.inl ⟨by rfl, ?hy4⟩) (fun _ => rfl) ?rest4
                   case hy4 => (intro w hSw; (try dsimp only at hSw); go_simp; try with_reducible rfl))
                | (refine ordS_take (i := 3) (oi := { dst := some 32, op := Op.move (Operand.tmp 1), type := 27, pos := _, after := #[{ on := 2, ground := Ground.guard }], guard := some (2, true) }) (v := undef) rfl (by kernel_rfl) (by kernel_rfl) (by kernel_rfl) (by kernel_rfl) (fun _ _ _ h => h) (by assumption) (Or.inr ⟨by rfl, rfl⟩) (fun _ => rfl) ?_)
              try simp only [Act.put, List.setIfInBounds_toArray, List.set_cons_zero, List.set_cons_succ]
              first
                | (refine' ordS_take (i := 4) (oi := { dst := some 33, op := Op.move (Operand.tmp 6), type := 3, pos := _, after := #[{ on := 2, ground := Ground.guard }], guard := some (2, true) }) (v := _) rfl (by kernel_rfl) (by kernel_rfl) (by kernel_rfl) (by kernel_rfl) (fun _ _ _ h => h) (by assumption) (Or.inl ⟨by rfl, ?hy5⟩) (fun _ => rfl) ?rest5
                   case hy5 => (intro w hSw; (try dsimp only at hSw); go_simp; try with_reducible rfl))
                | (refine ordS_take (i := 4) (oi := { dst := some 33, op := Op.move (Operand.tmp 6), type := 3, pos := _, after := #[{ on := 2, ground := Ground.guard }], guard := some (2, true) }) (v := undef) rfl (by kernel_rfl) (by kernel_rfl) (by kernel_rfl) (by kernel_rfl) (fun _ _ _ h => h) (by assumption) (Or.inr ⟨by rfl, rfl⟩) (fun _ => rfl) ?_)
              try simp only [Act.put, List.setIfInBounds_toArray, List.set_cons_zero, List.set_cons_succ]
              first
                | (refine' ordS_take (i := 5) (oi := { dst := some 34, op := Op.binOp BinOp.sub 3 (Operand.tmp 33) (Operand.const (Value.int IntKind.i64 1)) 3, type := 3, pos := _, after := #[{ on := 4, ground := Ground.data }, { on := 2, ground := Ground.guard }], guard := some (2, true) }) (v := _) rfl (by kernel_rfl) (by kernel_rfl) (by kernel_rfl) (by kernel_rfl) (fun _ _ _ h => h) (by assumption) (Or.inl ⟨by rfl, ?hy6⟩) (fun _ => rfl) ?rest6
                   case hy6 => (intro w hSw; (try dsimp only at hSw); go_simp; try with_reducible rfl))
                | (refine ordS_take (i := 5) (oi := { dst := some 34, op := Op.binOp BinOp.sub 3 (Operand.tmp 33) (Operand.const (Value.int IntKind.i64 1)) 3, type := 3, pos := _, after := #[{ on := 4, ground := Ground.data }, { on := 2, ground := Ground.guard }], guard := some (2, true) }) (v := undef) rfl (by kernel_rfl) (by kernel_rfl) (by kernel_rfl) (by kernel_rfl) (fun _ _ _ h => h) (by assumption) (Or.inr ⟨by rfl, rfl⟩) (fun _ => rfl) ?_)
              try simp only [Act.put, List.setIfInBounds_toArray, List.set_cons_zero, List.set_cons_succ]
              first
                | (refine' ordS_take (i := 6) (oi := { dst := some 35, op := Op.indexAddr 27 (Operand.tmp 32) (Operand.tmp 34), type := 0, pos := _, after := #[{ on := 3, ground := Ground.data }, { on := 5, ground := Ground.data }, { on := 2, ground := Ground.guard }], guard := some (2, true) }) (v := _) rfl (by kernel_rfl) (by kernel_rfl) (by kernel_rfl) (by kernel_rfl) (fun _ _ _ h => h) (by assumption) (Or.inl ⟨by rfl, ?hy7⟩) (fun _ => rfl) ?rest7
                   case hy7 => (intro w hSw; (try dsimp only at hSw); go_simp; try with_reducible rfl))
                | (refine ordS_take (i := 6) (oi := { dst := some 35, op := Op.indexAddr 27 (Operand.tmp 32) (Operand.tmp 34), type := 0, pos := _, after := #[{ on := 3, ground := Ground.data }, { on := 5, ground := Ground.data }, { on := 2, ground := Ground.guard }], guard := some (2, true) }) (v := undef) rfl (by kernel_rfl) (by kernel_rfl) (by kernel_rfl) (by kernel_rfl) (fun _ _ _ h => h) (by assumption) (Or.inr ⟨by rfl, rfl⟩) (fun _ => rfl) ?_)
              try simp only [Act.put, List.setIfInBounds_toArray, List.set_cons_zero, List.set_cons_succ]
              first
                | (refine' ordS_take (i := 7) (oi := { dst := some 36, op := Op.load 37 (Operand.tmp 35), type := 37, pos := _, after := #[{ on := 6, ground := Ground.data }, { on := 2, ground := Ground.guard }], guard := some (2, true) }) (v := _) rfl (by kernel_rfl) (by kernel_rfl) (by kernel_rfl) (by kernel_rfl) (fun _ _ _ h => h) (by assumption) (Or.inl ⟨by rfl, ?hy8⟩) (fun _ => rfl) ?rest8
                   case hy8 => (intro w hSw; (try dsimp only at hSw); go_simp; try with_reducible rfl))
                | (refine ordS_take (i := 7) (oi := { dst := some 36, op := Op.load 37 (Operand.tmp 35), type := 37, pos := _, after := #[{ on := 6, ground := Ground.data }, { on := 2, ground := Ground.guard }], guard := some (2, true) }) (v := undef) rfl (by kernel_rfl) (by kernel_rfl) (by kernel_rfl) (by kernel_rfl) (fun _ _ _ h => h) (by assumption) (Or.inr ⟨by rfl, rfl⟩) (fun _ => rfl) ?_)
              try simp only [Act.put, List.setIfInBounds_toArray, List.set_cons_zero, List.set_cons_succ]
              first
                | (refine' ordS_take (i := 8) (oi := { dst := some 37, op := Op.move (Operand.tmp 1), type := 27, pos := _, after := #[{ on := 2, ground := Ground.guard }], guard := some (2, true) }) (v := _) rfl (by kernel_rfl) (by kernel_rfl) (by kernel_rfl) (by kernel_rfl) (fun _ _ _ h => h) (by assumption) (Or.inl ⟨by rfl, ?hy9⟩) (fun _ => rfl) ?rest9
                   case hy9 => (intro w hSw; (try dsimp only at hSw); go_simp; try with_reducible rfl))
                | (refine ordS_take (i := 8) (oi := { dst := some 37, op := Op.move (Operand.tmp 1), type := 27, pos := _, after := #[{ on := 2, ground := Ground.guard }], guard := some (2, true) }) (v := undef) rfl (by kernel_rfl) (by kernel_rfl) (by kernel_rfl) (by kernel_rfl) (fun _ _ _ h => h) (by assumption) (Or.inr ⟨by rfl, rfl⟩) (fun _ => rfl) ?_)
              try simp only [Act.put, List.setIfInBounds_toArray, List.set_cons_zero, List.set_cons_succ]
              first
                | (refine' ordS_take (i := 9) (oi := { dst := some 38, op := Op.move (Operand.tmp 6), type := 3, pos := _, after := #[{ on := 2, ground := Ground.guard }], guard := some (2, true) }) (v := _) rfl (by kernel_rfl) (by kernel_rfl) (by kernel_rfl) (by kernel_rfl) (fun _ _ _ h => h) (by assumption) (Or.inl ⟨by rfl, ?hy10⟩) (fun _ => rfl) ?rest10
                   case hy10 => (intro w hSw; (try dsimp only at hSw); go_simp; try with_reducible rfl))
                | (refine ordS_take (i := 9) (oi := { dst := some 38, op := Op.move (Operand.tmp 6), type := 3, pos := _, after := #[{ on := 2, ground := Ground.guard }], guard := some (2, true) }) (v := undef) rfl (by kernel_rfl) (by kernel_rfl) (by kernel_rfl) (by kernel_rfl) (fun _ _ _ h => h) (by assumption) (Or.inr ⟨by rfl, rfl⟩) (fun _ => rfl) ?_)
              try simp only [Act.put, List.setIfInBounds_toArray, List.set_cons_zero, List.set_cons_succ]
              first
                | (refine' ordS_take (i := 10) (oi := { dst := some 39, op := Op.indexAddr 27 (Operand.tmp 37) (Operand.tmp 38), type := 0, pos := _, after := #[{ on := 8, ground := Ground.data }, { on := 9, ground := Ground.data }, { on := 2, ground := Ground.guard }], guard := some (2, true) }) (v := _) rfl (by kernel_rfl) (by kernel_rfl) (by kernel_rfl) (by kernel_rfl) (fun _ _ _ h => h) (by assumption) (Or.inl ⟨by rfl, ?hy11⟩) (fun _ => rfl) ?rest11
                   case hy11 => (intro w hSw; (try dsimp only at hSw); go_simp; try with_reducible rfl))
                | (refine ordS_take (i := 10) (oi := { dst := some 39, op := Op.indexAddr 27 (Operand.tmp 37) (Operand.tmp 38), type := 0, pos := _, after := #[{ on := 8, ground := Ground.data }, { on := 9, ground := Ground.data }, { on := 2, ground := Ground.guard }], guard := some (2, true) }) (v := undef) rfl (by kernel_rfl) (by kernel_rfl) (by kernel_rfl) (by kernel_rfl) (fun _ _ _ h => h) (by assumption) (Or.inr ⟨by rfl, rfl⟩) (fun _ => rfl) ?_)
              try simp only [Act.put, List.setIfInBounds_toArray, List.set_cons_zero, List.set_cons_succ]
              first
                | (refine' ordS_take (i := 11) (oi := { dst := some 40, op := Op.load 37 (Operand.tmp 39), type := 37, pos := _, after := #[{ on := 10, ground := Ground.data }, { on := 2, ground := Ground.guard }], guard := some (2, true) }) (v := _) rfl (by kernel_rfl) (by kernel_rfl) (by kernel_rfl) (by kernel_rfl) (fun _ _ _ h => h) (by assumption) (Or.inl ⟨by rfl, ?hy12⟩) (fun _ => rfl) ?rest12
                   case hy12 => (intro w hSw; (try dsimp only at hSw); go_simp; try with_reducible rfl))
                | (refine ordS_take (i := 11) (oi := { dst := some 40, op := Op.load 37 (Operand.tmp 39), type := 37, pos := _, after := #[{ on := 10, ground := Ground.data }, { on := 2, ground := Ground.guard }], guard := some (2, true) }) (v := undef) rfl (by kernel_rfl) (by kernel_rfl) (by kernel_rfl) (by kernel_rfl) (fun _ _ _ h => h) (by assumption) (Or.inr ⟨by rfl, rfl⟩) (fun _ => rfl) ?_)
              try simp only [Act.put, List.setIfInBounds_toArray, List.set_cons_zero, List.set_cons_succ]
              refine ordS_skip (i := 12) (o := { dst := some 41, op := Op.call { callee := Callee.value (Operand.func 23), args := #[Operand.tmp 36, Operand.tmp 40], argTypes := #[37, 37] }, type := 3, pos := _, after := #[{ on := 7, ground := Ground.data }, { on := 11, ground := Ground.data }, { on := 2, ground := Ground.chain }, { on := 2, ground := Ground.guard }], guard := some (2, true) }) (by kernel_rfl) rfl (by rfl) (fun _ => trivial) (by assumption) ?_
              try simp only [Act.put, List.setIfInBounds_toArray, List.set_cons_zero, List.set_cons_succ]
              first
                | (refine' ordS_take (i := 13) (oi := { dst := some 42, op := Op.binOp BinOp.lss 3 (Operand.tmp 41) (Operand.const (Value.int IntKind.i64 0)) 3, type := 4, pos := _, after := #[{ on := 12, ground := Ground.data }, { on := 2, ground := Ground.guard }], guard := some (2, true) }) (v := _) rfl (by kernel_rfl) (by kernel_rfl) (by kernel_rfl) (by kernel_rfl) (fun _ _ _ h => h) (by assumption) (Or.inl ⟨by rfl, ?hy13⟩) (fun _ => rfl) ?rest13
                   case hy13 => (intro w hSw; (try dsimp only at hSw); go_simp; try with_reducible rfl))
                | (refine ordS_take (i := 13) (oi := { dst := some 42, op := Op.binOp BinOp.lss 3 (Operand.tmp 41) (Operand.const (Value.int IntKind.i64 0)) 3, type := 4, pos := _, after := #[{ on := 12, ground := Ground.data }, { on := 2, ground := Ground.guard }], guard := some (2, true) }) (v := undef) rfl (by kernel_rfl) (by kernel_rfl) (by kernel_rfl) (by kernel_rfl) (fun _ _ _ h => h) (by assumption) (Or.inr ⟨by rfl, rfl⟩) (fun _ => rfl) ?_)
              try simp only [Act.put, List.setIfInBounds_toArray, List.set_cons_zero, List.set_cons_succ]
              first
                | (refine' ordS_take (i := 14) (oi := { dst := some 43, op := Op.pick (Operand.tmp 31) (Operand.tmp 42) (Operand.const (Value.bool false)), type := 4, pos := _, after := #[{ on := 2, ground := Ground.data }, { on := 13, ground := Ground.data }], guard := none }) (v := _) rfl (by kernel_rfl) (by kernel_rfl) (by kernel_rfl) (by kernel_rfl) (fun _ _ _ h => h) (by assumption) (Or.inl ⟨by rfl, ?hy14⟩) (fun _ => rfl) ?rest14
                   case hy14 => (intro w hSw; (try dsimp only at hSw); go_simp; try with_reducible rfl))
                | (refine ordS_take (i := 14) (oi := { dst := some 43, op := Op.pick (Operand.tmp 31) (Operand.tmp 42) (Operand.const (Value.bool false)), type := 4, pos := _, after := #[{ on := 2, ground := Ground.data }, { on := 13, ground := Ground.data }], guard := none }) (v := undef) rfl (by kernel_rfl) (by kernel_rfl) (by kernel_rfl) (by kernel_rfl) (fun _ _ _ h => h) (by assumption) (Or.inr ⟨by rfl, rfl⟩) (fun _ => rfl) ?_)
              try simp only [Act.put, List.setIfInBounds_toArray, List.set_cons_zero, List.set_cons_succ]
              refine ordS_done (by kernel_rfl) ?_
              go_upto_region 13 with fail
              go_region_held3 (fun W' => W'.cell? ⟨w.heap.size, 0, none⟩ = some (.int .i64 A) ∧ W'.cell? ⟨w.heap.size, 1, none⟩ = some (.int .i64 B) ∧ W'.cell? ⟨w.heap.size, 2, none⟩ = some (.slice a zs.length cap) ∧ W'.cell? ⟨gb, go + k * 2, none⟩ = some (.int .i64 c.1) ∧ W'.cell? ⟨gb, go + k * 2 + 1, none⟩ = some (.int .i64 c.2))
                (first | exact HS.out _ hk1 | exact HS.out _ (bl_dr hk1))
                ((go_at_call 24; (with_reducible refine (HCALL.out _ (hrz.below (bl_dr hk1))).mono ?_); rintro e wz ⟨rfl, hb⟩; replace hk1 := bl_tr (bl_dr hk1) hb; clear hb))
              by_cases hz : z = 0
              · have HE := Lib.hid (H21.out hz)
                subst hz
                go_wp2
                go_ret
                exact ⟨by rw [HE.out]; rfl, bl_tr hB hk1⟩
              · have hz2 : (z == 0) = false := by rw [beq_eq_false_iff_ne]; exact hz
                have hf2 := HGO.out hz
                have s0 := (HS.out _ hk1).1
                have s1 := (HS.out _ hk1).2.1
                have s2 := (HS.out _ hk1).2.2.1
                clear hz
                go_wp2
                go_roundw
                case rel => exact ⟨k + 1, by omega, by go_num, hf2, bl_tr hB hk1, s0, s1, s2⟩
                case measure => simp [intOf]; omega
            · obtain ⟨m, hm⟩ : ∃ m, k = m + 1 := ⟨k - 1, by omega⟩
              have hd1 : decide ((0 : Int) < (k : Int)) = true := decide_eq_true (by omega)
              have hd2 : decide (0 < k) = true := decide_eq_true (by omega)
              have hpm : pathAt A B zs l m = 0 := firstE_zero.1 hfe m (by omega)
              obtain ⟨gb', go', hh, p0, p1⟩ := hrc1.two (k := m) (by omega)
              cases hh
              have e5 : IntKind.i64.wrap ((k : Int) - 1) = (m : Int) := by rw [hm]; rw [show ((m + 1 : Nat) : Int) - 1 = m by omega]; exact IntWalk.i64_in _ (by omega)
              have hm0 : (0 : Int) ≤ (m : Int) := by omega
              have hm1 : (m : Int) < (l.length : Int) := by omega
              have hbes : besI (cK l m) c = -1 → E = 11 := fun h => by rw [← hE, hm]; rw [← hc, hm] at h; exact pathAt_bes (by rw [← hm, hc]; exact hon) h
              have hbes2 : besI (cK l m) c ≠ -1 → E = if z = 0 then 21 else 0 := fun h => by
                rw [hco hon (fun m' hm' => by
                  have e : m' = m := by omega
                  rw [e]
                  exact h), hz]
              have hplm := on_plain (pathAt_on hpm)
              have hbin := bes_in (cK l m) c
              have hcb := fun W => rbes_any (cK l m) c W hplm
              generalize cK l m = p at *
              generalize besI p c = d at *
              have HB1 := Lib.hid hbes; have HB2 := Lib.hid hbes2; have HCB := Lib.hid hcb; have HM := Lib.hid hm
              clear hbes hbes2 hcb hm hpm hplm hco hE hc hfe hk0' hz hon
              have HP := Lib.hid (show ∀ W', Below wr.heap.size wr W' → W'.cell? ⟨gb, go + m * 2, none⟩ = some (.int .i64 p.1) ∧ W'.cell? ⟨gb, go + m * 2 + 1, none⟩ = some (.int .i64 p.2) ∧ W'.cell? ⟨gb, go + k * 2, none⟩ = some (.int .i64 c.1) ∧ W'.cell? ⟨gb, go + k * 2 + 1, none⟩ = some (.int .i64 c.2) from fun W' h => ⟨cell_later h p0, cell_later h p1, cell_later h q0, cell_later h q1⟩)
              go_upto_region 9 with fail
              go_region_held3 (fun W' => W'.cell? ⟨w.heap.size, 0, none⟩ = some (.int .i64 A) ∧ W'.cell? ⟨w.heap.size, 1, none⟩ = some (.int .i64 B) ∧ W'.cell? ⟨w.heap.size, 2, none⟩ = some (.slice a zs.length cap) ∧ W'.cell? ⟨gb, go + k * 2, none⟩ = some (.int .i64 c.1) ∧ W'.cell? ⟨gb, go + k * 2 + 1, none⟩ = some (.int .i64 c.2))
                (first | exact HS.out _ hk1 | exact HS.out _ (bl_dr hk1))
                ((go_at_call 22; (with_reducible refine (rin_any _ _ _ _ _).mono ?_); rintro e wz ⟨rfl, hb⟩; rw [HON.out]; replace hk1 := bl_tr (bl_dr hk1) hb; clear hb))
              go_upto_region 11 with fail
              go_region_held3 (fun W' => W'.cell? ⟨gb, go + m * 2, none⟩ = some (.int .i64 p.1) ∧ W'.cell? ⟨gb, go + m * 2 + 1, none⟩ = some (.int .i64 p.2) ∧ W'.cell? ⟨gb, go + k * 2, none⟩ = some (.int .i64 c.1) ∧ W'.cell? ⟨gb, go + k * 2 + 1, none⟩ = some (.int .i64 c.2))
                (first | exact HP.out _ hk1 | exact HP.out _ (bl_dr hk1))
                ((go_at_call 23; (with_reducible refine (HCB.out _).mono ?_); rintro e wz ⟨rfl, hb⟩; replace hk1 := bl_tr (bl_dr hk1) hb; clear hb))
              by_cases hd : d = -1
              · have hE2 := HB1.out hd
                have HE := Lib.hid (show firstE (pathAt A B zs l) l.length = 11 by rw [HST.out (by rw [hE2]; decide), hE2])
                have hd3 : decide (d < 0) = true := decide_eq_true (by omega)
                have hd4 : d < 0 := by omega
                clear hE2 hd hbin
                go_wp2
                go_ret
                exact ⟨by rw [HE.out]; rfl, bl_tr hB hk1⟩
              · have hE2 := HB2.out hd
                have H21 := Lib.hid (HFIN.out hE2).1; have HGO := Lib.hid (HFIN.out hE2).2
                have hd4 : ¬ d < 0 := by omega
                clear hE2 hd hbin
                go_upto_region 13 with fail
                go_region_held3 (fun W' => W'.cell? ⟨w.heap.size, 0, none⟩ = some (.int .i64 A) ∧ W'.cell? ⟨w.heap.size, 1, none⟩ = some (.int .i64 B) ∧ W'.cell? ⟨w.heap.size, 2, none⟩ = some (.slice a zs.length cap) ∧ W'.cell? ⟨gb, go + k * 2, none⟩ = some (.int .i64 c.1) ∧ W'.cell? ⟨gb, go + k * 2 + 1, none⟩ = some (.int .i64 c.2))
                  (first | exact HS.out _ hk1 | exact HS.out _ (bl_dr hk1))
                  ((go_at_call 24; (with_reducible refine (HCALL.out _ (hrz.below (bl_dr hk1))).mono ?_); rintro e wz ⟨rfl, hb⟩; replace hk1 := bl_tr (bl_dr hk1) hb; clear hb))
                by_cases hz : z = 0
                · have HE := Lib.hid (H21.out hz)
                  subst hz
                  go_wp2
                  go_ret
                  exact ⟨by rw [HE.out]; rfl, bl_tr hB hk1⟩
                · have hz2 : (z == 0) = false := by rw [beq_eq_false_iff_ne]; exact hz
                  have hf2 := HGO.out hz
                  have s0 := (HS.out _ hk1).1
                  have s1 := (HS.out _ hk1).2.1
                  have s2 := (HS.out _ hk1).2.2.1
                  clear hz
                  go_wp2
                  go_roundw
                  case rel => exact ⟨k + 1, by omega, by go_num, hf2, bl_tr hB hk1, s0, s1, s2⟩
                  case measure => simp [intOf]; omega
        · obtain rfl : k = l.length := by omega
          have HE := Lib.hid hfe
          clear hfe
          have hge : ¬ (l.length : Int) < (l.length : Int) := by omega
          go_wp2
          go_ret
          exact ⟨by rw [HE.out]; rfl, hB⟩
end Go.Proofs.YtlmloedjakpogabDoor
