/- HeapAlike: its walk. -/
import Derived.Test.YtgcncimeedoplaaZa
namespace Go.Proofs.Ytgcncimeedoplaa
open Go.RowKit Go.Maps

set_option maxRecDepth 100000 in
set_option maxHeartbeats 16000000 in
theorem halike_walk (a b : Option Addr) (ca cb : Nat) (ks : List Th) (zs : List Int) (w : World) (hr : RowK w a ks) (hz : RowZ w b zs) (wf : ∀ k ∈ ks, WfT k) :
    Calls Try.prog 8 #[.slice a ks.length ca, .slice b zs.length cb] w fun e w' => e = .returned (.bool true) ∧ Below w.heap.size w w' := by
  have hA := bl0 w
  by_cases hb1 : 100 < ks.length
  · have hb1I : (100 : Int) < (ks.length : Int) := by omega
    go_enter Try.func8, Try.ntmps8
    go_wp2_with fail
    refine (hawake _).mono ?_
    rintro e w9 ⟨rfl, hb⟩
    have HA := Lib.hid (bl_tr hA hb)
    clear hA hb
    go_wp2
    go_ret
    exact ⟨rfl, HA.out⟩
  have hb1I : (ks.length : Int) ≤ 100 := by omega
  have hb1N : ks.length ≤ 100 := by omega
  have hb1D : decide ((100 : Int) < (ks.length : Int)) = false := decide_eq_false (by omega)
  clear hb1
  by_cases hb2 : 200 < zs.length
  · have hb2I : (200 : Int) < (zs.length : Int) := by omega
    go_enter Try.func8, Try.ntmps8
    go_wp2_with fail
    refine (hawake _).mono ?_
    rintro e w9 ⟨rfl, hb⟩
    have HA := Lib.hid (bl_tr hA hb)
    clear hA hb
    go_wp2
    go_ret
    exact ⟨rfl, HA.out⟩
  have hb2I : (zs.length : Int) ≤ 200 := by omega
  have hb2N : zs.length ≤ 200 := by omega
  have hb2D : decide ((200 : Int) < (zs.length : Int)) = false := decide_eq_false (by omega)
  clear hb2
  have h0 : Sep w w.heap.size [] := Sep.nil (Nat.le_refl _)
  have h1 := h0.ints
  replace hA := bl_al hA (.cells #[] 3)
  go_enter Try.func8, Try.ntmps8
  go_wp2
  go_loopw [5, 6] (fun s i wr => ∃ (k g cap : Nat), k ≤ ks.length ∧ i = .int .i64 k ∧ s = .slice (some ⟨g, 0, none⟩) k cap ∧ Sep wr w.heap.size [RowO 3 1 (.slice (some ⟨g, 0, none⟩) k cap) k (cellsI (idsR k))] ∧ Below w.heap.size w wr) (fun _ i _ => ks.length - (intOf i).toNat)
  case atStart => exact ⟨0, w.heap.size, 0, Nat.zero_le _, rfl, rfl, h1, hA⟩
  case round =>
    obtain ⟨k, g, cap, hk, rfl, rfl, hS, hAr⟩ := hrel
    clear h1 hA h0
    by_cases hlt : k < ks.length
    · have hlt2 : (k : Int) < (ks.length : Int) := by omega
      have hk0 : (0 : Int) ≤ (k : Int) := by omega
      have hk1 : (k : Int) ≤ 100 := by omega
      go_wp2_with (at_builtin; refine wpList_append_int (W := wr) rfl _ _ rfl (k : Int) (by rfl) (l1 := []) (l2 := []) (g := g) (n := k) (cap := cap) (is := idsR k) (B := w.heap.size) hS (by omega) (by rfl) wr.heap.size rfl (by rfl) ?_)
      intro g' cap' w2 h2 hb
      have hA2 := hAr.trans hb
      rw [← idsR_succ] at h2
      have H2 := Lib.hid h2
      have HA2 := Lib.hid hA2
      clear hS hAr h2 hA2 hb
      go_wp2
      go_roundw
      case rel => exact ⟨k + 1, g', cap', by omega, by go_num, rfl, H2.out, HA2.out⟩
      case measure => simp [intOf]; omega
    · have hge : (ks.length : Int) ≤ (k : Int) := by omega
      obtain rfl : k = ks.length := by omega
      clear hlt hge hk
      go_wp2
      go_loopw [7] (fun i wr => ∃ (j : Nat) (is : List Int), j ≤ zs.length + 1 ∧ i = .int .i64 j ∧ Hid (is.Perm (idsR ks.length)) ∧ Sep wr w.heap.size [RowO 3 1 (.slice (some ⟨g, 0, none⟩) ks.length cap) ks.length (cellsI is)] ∧ Below w.heap.size w wr) (fun i _ => zs.length + 2 - (intOf i).toNat)
      case atStart => exact ⟨0, _, Nat.zero_le _, rfl, Lib.hid (List.Perm.refl _), hS, hAr⟩
      case round =>
        obtain ⟨j, is, hj, rfl, HI, hS, hAr⟩ := hrel
        have hj0 : (0 : Int) ≤ (j : Int) := by omega
        have hj1 : (j : Int) ≤ 201 := by omega
        have hw1 : IntKind.i64.wrap ((j : Int) + 1) = (j : Int) + 1 := IntWalk.i64_in _ (by omega)
        have hw2 : IntKind.i64.wrap ((j : Int) + 2) = (j : Int) + 2 := IntWalk.i64_in _ (by omega)
        by_cases hlt : j + 1 < zs.length ∧ 0 < ks.length
        · obtain ⟨hlt, hn⟩ := hlt
          have hltI : (j : Int) + 1 < (zs.length : Int) := by omega
          have hltI2 : (j : Int) < (zs.length : Int) := by omega
          have hnI : (0 : Int) < (ks.length : Int) := by omega
          have hj01 : (0 : Int) ≤ (j : Int) + 1 := by omega
          obtain ⟨gb, go, rfl, q0⟩ := hz.at (k := j) (by omega)
          obtain ⟨gb', go', e, q1⟩ := hz.at (k := j + 1) hlt
          cases e
          have q1' : w.cell? ⟨gb, go + (j + 1), none⟩ = some (.int .i64 (zs.getD (j + 1) 0)) := q1
          generalize zs.getD j 0 = x at *
          generalize zs.getD (j + 1) 0 = y at *
          obtain ⟨T, A, t1, t2, t3, t4, t5, t6⟩ := place_of x ks.length hn
          obtain ⟨U, E, u1, u2, u3, u4, u5, u6⟩ := place_of y ks.length hn
          replace q0 := cell_later hAr q0
          replace q1 := cell_later hAr q1
          have hn0 : ((ks.length : Int) == 0) = false := by rw [beq_eq_false_iff_ne]; omega
          have hnn : (ks.length : Int) ≠ 0 := by omega
          have a0 : (0 : Int) ≤ (A : Int) := by omega
          have a1 : (A : Int) < (ks.length : Int) := by omega
          have e0 : (0 : Int) ≤ (E : Int) := by omega
          have e1 : (E : Int) < (ks.length : Int) := by omega
          have w1 : IntKind.i64.wrap (T + (ks.length : Int)) = T + (ks.length : Int) := IntWalk.i64_in _ (by omega)
          have w2 : IntKind.i64.wrap (U + (ks.length : Int)) = U + (ks.length : Int) := IntWalk.i64_in _ (by omega)
          clear q1'
          go_upto_region 13 with fail
          have hil : is.length = ks.length := by have := HI.out.length_eq; rwa [idsR_len] at this
          have HIL := Lib.hid hil
          have HSW := Lib.hid (swapI (l := is) (a := A) (b := E) (by omega) (by omega))
          clear hil
          obtain ⟨hrow, hfz, hgB, hgW, _⟩ := Sep.row (l1 := []) (l2 := []) hS
          have ya := hrow _ _ (cellsI_at (is := is) (i := A) (by rw [HIL.out]; exact t6))
          have ye := hrow _ _ (cellsI_at (is := is) (i := E) (by rw [HIL.out]; exact u6))
          obtain ⟨va, hva⟩ : ∃ va, is.getD A 0 = va := ⟨_, rfl⟩
          obtain ⟨ve, hve⟩ : ∃ ve, is.getD E 0 = ve := ⟨_, rfl⟩
          rw [hva] at ya HSW
          rw [hve] at ye HSW
          have f0 := hfz A
          clear hrow hfz hva hve q0 q1 t1 t4 t5 u1 u4 u5 w1 w2
          have hD := bl_dr (bl0 wr)
          refine (wpIn_wide (n := 11)).1 ?_
          refine ordZ_begin (z := 13) (S := (fun w' : World => w'.cell? ⟨g, A, none⟩ = some (.int .i64 va) ∧ w'.cell? ⟨g, E, none⟩ = some (.int .i64 ve))) (by kernel_rfl) ⟨cell_later hD ya, cell_later hD ye⟩ (fun hH => ?_)
          first
            | (refine' ordZ_take (i := 0) (oi := { dst := some 87, op := Op.move (Operand.tmp 5), type := 36, pos := _, after := #[], guard := none }) (v := _) rfl (by kernel_rfl) (by kernel_rfl) (by kernel_rfl) (by kernel_rfl) (fun _ _ _ h => h) (by assumption) (by kernel_rfl) (by decide) (by rfl) (Or.inl ⟨by rfl, ?hy1⟩) (fun _ => rfl) ?rest1
               case hy1 => (intro w hSw; (try dsimp only at hSw); go_simp; try with_reducible rfl))
            | (refine ordZ_take (i := 0) (oi := { dst := some 87, op := Op.move (Operand.tmp 5), type := 36, pos := _, after := #[], guard := none }) (v := undef) rfl (by kernel_rfl) (by kernel_rfl) (by kernel_rfl) (by kernel_rfl) (fun _ _ _ h => h) (by assumption) (by kernel_rfl) (by decide) (by rfl) (Or.inr ⟨by rfl, rfl⟩) (fun _ => rfl) ?_)
          try simp only [Act.put, List.setIfInBounds_toArray, List.set_cons_zero, List.set_cons_succ]
          first
            | (refine' ordZ_take (i := 1) (oi := { dst := some 88, op := Op.move (Operand.tmp 8), type := 3, pos := _, after := #[], guard := none }) (v := _) rfl (by kernel_rfl) (by kernel_rfl) (by kernel_rfl) (by kernel_rfl) (fun _ _ _ h => h) (by assumption) (by kernel_rfl) (by decide) (by rfl) (Or.inl ⟨by rfl, ?hy2⟩) (fun _ => rfl) ?rest2
               case hy2 => (intro w hSw; (try dsimp only at hSw); go_simp; try with_reducible rfl))
            | (refine ordZ_take (i := 1) (oi := { dst := some 88, op := Op.move (Operand.tmp 8), type := 3, pos := _, after := #[], guard := none }) (v := undef) rfl (by kernel_rfl) (by kernel_rfl) (by kernel_rfl) (by kernel_rfl) (fun _ _ _ h => h) (by assumption) (by kernel_rfl) (by decide) (by rfl) (Or.inr ⟨by rfl, rfl⟩) (fun _ => rfl) ?_)
          try simp only [Act.put, List.setIfInBounds_toArray, List.set_cons_zero, List.set_cons_succ]
          first
            | (refine' ordP_take (i := 2) (oi := { dst := some 89, op := Op.move (Operand.tmp 5), type := 36, pos := _, after := #[{ on := 13, ground := Ground.gcOnly Departure.lateStores }], guard := none }) (v := _) rfl (by kernel_rfl) (by kernel_rfl) (by kernel_rfl) (by kernel_rfl) (fun _ _ _ h => h) (fun h => by first | assumption | (exact absurd h (by decide))) (by decide) (Or.inl ⟨by rfl, ?hy3⟩) (fun _ => rfl) ?rest3
               case hy3 => (intro w hSw; (try dsimp only at hSw); go_simp; try with_reducible rfl))
            | (refine ordP_take (i := 2) (oi := { dst := some 89, op := Op.move (Operand.tmp 5), type := 36, pos := _, after := #[{ on := 13, ground := Ground.gcOnly Departure.lateStores }], guard := none }) (v := undef) rfl (by kernel_rfl) (by kernel_rfl) (by kernel_rfl) (by kernel_rfl) (fun _ _ _ h => h) (fun h => by first | assumption | (exact absurd h (by decide))) (by decide) (Or.inr ⟨by rfl, rfl⟩) (fun _ => rfl) ?_)
          try simp only [Act.put, List.setIfInBounds_toArray, List.set_cons_zero, List.set_cons_succ]
          first
            | (refine' ordP_take (i := 3) (oi := { dst := some 90, op := Op.move (Operand.tmp 9), type := 3, pos := _, after := #[{ on := 13, ground := Ground.gcOnly Departure.lateStores }], guard := none }) (v := _) rfl (by kernel_rfl) (by kernel_rfl) (by kernel_rfl) (by kernel_rfl) (fun _ _ _ h => h) (fun h => by first | assumption | (exact absurd h (by decide))) (by decide) (Or.inl ⟨by rfl, ?hy4⟩) (fun _ => rfl) ?rest4
               case hy4 => (intro w hSw; (try dsimp only at hSw); go_simp; try with_reducible rfl))
            | (refine ordP_take (i := 3) (oi := { dst := some 90, op := Op.move (Operand.tmp 9), type := 3, pos := _, after := #[{ on := 13, ground := Ground.gcOnly Departure.lateStores }], guard := none }) (v := undef) rfl (by kernel_rfl) (by kernel_rfl) (by kernel_rfl) (by kernel_rfl) (fun _ _ _ h => h) (fun h => by first | assumption | (exact absurd h (by decide))) (by decide) (Or.inr ⟨by rfl, rfl⟩) (fun _ => rfl) ?_)
          try simp only [Act.put, List.setIfInBounds_toArray, List.set_cons_zero, List.set_cons_succ]
          first
            | (refine' ordZ_take (i := 4) (oi := { dst := some 91, op := Op.move (Operand.tmp 5), type := 36, pos := _, after := #[], guard := none }) (v := _) rfl (by kernel_rfl) (by kernel_rfl) (by kernel_rfl) (by kernel_rfl) (fun _ _ _ h => h) (by assumption) (by kernel_rfl) (by decide) (by rfl) (Or.inl ⟨by rfl, ?hy5⟩) (fun _ => rfl) ?rest5
               case hy5 => (intro w hSw; (try dsimp only at hSw); go_simp; try with_reducible rfl))
            | (refine ordZ_take (i := 4) (oi := { dst := some 91, op := Op.move (Operand.tmp 5), type := 36, pos := _, after := #[], guard := none }) (v := undef) rfl (by kernel_rfl) (by kernel_rfl) (by kernel_rfl) (by kernel_rfl) (fun _ _ _ h => h) (by assumption) (by kernel_rfl) (by decide) (by rfl) (Or.inr ⟨by rfl, rfl⟩) (fun _ => rfl) ?_)
          try simp only [Act.put, List.setIfInBounds_toArray, List.set_cons_zero, List.set_cons_succ]
          first
            | (refine' ordZ_take (i := 5) (oi := { dst := some 92, op := Op.move (Operand.tmp 9), type := 3, pos := _, after := #[], guard := none }) (v := _) rfl (by kernel_rfl) (by kernel_rfl) (by kernel_rfl) (by kernel_rfl) (fun _ _ _ h => h) (by assumption) (by kernel_rfl) (by decide) (by rfl) (Or.inl ⟨by rfl, ?hy6⟩) (fun _ => rfl) ?rest6
               case hy6 => (intro w hSw; (try dsimp only at hSw); go_simp; try with_reducible rfl))
            | (refine ordZ_take (i := 5) (oi := { dst := some 92, op := Op.move (Operand.tmp 9), type := 3, pos := _, after := #[], guard := none }) (v := undef) rfl (by kernel_rfl) (by kernel_rfl) (by kernel_rfl) (by kernel_rfl) (fun _ _ _ h => h) (by assumption) (by kernel_rfl) (by decide) (by rfl) (Or.inr ⟨by rfl, rfl⟩) (fun _ => rfl) ?_)
          try simp only [Act.put, List.setIfInBounds_toArray, List.set_cons_zero, List.set_cons_succ]
          first
            | (refine' ordZ_take (i := 6) (oi := { dst := some 93, op := Op.indexAddr 36 (Operand.tmp 91) (Operand.tmp 92), type := 0, pos := _, after := #[{ on := 4, ground := Ground.data }, { on := 5, ground := Ground.data }], guard := none }) (v := _) rfl (by kernel_rfl) (by kernel_rfl) (by kernel_rfl) (by kernel_rfl) (fun _ _ _ h => h) (by assumption) (by kernel_rfl) (by decide) (by rfl) (Or.inl ⟨by rfl, ?hy7⟩) (fun _ => rfl) ?rest7
               case hy7 => (intro w hSw; (try dsimp only at hSw); go_simp; try with_reducible rfl))
            | (refine ordZ_take (i := 6) (oi := { dst := some 93, op := Op.indexAddr 36 (Operand.tmp 91) (Operand.tmp 92), type := 0, pos := _, after := #[{ on := 4, ground := Ground.data }, { on := 5, ground := Ground.data }], guard := none }) (v := undef) rfl (by kernel_rfl) (by kernel_rfl) (by kernel_rfl) (by kernel_rfl) (fun _ _ _ h => h) (by assumption) (by kernel_rfl) (by decide) (by rfl) (Or.inr ⟨by rfl, rfl⟩) (fun _ => rfl) ?_)
          try simp only [Act.put, List.setIfInBounds_toArray, List.set_cons_zero, List.set_cons_succ]
          first
            | (refine' ordZ_take (i := 7) (oi := { dst := some 94, op := Op.load 3 (Operand.tmp 93), type := 3, pos := _, after := #[{ on := 6, ground := Ground.data }], guard := none }) (v := _) rfl (by kernel_rfl) (by kernel_rfl) (by kernel_rfl) (by kernel_rfl) (fun _ _ _ h => h) (by assumption) (by kernel_rfl) (by decide) (by rfl) (Or.inl ⟨by rfl, ?hy8⟩) (fun _ => rfl) ?rest8
               case hy8 => (intro w hSw; (try dsimp only at hSw); go_simp; try with_reducible rfl))
            | (refine ordZ_take (i := 7) (oi := { dst := some 94, op := Op.load 3 (Operand.tmp 93), type := 3, pos := _, after := #[{ on := 6, ground := Ground.data }], guard := none }) (v := undef) rfl (by kernel_rfl) (by kernel_rfl) (by kernel_rfl) (by kernel_rfl) (fun _ _ _ h => h) (by assumption) (by kernel_rfl) (by decide) (by rfl) (Or.inr ⟨by rfl, rfl⟩) (fun _ => rfl) ?_)
          try simp only [Act.put, List.setIfInBounds_toArray, List.set_cons_zero, List.set_cons_succ]
          first
            | (refine' ordP_take (i := 8) (oi := { dst := some 95, op := Op.move (Operand.tmp 5), type := 36, pos := _, after := #[], guard := none }) (v := _) rfl (by kernel_rfl) (by kernel_rfl) (by kernel_rfl) (by kernel_rfl) (fun _ _ _ h => h) (fun h => by first | assumption | (exact absurd h (by decide))) (by decide) (Or.inl ⟨by rfl, ?hy9⟩) (fun _ => rfl) ?rest9
               case hy9 => (intro w hSw; (try dsimp only at hSw); go_simp; try with_reducible rfl))
            | (refine ordP_take (i := 8) (oi := { dst := some 95, op := Op.move (Operand.tmp 5), type := 36, pos := _, after := #[], guard := none }) (v := undef) rfl (by kernel_rfl) (by kernel_rfl) (by kernel_rfl) (by kernel_rfl) (fun _ _ _ h => h) (fun h => by first | assumption | (exact absurd h (by decide))) (by decide) (Or.inr ⟨by rfl, rfl⟩) (fun _ => rfl) ?_)
          try simp only [Act.put, List.setIfInBounds_toArray, List.set_cons_zero, List.set_cons_succ]
          first
            | (refine' ordP_take (i := 9) (oi := { dst := some 96, op := Op.move (Operand.tmp 8), type := 3, pos := _, after := #[], guard := none }) (v := _) rfl (by kernel_rfl) (by kernel_rfl) (by kernel_rfl) (by kernel_rfl) (fun _ _ _ h => h) (fun h => by first | assumption | (exact absurd h (by decide))) (by decide) (Or.inl ⟨by rfl, ?hy10⟩) (fun _ => rfl) ?rest10
               case hy10 => (intro w hSw; (try dsimp only at hSw); go_simp; try with_reducible rfl))
            | (refine ordP_take (i := 9) (oi := { dst := some 96, op := Op.move (Operand.tmp 8), type := 3, pos := _, after := #[], guard := none }) (v := undef) rfl (by kernel_rfl) (by kernel_rfl) (by kernel_rfl) (by kernel_rfl) (fun _ _ _ h => h) (fun h => by first | assumption | (exact absurd h (by decide))) (by decide) (Or.inr ⟨by rfl, rfl⟩) (fun _ => rfl) ?_)
          try simp only [Act.put, List.setIfInBounds_toArray, List.set_cons_zero, List.set_cons_succ]
          first
            | (refine' ordP_take (i := 10) (oi := { dst := some 97, op := Op.indexAddr 36 (Operand.tmp 95) (Operand.tmp 96), type := 0, pos := _, after := #[{ on := 8, ground := Ground.data }, { on := 9, ground := Ground.data }], guard := none }) (v := _) rfl (by kernel_rfl) (by kernel_rfl) (by kernel_rfl) (by kernel_rfl) (fun _ _ _ h => h) (fun h => by first | assumption | (exact absurd h (by decide))) (by decide) (Or.inl ⟨by rfl, ?hy11⟩) (fun _ => rfl) ?rest11
               case hy11 => (intro w hSw; (try dsimp only at hSw); go_simp; try with_reducible rfl))
            | (refine ordP_take (i := 10) (oi := { dst := some 97, op := Op.indexAddr 36 (Operand.tmp 95) (Operand.tmp 96), type := 0, pos := _, after := #[{ on := 8, ground := Ground.data }, { on := 9, ground := Ground.data }], guard := none }) (v := undef) rfl (by kernel_rfl) (by kernel_rfl) (by kernel_rfl) (by kernel_rfl) (fun _ _ _ h => h) (fun h => by first | assumption | (exact absurd h (by decide))) (by decide) (Or.inr ⟨by rfl, rfl⟩) (fun _ => rfl) ?_)
          try simp only [Act.put, List.setIfInBounds_toArray, List.set_cons_zero, List.set_cons_succ]
          first
            | (refine' ordZ_take (i := 11) (oi := { dst := some 98, op := Op.load 3 (Operand.tmp 97), type := 3, pos := _, after := #[{ on := 10, ground := Ground.data }], guard := none }) (v := _) rfl (by kernel_rfl) (by kernel_rfl) (by kernel_rfl) (by kernel_rfl) (fun _ _ _ h => h) (by assumption) (by kernel_rfl) (by decide) (by rfl) (Or.inl ⟨by rfl, ?hy12⟩) (fun _ => rfl) ?rest12
               case hy12 => (intro w hSw; (try dsimp only at hSw); go_simp; try with_reducible rfl))
            | (refine ordZ_take (i := 11) (oi := { dst := some 98, op := Op.load 3 (Operand.tmp 97), type := 3, pos := _, after := #[{ on := 10, ground := Ground.data }], guard := none }) (v := undef) rfl (by kernel_rfl) (by kernel_rfl) (by kernel_rfl) (by kernel_rfl) (fun _ _ _ h => h) (by assumption) (by kernel_rfl) (by decide) (by rfl) (Or.inr ⟨by rfl, rfl⟩) (fun _ => rfl) ?_)
          try simp only [Act.put, List.setIfInBounds_toArray, List.set_cons_zero, List.set_cons_succ]
          first
            | (refine' ordP_take (i := 12) (oi := { dst := some 99, op := Op.indexAddr 36 (Operand.tmp 87) (Operand.tmp 88), type := 0, pos := _, after := #[{ on := 0, ground := Ground.data }, { on := 1, ground := Ground.data }, { on := 0, ground := Ground.phase }, { on := 1, ground := Ground.phase }, { on := 2, ground := Ground.textOnly Departure.lateStores }, { on := 3, ground := Ground.textOnly Departure.lateStores }, { on := 4, ground := Ground.phase }, { on := 5, ground := Ground.phase }, { on := 6, ground := Ground.phase }, { on := 7, ground := Ground.phase }, { on := 8, ground := Ground.textOnly Departure.lateStores }, { on := 9, ground := Ground.textOnly Departure.lateStores }, { on := 10, ground := Ground.textOnly Departure.lateStoresUnsure }, { on := 11, ground := Ground.phase }], guard := none }) (v := _) rfl (by kernel_rfl) (by kernel_rfl) (by kernel_rfl) (by kernel_rfl) (fun _ _ _ h => h) (fun h => by first | assumption | (exact absurd h (by decide))) (by decide) (Or.inl ⟨by rfl, ?hy13⟩) (fun _ => rfl) ?rest13
               case hy13 => (intro w hSw; (try dsimp only at hSw); go_simp; try with_reducible rfl))
            | (refine ordP_take (i := 12) (oi := { dst := some 99, op := Op.indexAddr 36 (Operand.tmp 87) (Operand.tmp 88), type := 0, pos := _, after := #[{ on := 0, ground := Ground.data }, { on := 1, ground := Ground.data }, { on := 0, ground := Ground.phase }, { on := 1, ground := Ground.phase }, { on := 2, ground := Ground.textOnly Departure.lateStores }, { on := 3, ground := Ground.textOnly Departure.lateStores }, { on := 4, ground := Ground.phase }, { on := 5, ground := Ground.phase }, { on := 6, ground := Ground.phase }, { on := 7, ground := Ground.phase }, { on := 8, ground := Ground.textOnly Departure.lateStores }, { on := 9, ground := Ground.textOnly Departure.lateStores }, { on := 10, ground := Ground.textOnly Departure.lateStoresUnsure }, { on := 11, ground := Ground.phase }], guard := none }) (v := undef) rfl (by kernel_rfl) (by kernel_rfl) (by kernel_rfl) (by kernel_rfl) (fun _ _ _ h => h) (fun h => by first | assumption | (exact absurd h (by decide))) (by decide) (Or.inr ⟨by rfl, rfl⟩) (fun _ => rfl) ?_)
          try simp only [Act.put, List.setIfInBounds_toArray, List.set_cons_zero, List.set_cons_succ]
          have h2 := hS.below hD
          have hA2 := bl_tr hAr hD
          obtain ⟨_, hfz, _, _, _⟩ := Sep.row (l1 := []) (l2 := []) h2
          have f0' := hfz A
          have ya' := cell_later hD ya
          have h3 := Sep.rowset (l1 := []) (l2 := []) h2 A (.int .i64 ve)
          rw [cellsI_set] at h3
          have hA3 := hA2.grown (hgrown_set wr.drew g A (.int .i64 ve)) hA2.size (fun j e => by cases e; exact hgB)
          refine ordZ_one (i := 13) (o := { dst := none, op := Op.store 3 (Operand.tmp 99) (Operand.tmp 94), type := 0, pos := _, after := #[{ on := 12, ground := Ground.data }, { on := 7, ground := Ground.data }, { on := 0, ground := Ground.phase }, { on := 1, ground := Ground.phase }, { on := 2, ground := Ground.textOnly Departure.lateStores }, { on := 3, ground := Ground.textOnly Departure.lateStores }, { on := 4, ground := Ground.phase }, { on := 5, ground := Ground.phase }, { on := 6, ground := Ground.phase }, { on := 7, ground := Ground.phase }, { on := 8, ground := Ground.textOnly Departure.lateStores }, { on := 9, ground := Ground.textOnly Departure.lateStores }, { on := 10, ground := Ground.textOnly Departure.lateStoresUnsure }, { on := 11, ground := Ground.phase }], guard := none }) (by kernel_rfl) rfl (by rfl) (fun K hK => ?_)
          go_simp
          refine hK _ _ (fun h => by cases h) ?_
          clear hK K hH
          try simp only [Act.put, List.setIfInBounds_toArray, List.set_cons_zero, List.set_cons_succ]
          rw [show (wr.setCell ⟨g, A, none⟩ (.int .i64 ve)).drew = wr.drew.setCell ⟨g, A, none⟩ (.int .i64 ve) from rfl]
          generalize hw3 : wr.drew.setCell ⟨g, A, none⟩ (.int .i64 ve) = w3 at *
          clear hw3 hfz f0 f0' ya ya' ye hD h2 hA2 hS hAr
          obtain ⟨hrow, hfz, _, _, _⟩ := Sep.row (l1 := []) (l2 := []) h3
          have ye := hrow _ _ (cellsI_at (is := is.set A ve) (i := E) (by rw [List.length_set, HIL.out]; exact u6))
          obtain ⟨v5, hv5⟩ : ∃ v5, (is.set A ve).getD E 0 = v5 := ⟨_, rfl⟩
          rw [hv5] at ye
          have fe := hfz E
          clear hrow hfz hv5
          refine ordZ_one (i := 14) (o := { dst := some 100, op := Op.indexAddr 36 (Operand.tmp 89) (Operand.tmp 90), type := 0, pos := _, after := #[{ on := 2, ground := Ground.data }, { on := 3, ground := Ground.data }, { on := 0, ground := Ground.phase }, { on := 1, ground := Ground.phase }, { on := 2, ground := Ground.phase }, { on := 3, ground := Ground.phase }, { on := 4, ground := Ground.phase }, { on := 5, ground := Ground.phase }, { on := 6, ground := Ground.phase }, { on := 7, ground := Ground.phase }, { on := 8, ground := Ground.phase }, { on := 9, ground := Ground.phase }, { on := 10, ground := Ground.phase }, { on := 11, ground := Ground.phase }, { on := 12, ground := Ground.phase }, { on := 13, ground := Ground.phase }], guard := none }) (by kernel_rfl) rfl (by rfl) (fun K hK => ?_)
          go_simp
          refine hK _ _ (fun h => by cases h) ?_
          clear hK K
          try simp only [Act.put, List.setIfInBounds_toArray, List.set_cons_zero, List.set_cons_succ]
          refine ordZ_one (i := 15) (o := { dst := none, op := Op.store 3 (Operand.tmp 100) (Operand.tmp 98), type := 0, pos := _, after := #[{ on := 14, ground := Ground.data }, { on := 11, ground := Ground.data }, { on := 13, ground := Ground.chain }, { on := 0, ground := Ground.phase }, { on := 1, ground := Ground.phase }, { on := 2, ground := Ground.phase }, { on := 3, ground := Ground.phase }, { on := 4, ground := Ground.phase }, { on := 5, ground := Ground.phase }, { on := 6, ground := Ground.phase }, { on := 7, ground := Ground.phase }, { on := 8, ground := Ground.phase }, { on := 9, ground := Ground.phase }, { on := 10, ground := Ground.phase }, { on := 11, ground := Ground.phase }, { on := 12, ground := Ground.phase }, { on := 13, ground := Ground.phase }], guard := none }) (by kernel_rfl) rfl (by rfl) (fun K hK => ?_)
          go_simp
          refine hK _ _ (fun h => by cases h) ?_
          clear hK K
          try simp only [Act.put, List.setIfInBounds_toArray, List.set_cons_zero, List.set_cons_succ]
          refine ordZ_done (by kernel_rfl) ?_
          have h4 := Sep.rowset (l1 := []) (l2 := []) h3 E (.int .i64 va)
          rw [cellsI_set] at h4
          have hA4 := hA3.grown (hgrown_set w3 g E (.int .i64 va)) hA3.size (fun j e => by cases e; exact hgB)
          have H4 := Lib.hid h4
          have HA4 := Lib.hid hA4
          have HI2 := Lib.hid (HSW.out.trans HI.out)
          clear h3 hA3 h4 hA4 ye fe
          go_wp2
          go_roundw
          case rel => exact ⟨j + 2, _, by omega, by go_num, HI2, H4.out, HA4.out⟩
          case measure => simp [intOf]; omega
        · by_cases hj2 : j + 1 < zs.length
          · have hn0 : ks.length = 0 := by omega
            have hj2I : (j : Int) + 1 < (zs.length : Int) := by omega
            have hn1 : decide ((0 : Int) < (ks.length : Int)) = false := decide_eq_false (by omega)
            have hn2 : decide (0 < ks.length) = false := decide_eq_false (by omega)
            go_upto_region 14 with fail
            clear hlt hn0 hn1 hn2 hj2 hj2I
            clear hz
            have hil : is.length = ks.length := by have := HI.out.length_eq; rwa [idsR_len] at this
            have HIL := Lib.hid hil
            have HND := Lib.hid (HI.out.nodup_iff.2 (idsR_nodup ks.length))
            clear hil
            go_wp2_with fail
            refine (new_sep hS).mono ?_
            rintro e w1 ⟨p, rfl, h1, hb⟩
            have hA1 := bl_tr hAr hb
            clear hS hAr hb
            go_wp2_with fail
            refine (new_sep h1).mono ?_
            rintro e w2 ⟨q, rfl, h2, hb⟩
            have hA2 := bl_tr hA1 hb
            clear h1 hA1 hb
            go_wp2_with fail
            refine (new_sep h2).mono ?_
            rintro e w3 ⟨l, rfl, h3, hb⟩
            have hA3 := bl_tr hA2 hb
            clear h2 hA2 hb
            have h4 := h3.box #[.int .u64 18446744073709551615, .int .u64 18446744073709551615, .int .i64 9223372036854775807, .int .i64 9223372036854775807] 24
            have hA4 := bl_al hA3 (.cells #[.int .u64 18446744073709551615, .int .u64 18446744073709551615, .int .i64 9223372036854775807, .int .i64 9223372036854775807] 24)
            clear h3 hA3
            obtain ⟨mb, hmb⟩ : ∃ mb, w3.heap.size = mb := ⟨_, rfl⟩
            rw [hmb] at h4
            go_wp2
            clear hmb
            go_loopw [14] (fun i wr => ∃ k : Nat, k ≤ ks.length ∧ i = .int .i64 k ∧ Sep wr w.heap.size [RowO 3 1 (.slice (some ⟨g, 0, none⟩) ks.length cap) ks.length (cellsI is), HeapO p (idxM (ks.take k)), HeapO q (byM (fun x => atT ks x.toNat) (is.take k)), HeapO l (byM (fun _ => mostT) (is.take k)), CellsO mb #[.int .u64 18446744073709551615, .int .u64 18446744073709551615, .int .i64 9223372036854775807, .int .i64 9223372036854775807] 24] ∧ Below w.heap.size w wr) (fun i _ => ks.length - (intOf i).toNat)
            case atStart => exact ⟨0, Nat.zero_le _, rfl, h4, hA4⟩
            case round =>
              obtain ⟨k, hk, rfl, hS, hAr⟩ := hrel
              clear h4 hA4
              by_cases hlt : k < ks.length
              · have hlt2 : (k : Int) < (ks.length : Int) := by omega
                have hk0 : (0 : Int) ≤ (k : Int) := by omega
                have hk1 : (k : Int) ≤ 100 := by omega
                have hkis : k < is.length := by rw [HIL.out]; exact hlt
                obtain ⟨x, hx, hxe⟩ : ∃ x : Nat, x < ks.length ∧ is.getD k 0 = x := by
                  have hm : is.getD k 0 ∈ is := by simp [List.getD_eq_getElem?_getD, hkis]
                  obtain ⟨x, h1, h2⟩ := mem_idsR.1 (HI.out.mem_iff.1 hm)
                  exact ⟨x, h1, h2⟩
                have hx0 : (0 : Int) ≤ (x : Int) := by omega
                have hx1 : (x : Int) < (ks.length : Int) := by omega
                obtain ⟨hrow, _, _, _, _⟩ := Sep.row (l1 := []) (l2 := [HeapO p (idxM (ks.take k)), HeapO q (byM (fun x => atT ks x.toNat) (is.take k)), HeapO l (byM (fun _ => mostT) (is.take k)), CellsO mb #[.int .u64 18446744073709551615, .int .u64 18446744073709551615, .int .i64 9223372036854775807, .int .i64 9223372036854775807] 24]) hS
                have yx := hrow _ _ (cellsI_at hkis)
                rw [hxe] at yx
                have HR := Lib.hid hr
                obtain ⟨gb, go, rfl, q0, q1, q2, q3⟩ := hr.at hlt
                obtain ⟨gb', go', e, r0, r1, r2, r3⟩ := hr.at hx
                cases e
                clear hr hrow
                have HN := Lib.hid (find_next hlt)
                have HSN := Lib.hid (idxM_snoc hlt)
                have HP1 := Lib.hid (byM_push (f := fun x => atT ks x.toNat) HND.out hkis (withId (x : Int) (atT ks x)) (by rw [hxe]; rfl))
                have HP2 := Lib.hid (byM_push (f := fun _ => mostT) HND.out hkis (withId (x : Int) mostT) (by rw [hxe]))
                generalize atT ks k = t at *
                obtain ⟨u, hu⟩ : ∃ u, atT ks x = u := ⟨_, rfl⟩
                rw [hu] at r0 r1 r2 r3 HP1
                clear hu hxe
                have p0 := cell_later hAr q0
                have p1 := cell_later hAr q1
                have p2 := cell_later hAr q2
                have p3 := cell_later hAr q3
                have hwk : wfT (withId (k : Int) t) := show (Lit.int .i64 (k : Int)).wf = true from WalkArith.wf_i64 (by omega)
                have hwx : wfT (withId (x : Int) u) := show (Lit.int .i64 (x : Int)).wf = true from WalkArith.wf_i64 (by omega)
                have hwm : wfT (withId (x : Int) mostT) := show (Lit.int .i64 (x : Int)).wf = true from WalkArith.wf_i64 (by omega)
                have hcall := push_sep (l1 := [RowO 3 1 (.slice (some ⟨g, 0, none⟩) ks.length cap) ks.length (cellsI is)]) (l2 := [HeapO q (byM (fun x => atT ks x.toNat) (is.take k)), HeapO l (byM (fun _ => mostT) (is.take k)), CellsO mb #[.int .u64 18446744073709551615, .int .u64 18446744073709551615, .int .i64 9223372036854775807, .int .i64 9223372036854775807] 24]) (withId (k : Int) t) hS hwk (by rw [idxM_len, List.length_take]; omega)
                rw [show pushE (idxM (ks.take k)) (withId (k : Int) t).id = 0 by unfold pushE; rw [show (withId (k : Int) t).id = (k : Int) from rfl, HN.out]; rfl,
                  show pushM (idxM (ks.take k)) (withId (k : Int) t) = idxM (ks.take (k + 1)) by unfold pushM; rw [show (withId (k : Int) t).id = (k : Int) from rfl, HN.out, HSN.out]; rfl] at hcall
                simp only [withId] at hcall
                go_wp2_with fail
                refine hcall.mono ?_
                rintro e w5 ⟨rfl, h5, hb⟩
                have hA5 := hAr.trans hb
                clear hcall hb hS hAr p0 p1 p2 p3 yx
                have p0 := cell_later hA5 r0
                have p1 := cell_later hA5 r1
                have p2 := cell_later hA5 r2
                have p3 := cell_later hA5 r3
                have hcall := push_sep (l1 := [RowO 3 1 (.slice (some ⟨g, 0, none⟩) ks.length cap) ks.length (cellsI is), HeapO p (idxM (ks.take (k + 1)))]) (l2 := [HeapO l (byM (fun _ => mostT) (is.take k)), CellsO mb #[.int .u64 18446744073709551615, .int .u64 18446744073709551615, .int .i64 9223372036854775807, .int .i64 9223372036854775807] 24]) (withId (x : Int) u) h5 hwx (by rw [byM_len, List.length_take]; omega)
                rw [HP1.out.1, HP1.out.2] at hcall
                simp only [withId] at hcall
                go_wp2_with fail
                refine hcall.mono ?_
                rintro e w6 ⟨rfl, h6, hb⟩
                have hA6 := hA5.trans hb
                clear hcall hb h5 hA5 p0 p1 p2 p3
                obtain ⟨rm, _⟩ := Sep.cells (l1 := [RowO 3 1 (.slice (some ⟨g, 0, none⟩) ks.length cap) ks.length (cellsI is), HeapO p (idxM (ks.take (k + 1))), HeapO q (byM (fun x => atT ks x.toNat) (is.take (k + 1))), HeapO l (byM (fun _ => mostT) (is.take k))]) (l2 := []) h6
                have m0 : w6.cell? ⟨mb, 0, none⟩ = some (.int .u64 18446744073709551615) := by simp [World.cell?, rm]
                have m1 : w6.cell? ⟨mb, 1, none⟩ = some (.int .u64 18446744073709551615) := by simp [World.cell?, rm]
                have m2 : w6.cell? ⟨mb, 2, none⟩ = some (.int .i64 9223372036854775807) := by simp [World.cell?, rm]
                have m3 : w6.cell? ⟨mb, 3, none⟩ = some (.int .i64 9223372036854775807) := by simp [World.cell?, rm]
                have hcall := push_sep (l1 := [RowO 3 1 (.slice (some ⟨g, 0, none⟩) ks.length cap) ks.length (cellsI is), HeapO p (idxM (ks.take (k + 1))), HeapO q (byM (fun x => atT ks x.toNat) (is.take (k + 1)))]) (l2 := [CellsO mb #[.int .u64 18446744073709551615, .int .u64 18446744073709551615, .int .i64 9223372036854775807, .int .i64 9223372036854775807] 24]) (withId (x : Int) mostT) h6 hwm (by rw [byM_len, List.length_take]; omega)
                rw [HP2.out.1, HP2.out.2] at hcall
                simp only [withId, mostT] at hcall
                have hcall' : Calls Try.prog 14 #[.pointer (some ⟨l, 0, none⟩), .int .i64 (x : Int), .agg #[.int .u64 18446744073709551615, .int .u64 18446744073709551615, .int .i64 9223372036854775807, .int .i64 9223372036854775807]] w6 fun e w' => e = .returned (.int .i64 0) ∧ Sep w' w.heap.size [RowO 3 1 (.slice (some ⟨g, 0, none⟩) ks.length cap) ks.length (cellsI is), HeapO p (idxM (ks.take (k + 1))), HeapO q (byM (fun x => atT ks x.toNat) (is.take (k + 1))), HeapO l (byM (fun _ => mostT) (is.take (k + 1))), CellsO mb #[.int .u64 18446744073709551615, .int .u64 18446744073709551615, .int .i64 9223372036854775807, .int .i64 9223372036854775807] 24] ∧ Below w.heap.size w6 w' := hcall
                clear hcall rm
                go_wp2_with fail
                refine hcall'.mono ?_
                rintro e w7 ⟨rfl, h7, hb⟩
                have hA7 := hA6.trans hb
                clear hcall' hb h6 hA6 m0 m1 m2 m3 q0 q1 q2 q3 r0 r1 r2 r3
                go_wp2
                go_roundw
                case rel => exact ⟨k + 1, by omega, by go_num, h7, hA7⟩
                case measure => simp [intOf]; omega
              · have hge : (ks.length : Int) ≤ (k : Int) := by omega
                obtain rfl : k = ks.length := by omega
                rw [List.take_length, List.take_of_length_le (by rw [HIL.out]; exact Nat.le_refl _), half_start ks is (fun x hx => by obtain ⟨i, _, rfl⟩ := mem_idsR.1 (HI.out.mem_iff.1 hx); omega)] at hS
                clear hlt hge hk
                go_wp2
                go_loopw [16] (fun i wr => ∃ k : Nat, k ≤ ks.length ∧ i = .int .i64 k ∧ Sep wr w.heap.size [RowO 3 1 (.slice (some ⟨g, 0, none⟩) ks.length cap) ks.length (cellsI is), HeapO p (idxM ks), HeapO q (byM (fun x => atT ks x.toNat) is), HeapO l (byM (halfF ks k) is), CellsO mb #[.int .u64 18446744073709551615, .int .u64 18446744073709551615, .int .i64 9223372036854775807, .int .i64 9223372036854775807] 24] ∧ Below w.heap.size w wr) (fun i _ => ks.length - (intOf i).toNat)
                case atStart => exact ⟨0, Nat.zero_le _, rfl, hS, hAr⟩
                case round =>
                  obtain ⟨k, hk, rfl, hS, hAr⟩ := hrel
                  by_cases hlt : k < ks.length
                  · have hlt2 : (k : Int) < (ks.length : Int) := by omega
                    have hk0 : (0 : Int) ≤ (k : Int) := by omega
                    have hk1 : (k : Int) ≤ 100 := by omega
                    have hmem : (k : Int) ∈ is := HI.out.mem_iff.2 (mem_idsR.2 ⟨k, hlt, rfl⟩)
                    have hwt : WfT (atT ks k) := wf _ (atT_mem hlt)
                    obtain ⟨gb, go, rfl, q0, q1, q2, q3⟩ := hr.at hlt
                    have HN := Lib.hid (half_next HND.out hmem hwt)
                    generalize atT ks k = t at *
                    have p0 := cell_later hAr q0
                    have p1 := cell_later hAr q1
                    have p2 := cell_later hAr q2
                    have p3 := cell_later hAr q3
                    have hwk : wfT (withId (k : Int) t) := show (Lit.int .i64 (k : Int)).wf = true from WalkArith.wf_i64 (by omega)
                    have hcall := lower_sep (l1 := [RowO 3 1 (.slice (some ⟨g, 0, none⟩) ks.length cap) ks.length (cellsI is), HeapO p (idxM ks), HeapO q (byM (fun x => atT ks x.toNat) is)]) (l2 := [CellsO mb #[.int .u64 18446744073709551615, .int .u64 18446744073709551615, .int .i64 9223372036854775807, .int .i64 9223372036854775807] 24]) (withId (k : Int) t) hS hwk (by rw [byM_len, HIL.out]; omega)
                    obtain ⟨sm, hsm⟩ : ∃ sm, sameK t mostT = sm := ⟨_, rfl⟩
                    have hn1 := HN.out.1
                    rw [hsm] at hn1
                    rw [hn1, HN.out.2] at hcall
                    have heq := fun w => eql_key t mostT w
                    simp only [hsm] at heq
                    simp only [mostT] at heq
                    simp only [withId] at hcall
                    clear hmem hwt hsm hn1
                    cases sm
                    · simp only [Bool.false_eq_true, if_false] at hcall
                      go_wp2_with fail
                      refine hcall.mono ?_
                      rintro e w5 ⟨rfl, h5, hb⟩
                      have hA5 := hAr.trans hb
                      clear hcall hb hS hAr p0 p1 p2 p3
                      have p0 := cell_later hA5 q0
                      have p1 := cell_later hA5 q1
                      have p2 := cell_later hA5 q2
                      have p3 := cell_later hA5 q3
                      obtain ⟨rm, _⟩ := Sep.cells (l1 := [RowO 3 1 (.slice (some ⟨g, 0, none⟩) ks.length cap) ks.length (cellsI is), HeapO p (idxM ks), HeapO q (byM (fun x => atT ks x.toNat) is), HeapO l (byM (halfF ks (k + 1)) is)]) (l2 := []) h5
                      have m0 : w5.cell? ⟨mb, 0, none⟩ = some (.int .u64 18446744073709551615) := by simp [World.cell?, rm]
                      have m1 : w5.cell? ⟨mb, 1, none⟩ = some (.int .u64 18446744073709551615) := by simp [World.cell?, rm]
                      have m2 : w5.cell? ⟨mb, 2, none⟩ = some (.int .i64 9223372036854775807) := by simp [World.cell?, rm]
                      have m3 : w5.cell? ⟨mb, 3, none⟩ = some (.int .i64 9223372036854775807) := by simp [World.cell?, rm]
                      clear rm
                      have hB := bl_dr (bl0 w5)
                      go_upto_region 28 with fail
                      have hS2 : (fun w' : World => w'.cell? ⟨gb, go + k * 4, none⟩ = some (.int .u64 t.F) ∧ w'.cell? ⟨gb, go + k * 4 + 1, none⟩ = some (.int .u64 t.H) ∧ w'.cell? ⟨gb, go + k * 4 + 2, none⟩ = some (.int .i64 t.Y) ∧ w'.cell? ⟨gb, go + k * 4 + 3, none⟩ = some (.int .i64 t.X) ∧ w'.cell? ⟨mb, 0, none⟩ = some (.int .u64 18446744073709551615) ∧ w'.cell? ⟨mb, 1, none⟩ = some (.int .u64 18446744073709551615) ∧ w'.cell? ⟨mb, 2, none⟩ = some (.int .i64 9223372036854775807) ∧ w'.cell? ⟨mb, 3, none⟩ = some (.int .i64 9223372036854775807)) w5.drew := ⟨cell_later hB p0, cell_later hB p1, cell_later hB p2, cell_later hB p3, cell_later hB m0, cell_later hB m1, cell_later hB m2, cell_later hB m3⟩
                      refine (wpIn_wide (n := 11)).1 ?_
                      refine ordS_begin (S := (fun w' : World => w'.cell? ⟨gb, go + k * 4, none⟩ = some (.int .u64 t.F) ∧ w'.cell? ⟨gb, go + k * 4 + 1, none⟩ = some (.int .u64 t.H) ∧ w'.cell? ⟨gb, go + k * 4 + 2, none⟩ = some (.int .i64 t.Y) ∧ w'.cell? ⟨gb, go + k * 4 + 3, none⟩ = some (.int .i64 t.X) ∧ w'.cell? ⟨mb, 0, none⟩ = some (.int .u64 18446744073709551615) ∧ w'.cell? ⟨mb, 1, none⟩ = some (.int .u64 18446744073709551615) ∧ w'.cell? ⟨mb, 2, none⟩ = some (.int .i64 9223372036854775807) ∧ w'.cell? ⟨mb, 3, none⟩ = some (.int .i64 9223372036854775807))) (by kernel_rfl) hS2 (fun _ => ?_)
                      first
                        | (refine' ordS_take (i := 0) (oi := { dst := some 153, op := Op.move (Operand.tmp 0), type := 55, pos := _, after := #[], guard := none }) (v := _) rfl (by kernel_rfl) (by kernel_rfl) (by kernel_rfl) (by kernel_rfl) (fun _ _ _ h => h) (by assumption) (Or.inl ⟨by rfl, ?hy14⟩) (fun _ => rfl) ?rest14
                           case hy14 => (intro w hSw; (try dsimp only at hSw); go_simp; try with_reducible rfl))
                        | (refine ordS_take (i := 0) (oi := { dst := some 153, op := Op.move (Operand.tmp 0), type := 55, pos := _, after := #[], guard := none }) (v := undef) rfl (by kernel_rfl) (by kernel_rfl) (by kernel_rfl) (by kernel_rfl) (fun _ _ _ h => h) (by assumption) (Or.inr ⟨by rfl, rfl⟩) (fun _ => rfl) ?_)
                      try simp only [Act.put, List.setIfInBounds_toArray, List.set_cons_zero, List.set_cons_succ]
                      first
                        | (refine' ordS_take (i := 1) (oi := { dst := some 154, op := Op.move (Operand.tmp 16), type := 3, pos := _, after := #[], guard := none }) (v := _) rfl (by kernel_rfl) (by kernel_rfl) (by kernel_rfl) (by kernel_rfl) (fun _ _ _ h => h) (by assumption) (Or.inl ⟨by rfl, ?hy15⟩) (fun _ => rfl) ?rest15
                           case hy15 => (intro w hSw; (try dsimp only at hSw); go_simp; try with_reducible rfl))
                        | (refine ordS_take (i := 1) (oi := { dst := some 154, op := Op.move (Operand.tmp 16), type := 3, pos := _, after := #[], guard := none }) (v := undef) rfl (by kernel_rfl) (by kernel_rfl) (by kernel_rfl) (by kernel_rfl) (fun _ _ _ h => h) (by assumption) (Or.inr ⟨by rfl, rfl⟩) (fun _ => rfl) ?_)
                      try simp only [Act.put, List.setIfInBounds_toArray, List.set_cons_zero, List.set_cons_succ]
                      first
                        | (refine' ordS_take (i := 2) (oi := { dst := some 155, op := Op.indexAddr 55 (Operand.tmp 153) (Operand.tmp 154), type := 0, pos := _, after := #[{ on := 0, ground := Ground.data }, { on := 1, ground := Ground.data }], guard := none }) (v := _) rfl (by kernel_rfl) (by kernel_rfl) (by kernel_rfl) (by kernel_rfl) (fun _ _ _ h => h) (by assumption) (Or.inl ⟨by rfl, ?hy16⟩) (fun _ => rfl) ?rest16
                           case hy16 => (intro w hSw; (try dsimp only at hSw); go_simp; try with_reducible rfl))
                        | (refine ordS_take (i := 2) (oi := { dst := some 155, op := Op.indexAddr 55 (Operand.tmp 153) (Operand.tmp 154), type := 0, pos := _, after := #[{ on := 0, ground := Ground.data }, { on := 1, ground := Ground.data }], guard := none }) (v := undef) rfl (by kernel_rfl) (by kernel_rfl) (by kernel_rfl) (by kernel_rfl) (fun _ _ _ h => h) (by assumption) (Or.inr ⟨by rfl, rfl⟩) (fun _ => rfl) ?_)
                      try simp only [Act.put, List.setIfInBounds_toArray, List.set_cons_zero, List.set_cons_succ]
                      first
                        | (refine' ordS_take (i := 3) (oi := { dst := some 156, op := Op.load 24 (Operand.tmp 155), type := 24, pos := _, after := #[{ on := 2, ground := Ground.data }], guard := none }) (v := _) rfl (by kernel_rfl) (by kernel_rfl) (by kernel_rfl) (by kernel_rfl) (fun _ _ _ h => h) (by assumption) (Or.inl ⟨by rfl, ?hy17⟩) (fun _ => rfl) ?rest17
                           case hy17 => (intro w hSw; (try dsimp only at hSw); go_simp; try with_reducible rfl))
                        | (refine ordS_take (i := 3) (oi := { dst := some 156, op := Op.load 24 (Operand.tmp 155), type := 24, pos := _, after := #[{ on := 2, ground := Ground.data }], guard := none }) (v := undef) rfl (by kernel_rfl) (by kernel_rfl) (by kernel_rfl) (by kernel_rfl) (fun _ _ _ h => h) (by assumption) (Or.inr ⟨by rfl, rfl⟩) (fun _ => rfl) ?_)
                      try simp only [Act.put, List.setIfInBounds_toArray, List.set_cons_zero, List.set_cons_succ]
                      first
                        | (refine' ordS_take (i := 4) (oi := { dst := some 157, op := Op.load 24 (Operand.tmp 13), type := 24, pos := _, after := #[], guard := none }) (v := _) rfl (by kernel_rfl) (by kernel_rfl) (by kernel_rfl) (by kernel_rfl) (fun _ _ _ h => h) (by assumption) (Or.inl ⟨by rfl, ?hy18⟩) (fun _ => rfl) ?rest18
                           case hy18 => (intro w hSw; (try dsimp only at hSw); go_simp; try with_reducible rfl))
                        | (refine ordS_take (i := 4) (oi := { dst := some 157, op := Op.load 24 (Operand.tmp 13), type := 24, pos := _, after := #[], guard := none }) (v := undef) rfl (by kernel_rfl) (by kernel_rfl) (by kernel_rfl) (by kernel_rfl) (fun _ _ _ h => h) (by assumption) (Or.inr ⟨by rfl, rfl⟩) (fun _ => rfl) ?_)
                      try simp only [Act.put, List.setIfInBounds_toArray, List.set_cons_zero, List.set_cons_succ]
                      refine ordS_one (i := 5) (o := { dst := some 158, op := Op.binOp BinOp.eql 24 (Operand.tmp 156) (Operand.tmp 157) 24, type := 4, pos := _, after := #[{ on := 3, ground := Ground.data }, { on := 4, ground := Ground.data }], guard := none }) (by kernel_rfl) rfl (by rfl) (fun K hK => ?_)
                      go_simp
                      refine hK _ _ hS2 ?_
                      clear hK K
                      try simp only [Act.put, List.setIfInBounds_toArray, List.set_cons_zero, List.set_cons_succ]
                      first
                        | (refine' ordS_take (i := 6) (oi := { dst := some 159, op := Op.move (Operand.tmp 158), type := 4, pos := _, after := #[{ on := 5, ground := Ground.data }], guard := none }) (v := _) rfl (by kernel_rfl) (by kernel_rfl) (by kernel_rfl) (by kernel_rfl) (fun _ _ _ h => h) (by assumption) (Or.inl ⟨by rfl, ?hy19⟩) (fun _ => rfl) ?rest19
                           case hy19 => (intro w hSw; (try dsimp only at hSw); go_simp; try with_reducible rfl))
                        | (refine ordS_take (i := 6) (oi := { dst := some 159, op := Op.move (Operand.tmp 158), type := 4, pos := _, after := #[{ on := 5, ground := Ground.data }], guard := none }) (v := undef) rfl (by kernel_rfl) (by kernel_rfl) (by kernel_rfl) (by kernel_rfl) (fun _ _ _ h => h) (by assumption) (Or.inr ⟨by rfl, rfl⟩) (fun _ => rfl) ?_)
                      try simp only [Act.put, List.setIfInBounds_toArray, List.set_cons_zero, List.set_cons_succ]
                      first
                        | (refine' ordS_take (i := 7) (oi := { dst := some 160, op := Op.move (Operand.tmp 17), type := 42, pos := _, after := #[{ on := 6, ground := Ground.guard }], guard := some (6, true) }) (v := _) rfl (by kernel_rfl) (by kernel_rfl) (by kernel_rfl) (by kernel_rfl) (fun _ _ _ h => h) (by assumption) (Or.inl ⟨by rfl, ?hy20⟩) (fun _ => rfl) ?rest20
                           case hy20 => (intro w hSw; (try dsimp only at hSw); go_simp; try with_reducible rfl))
                        | (refine ordS_take (i := 7) (oi := { dst := some 160, op := Op.move (Operand.tmp 17), type := 42, pos := _, after := #[{ on := 6, ground := Ground.guard }], guard := some (6, true) }) (v := undef) rfl (by kernel_rfl) (by kernel_rfl) (by kernel_rfl) (by kernel_rfl) (fun _ _ _ h => h) (by assumption) (Or.inr ⟨by rfl, rfl⟩) (fun _ => rfl) ?_)
                      try simp only [Act.put, List.setIfInBounds_toArray, List.set_cons_zero, List.set_cons_succ]
                      first
                        | (refine' ordS_take (i := 8) (oi := { dst := some 161, op := Op.binOp BinOp.neq 42 (Operand.tmp 160) (Operand.const (Value.int IntKind.i64 1)) 42, type := 4, pos := _, after := #[{ on := 7, ground := Ground.data }, { on := 6, ground := Ground.guard }], guard := some (6, true) }) (v := _) rfl (by kernel_rfl) (by kernel_rfl) (by kernel_rfl) (by kernel_rfl) (fun _ _ _ h => h) (by assumption) (Or.inl ⟨by rfl, ?hy21⟩) (fun _ => rfl) ?rest21
                           case hy21 => (intro w hSw; (try dsimp only at hSw); go_simp; try with_reducible rfl))
                        | (refine ordS_take (i := 8) (oi := { dst := some 161, op := Op.binOp BinOp.neq 42 (Operand.tmp 160) (Operand.const (Value.int IntKind.i64 1)) 42, type := 4, pos := _, after := #[{ on := 7, ground := Ground.data }, { on := 6, ground := Ground.guard }], guard := some (6, true) }) (v := undef) rfl (by kernel_rfl) (by kernel_rfl) (by kernel_rfl) (by kernel_rfl) (fun _ _ _ h => h) (by assumption) (Or.inr ⟨by rfl, rfl⟩) (fun _ => rfl) ?_)
                      try simp only [Act.put, List.setIfInBounds_toArray, List.set_cons_zero, List.set_cons_succ]
                      first
                        | (refine' ordS_take (i := 9) (oi := { dst := some 162, op := Op.pick (Operand.tmp 159) (Operand.tmp 161) (Operand.const (Value.bool false)), type := 4, pos := _, after := #[{ on := 6, ground := Ground.data }, { on := 8, ground := Ground.data }], guard := none }) (v := _) rfl (by kernel_rfl) (by kernel_rfl) (by kernel_rfl) (by kernel_rfl) (fun _ _ _ h => h) (by assumption) (Or.inl ⟨by rfl, ?hy22⟩) (fun _ => rfl) ?rest22
                           case hy22 => (intro w hSw; (try dsimp only at hSw); go_simp; try with_reducible rfl))
                        | (refine ordS_take (i := 9) (oi := { dst := some 162, op := Op.pick (Operand.tmp 159) (Operand.tmp 161) (Operand.const (Value.bool false)), type := 4, pos := _, after := #[{ on := 6, ground := Ground.data }, { on := 8, ground := Ground.data }], guard := none }) (v := undef) rfl (by kernel_rfl) (by kernel_rfl) (by kernel_rfl) (by kernel_rfl) (fun _ _ _ h => h) (by assumption) (Or.inr ⟨by rfl, rfl⟩) (fun _ => rfl) ?_)
                      try simp only [Act.put, List.setIfInBounds_toArray, List.set_cons_zero, List.set_cons_succ]
                      first
                        | (refine' ordS_take (i := 10) (oi := { dst := some 163, op := Op.move (Operand.tmp 162), type := 4, pos := _, after := #[{ on := 9, ground := Ground.data }, { on := 6, ground := Ground.chain }], guard := none }) (v := _) rfl (by kernel_rfl) (by kernel_rfl) (by kernel_rfl) (by kernel_rfl) (fun _ _ _ h => h) (by assumption) (Or.inl ⟨by rfl, ?hy23⟩) (fun _ => rfl) ?rest23
                           case hy23 => (intro w hSw; (try dsimp only at hSw); go_simp; try with_reducible rfl))
                        | (refine ordS_take (i := 10) (oi := { dst := some 163, op := Op.move (Operand.tmp 162), type := 4, pos := _, after := #[{ on := 9, ground := Ground.data }, { on := 6, ground := Ground.chain }], guard := none }) (v := undef) rfl (by kernel_rfl) (by kernel_rfl) (by kernel_rfl) (by kernel_rfl) (fun _ _ _ h => h) (by assumption) (Or.inr ⟨by rfl, rfl⟩) (fun _ => rfl) ?_)
                      try simp only [Act.put, List.setIfInBounds_toArray, List.set_cons_zero, List.set_cons_succ]
                      first
                        | (refine' ordS_take (i := 11) (oi := { dst := some 164, op := Op.move (Operand.tmp 0), type := 55, pos := _, after := #[{ on := 10, ground := Ground.guard }], guard := some (10, false) }) (v := _) rfl (by kernel_rfl) (by kernel_rfl) (by kernel_rfl) (by kernel_rfl) (fun _ _ _ h => h) (by assumption) (Or.inl ⟨by rfl, ?hy24⟩) (fun _ => rfl) ?rest24
                           case hy24 => (intro w hSw; (try dsimp only at hSw); go_simp; try with_reducible rfl))
                        | (refine ordS_take (i := 11) (oi := { dst := some 164, op := Op.move (Operand.tmp 0), type := 55, pos := _, after := #[{ on := 10, ground := Ground.guard }], guard := some (10, false) }) (v := undef) rfl (by kernel_rfl) (by kernel_rfl) (by kernel_rfl) (by kernel_rfl) (fun _ _ _ h => h) (by assumption) (Or.inr ⟨by rfl, rfl⟩) (fun _ => rfl) ?_)
                      try simp only [Act.put, List.setIfInBounds_toArray, List.set_cons_zero, List.set_cons_succ]
                      first
                        | (refine' ordS_take (i := 12) (oi := { dst := some 165, op := Op.move (Operand.tmp 16), type := 3, pos := _, after := #[{ on := 10, ground := Ground.guard }], guard := some (10, false) }) (v := _) rfl (by kernel_rfl) (by kernel_rfl) (by kernel_rfl) (by kernel_rfl) (fun _ _ _ h => h) (by assumption) (Or.inl ⟨by rfl, ?hy25⟩) (fun _ => rfl) ?rest25
                           case hy25 => (intro w hSw; (try dsimp only at hSw); go_simp; try with_reducible rfl))
                        | (refine ordS_take (i := 12) (oi := { dst := some 165, op := Op.move (Operand.tmp 16), type := 3, pos := _, after := #[{ on := 10, ground := Ground.guard }], guard := some (10, false) }) (v := undef) rfl (by kernel_rfl) (by kernel_rfl) (by kernel_rfl) (by kernel_rfl) (fun _ _ _ h => h) (by assumption) (Or.inr ⟨by rfl, rfl⟩) (fun _ => rfl) ?_)
                      try simp only [Act.put, List.setIfInBounds_toArray, List.set_cons_zero, List.set_cons_succ]
                      first
                        | (refine' ordS_take (i := 13) (oi := { dst := some 166, op := Op.indexAddr 55 (Operand.tmp 164) (Operand.tmp 165), type := 0, pos := _, after := #[{ on := 11, ground := Ground.data }, { on := 12, ground := Ground.data }, { on := 10, ground := Ground.guard }], guard := some (10, false) }) (v := _) rfl (by kernel_rfl) (by kernel_rfl) (by kernel_rfl) (by kernel_rfl) (fun _ _ _ h => h) (by assumption) (Or.inl ⟨by rfl, ?hy26⟩) (fun _ => rfl) ?rest26
                           case hy26 => (intro w hSw; (try dsimp only at hSw); go_simp; try with_reducible rfl))
                        | (refine ordS_take (i := 13) (oi := { dst := some 166, op := Op.indexAddr 55 (Operand.tmp 164) (Operand.tmp 165), type := 0, pos := _, after := #[{ on := 11, ground := Ground.data }, { on := 12, ground := Ground.data }, { on := 10, ground := Ground.guard }], guard := some (10, false) }) (v := undef) rfl (by kernel_rfl) (by kernel_rfl) (by kernel_rfl) (by kernel_rfl) (fun _ _ _ h => h) (by assumption) (Or.inr ⟨by rfl, rfl⟩) (fun _ => rfl) ?_)
                      try simp only [Act.put, List.setIfInBounds_toArray, List.set_cons_zero, List.set_cons_succ]
                      first
                        | (refine' ordS_take (i := 14) (oi := { dst := some 167, op := Op.load 24 (Operand.tmp 166), type := 24, pos := _, after := #[{ on := 13, ground := Ground.data }, { on := 10, ground := Ground.guard }], guard := some (10, false) }) (v := _) rfl (by kernel_rfl) (by kernel_rfl) (by kernel_rfl) (by kernel_rfl) (fun _ _ _ h => h) (by assumption) (Or.inl ⟨by rfl, ?hy27⟩) (fun _ => rfl) ?rest27
                           case hy27 => (intro w hSw; (try dsimp only at hSw); go_simp; try with_reducible rfl))
                        | (refine ordS_take (i := 14) (oi := { dst := some 167, op := Op.load 24 (Operand.tmp 166), type := 24, pos := _, after := #[{ on := 13, ground := Ground.data }, { on := 10, ground := Ground.guard }], guard := some (10, false) }) (v := undef) rfl (by kernel_rfl) (by kernel_rfl) (by kernel_rfl) (by kernel_rfl) (fun _ _ _ h => h) (by assumption) (Or.inr ⟨by rfl, rfl⟩) (fun _ => rfl) ?_)
                      try simp only [Act.put, List.setIfInBounds_toArray, List.set_cons_zero, List.set_cons_succ]
                      first
                        | (refine' ordS_take (i := 15) (oi := { dst := some 168, op := Op.load 24 (Operand.tmp 13), type := 24, pos := _, after := #[{ on := 10, ground := Ground.guard }], guard := some (10, false) }) (v := _) rfl (by kernel_rfl) (by kernel_rfl) (by kernel_rfl) (by kernel_rfl) (fun _ _ _ h => h) (by assumption) (Or.inl ⟨by rfl, ?hy28⟩) (fun _ => rfl) ?rest28
                           case hy28 => (intro w hSw; (try dsimp only at hSw); go_simp; try with_reducible rfl))
                        | (refine ordS_take (i := 15) (oi := { dst := some 168, op := Op.load 24 (Operand.tmp 13), type := 24, pos := _, after := #[{ on := 10, ground := Ground.guard }], guard := some (10, false) }) (v := undef) rfl (by kernel_rfl) (by kernel_rfl) (by kernel_rfl) (by kernel_rfl) (fun _ _ _ h => h) (by assumption) (Or.inr ⟨by rfl, rfl⟩) (fun _ => rfl) ?_)
                      try simp only [Act.put, List.setIfInBounds_toArray, List.set_cons_zero, List.set_cons_succ]
                      refine ordS_one (i := 16) (o := { dst := some 169, op := Op.binOp BinOp.neq 24 (Operand.tmp 167) (Operand.tmp 168) 24, type := 4, pos := _, after := #[{ on := 14, ground := Ground.data }, { on := 15, ground := Ground.data }, { on := 10, ground := Ground.guard }], guard := some (10, false) }) (by kernel_rfl) rfl (by rfl) (fun K hK => ?_)
                      go_simp
                      refine hK _ _ hS2 ?_
                      clear hK K
                      try simp only [Act.put, List.setIfInBounds_toArray, List.set_cons_zero, List.set_cons_succ]
                      first
                        | (refine' ordS_take (i := 17) (oi := { dst := some 170, op := Op.move (Operand.tmp 169), type := 4, pos := _, after := #[{ on := 16, ground := Ground.data }, { on := 10, ground := Ground.chain }, { on := 10, ground := Ground.guard }], guard := some (10, false) }) (v := _) rfl (by kernel_rfl) (by kernel_rfl) (by kernel_rfl) (by kernel_rfl) (fun _ _ _ h => h) (by assumption) (Or.inl ⟨by rfl, ?hy29⟩) (fun _ => rfl) ?rest29
                           case hy29 => (intro w hSw; (try dsimp only at hSw); go_simp; try with_reducible rfl))
                        | (refine ordS_take (i := 17) (oi := { dst := some 170, op := Op.move (Operand.tmp 169), type := 4, pos := _, after := #[{ on := 16, ground := Ground.data }, { on := 10, ground := Ground.chain }, { on := 10, ground := Ground.guard }], guard := some (10, false) }) (v := undef) rfl (by kernel_rfl) (by kernel_rfl) (by kernel_rfl) (by kernel_rfl) (fun _ _ _ h => h) (by assumption) (Or.inr ⟨by rfl, rfl⟩) (fun _ => rfl) ?_)
                      try simp only [Act.put, List.setIfInBounds_toArray, List.set_cons_zero, List.set_cons_succ]
                      first
                        | (refine' ordS_take (i := 18) (oi := { dst := some 171, op := Op.move (Operand.tmp 17), type := 42, pos := _, after := #[{ on := 17, ground := Ground.guard }], guard := some (17, true) }) (v := _) rfl (by kernel_rfl) (by kernel_rfl) (by kernel_rfl) (by kernel_rfl) (fun _ _ _ h => h) (by assumption) (Or.inl ⟨by rfl, ?hy30⟩) (fun _ => rfl) ?rest30
                           case hy30 => (intro w hSw; (try dsimp only at hSw); go_simp; try with_reducible rfl))
                        | (refine ordS_take (i := 18) (oi := { dst := some 171, op := Op.move (Operand.tmp 17), type := 42, pos := _, after := #[{ on := 17, ground := Ground.guard }], guard := some (17, true) }) (v := undef) rfl (by kernel_rfl) (by kernel_rfl) (by kernel_rfl) (by kernel_rfl) (fun _ _ _ h => h) (by assumption) (Or.inr ⟨by rfl, rfl⟩) (fun _ => rfl) ?_)
                      try simp only [Act.put, List.setIfInBounds_toArray, List.set_cons_zero, List.set_cons_succ]
                      first
                        | (refine' ordS_take (i := 19) (oi := { dst := some 172, op := Op.binOp BinOp.neq 42 (Operand.tmp 171) (Operand.const (Value.int IntKind.i64 0)) 42, type := 4, pos := _, after := #[{ on := 18, ground := Ground.data }, { on := 17, ground := Ground.guard }], guard := some (17, true) }) (v := _) rfl (by kernel_rfl) (by kernel_rfl) (by kernel_rfl) (by kernel_rfl) (fun _ _ _ h => h) (by assumption) (Or.inl ⟨by rfl, ?hy31⟩) (fun _ => rfl) ?rest31
                           case hy31 => (intro w hSw; (try dsimp only at hSw); go_simp; try with_reducible rfl))
                        | (refine ordS_take (i := 19) (oi := { dst := some 172, op := Op.binOp BinOp.neq 42 (Operand.tmp 171) (Operand.const (Value.int IntKind.i64 0)) 42, type := 4, pos := _, after := #[{ on := 18, ground := Ground.data }, { on := 17, ground := Ground.guard }], guard := some (17, true) }) (v := undef) rfl (by kernel_rfl) (by kernel_rfl) (by kernel_rfl) (by kernel_rfl) (fun _ _ _ h => h) (by assumption) (Or.inr ⟨by rfl, rfl⟩) (fun _ => rfl) ?_)
                      try simp only [Act.put, List.setIfInBounds_toArray, List.set_cons_zero, List.set_cons_succ]
                      first
                        | (refine' ordS_take (i := 20) (oi := { dst := some 173, op := Op.pick (Operand.tmp 170) (Operand.tmp 172) (Operand.const (Value.bool false)), type := 4, pos := _, after := #[{ on := 17, ground := Ground.data }, { on := 19, ground := Ground.data }, { on := 10, ground := Ground.guard }], guard := some (10, false) }) (v := _) rfl (by kernel_rfl) (by kernel_rfl) (by kernel_rfl) (by kernel_rfl) (fun _ _ _ h => h) (by assumption) (Or.inl ⟨by rfl, ?hy32⟩) (fun _ => rfl) ?rest32
                           case hy32 => (intro w hSw; (try dsimp only at hSw); go_simp; try with_reducible rfl))
                        | (refine ordS_take (i := 20) (oi := { dst := some 173, op := Op.pick (Operand.tmp 170) (Operand.tmp 172) (Operand.const (Value.bool false)), type := 4, pos := _, after := #[{ on := 17, ground := Ground.data }, { on := 19, ground := Ground.data }, { on := 10, ground := Ground.guard }], guard := some (10, false) }) (v := undef) rfl (by kernel_rfl) (by kernel_rfl) (by kernel_rfl) (by kernel_rfl) (fun _ _ _ h => h) (by assumption) (Or.inr ⟨by rfl, rfl⟩) (fun _ => rfl) ?_)
                      try simp only [Act.put, List.setIfInBounds_toArray, List.set_cons_zero, List.set_cons_succ]
                      first
                        | (refine' ordS_take (i := 21) (oi := { dst := some 174, op := Op.pick (Operand.tmp 163) (Operand.const (Value.bool true)) (Operand.tmp 173), type := 4, pos := _, after := #[{ on := 10, ground := Ground.data }, { on := 20, ground := Ground.data }], guard := none }) (v := _) rfl (by kernel_rfl) (by kernel_rfl) (by kernel_rfl) (by kernel_rfl) (fun _ _ _ h => h) (by assumption) (Or.inl ⟨by rfl, ?hy33⟩) (fun _ => rfl) ?rest33
                           case hy33 => (intro w hSw; (try dsimp only at hSw); go_simp; try with_reducible rfl))
                        | (refine ordS_take (i := 21) (oi := { dst := some 174, op := Op.pick (Operand.tmp 163) (Operand.const (Value.bool true)) (Operand.tmp 173), type := 4, pos := _, after := #[{ on := 10, ground := Ground.data }, { on := 20, ground := Ground.data }], guard := none }) (v := undef) rfl (by kernel_rfl) (by kernel_rfl) (by kernel_rfl) (by kernel_rfl) (fun _ _ _ h => h) (by assumption) (Or.inr ⟨by rfl, rfl⟩) (fun _ => rfl) ?_)
                      try simp only [Act.put, List.setIfInBounds_toArray, List.set_cons_zero, List.set_cons_succ]
                      refine ordS_done (by kernel_rfl) ?_
                      clear hS2
                      have h6 := h5.below hB
                      have hA6 := bl_tr hA5 hB
                      clear h5 hA5 hB p0 p1 p2 p3 m0 m1 m2 m3 q0 q1 q2 q3
                      go_wp2
                      go_roundw
                      case rel => exact ⟨k + 1, by omega, by go_num, h6, hA6⟩
                      case measure => simp [intOf]; omega
                    · simp only [if_true] at hcall
                      go_wp2_with fail
                      refine hcall.mono ?_
                      rintro e w5 ⟨rfl, h5, hb⟩
                      have hA5 := hAr.trans hb
                      clear hcall hb hS hAr p0 p1 p2 p3
                      have p0 := cell_later hA5 q0
                      have p1 := cell_later hA5 q1
                      have p2 := cell_later hA5 q2
                      have p3 := cell_later hA5 q3
                      obtain ⟨rm, _⟩ := Sep.cells (l1 := [RowO 3 1 (.slice (some ⟨g, 0, none⟩) ks.length cap) ks.length (cellsI is), HeapO p (idxM ks), HeapO q (byM (fun x => atT ks x.toNat) is), HeapO l (byM (halfF ks (k + 1)) is)]) (l2 := []) h5
                      have m0 : w5.cell? ⟨mb, 0, none⟩ = some (.int .u64 18446744073709551615) := by simp [World.cell?, rm]
                      have m1 : w5.cell? ⟨mb, 1, none⟩ = some (.int .u64 18446744073709551615) := by simp [World.cell?, rm]
                      have m2 : w5.cell? ⟨mb, 2, none⟩ = some (.int .i64 9223372036854775807) := by simp [World.cell?, rm]
                      have m3 : w5.cell? ⟨mb, 3, none⟩ = some (.int .i64 9223372036854775807) := by simp [World.cell?, rm]
                      clear rm
                      have hB := bl_dr (bl0 w5)
                      go_upto_region 28 with fail
                      have hS2 : (fun w' : World => w'.cell? ⟨gb, go + k * 4, none⟩ = some (.int .u64 t.F) ∧ w'.cell? ⟨gb, go + k * 4 + 1, none⟩ = some (.int .u64 t.H) ∧ w'.cell? ⟨gb, go + k * 4 + 2, none⟩ = some (.int .i64 t.Y) ∧ w'.cell? ⟨gb, go + k * 4 + 3, none⟩ = some (.int .i64 t.X) ∧ w'.cell? ⟨mb, 0, none⟩ = some (.int .u64 18446744073709551615) ∧ w'.cell? ⟨mb, 1, none⟩ = some (.int .u64 18446744073709551615) ∧ w'.cell? ⟨mb, 2, none⟩ = some (.int .i64 9223372036854775807) ∧ w'.cell? ⟨mb, 3, none⟩ = some (.int .i64 9223372036854775807)) w5.drew := ⟨cell_later hB p0, cell_later hB p1, cell_later hB p2, cell_later hB p3, cell_later hB m0, cell_later hB m1, cell_later hB m2, cell_later hB m3⟩
                      refine (wpIn_wide (n := 11)).1 ?_
                      refine ordS_begin (S := (fun w' : World => w'.cell? ⟨gb, go + k * 4, none⟩ = some (.int .u64 t.F) ∧ w'.cell? ⟨gb, go + k * 4 + 1, none⟩ = some (.int .u64 t.H) ∧ w'.cell? ⟨gb, go + k * 4 + 2, none⟩ = some (.int .i64 t.Y) ∧ w'.cell? ⟨gb, go + k * 4 + 3, none⟩ = some (.int .i64 t.X) ∧ w'.cell? ⟨mb, 0, none⟩ = some (.int .u64 18446744073709551615) ∧ w'.cell? ⟨mb, 1, none⟩ = some (.int .u64 18446744073709551615) ∧ w'.cell? ⟨mb, 2, none⟩ = some (.int .i64 9223372036854775807) ∧ w'.cell? ⟨mb, 3, none⟩ = some (.int .i64 9223372036854775807))) (by kernel_rfl) hS2 (fun _ => ?_)
                      first
                        | (refine' ordS_take (i := 0) (oi := { dst := some 153, op := Op.move (Operand.tmp 0), type := 55, pos := _, after := #[], guard := none }) (v := _) rfl (by kernel_rfl) (by kernel_rfl) (by kernel_rfl) (by kernel_rfl) (fun _ _ _ h => h) (by assumption) (Or.inl ⟨by rfl, ?hy34⟩) (fun _ => rfl) ?rest34
                           case hy34 => (intro w hSw; (try dsimp only at hSw); go_simp; try with_reducible rfl))
                        | (refine ordS_take (i := 0) (oi := { dst := some 153, op := Op.move (Operand.tmp 0), type := 55, pos := _, after := #[], guard := none }) (v := undef) rfl (by kernel_rfl) (by kernel_rfl) (by kernel_rfl) (by kernel_rfl) (fun _ _ _ h => h) (by assumption) (Or.inr ⟨by rfl, rfl⟩) (fun _ => rfl) ?_)
                      try simp only [Act.put, List.setIfInBounds_toArray, List.set_cons_zero, List.set_cons_succ]
                      first
                        | (refine' ordS_take (i := 1) (oi := { dst := some 154, op := Op.move (Operand.tmp 16), type := 3, pos := _, after := #[], guard := none }) (v := _) rfl (by kernel_rfl) (by kernel_rfl) (by kernel_rfl) (by kernel_rfl) (fun _ _ _ h => h) (by assumption) (Or.inl ⟨by rfl, ?hy35⟩) (fun _ => rfl) ?rest35
                           case hy35 => (intro w hSw; (try dsimp only at hSw); go_simp; try with_reducible rfl))
                        | (refine ordS_take (i := 1) (oi := { dst := some 154, op := Op.move (Operand.tmp 16), type := 3, pos := _, after := #[], guard := none }) (v := undef) rfl (by kernel_rfl) (by kernel_rfl) (by kernel_rfl) (by kernel_rfl) (fun _ _ _ h => h) (by assumption) (Or.inr ⟨by rfl, rfl⟩) (fun _ => rfl) ?_)
                      try simp only [Act.put, List.setIfInBounds_toArray, List.set_cons_zero, List.set_cons_succ]
                      first
                        | (refine' ordS_take (i := 2) (oi := { dst := some 155, op := Op.indexAddr 55 (Operand.tmp 153) (Operand.tmp 154), type := 0, pos := _, after := #[{ on := 0, ground := Ground.data }, { on := 1, ground := Ground.data }], guard := none }) (v := _) rfl (by kernel_rfl) (by kernel_rfl) (by kernel_rfl) (by kernel_rfl) (fun _ _ _ h => h) (by assumption) (Or.inl ⟨by rfl, ?hy36⟩) (fun _ => rfl) ?rest36
                           case hy36 => (intro w hSw; (try dsimp only at hSw); go_simp; try with_reducible rfl))
                        | (refine ordS_take (i := 2) (oi := { dst := some 155, op := Op.indexAddr 55 (Operand.tmp 153) (Operand.tmp 154), type := 0, pos := _, after := #[{ on := 0, ground := Ground.data }, { on := 1, ground := Ground.data }], guard := none }) (v := undef) rfl (by kernel_rfl) (by kernel_rfl) (by kernel_rfl) (by kernel_rfl) (fun _ _ _ h => h) (by assumption) (Or.inr ⟨by rfl, rfl⟩) (fun _ => rfl) ?_)
                      try simp only [Act.put, List.setIfInBounds_toArray, List.set_cons_zero, List.set_cons_succ]
                      first
                        | (refine' ordS_take (i := 3) (oi := { dst := some 156, op := Op.load 24 (Operand.tmp 155), type := 24, pos := _, after := #[{ on := 2, ground := Ground.data }], guard := none }) (v := _) rfl (by kernel_rfl) (by kernel_rfl) (by kernel_rfl) (by kernel_rfl) (fun _ _ _ h => h) (by assumption) (Or.inl ⟨by rfl, ?hy37⟩) (fun _ => rfl) ?rest37
                           case hy37 => (intro w hSw; (try dsimp only at hSw); go_simp; try with_reducible rfl))
                        | (refine ordS_take (i := 3) (oi := { dst := some 156, op := Op.load 24 (Operand.tmp 155), type := 24, pos := _, after := #[{ on := 2, ground := Ground.data }], guard := none }) (v := undef) rfl (by kernel_rfl) (by kernel_rfl) (by kernel_rfl) (by kernel_rfl) (fun _ _ _ h => h) (by assumption) (Or.inr ⟨by rfl, rfl⟩) (fun _ => rfl) ?_)
                      try simp only [Act.put, List.setIfInBounds_toArray, List.set_cons_zero, List.set_cons_succ]
                      first
                        | (refine' ordS_take (i := 4) (oi := { dst := some 157, op := Op.load 24 (Operand.tmp 13), type := 24, pos := _, after := #[], guard := none }) (v := _) rfl (by kernel_rfl) (by kernel_rfl) (by kernel_rfl) (by kernel_rfl) (fun _ _ _ h => h) (by assumption) (Or.inl ⟨by rfl, ?hy38⟩) (fun _ => rfl) ?rest38
                           case hy38 => (intro w hSw; (try dsimp only at hSw); go_simp; try with_reducible rfl))
                        | (refine ordS_take (i := 4) (oi := { dst := some 157, op := Op.load 24 (Operand.tmp 13), type := 24, pos := _, after := #[], guard := none }) (v := undef) rfl (by kernel_rfl) (by kernel_rfl) (by kernel_rfl) (by kernel_rfl) (fun _ _ _ h => h) (by assumption) (Or.inr ⟨by rfl, rfl⟩) (fun _ => rfl) ?_)
                      try simp only [Act.put, List.setIfInBounds_toArray, List.set_cons_zero, List.set_cons_succ]
                      refine ordS_one (i := 5) (o := { dst := some 158, op := Op.binOp BinOp.eql 24 (Operand.tmp 156) (Operand.tmp 157) 24, type := 4, pos := _, after := #[{ on := 3, ground := Ground.data }, { on := 4, ground := Ground.data }], guard := none }) (by kernel_rfl) rfl (by rfl) (fun K hK => ?_)
                      go_simp
                      refine hK _ _ hS2 ?_
                      clear hK K
                      try simp only [Act.put, List.setIfInBounds_toArray, List.set_cons_zero, List.set_cons_succ]
                      first
                        | (refine' ordS_take (i := 6) (oi := { dst := some 159, op := Op.move (Operand.tmp 158), type := 4, pos := _, after := #[{ on := 5, ground := Ground.data }], guard := none }) (v := _) rfl (by kernel_rfl) (by kernel_rfl) (by kernel_rfl) (by kernel_rfl) (fun _ _ _ h => h) (by assumption) (Or.inl ⟨by rfl, ?hy39⟩) (fun _ => rfl) ?rest39
                           case hy39 => (intro w hSw; (try dsimp only at hSw); go_simp; try with_reducible rfl))
                        | (refine ordS_take (i := 6) (oi := { dst := some 159, op := Op.move (Operand.tmp 158), type := 4, pos := _, after := #[{ on := 5, ground := Ground.data }], guard := none }) (v := undef) rfl (by kernel_rfl) (by kernel_rfl) (by kernel_rfl) (by kernel_rfl) (fun _ _ _ h => h) (by assumption) (Or.inr ⟨by rfl, rfl⟩) (fun _ => rfl) ?_)
                      try simp only [Act.put, List.setIfInBounds_toArray, List.set_cons_zero, List.set_cons_succ]
                      first
                        | (refine' ordS_take (i := 7) (oi := { dst := some 160, op := Op.move (Operand.tmp 17), type := 42, pos := _, after := #[{ on := 6, ground := Ground.guard }], guard := some (6, true) }) (v := _) rfl (by kernel_rfl) (by kernel_rfl) (by kernel_rfl) (by kernel_rfl) (fun _ _ _ h => h) (by assumption) (Or.inl ⟨by rfl, ?hy40⟩) (fun _ => rfl) ?rest40
                           case hy40 => (intro w hSw; (try dsimp only at hSw); go_simp; try with_reducible rfl))
                        | (refine ordS_take (i := 7) (oi := { dst := some 160, op := Op.move (Operand.tmp 17), type := 42, pos := _, after := #[{ on := 6, ground := Ground.guard }], guard := some (6, true) }) (v := undef) rfl (by kernel_rfl) (by kernel_rfl) (by kernel_rfl) (by kernel_rfl) (fun _ _ _ h => h) (by assumption) (Or.inr ⟨by rfl, rfl⟩) (fun _ => rfl) ?_)
                      try simp only [Act.put, List.setIfInBounds_toArray, List.set_cons_zero, List.set_cons_succ]
                      first
                        | (refine' ordS_take (i := 8) (oi := { dst := some 161, op := Op.binOp BinOp.neq 42 (Operand.tmp 160) (Operand.const (Value.int IntKind.i64 1)) 42, type := 4, pos := _, after := #[{ on := 7, ground := Ground.data }, { on := 6, ground := Ground.guard }], guard := some (6, true) }) (v := _) rfl (by kernel_rfl) (by kernel_rfl) (by kernel_rfl) (by kernel_rfl) (fun _ _ _ h => h) (by assumption) (Or.inl ⟨by rfl, ?hy41⟩) (fun _ => rfl) ?rest41
                           case hy41 => (intro w hSw; (try dsimp only at hSw); go_simp; try with_reducible rfl))
                        | (refine ordS_take (i := 8) (oi := { dst := some 161, op := Op.binOp BinOp.neq 42 (Operand.tmp 160) (Operand.const (Value.int IntKind.i64 1)) 42, type := 4, pos := _, after := #[{ on := 7, ground := Ground.data }, { on := 6, ground := Ground.guard }], guard := some (6, true) }) (v := undef) rfl (by kernel_rfl) (by kernel_rfl) (by kernel_rfl) (by kernel_rfl) (fun _ _ _ h => h) (by assumption) (Or.inr ⟨by rfl, rfl⟩) (fun _ => rfl) ?_)
                      try simp only [Act.put, List.setIfInBounds_toArray, List.set_cons_zero, List.set_cons_succ]
                      first
                        | (refine' ordS_take (i := 9) (oi := { dst := some 162, op := Op.pick (Operand.tmp 159) (Operand.tmp 161) (Operand.const (Value.bool false)), type := 4, pos := _, after := #[{ on := 6, ground := Ground.data }, { on := 8, ground := Ground.data }], guard := none }) (v := _) rfl (by kernel_rfl) (by kernel_rfl) (by kernel_rfl) (by kernel_rfl) (fun _ _ _ h => h) (by assumption) (Or.inl ⟨by rfl, ?hy42⟩) (fun _ => rfl) ?rest42
                           case hy42 => (intro w hSw; (try dsimp only at hSw); go_simp; try with_reducible rfl))
                        | (refine ordS_take (i := 9) (oi := { dst := some 162, op := Op.pick (Operand.tmp 159) (Operand.tmp 161) (Operand.const (Value.bool false)), type := 4, pos := _, after := #[{ on := 6, ground := Ground.data }, { on := 8, ground := Ground.data }], guard := none }) (v := undef) rfl (by kernel_rfl) (by kernel_rfl) (by kernel_rfl) (by kernel_rfl) (fun _ _ _ h => h) (by assumption) (Or.inr ⟨by rfl, rfl⟩) (fun _ => rfl) ?_)
                      try simp only [Act.put, List.setIfInBounds_toArray, List.set_cons_zero, List.set_cons_succ]
                      first
                        | (refine' ordS_take (i := 10) (oi := { dst := some 163, op := Op.move (Operand.tmp 162), type := 4, pos := _, after := #[{ on := 9, ground := Ground.data }, { on := 6, ground := Ground.chain }], guard := none }) (v := _) rfl (by kernel_rfl) (by kernel_rfl) (by kernel_rfl) (by kernel_rfl) (fun _ _ _ h => h) (by assumption) (Or.inl ⟨by rfl, ?hy43⟩) (fun _ => rfl) ?rest43
                           case hy43 => (intro w hSw; (try dsimp only at hSw); go_simp; try with_reducible rfl))
                        | (refine ordS_take (i := 10) (oi := { dst := some 163, op := Op.move (Operand.tmp 162), type := 4, pos := _, after := #[{ on := 9, ground := Ground.data }, { on := 6, ground := Ground.chain }], guard := none }) (v := undef) rfl (by kernel_rfl) (by kernel_rfl) (by kernel_rfl) (by kernel_rfl) (fun _ _ _ h => h) (by assumption) (Or.inr ⟨by rfl, rfl⟩) (fun _ => rfl) ?_)
                      try simp only [Act.put, List.setIfInBounds_toArray, List.set_cons_zero, List.set_cons_succ]
                      first
                        | (refine' ordS_take (i := 11) (oi := { dst := some 164, op := Op.move (Operand.tmp 0), type := 55, pos := _, after := #[{ on := 10, ground := Ground.guard }], guard := some (10, false) }) (v := _) rfl (by kernel_rfl) (by kernel_rfl) (by kernel_rfl) (by kernel_rfl) (fun _ _ _ h => h) (by assumption) (Or.inl ⟨by rfl, ?hy44⟩) (fun _ => rfl) ?rest44
                           case hy44 => (intro w hSw; (try dsimp only at hSw); go_simp; try with_reducible rfl))
                        | (refine ordS_take (i := 11) (oi := { dst := some 164, op := Op.move (Operand.tmp 0), type := 55, pos := _, after := #[{ on := 10, ground := Ground.guard }], guard := some (10, false) }) (v := undef) rfl (by kernel_rfl) (by kernel_rfl) (by kernel_rfl) (by kernel_rfl) (fun _ _ _ h => h) (by assumption) (Or.inr ⟨by rfl, rfl⟩) (fun _ => rfl) ?_)
                      try simp only [Act.put, List.setIfInBounds_toArray, List.set_cons_zero, List.set_cons_succ]
                      first
                        | (refine' ordS_take (i := 12) (oi := { dst := some 165, op := Op.move (Operand.tmp 16), type := 3, pos := _, after := #[{ on := 10, ground := Ground.guard }], guard := some (10, false) }) (v := _) rfl (by kernel_rfl) (by kernel_rfl) (by kernel_rfl) (by kernel_rfl) (fun _ _ _ h => h) (by assumption) (Or.inl ⟨by rfl, ?hy45⟩) (fun _ => rfl) ?rest45
                           case hy45 => (intro w hSw; (try dsimp only at hSw); go_simp; try with_reducible rfl))
                        | (refine ordS_take (i := 12) (oi := { dst := some 165, op := Op.move (Operand.tmp 16), type := 3, pos := _, after := #[{ on := 10, ground := Ground.guard }], guard := some (10, false) }) (v := undef) rfl (by kernel_rfl) (by kernel_rfl) (by kernel_rfl) (by kernel_rfl) (fun _ _ _ h => h) (by assumption) (Or.inr ⟨by rfl, rfl⟩) (fun _ => rfl) ?_)
                      try simp only [Act.put, List.setIfInBounds_toArray, List.set_cons_zero, List.set_cons_succ]
                      first
                        | (refine' ordS_take (i := 13) (oi := { dst := some 166, op := Op.indexAddr 55 (Operand.tmp 164) (Operand.tmp 165), type := 0, pos := _, after := #[{ on := 11, ground := Ground.data }, { on := 12, ground := Ground.data }, { on := 10, ground := Ground.guard }], guard := some (10, false) }) (v := _) rfl (by kernel_rfl) (by kernel_rfl) (by kernel_rfl) (by kernel_rfl) (fun _ _ _ h => h) (by assumption) (Or.inl ⟨by rfl, ?hy46⟩) (fun _ => rfl) ?rest46
                           case hy46 => (intro w hSw; (try dsimp only at hSw); go_simp; try with_reducible rfl))
                        | (refine ordS_take (i := 13) (oi := { dst := some 166, op := Op.indexAddr 55 (Operand.tmp 164) (Operand.tmp 165), type := 0, pos := _, after := #[{ on := 11, ground := Ground.data }, { on := 12, ground := Ground.data }, { on := 10, ground := Ground.guard }], guard := some (10, false) }) (v := undef) rfl (by kernel_rfl) (by kernel_rfl) (by kernel_rfl) (by kernel_rfl) (fun _ _ _ h => h) (by assumption) (Or.inr ⟨by rfl, rfl⟩) (fun _ => rfl) ?_)
                      try simp only [Act.put, List.setIfInBounds_toArray, List.set_cons_zero, List.set_cons_succ]
                      first
                        | (refine' ordS_take (i := 14) (oi := { dst := some 167, op := Op.load 24 (Operand.tmp 166), type := 24, pos := _, after := #[{ on := 13, ground := Ground.data }, { on := 10, ground := Ground.guard }], guard := some (10, false) }) (v := _) rfl (by kernel_rfl) (by kernel_rfl) (by kernel_rfl) (by kernel_rfl) (fun _ _ _ h => h) (by assumption) (Or.inl ⟨by rfl, ?hy47⟩) (fun _ => rfl) ?rest47
                           case hy47 => (intro w hSw; (try dsimp only at hSw); go_simp; try with_reducible rfl))
                        | (refine ordS_take (i := 14) (oi := { dst := some 167, op := Op.load 24 (Operand.tmp 166), type := 24, pos := _, after := #[{ on := 13, ground := Ground.data }, { on := 10, ground := Ground.guard }], guard := some (10, false) }) (v := undef) rfl (by kernel_rfl) (by kernel_rfl) (by kernel_rfl) (by kernel_rfl) (fun _ _ _ h => h) (by assumption) (Or.inr ⟨by rfl, rfl⟩) (fun _ => rfl) ?_)
                      try simp only [Act.put, List.setIfInBounds_toArray, List.set_cons_zero, List.set_cons_succ]
                      first
                        | (refine' ordS_take (i := 15) (oi := { dst := some 168, op := Op.load 24 (Operand.tmp 13), type := 24, pos := _, after := #[{ on := 10, ground := Ground.guard }], guard := some (10, false) }) (v := _) rfl (by kernel_rfl) (by kernel_rfl) (by kernel_rfl) (by kernel_rfl) (fun _ _ _ h => h) (by assumption) (Or.inl ⟨by rfl, ?hy48⟩) (fun _ => rfl) ?rest48
                           case hy48 => (intro w hSw; (try dsimp only at hSw); go_simp; try with_reducible rfl))
                        | (refine ordS_take (i := 15) (oi := { dst := some 168, op := Op.load 24 (Operand.tmp 13), type := 24, pos := _, after := #[{ on := 10, ground := Ground.guard }], guard := some (10, false) }) (v := undef) rfl (by kernel_rfl) (by kernel_rfl) (by kernel_rfl) (by kernel_rfl) (fun _ _ _ h => h) (by assumption) (Or.inr ⟨by rfl, rfl⟩) (fun _ => rfl) ?_)
                      try simp only [Act.put, List.setIfInBounds_toArray, List.set_cons_zero, List.set_cons_succ]
                      refine ordS_one (i := 16) (o := { dst := some 169, op := Op.binOp BinOp.neq 24 (Operand.tmp 167) (Operand.tmp 168) 24, type := 4, pos := _, after := #[{ on := 14, ground := Ground.data }, { on := 15, ground := Ground.data }, { on := 10, ground := Ground.guard }], guard := some (10, false) }) (by kernel_rfl) rfl (by rfl) (fun K hK => ?_)
                      go_simp
                      refine hK _ _ hS2 ?_
                      clear hK K
                      try simp only [Act.put, List.setIfInBounds_toArray, List.set_cons_zero, List.set_cons_succ]
                      first
                        | (refine' ordS_take (i := 17) (oi := { dst := some 170, op := Op.move (Operand.tmp 169), type := 4, pos := _, after := #[{ on := 16, ground := Ground.data }, { on := 10, ground := Ground.chain }, { on := 10, ground := Ground.guard }], guard := some (10, false) }) (v := _) rfl (by kernel_rfl) (by kernel_rfl) (by kernel_rfl) (by kernel_rfl) (fun _ _ _ h => h) (by assumption) (Or.inl ⟨by rfl, ?hy49⟩) (fun _ => rfl) ?rest49
                           case hy49 => (intro w hSw; (try dsimp only at hSw); go_simp; try with_reducible rfl))
                        | (refine ordS_take (i := 17) (oi := { dst := some 170, op := Op.move (Operand.tmp 169), type := 4, pos := _, after := #[{ on := 16, ground := Ground.data }, { on := 10, ground := Ground.chain }, { on := 10, ground := Ground.guard }], guard := some (10, false) }) (v := undef) rfl (by kernel_rfl) (by kernel_rfl) (by kernel_rfl) (by kernel_rfl) (fun _ _ _ h => h) (by assumption) (Or.inr ⟨by rfl, rfl⟩) (fun _ => rfl) ?_)
                      try simp only [Act.put, List.setIfInBounds_toArray, List.set_cons_zero, List.set_cons_succ]
                      first
                        | (refine' ordS_take (i := 18) (oi := { dst := some 171, op := Op.move (Operand.tmp 17), type := 42, pos := _, after := #[{ on := 17, ground := Ground.guard }], guard := some (17, true) }) (v := _) rfl (by kernel_rfl) (by kernel_rfl) (by kernel_rfl) (by kernel_rfl) (fun _ _ _ h => h) (by assumption) (Or.inl ⟨by rfl, ?hy50⟩) (fun _ => rfl) ?rest50
                           case hy50 => (intro w hSw; (try dsimp only at hSw); go_simp; try with_reducible rfl))
                        | (refine ordS_take (i := 18) (oi := { dst := some 171, op := Op.move (Operand.tmp 17), type := 42, pos := _, after := #[{ on := 17, ground := Ground.guard }], guard := some (17, true) }) (v := undef) rfl (by kernel_rfl) (by kernel_rfl) (by kernel_rfl) (by kernel_rfl) (fun _ _ _ h => h) (by assumption) (Or.inr ⟨by rfl, rfl⟩) (fun _ => rfl) ?_)
                      try simp only [Act.put, List.setIfInBounds_toArray, List.set_cons_zero, List.set_cons_succ]
                      first
                        | (refine' ordS_take (i := 19) (oi := { dst := some 172, op := Op.binOp BinOp.neq 42 (Operand.tmp 171) (Operand.const (Value.int IntKind.i64 0)) 42, type := 4, pos := _, after := #[{ on := 18, ground := Ground.data }, { on := 17, ground := Ground.guard }], guard := some (17, true) }) (v := _) rfl (by kernel_rfl) (by kernel_rfl) (by kernel_rfl) (by kernel_rfl) (fun _ _ _ h => h) (by assumption) (Or.inl ⟨by rfl, ?hy51⟩) (fun _ => rfl) ?rest51
                           case hy51 => (intro w hSw; (try dsimp only at hSw); go_simp; try with_reducible rfl))
                        | (refine ordS_take (i := 19) (oi := { dst := some 172, op := Op.binOp BinOp.neq 42 (Operand.tmp 171) (Operand.const (Value.int IntKind.i64 0)) 42, type := 4, pos := _, after := #[{ on := 18, ground := Ground.data }, { on := 17, ground := Ground.guard }], guard := some (17, true) }) (v := undef) rfl (by kernel_rfl) (by kernel_rfl) (by kernel_rfl) (by kernel_rfl) (fun _ _ _ h => h) (by assumption) (Or.inr ⟨by rfl, rfl⟩) (fun _ => rfl) ?_)
                      try simp only [Act.put, List.setIfInBounds_toArray, List.set_cons_zero, List.set_cons_succ]
                      first
                        | (refine' ordS_take (i := 20) (oi := { dst := some 173, op := Op.pick (Operand.tmp 170) (Operand.tmp 172) (Operand.const (Value.bool false)), type := 4, pos := _, after := #[{ on := 17, ground := Ground.data }, { on := 19, ground := Ground.data }, { on := 10, ground := Ground.guard }], guard := some (10, false) }) (v := _) rfl (by kernel_rfl) (by kernel_rfl) (by kernel_rfl) (by kernel_rfl) (fun _ _ _ h => h) (by assumption) (Or.inl ⟨by rfl, ?hy52⟩) (fun _ => rfl) ?rest52
                           case hy52 => (intro w hSw; (try dsimp only at hSw); go_simp; try with_reducible rfl))
                        | (refine ordS_take (i := 20) (oi := { dst := some 173, op := Op.pick (Operand.tmp 170) (Operand.tmp 172) (Operand.const (Value.bool false)), type := 4, pos := _, after := #[{ on := 17, ground := Ground.data }, { on := 19, ground := Ground.data }, { on := 10, ground := Ground.guard }], guard := some (10, false) }) (v := undef) rfl (by kernel_rfl) (by kernel_rfl) (by kernel_rfl) (by kernel_rfl) (fun _ _ _ h => h) (by assumption) (Or.inr ⟨by rfl, rfl⟩) (fun _ => rfl) ?_)
                      try simp only [Act.put, List.setIfInBounds_toArray, List.set_cons_zero, List.set_cons_succ]
                      first
                        | (refine' ordS_take (i := 21) (oi := { dst := some 174, op := Op.pick (Operand.tmp 163) (Operand.const (Value.bool true)) (Operand.tmp 173), type := 4, pos := _, after := #[{ on := 10, ground := Ground.data }, { on := 20, ground := Ground.data }], guard := none }) (v := _) rfl (by kernel_rfl) (by kernel_rfl) (by kernel_rfl) (by kernel_rfl) (fun _ _ _ h => h) (by assumption) (Or.inl ⟨by rfl, ?hy53⟩) (fun _ => rfl) ?rest53
                           case hy53 => (intro w hSw; (try dsimp only at hSw); go_simp; try with_reducible rfl))
                        | (refine ordS_take (i := 21) (oi := { dst := some 174, op := Op.pick (Operand.tmp 163) (Operand.const (Value.bool true)) (Operand.tmp 173), type := 4, pos := _, after := #[{ on := 10, ground := Ground.data }, { on := 20, ground := Ground.data }], guard := none }) (v := undef) rfl (by kernel_rfl) (by kernel_rfl) (by kernel_rfl) (by kernel_rfl) (fun _ _ _ h => h) (by assumption) (Or.inr ⟨by rfl, rfl⟩) (fun _ => rfl) ?_)
                      try simp only [Act.put, List.setIfInBounds_toArray, List.set_cons_zero, List.set_cons_succ]
                      refine ordS_done (by kernel_rfl) ?_
                      clear hS2
                      have h6 := h5.below hB
                      have hA6 := bl_tr hA5 hB
                      clear h5 hA5 hB p0 p1 p2 p3 m0 m1 m2 m3 q0 q1 q2 q3
                      go_wp2
                      go_roundw
                      case rel => exact ⟨k + 1, by omega, by go_num, h6, hA6⟩
                      case measure => simp [intOf]; omega
                  · have hge : (ks.length : Int) ≤ (k : Int) := by omega
                    obtain rfl : k = ks.length := by omega
                    rw [half_end ks is ks.length (fun x hx => by obtain ⟨i, h1, rfl⟩ := mem_idsR.1 (HI.out.mem_iff.1 hx); omega)] at hS
                    have HPM : Hid ((idxM ks).Perm (byM (fun x => atT ks x.toNat) is)) := Lib.hid (by rw [idxM_by]; exact (HI.out.symm.map _))
                    have hml : (idxM ks).length = ks.length := idxM_len ks
                    clear hlt hge hk
                    go_wp2
                    have HNI : Hid (((idxM ks).map Th.id).Nodup) := Lib.hid (by rw [idxM_by, byM_ids]; exact idsR_nodup _)
                    generalize idxM ks = n1 at *
                    generalize byM (fun x => atT ks x.toNat) is = n2 at *
                    go_loopw [18] (fun i wr => ∃ (k : Nat) (m1 m2 : List Th), k ≤ ks.length + 1 ∧ i = .int .i64 k ∧ Hid (m1.Perm m2 ∧ m1.length = ks.length - k ∧ (m1.map Th.id).Nodup) ∧ Sep wr w.heap.size [RowO 3 1 (.slice (some ⟨g, 0, none⟩) ks.length cap) ks.length (cellsI is), HeapO p m1, HeapO q m2, HeapO l m2, CellsO mb #[.int .u64 18446744073709551615, .int .u64 18446744073709551615, .int .i64 9223372036854775807, .int .i64 9223372036854775807] 24] ∧ Below w.heap.size w wr) (fun i _ => ks.length + 1 - (intOf i).toNat)
                    case atStart => exact ⟨0, n1, n2, Nat.zero_le _, rfl, Lib.hid ⟨HPM.out, hml, HNI.out⟩, hS, hAr⟩
                    case round =>
                      obtain ⟨k, m1, m2, hk, rfl, HM, hS, hAr⟩ := hrel
                      have hl2 := HM.out.1.length_eq
                      have hl1 := HM.out.2.1
                      have hm1 : m1.length ≤ 1000000 := by omega
                      have hm2 : m2.length ≤ 1000000 := by omega
                      have hk0 : (0 : Int) ≤ (k : Int) := by omega
                      have hk1 : (k : Int) ≤ 101 := by omega
                      clear hml hl2
                      by_cases hlt : k < ks.length
                      · have hle : (k : Int) ≤ (ks.length : Int) := by omega
                        have hltI : (k : Int) < (ks.length : Int) := by omega
                        have HE : Hid ((!m1.isEmpty) = true) := Lib.hid (by cases m1 with | nil => simp at hl1; omega | cons => rfl)
                        have HEL : Hid ((popM m1).length = ks.length - (k + 1)) := Lib.hid (by
                          have h := (pop_perm HM.out.2.2 (by rintro rfl; simp at hl1; omega)).length_eq
                          simp only [List.length_cons] at h
                          omega)
                        have hlt2 : (k : Int) < (ks.length : Int) := hltI
                        clear hl1
                        have HP2 := Lib.hid (popM_perm HM.out.1)
                        have HN2 := Lib.hid (pop_nodup HM.out.2.2)
                        obtain ⟨t, ht⟩ : ∃ t, firstT m1 = t := ⟨_, rfl⟩
                        have HT := Lib.hid ht
                        have HT2 : Hid (firstT m2 = t) := Lib.hid (by rw [← first_perm HM.out.1]; exact ht)
                        have HE2 : Hid (m2.isEmpty = m1.isEmpty) := Lib.hid (empty_perm HM.out.1).symm
                        have heq : ∀ w : World, _ := fun w => eql_key t t w
                        have hsame : sameK t t = true := by unfold sameK; simp
                        rw [hsame] at heq
                        have hidn : (t.id != t.id) = false := by simp
                        clear ht hsame
                        have hcall := pop_sep (l1 := [RowO 3 1 (.slice (some ⟨g, 0, none⟩) ks.length cap) ks.length (cellsI is)]) (l2 := [HeapO q m2, HeapO l m2, CellsO mb #[.int .u64 18446744073709551615, .int .u64 18446744073709551615, .int .i64 9223372036854775807, .int .i64 9223372036854775807] 24]) hS hm1
                        rw [HT.out, HE.out] at hcall
                        go_wp2_with fail
                        refine hcall.mono ?_
                        rintro e w5 ⟨rfl, h5, hb⟩
                        have hA5 := bl_al (hAr.trans hb) (.cells #[.int .u64 t.F, .int .u64 t.H, .int .i64 t.Y, .int .i64 t.X] 24)
                        replace h5 := h5.box #[.int .u64 t.F, .int .u64 t.H, .int .i64 t.Y, .int .i64 t.X] 24
                        clear hcall hb hS hAr
                        have hcall := pop_sep (l1 := [RowO 3 1 (.slice (some ⟨g, 0, none⟩) ks.length cap) ks.length (cellsI is), HeapO p (popM m1)]) (l2 := [HeapO l m2, CellsO mb #[.int .u64 18446744073709551615, .int .u64 18446744073709551615, .int .i64 9223372036854775807, .int .i64 9223372036854775807] 24, CellsO w5.heap.size #[.int .u64 t.F, .int .u64 t.H, .int .i64 t.Y, .int .i64 t.X] 24]) h5 hm2
                        rw [HT2.out, HE2.out, HE.out] at hcall
                        go_wp2_with fail
                        refine hcall.mono ?_
                        rintro e w6 ⟨rfl, h6, hb⟩
                        have hA6 := bl_al (hA5.trans hb) (.cells #[.int .u64 t.F, .int .u64 t.H, .int .i64 t.Y, .int .i64 t.X] 24)
                        replace h6 := h6.box #[.int .u64 t.F, .int .u64 t.H, .int .i64 t.Y, .int .i64 t.X] 24
                        clear hcall hb h5 hA5
                        have hcall := pop_sep (l1 := [RowO 3 1 (.slice (some ⟨g, 0, none⟩) ks.length cap) ks.length (cellsI is), HeapO p (popM m1), HeapO q (popM m2)]) (l2 := [CellsO mb #[.int .u64 18446744073709551615, .int .u64 18446744073709551615, .int .i64 9223372036854775807, .int .i64 9223372036854775807] 24, CellsO w5.heap.size #[.int .u64 t.F, .int .u64 t.H, .int .i64 t.Y, .int .i64 t.X] 24, CellsO w6.heap.size #[.int .u64 t.F, .int .u64 t.H, .int .i64 t.Y, .int .i64 t.X] 24]) h6 hm2
                        rw [HT2.out, HE2.out, HE.out] at hcall
                        go_wp2_with fail
                        refine hcall.mono ?_
                        rintro e w7 ⟨rfl, h7, hb⟩
                        have hA7 := bl_al (hA6.trans hb) (.cells #[.int .u64 t.F, .int .u64 t.H, .int .i64 t.Y, .int .i64 t.X] 24)
                        replace h7 := h7.box #[.int .u64 t.F, .int .u64 t.H, .int .i64 t.Y, .int .i64 t.X] 24
                        clear hcall hb h6 hA6
                        obtain ⟨r1, _⟩ := Sep.cells (l1 := [RowO 3 1 (.slice (some ⟨g, 0, none⟩) ks.length cap) ks.length (cellsI is), HeapO p (popM m1), HeapO q (popM m2), HeapO l (popM m2), CellsO mb #[.int .u64 18446744073709551615, .int .u64 18446744073709551615, .int .i64 9223372036854775807, .int .i64 9223372036854775807] 24]) (l2 := [CellsO w6.heap.size #[.int .u64 t.F, .int .u64 t.H, .int .i64 t.Y, .int .i64 t.X] 24, CellsO w7.heap.size #[.int .u64 t.F, .int .u64 t.H, .int .i64 t.Y, .int .i64 t.X] 24]) h7
                        obtain ⟨r2, _⟩ := Sep.cells (l1 := [RowO 3 1 (.slice (some ⟨g, 0, none⟩) ks.length cap) ks.length (cellsI is), HeapO p (popM m1), HeapO q (popM m2), HeapO l (popM m2), CellsO mb #[.int .u64 18446744073709551615, .int .u64 18446744073709551615, .int .i64 9223372036854775807, .int .i64 9223372036854775807] 24, CellsO w5.heap.size #[.int .u64 t.F, .int .u64 t.H, .int .i64 t.Y, .int .i64 t.X] 24]) (l2 := [CellsO w7.heap.size #[.int .u64 t.F, .int .u64 t.H, .int .i64 t.Y, .int .i64 t.X] 24]) h7
                        obtain ⟨r3, _⟩ := Sep.cells (l1 := [RowO 3 1 (.slice (some ⟨g, 0, none⟩) ks.length cap) ks.length (cellsI is), HeapO p (popM m1), HeapO q (popM m2), HeapO l (popM m2), CellsO mb #[.int .u64 18446744073709551615, .int .u64 18446744073709551615, .int .i64 9223372036854775807, .int .i64 9223372036854775807] 24, CellsO w5.heap.size #[.int .u64 t.F, .int .u64 t.H, .int .i64 t.Y, .int .i64 t.X] 24, CellsO w6.heap.size #[.int .u64 t.F, .int .u64 t.H, .int .i64 t.Y, .int .i64 t.X] 24]) (l2 := []) h7
                        go_upto_region 36 with fail
                        generalize hW8 : w7.alloc (.cells #[.int .u64 t.F, .int .u64 t.H, .int .i64 t.Y, .int .i64 t.X] 24) = w8 at *
                        have x00 : w8.cell? ⟨w5.heap.size, 0, none⟩ = some (.int .u64 t.F) := by simp [World.cell?, r1]
                        have x01 : w8.cell? ⟨w5.heap.size, 1, none⟩ = some (.int .u64 t.H) := by simp [World.cell?, r1]
                        have x02 : w8.cell? ⟨w5.heap.size, 2, none⟩ = some (.int .i64 t.Y) := by simp [World.cell?, r1]
                        have x03 : w8.cell? ⟨w5.heap.size, 3, none⟩ = some (.int .i64 t.X) := by simp [World.cell?, r1]
                        have x10 : w8.cell? ⟨w6.heap.size, 0, none⟩ = some (.int .u64 t.F) := by simp [World.cell?, r2]
                        have x11 : w8.cell? ⟨w6.heap.size, 1, none⟩ = some (.int .u64 t.H) := by simp [World.cell?, r2]
                        have x12 : w8.cell? ⟨w6.heap.size, 2, none⟩ = some (.int .i64 t.Y) := by simp [World.cell?, r2]
                        have x13 : w8.cell? ⟨w6.heap.size, 3, none⟩ = some (.int .i64 t.X) := by simp [World.cell?, r2]
                        have x20 : w8.cell? ⟨w7.heap.size, 0, none⟩ = some (.int .u64 t.F) := by simp [World.cell?, r3]
                        have x21 : w8.cell? ⟨w7.heap.size, 1, none⟩ = some (.int .u64 t.H) := by simp [World.cell?, r3]
                        have x22 : w8.cell? ⟨w7.heap.size, 2, none⟩ = some (.int .i64 t.Y) := by simp [World.cell?, r3]
                        have x23 : w8.cell? ⟨w7.heap.size, 3, none⟩ = some (.int .i64 t.X) := by simp [World.cell?, r3]
                        clear r1 r2 r3 hW8
                        replace h7 := Sep.drop (l1 := [RowO 3 1 (.slice (some ⟨g, 0, none⟩) ks.length cap) ks.length (cellsI is), HeapO p (popM m1), HeapO q (popM m2), HeapO l (popM m2), CellsO mb #[.int .u64 18446744073709551615, .int .u64 18446744073709551615, .int .i64 9223372036854775807, .int .i64 9223372036854775807] 24, CellsO w5.heap.size #[.int .u64 t.F, .int .u64 t.H, .int .i64 t.Y, .int .i64 t.X] 24, CellsO w6.heap.size #[.int .u64 t.F, .int .u64 t.H, .int .i64 t.Y, .int .i64 t.X] 24]) (l2 := []) h7
                        replace h7 := Sep.drop (l1 := [RowO 3 1 (.slice (some ⟨g, 0, none⟩) ks.length cap) ks.length (cellsI is), HeapO p (popM m1), HeapO q (popM m2), HeapO l (popM m2), CellsO mb #[.int .u64 18446744073709551615, .int .u64 18446744073709551615, .int .i64 9223372036854775807, .int .i64 9223372036854775807] 24, CellsO w5.heap.size #[.int .u64 t.F, .int .u64 t.H, .int .i64 t.Y, .int .i64 t.X] 24]) (l2 := []) h7
                        replace h7 := Sep.drop (l1 := [RowO 3 1 (.slice (some ⟨g, 0, none⟩) ks.length cap) ks.length (cellsI is), HeapO p (popM m1), HeapO q (popM m2), HeapO l (popM m2), CellsO mb #[.int .u64 18446744073709551615, .int .u64 18446744073709551615, .int .i64 9223372036854775807, .int .i64 9223372036854775807] 24]) (l2 := []) h7
                        replace h7 : Sep w8 w.heap.size [RowO 3 1 (.slice (some ⟨g, 0, none⟩) ks.length cap) ks.length (cellsI is), HeapO p (popM m1), HeapO q (popM m2), HeapO l (popM m2), CellsO mb #[.int .u64 18446744073709551615, .int .u64 18446744073709551615, .int .i64 9223372036854775807, .int .i64 9223372036854775807] 24] := h7
                        have HS8 := Lib.hid h7
                        have HA8 := Lib.hid hA7
                        clear h7 hA7
                        go_wp2
                        go_roundw
                        case rel => exact ⟨k + 1, popM m1, popM m2, by omega, by go_num, Lib.hid ⟨HP2.out, HEL.out, HN2.out⟩, HS8.out, HA8.out⟩
                        case measure => simp [intOf]; omega
                      · by_cases hend : k = ks.length
                        · have hle : (k : Int) ≤ (ks.length : Int) := by omega
                          have hlt2 : (ks.length : Int) ≤ (k : Int) := by omega
                          have HE : Hid ((!m1.isEmpty) = false) := Lib.hid (by cases m1 with | nil => rfl | cons => simp at hl1; omega)
                          have HEL : Hid ((popM m1).length = ks.length - (k + 1)) := Lib.hid (by
                            have h := popM_len m1
                            omega)
                          clear hl1 hend
                          have HP2 := Lib.hid (popM_perm HM.out.1)
                          have HN2 := Lib.hid (pop_nodup HM.out.2.2)
                          obtain ⟨t, ht⟩ : ∃ t, firstT m1 = t := ⟨_, rfl⟩
                          have HT := Lib.hid ht
                          have HT2 : Hid (firstT m2 = t) := Lib.hid (by rw [← first_perm HM.out.1]; exact ht)
                          have HE2 : Hid (m2.isEmpty = m1.isEmpty) := Lib.hid (empty_perm HM.out.1).symm
                          have heq : ∀ w : World, _ := fun w => eql_key t t w
                          have hsame : sameK t t = true := by unfold sameK; simp
                          rw [hsame] at heq
                          have hidn : (t.id != t.id) = false := by simp
                          clear ht hsame
                          have hcall := pop_sep (l1 := [RowO 3 1 (.slice (some ⟨g, 0, none⟩) ks.length cap) ks.length (cellsI is)]) (l2 := [HeapO q m2, HeapO l m2, CellsO mb #[.int .u64 18446744073709551615, .int .u64 18446744073709551615, .int .i64 9223372036854775807, .int .i64 9223372036854775807] 24]) hS hm1
                          rw [HT.out, HE.out] at hcall
                          go_wp2_with fail
                          refine hcall.mono ?_
                          rintro e w5 ⟨rfl, h5, hb⟩
                          have hA5 := bl_al (hAr.trans hb) (.cells #[.int .u64 t.F, .int .u64 t.H, .int .i64 t.Y, .int .i64 t.X] 24)
                          replace h5 := h5.box #[.int .u64 t.F, .int .u64 t.H, .int .i64 t.Y, .int .i64 t.X] 24
                          clear hcall hb hS hAr
                          have hcall := pop_sep (l1 := [RowO 3 1 (.slice (some ⟨g, 0, none⟩) ks.length cap) ks.length (cellsI is), HeapO p (popM m1)]) (l2 := [HeapO l m2, CellsO mb #[.int .u64 18446744073709551615, .int .u64 18446744073709551615, .int .i64 9223372036854775807, .int .i64 9223372036854775807] 24, CellsO w5.heap.size #[.int .u64 t.F, .int .u64 t.H, .int .i64 t.Y, .int .i64 t.X] 24]) h5 hm2
                          rw [HT2.out, HE2.out, HE.out] at hcall
                          go_wp2_with fail
                          refine hcall.mono ?_
                          rintro e w6 ⟨rfl, h6, hb⟩
                          have hA6 := bl_al (hA5.trans hb) (.cells #[.int .u64 t.F, .int .u64 t.H, .int .i64 t.Y, .int .i64 t.X] 24)
                          replace h6 := h6.box #[.int .u64 t.F, .int .u64 t.H, .int .i64 t.Y, .int .i64 t.X] 24
                          clear hcall hb h5 hA5
                          have hcall := pop_sep (l1 := [RowO 3 1 (.slice (some ⟨g, 0, none⟩) ks.length cap) ks.length (cellsI is), HeapO p (popM m1), HeapO q (popM m2)]) (l2 := [CellsO mb #[.int .u64 18446744073709551615, .int .u64 18446744073709551615, .int .i64 9223372036854775807, .int .i64 9223372036854775807] 24, CellsO w5.heap.size #[.int .u64 t.F, .int .u64 t.H, .int .i64 t.Y, .int .i64 t.X] 24, CellsO w6.heap.size #[.int .u64 t.F, .int .u64 t.H, .int .i64 t.Y, .int .i64 t.X] 24]) h6 hm2
                          rw [HT2.out, HE2.out, HE.out] at hcall
                          go_wp2_with fail
                          refine hcall.mono ?_
                          rintro e w7 ⟨rfl, h7, hb⟩
                          have hA7 := bl_al (hA6.trans hb) (.cells #[.int .u64 t.F, .int .u64 t.H, .int .i64 t.Y, .int .i64 t.X] 24)
                          replace h7 := h7.box #[.int .u64 t.F, .int .u64 t.H, .int .i64 t.Y, .int .i64 t.X] 24
                          clear hcall hb h6 hA6
                          obtain ⟨r1, _⟩ := Sep.cells (l1 := [RowO 3 1 (.slice (some ⟨g, 0, none⟩) ks.length cap) ks.length (cellsI is), HeapO p (popM m1), HeapO q (popM m2), HeapO l (popM m2), CellsO mb #[.int .u64 18446744073709551615, .int .u64 18446744073709551615, .int .i64 9223372036854775807, .int .i64 9223372036854775807] 24]) (l2 := [CellsO w6.heap.size #[.int .u64 t.F, .int .u64 t.H, .int .i64 t.Y, .int .i64 t.X] 24, CellsO w7.heap.size #[.int .u64 t.F, .int .u64 t.H, .int .i64 t.Y, .int .i64 t.X] 24]) h7
                          obtain ⟨r2, _⟩ := Sep.cells (l1 := [RowO 3 1 (.slice (some ⟨g, 0, none⟩) ks.length cap) ks.length (cellsI is), HeapO p (popM m1), HeapO q (popM m2), HeapO l (popM m2), CellsO mb #[.int .u64 18446744073709551615, .int .u64 18446744073709551615, .int .i64 9223372036854775807, .int .i64 9223372036854775807] 24, CellsO w5.heap.size #[.int .u64 t.F, .int .u64 t.H, .int .i64 t.Y, .int .i64 t.X] 24]) (l2 := [CellsO w7.heap.size #[.int .u64 t.F, .int .u64 t.H, .int .i64 t.Y, .int .i64 t.X] 24]) h7
                          obtain ⟨r3, _⟩ := Sep.cells (l1 := [RowO 3 1 (.slice (some ⟨g, 0, none⟩) ks.length cap) ks.length (cellsI is), HeapO p (popM m1), HeapO q (popM m2), HeapO l (popM m2), CellsO mb #[.int .u64 18446744073709551615, .int .u64 18446744073709551615, .int .i64 9223372036854775807, .int .i64 9223372036854775807] 24, CellsO w5.heap.size #[.int .u64 t.F, .int .u64 t.H, .int .i64 t.Y, .int .i64 t.X] 24, CellsO w6.heap.size #[.int .u64 t.F, .int .u64 t.H, .int .i64 t.Y, .int .i64 t.X] 24]) (l2 := []) h7
                          go_upto_region 36 with fail
                          generalize hW8 : w7.alloc (.cells #[.int .u64 t.F, .int .u64 t.H, .int .i64 t.Y, .int .i64 t.X] 24) = w8 at *
                          have x00 : w8.cell? ⟨w5.heap.size, 0, none⟩ = some (.int .u64 t.F) := by simp [World.cell?, r1]
                          have x01 : w8.cell? ⟨w5.heap.size, 1, none⟩ = some (.int .u64 t.H) := by simp [World.cell?, r1]
                          have x02 : w8.cell? ⟨w5.heap.size, 2, none⟩ = some (.int .i64 t.Y) := by simp [World.cell?, r1]
                          have x03 : w8.cell? ⟨w5.heap.size, 3, none⟩ = some (.int .i64 t.X) := by simp [World.cell?, r1]
                          have x10 : w8.cell? ⟨w6.heap.size, 0, none⟩ = some (.int .u64 t.F) := by simp [World.cell?, r2]
                          have x11 : w8.cell? ⟨w6.heap.size, 1, none⟩ = some (.int .u64 t.H) := by simp [World.cell?, r2]
                          have x12 : w8.cell? ⟨w6.heap.size, 2, none⟩ = some (.int .i64 t.Y) := by simp [World.cell?, r2]
                          have x13 : w8.cell? ⟨w6.heap.size, 3, none⟩ = some (.int .i64 t.X) := by simp [World.cell?, r2]
                          have x20 : w8.cell? ⟨w7.heap.size, 0, none⟩ = some (.int .u64 t.F) := by simp [World.cell?, r3]
                          have x21 : w8.cell? ⟨w7.heap.size, 1, none⟩ = some (.int .u64 t.H) := by simp [World.cell?, r3]
                          have x22 : w8.cell? ⟨w7.heap.size, 2, none⟩ = some (.int .i64 t.Y) := by simp [World.cell?, r3]
                          have x23 : w8.cell? ⟨w7.heap.size, 3, none⟩ = some (.int .i64 t.X) := by simp [World.cell?, r3]
                          clear r1 r2 r3 hW8
                          replace h7 := Sep.drop (l1 := [RowO 3 1 (.slice (some ⟨g, 0, none⟩) ks.length cap) ks.length (cellsI is), HeapO p (popM m1), HeapO q (popM m2), HeapO l (popM m2), CellsO mb #[.int .u64 18446744073709551615, .int .u64 18446744073709551615, .int .i64 9223372036854775807, .int .i64 9223372036854775807] 24, CellsO w5.heap.size #[.int .u64 t.F, .int .u64 t.H, .int .i64 t.Y, .int .i64 t.X] 24, CellsO w6.heap.size #[.int .u64 t.F, .int .u64 t.H, .int .i64 t.Y, .int .i64 t.X] 24]) (l2 := []) h7
                          replace h7 := Sep.drop (l1 := [RowO 3 1 (.slice (some ⟨g, 0, none⟩) ks.length cap) ks.length (cellsI is), HeapO p (popM m1), HeapO q (popM m2), HeapO l (popM m2), CellsO mb #[.int .u64 18446744073709551615, .int .u64 18446744073709551615, .int .i64 9223372036854775807, .int .i64 9223372036854775807] 24, CellsO w5.heap.size #[.int .u64 t.F, .int .u64 t.H, .int .i64 t.Y, .int .i64 t.X] 24]) (l2 := []) h7
                          replace h7 := Sep.drop (l1 := [RowO 3 1 (.slice (some ⟨g, 0, none⟩) ks.length cap) ks.length (cellsI is), HeapO p (popM m1), HeapO q (popM m2), HeapO l (popM m2), CellsO mb #[.int .u64 18446744073709551615, .int .u64 18446744073709551615, .int .i64 9223372036854775807, .int .i64 9223372036854775807] 24]) (l2 := []) h7
                          replace h7 : Sep w8 w.heap.size [RowO 3 1 (.slice (some ⟨g, 0, none⟩) ks.length cap) ks.length (cellsI is), HeapO p (popM m1), HeapO q (popM m2), HeapO l (popM m2), CellsO mb #[.int .u64 18446744073709551615, .int .u64 18446744073709551615, .int .i64 9223372036854775807, .int .i64 9223372036854775807] 24] := h7
                          have HS8 := Lib.hid h7
                          have HA8 := Lib.hid hA7
                          clear h7 hA7
                          go_wp2
                          go_roundw
                          case rel => exact ⟨k + 1, popM m1, popM m2, by omega, by go_num, Lib.hid ⟨HP2.out, HEL.out, HN2.out⟩, HS8.out, HA8.out⟩
                          case measure => simp [intOf]; omega
                        · have hle : (ks.length : Int) < (k : Int) := by omega
                          have hA := hAr
                          clear hS hAr hl1 hend hlt
                          go_wp2_with fail
                          refine (hawake _).mono ?_
                          rintro e w9 ⟨rfl, hb⟩
                          have HA := Lib.hid (bl_tr hA hb)
                          clear hA hb
                          go_wp2
                          go_ret
                          exact ⟨rfl, HA.out⟩
          · have hj2I : (zs.length : Int) ≤ (j : Int) + 1 := by omega
            go_upto_region 14 with fail
            clear hlt hj2 hj2I
            clear hz
            have hil : is.length = ks.length := by have := HI.out.length_eq; rwa [idsR_len] at this
            have HIL := Lib.hid hil
            have HND := Lib.hid (HI.out.nodup_iff.2 (idsR_nodup ks.length))
            clear hil
            go_wp2_with fail
            refine (new_sep hS).mono ?_
            rintro e w1 ⟨p, rfl, h1, hb⟩
            have hA1 := bl_tr hAr hb
            clear hS hAr hb
            go_wp2_with fail
            refine (new_sep h1).mono ?_
            rintro e w2 ⟨q, rfl, h2, hb⟩
            have hA2 := bl_tr hA1 hb
            clear h1 hA1 hb
            go_wp2_with fail
            refine (new_sep h2).mono ?_
            rintro e w3 ⟨l, rfl, h3, hb⟩
            have hA3 := bl_tr hA2 hb
            clear h2 hA2 hb
            have h4 := h3.box #[.int .u64 18446744073709551615, .int .u64 18446744073709551615, .int .i64 9223372036854775807, .int .i64 9223372036854775807] 24
            have hA4 := bl_al hA3 (.cells #[.int .u64 18446744073709551615, .int .u64 18446744073709551615, .int .i64 9223372036854775807, .int .i64 9223372036854775807] 24)
            clear h3 hA3
            obtain ⟨mb, hmb⟩ : ∃ mb, w3.heap.size = mb := ⟨_, rfl⟩
            rw [hmb] at h4
            go_wp2
            clear hmb
            go_loopw [14] (fun i wr => ∃ k : Nat, k ≤ ks.length ∧ i = .int .i64 k ∧ Sep wr w.heap.size [RowO 3 1 (.slice (some ⟨g, 0, none⟩) ks.length cap) ks.length (cellsI is), HeapO p (idxM (ks.take k)), HeapO q (byM (fun x => atT ks x.toNat) (is.take k)), HeapO l (byM (fun _ => mostT) (is.take k)), CellsO mb #[.int .u64 18446744073709551615, .int .u64 18446744073709551615, .int .i64 9223372036854775807, .int .i64 9223372036854775807] 24] ∧ Below w.heap.size w wr) (fun i _ => ks.length - (intOf i).toNat)
            case atStart => exact ⟨0, Nat.zero_le _, rfl, h4, hA4⟩
            case round =>
              obtain ⟨k, hk, rfl, hS, hAr⟩ := hrel
              clear h4 hA4
              by_cases hlt : k < ks.length
              · have hlt2 : (k : Int) < (ks.length : Int) := by omega
                have hk0 : (0 : Int) ≤ (k : Int) := by omega
                have hk1 : (k : Int) ≤ 100 := by omega
                have hkis : k < is.length := by rw [HIL.out]; exact hlt
                obtain ⟨x, hx, hxe⟩ : ∃ x : Nat, x < ks.length ∧ is.getD k 0 = x := by
                  have hm : is.getD k 0 ∈ is := by simp [List.getD_eq_getElem?_getD, hkis]
                  obtain ⟨x, h1, h2⟩ := mem_idsR.1 (HI.out.mem_iff.1 hm)
                  exact ⟨x, h1, h2⟩
                have hx0 : (0 : Int) ≤ (x : Int) := by omega
                have hx1 : (x : Int) < (ks.length : Int) := by omega
                obtain ⟨hrow, _, _, _, _⟩ := Sep.row (l1 := []) (l2 := [HeapO p (idxM (ks.take k)), HeapO q (byM (fun x => atT ks x.toNat) (is.take k)), HeapO l (byM (fun _ => mostT) (is.take k)), CellsO mb #[.int .u64 18446744073709551615, .int .u64 18446744073709551615, .int .i64 9223372036854775807, .int .i64 9223372036854775807] 24]) hS
                have yx := hrow _ _ (cellsI_at hkis)
                rw [hxe] at yx
                have HR := Lib.hid hr
                obtain ⟨gb, go, rfl, q0, q1, q2, q3⟩ := hr.at hlt
                obtain ⟨gb', go', e, r0, r1, r2, r3⟩ := hr.at hx
                cases e
                clear hr hrow
                have HN := Lib.hid (find_next hlt)
                have HSN := Lib.hid (idxM_snoc hlt)
                have HP1 := Lib.hid (byM_push (f := fun x => atT ks x.toNat) HND.out hkis (withId (x : Int) (atT ks x)) (by rw [hxe]; rfl))
                have HP2 := Lib.hid (byM_push (f := fun _ => mostT) HND.out hkis (withId (x : Int) mostT) (by rw [hxe]))
                generalize atT ks k = t at *
                obtain ⟨u, hu⟩ : ∃ u, atT ks x = u := ⟨_, rfl⟩
                rw [hu] at r0 r1 r2 r3 HP1
                clear hu hxe
                have p0 := cell_later hAr q0
                have p1 := cell_later hAr q1
                have p2 := cell_later hAr q2
                have p3 := cell_later hAr q3
                have hwk : wfT (withId (k : Int) t) := show (Lit.int .i64 (k : Int)).wf = true from WalkArith.wf_i64 (by omega)
                have hwx : wfT (withId (x : Int) u) := show (Lit.int .i64 (x : Int)).wf = true from WalkArith.wf_i64 (by omega)
                have hwm : wfT (withId (x : Int) mostT) := show (Lit.int .i64 (x : Int)).wf = true from WalkArith.wf_i64 (by omega)
                have hcall := push_sep (l1 := [RowO 3 1 (.slice (some ⟨g, 0, none⟩) ks.length cap) ks.length (cellsI is)]) (l2 := [HeapO q (byM (fun x => atT ks x.toNat) (is.take k)), HeapO l (byM (fun _ => mostT) (is.take k)), CellsO mb #[.int .u64 18446744073709551615, .int .u64 18446744073709551615, .int .i64 9223372036854775807, .int .i64 9223372036854775807] 24]) (withId (k : Int) t) hS hwk (by rw [idxM_len, List.length_take]; omega)
                rw [show pushE (idxM (ks.take k)) (withId (k : Int) t).id = 0 by unfold pushE; rw [show (withId (k : Int) t).id = (k : Int) from rfl, HN.out]; rfl,
                  show pushM (idxM (ks.take k)) (withId (k : Int) t) = idxM (ks.take (k + 1)) by unfold pushM; rw [show (withId (k : Int) t).id = (k : Int) from rfl, HN.out, HSN.out]; rfl] at hcall
                simp only [withId] at hcall
                go_wp2_with fail
                refine hcall.mono ?_
                rintro e w5 ⟨rfl, h5, hb⟩
                have hA5 := hAr.trans hb
                clear hcall hb hS hAr p0 p1 p2 p3 yx
                have p0 := cell_later hA5 r0
                have p1 := cell_later hA5 r1
                have p2 := cell_later hA5 r2
                have p3 := cell_later hA5 r3
                have hcall := push_sep (l1 := [RowO 3 1 (.slice (some ⟨g, 0, none⟩) ks.length cap) ks.length (cellsI is), HeapO p (idxM (ks.take (k + 1)))]) (l2 := [HeapO l (byM (fun _ => mostT) (is.take k)), CellsO mb #[.int .u64 18446744073709551615, .int .u64 18446744073709551615, .int .i64 9223372036854775807, .int .i64 9223372036854775807] 24]) (withId (x : Int) u) h5 hwx (by rw [byM_len, List.length_take]; omega)
                rw [HP1.out.1, HP1.out.2] at hcall
                simp only [withId] at hcall
                go_wp2_with fail
                refine hcall.mono ?_
                rintro e w6 ⟨rfl, h6, hb⟩
                have hA6 := hA5.trans hb
                clear hcall hb h5 hA5 p0 p1 p2 p3
                obtain ⟨rm, _⟩ := Sep.cells (l1 := [RowO 3 1 (.slice (some ⟨g, 0, none⟩) ks.length cap) ks.length (cellsI is), HeapO p (idxM (ks.take (k + 1))), HeapO q (byM (fun x => atT ks x.toNat) (is.take (k + 1))), HeapO l (byM (fun _ => mostT) (is.take k))]) (l2 := []) h6
                have m0 : w6.cell? ⟨mb, 0, none⟩ = some (.int .u64 18446744073709551615) := by simp [World.cell?, rm]
                have m1 : w6.cell? ⟨mb, 1, none⟩ = some (.int .u64 18446744073709551615) := by simp [World.cell?, rm]
                have m2 : w6.cell? ⟨mb, 2, none⟩ = some (.int .i64 9223372036854775807) := by simp [World.cell?, rm]
                have m3 : w6.cell? ⟨mb, 3, none⟩ = some (.int .i64 9223372036854775807) := by simp [World.cell?, rm]
                have hcall := push_sep (l1 := [RowO 3 1 (.slice (some ⟨g, 0, none⟩) ks.length cap) ks.length (cellsI is), HeapO p (idxM (ks.take (k + 1))), HeapO q (byM (fun x => atT ks x.toNat) (is.take (k + 1)))]) (l2 := [CellsO mb #[.int .u64 18446744073709551615, .int .u64 18446744073709551615, .int .i64 9223372036854775807, .int .i64 9223372036854775807] 24]) (withId (x : Int) mostT) h6 hwm (by rw [byM_len, List.length_take]; omega)
                rw [HP2.out.1, HP2.out.2] at hcall
                simp only [withId, mostT] at hcall
                have hcall' : Calls Try.prog 14 #[.pointer (some ⟨l, 0, none⟩), .int .i64 (x : Int), .agg #[.int .u64 18446744073709551615, .int .u64 18446744073709551615, .int .i64 9223372036854775807, .int .i64 9223372036854775807]] w6 fun e w' => e = .returned (.int .i64 0) ∧ Sep w' w.heap.size [RowO 3 1 (.slice (some ⟨g, 0, none⟩) ks.length cap) ks.length (cellsI is), HeapO p (idxM (ks.take (k + 1))), HeapO q (byM (fun x => atT ks x.toNat) (is.take (k + 1))), HeapO l (byM (fun _ => mostT) (is.take (k + 1))), CellsO mb #[.int .u64 18446744073709551615, .int .u64 18446744073709551615, .int .i64 9223372036854775807, .int .i64 9223372036854775807] 24] ∧ Below w.heap.size w6 w' := hcall
                clear hcall rm
                go_wp2_with fail
                refine hcall'.mono ?_
                rintro e w7 ⟨rfl, h7, hb⟩
                have hA7 := hA6.trans hb
                clear hcall' hb h6 hA6 m0 m1 m2 m3 q0 q1 q2 q3 r0 r1 r2 r3
                go_wp2
                go_roundw
                case rel => exact ⟨k + 1, by omega, by go_num, h7, hA7⟩
                case measure => simp [intOf]; omega
              · have hge : (ks.length : Int) ≤ (k : Int) := by omega
                obtain rfl : k = ks.length := by omega
                rw [List.take_length, List.take_of_length_le (by rw [HIL.out]; exact Nat.le_refl _), half_start ks is (fun x hx => by obtain ⟨i, _, rfl⟩ := mem_idsR.1 (HI.out.mem_iff.1 hx); omega)] at hS
                clear hlt hge hk
                go_wp2
                go_loopw [16] (fun i wr => ∃ k : Nat, k ≤ ks.length ∧ i = .int .i64 k ∧ Sep wr w.heap.size [RowO 3 1 (.slice (some ⟨g, 0, none⟩) ks.length cap) ks.length (cellsI is), HeapO p (idxM ks), HeapO q (byM (fun x => atT ks x.toNat) is), HeapO l (byM (halfF ks k) is), CellsO mb #[.int .u64 18446744073709551615, .int .u64 18446744073709551615, .int .i64 9223372036854775807, .int .i64 9223372036854775807] 24] ∧ Below w.heap.size w wr) (fun i _ => ks.length - (intOf i).toNat)
                case atStart => exact ⟨0, Nat.zero_le _, rfl, hS, hAr⟩
                case round =>
                  obtain ⟨k, hk, rfl, hS, hAr⟩ := hrel
                  by_cases hlt : k < ks.length
                  · have hlt2 : (k : Int) < (ks.length : Int) := by omega
                    have hk0 : (0 : Int) ≤ (k : Int) := by omega
                    have hk1 : (k : Int) ≤ 100 := by omega
                    have hmem : (k : Int) ∈ is := HI.out.mem_iff.2 (mem_idsR.2 ⟨k, hlt, rfl⟩)
                    have hwt : WfT (atT ks k) := wf _ (atT_mem hlt)
                    obtain ⟨gb, go, rfl, q0, q1, q2, q3⟩ := hr.at hlt
                    have HN := Lib.hid (half_next HND.out hmem hwt)
                    generalize atT ks k = t at *
                    have p0 := cell_later hAr q0
                    have p1 := cell_later hAr q1
                    have p2 := cell_later hAr q2
                    have p3 := cell_later hAr q3
                    have hwk : wfT (withId (k : Int) t) := show (Lit.int .i64 (k : Int)).wf = true from WalkArith.wf_i64 (by omega)
                    have hcall := lower_sep (l1 := [RowO 3 1 (.slice (some ⟨g, 0, none⟩) ks.length cap) ks.length (cellsI is), HeapO p (idxM ks), HeapO q (byM (fun x => atT ks x.toNat) is)]) (l2 := [CellsO mb #[.int .u64 18446744073709551615, .int .u64 18446744073709551615, .int .i64 9223372036854775807, .int .i64 9223372036854775807] 24]) (withId (k : Int) t) hS hwk (by rw [byM_len, HIL.out]; omega)
                    obtain ⟨sm, hsm⟩ : ∃ sm, sameK t mostT = sm := ⟨_, rfl⟩
                    have hn1 := HN.out.1
                    rw [hsm] at hn1
                    rw [hn1, HN.out.2] at hcall
                    have heq := fun w => eql_key t mostT w
                    simp only [hsm] at heq
                    simp only [mostT] at heq
                    simp only [withId] at hcall
                    clear hmem hwt hsm hn1
                    cases sm
                    · simp only [Bool.false_eq_true, if_false] at hcall
                      go_wp2_with fail
                      refine hcall.mono ?_
                      rintro e w5 ⟨rfl, h5, hb⟩
                      have hA5 := hAr.trans hb
                      clear hcall hb hS hAr p0 p1 p2 p3
                      have p0 := cell_later hA5 q0
                      have p1 := cell_later hA5 q1
                      have p2 := cell_later hA5 q2
                      have p3 := cell_later hA5 q3
                      obtain ⟨rm, _⟩ := Sep.cells (l1 := [RowO 3 1 (.slice (some ⟨g, 0, none⟩) ks.length cap) ks.length (cellsI is), HeapO p (idxM ks), HeapO q (byM (fun x => atT ks x.toNat) is), HeapO l (byM (halfF ks (k + 1)) is)]) (l2 := []) h5
                      have m0 : w5.cell? ⟨mb, 0, none⟩ = some (.int .u64 18446744073709551615) := by simp [World.cell?, rm]
                      have m1 : w5.cell? ⟨mb, 1, none⟩ = some (.int .u64 18446744073709551615) := by simp [World.cell?, rm]
                      have m2 : w5.cell? ⟨mb, 2, none⟩ = some (.int .i64 9223372036854775807) := by simp [World.cell?, rm]
                      have m3 : w5.cell? ⟨mb, 3, none⟩ = some (.int .i64 9223372036854775807) := by simp [World.cell?, rm]
                      clear rm
                      have hB := bl_dr (bl0 w5)
                      go_upto_region 28 with fail
                      have hS2 : (fun w' : World => w'.cell? ⟨gb, go + k * 4, none⟩ = some (.int .u64 t.F) ∧ w'.cell? ⟨gb, go + k * 4 + 1, none⟩ = some (.int .u64 t.H) ∧ w'.cell? ⟨gb, go + k * 4 + 2, none⟩ = some (.int .i64 t.Y) ∧ w'.cell? ⟨gb, go + k * 4 + 3, none⟩ = some (.int .i64 t.X) ∧ w'.cell? ⟨mb, 0, none⟩ = some (.int .u64 18446744073709551615) ∧ w'.cell? ⟨mb, 1, none⟩ = some (.int .u64 18446744073709551615) ∧ w'.cell? ⟨mb, 2, none⟩ = some (.int .i64 9223372036854775807) ∧ w'.cell? ⟨mb, 3, none⟩ = some (.int .i64 9223372036854775807)) w5.drew := ⟨cell_later hB p0, cell_later hB p1, cell_later hB p2, cell_later hB p3, cell_later hB m0, cell_later hB m1, cell_later hB m2, cell_later hB m3⟩
                      refine (wpIn_wide (n := 11)).1 ?_
                      refine ordS_begin (S := (fun w' : World => w'.cell? ⟨gb, go + k * 4, none⟩ = some (.int .u64 t.F) ∧ w'.cell? ⟨gb, go + k * 4 + 1, none⟩ = some (.int .u64 t.H) ∧ w'.cell? ⟨gb, go + k * 4 + 2, none⟩ = some (.int .i64 t.Y) ∧ w'.cell? ⟨gb, go + k * 4 + 3, none⟩ = some (.int .i64 t.X) ∧ w'.cell? ⟨mb, 0, none⟩ = some (.int .u64 18446744073709551615) ∧ w'.cell? ⟨mb, 1, none⟩ = some (.int .u64 18446744073709551615) ∧ w'.cell? ⟨mb, 2, none⟩ = some (.int .i64 9223372036854775807) ∧ w'.cell? ⟨mb, 3, none⟩ = some (.int .i64 9223372036854775807))) (by kernel_rfl) hS2 (fun _ => ?_)
                      first
                        | (refine' ordS_take (i := 0) (oi := { dst := some 153, op := Op.move (Operand.tmp 0), type := 55, pos := _, after := #[], guard := none }) (v := _) rfl (by kernel_rfl) (by kernel_rfl) (by kernel_rfl) (by kernel_rfl) (fun _ _ _ h => h) (by assumption) (Or.inl ⟨by rfl, ?hy54⟩) (fun _ => rfl) ?rest54
                           case hy54 => (intro w hSw; (try dsimp only at hSw); go_simp; try with_reducible rfl))
                        | (refine ordS_take (i := 0) (oi := { dst := some 153, op := Op.move (Operand.tmp 0), type := 55, pos := _, after := #[], guard := none }) (v := undef) rfl (by kernel_rfl) (by kernel_rfl) (by kernel_rfl) (by kernel_rfl) (fun _ _ _ h => h) (by assumption) (Or.inr ⟨by rfl, rfl⟩) (fun _ => rfl) ?_)
                      try simp only [Act.put, List.setIfInBounds_toArray, List.set_cons_zero, List.set_cons_succ]
                      first
                        | (refine' ordS_take (i := 1) (oi := { dst := some 154, op := Op.move (Operand.tmp 16), type := 3, pos := _, after := #[], guard := none }) (v := _) rfl (by kernel_rfl) (by kernel_rfl) (by kernel_rfl) (by kernel_rfl) (fun _ _ _ h => h) (by assumption) (Or.inl ⟨by rfl, ?hy55⟩) (fun _ => rfl) ?rest55
                           case hy55 => (intro w hSw; (try dsimp only at hSw); go_simp; try with_reducible rfl))
                        | (refine ordS_take (i := 1) (oi := { dst := some 154, op := Op.move (Operand.tmp 16), type := 3, pos := _, after := #[], guard := none }) (v := undef) rfl (by kernel_rfl) (by kernel_rfl) (by kernel_rfl) (by kernel_rfl) (fun _ _ _ h => h) (by assumption) (Or.inr ⟨by rfl, rfl⟩) (fun _ => rfl) ?_)
                      try simp only [Act.put, List.setIfInBounds_toArray, List.set_cons_zero, List.set_cons_succ]
                      first
                        | (refine' ordS_take (i := 2) (oi := { dst := some 155, op := Op.indexAddr 55 (Operand.tmp 153) (Operand.tmp 154), type := 0, pos := _, after := #[{ on := 0, ground := Ground.data }, { on := 1, ground := Ground.data }], guard := none }) (v := _) rfl (by kernel_rfl) (by kernel_rfl) (by kernel_rfl) (by kernel_rfl) (fun _ _ _ h => h) (by assumption) (Or.inl ⟨by rfl, ?hy56⟩) (fun _ => rfl) ?rest56
                           case hy56 => (intro w hSw; (try dsimp only at hSw); go_simp; try with_reducible rfl))
                        | (refine ordS_take (i := 2) (oi := { dst := some 155, op := Op.indexAddr 55 (Operand.tmp 153) (Operand.tmp 154), type := 0, pos := _, after := #[{ on := 0, ground := Ground.data }, { on := 1, ground := Ground.data }], guard := none }) (v := undef) rfl (by kernel_rfl) (by kernel_rfl) (by kernel_rfl) (by kernel_rfl) (fun _ _ _ h => h) (by assumption) (Or.inr ⟨by rfl, rfl⟩) (fun _ => rfl) ?_)
                      try simp only [Act.put, List.setIfInBounds_toArray, List.set_cons_zero, List.set_cons_succ]
                      first
                        | (refine' ordS_take (i := 3) (oi := { dst := some 156, op := Op.load 24 (Operand.tmp 155), type := 24, pos := _, after := #[{ on := 2, ground := Ground.data }], guard := none }) (v := _) rfl (by kernel_rfl) (by kernel_rfl) (by kernel_rfl) (by kernel_rfl) (fun _ _ _ h => h) (by assumption) (Or.inl ⟨by rfl, ?hy57⟩) (fun _ => rfl) ?rest57
                           case hy57 => (intro w hSw; (try dsimp only at hSw); go_simp; try with_reducible rfl))
                        | (refine ordS_take (i := 3) (oi := { dst := some 156, op := Op.load 24 (Operand.tmp 155), type := 24, pos := _, after := #[{ on := 2, ground := Ground.data }], guard := none }) (v := undef) rfl (by kernel_rfl) (by kernel_rfl) (by kernel_rfl) (by kernel_rfl) (fun _ _ _ h => h) (by assumption) (Or.inr ⟨by rfl, rfl⟩) (fun _ => rfl) ?_)
                      try simp only [Act.put, List.setIfInBounds_toArray, List.set_cons_zero, List.set_cons_succ]
                      first
                        | (refine' ordS_take (i := 4) (oi := { dst := some 157, op := Op.load 24 (Operand.tmp 13), type := 24, pos := _, after := #[], guard := none }) (v := _) rfl (by kernel_rfl) (by kernel_rfl) (by kernel_rfl) (by kernel_rfl) (fun _ _ _ h => h) (by assumption) (Or.inl ⟨by rfl, ?hy58⟩) (fun _ => rfl) ?rest58
                           case hy58 => (intro w hSw; (try dsimp only at hSw); go_simp; try with_reducible rfl))
                        | (refine ordS_take (i := 4) (oi := { dst := some 157, op := Op.load 24 (Operand.tmp 13), type := 24, pos := _, after := #[], guard := none }) (v := undef) rfl (by kernel_rfl) (by kernel_rfl) (by kernel_rfl) (by kernel_rfl) (fun _ _ _ h => h) (by assumption) (Or.inr ⟨by rfl, rfl⟩) (fun _ => rfl) ?_)
                      try simp only [Act.put, List.setIfInBounds_toArray, List.set_cons_zero, List.set_cons_succ]
                      refine ordS_one (i := 5) (o := { dst := some 158, op := Op.binOp BinOp.eql 24 (Operand.tmp 156) (Operand.tmp 157) 24, type := 4, pos := _, after := #[{ on := 3, ground := Ground.data }, { on := 4, ground := Ground.data }], guard := none }) (by kernel_rfl) rfl (by rfl) (fun K hK => ?_)
                      go_simp
                      refine hK _ _ hS2 ?_
                      clear hK K
                      try simp only [Act.put, List.setIfInBounds_toArray, List.set_cons_zero, List.set_cons_succ]
                      first
                        | (refine' ordS_take (i := 6) (oi := { dst := some 159, op := Op.move (Operand.tmp 158), type := 4, pos := _, after := #[{ on := 5, ground := Ground.data }], guard := none }) (v := _) rfl (by kernel_rfl) (by kernel_rfl) (by kernel_rfl) (by kernel_rfl) (fun _ _ _ h => h) (by assumption) (Or.inl ⟨by rfl, ?hy59⟩) (fun _ => rfl) ?rest59
                           case hy59 => (intro w hSw; (try dsimp only at hSw); go_simp; try with_reducible rfl))
                        | (refine ordS_take (i := 6) (oi := { dst := some 159, op := Op.move (Operand.tmp 158), type := 4, pos := _, after := #[{ on := 5, ground := Ground.data }], guard := none }) (v := undef) rfl (by kernel_rfl) (by kernel_rfl) (by kernel_rfl) (by kernel_rfl) (fun _ _ _ h => h) (by assumption) (Or.inr ⟨by rfl, rfl⟩) (fun _ => rfl) ?_)
                      try simp only [Act.put, List.setIfInBounds_toArray, List.set_cons_zero, List.set_cons_succ]
                      first
                        | (refine' ordS_take (i := 7) (oi := { dst := some 160, op := Op.move (Operand.tmp 17), type := 42, pos := _, after := #[{ on := 6, ground := Ground.guard }], guard := some (6, true) }) (v := _) rfl (by kernel_rfl) (by kernel_rfl) (by kernel_rfl) (by kernel_rfl) (fun _ _ _ h => h) (by assumption) (Or.inl ⟨by rfl, ?hy60⟩) (fun _ => rfl) ?rest60
                           case hy60 => (intro w hSw; (try dsimp only at hSw); go_simp; try with_reducible rfl))
                        | (refine ordS_take (i := 7) (oi := { dst := some 160, op := Op.move (Operand.tmp 17), type := 42, pos := _, after := #[{ on := 6, ground := Ground.guard }], guard := some (6, true) }) (v := undef) rfl (by kernel_rfl) (by kernel_rfl) (by kernel_rfl) (by kernel_rfl) (fun _ _ _ h => h) (by assumption) (Or.inr ⟨by rfl, rfl⟩) (fun _ => rfl) ?_)
                      try simp only [Act.put, List.setIfInBounds_toArray, List.set_cons_zero, List.set_cons_succ]
                      first
                        | (refine' ordS_take (i := 8) (oi := { dst := some 161, op := Op.binOp BinOp.neq 42 (Operand.tmp 160) (Operand.const (Value.int IntKind.i64 1)) 42, type := 4, pos := _, after := #[{ on := 7, ground := Ground.data }, { on := 6, ground := Ground.guard }], guard := some (6, true) }) (v := _) rfl (by kernel_rfl) (by kernel_rfl) (by kernel_rfl) (by kernel_rfl) (fun _ _ _ h => h) (by assumption) (Or.inl ⟨by rfl, ?hy61⟩) (fun _ => rfl) ?rest61
                           case hy61 => (intro w hSw; (try dsimp only at hSw); go_simp; try with_reducible rfl))
                        | (refine ordS_take (i := 8) (oi := { dst := some 161, op := Op.binOp BinOp.neq 42 (Operand.tmp 160) (Operand.const (Value.int IntKind.i64 1)) 42, type := 4, pos := _, after := #[{ on := 7, ground := Ground.data }, { on := 6, ground := Ground.guard }], guard := some (6, true) }) (v := undef) rfl (by kernel_rfl) (by kernel_rfl) (by kernel_rfl) (by kernel_rfl) (fun _ _ _ h => h) (by assumption) (Or.inr ⟨by rfl, rfl⟩) (fun _ => rfl) ?_)
                      try simp only [Act.put, List.setIfInBounds_toArray, List.set_cons_zero, List.set_cons_succ]
                      first
                        | (refine' ordS_take (i := 9) (oi := { dst := some 162, op := Op.pick (Operand.tmp 159) (Operand.tmp 161) (Operand.const (Value.bool false)), type := 4, pos := _, after := #[{ on := 6, ground := Ground.data }, { on := 8, ground := Ground.data }], guard := none }) (v := _) rfl (by kernel_rfl) (by kernel_rfl) (by kernel_rfl) (by kernel_rfl) (fun _ _ _ h => h) (by assumption) (Or.inl ⟨by rfl, ?hy62⟩) (fun _ => rfl) ?rest62
                           case hy62 => (intro w hSw; (try dsimp only at hSw); go_simp; try with_reducible rfl))
                        | (refine ordS_take (i := 9) (oi := { dst := some 162, op := Op.pick (Operand.tmp 159) (Operand.tmp 161) (Operand.const (Value.bool false)), type := 4, pos := _, after := #[{ on := 6, ground := Ground.data }, { on := 8, ground := Ground.data }], guard := none }) (v := undef) rfl (by kernel_rfl) (by kernel_rfl) (by kernel_rfl) (by kernel_rfl) (fun _ _ _ h => h) (by assumption) (Or.inr ⟨by rfl, rfl⟩) (fun _ => rfl) ?_)
                      try simp only [Act.put, List.setIfInBounds_toArray, List.set_cons_zero, List.set_cons_succ]
                      first
                        | (refine' ordS_take (i := 10) (oi := { dst := some 163, op := Op.move (Operand.tmp 162), type := 4, pos := _, after := #[{ on := 9, ground := Ground.data }, { on := 6, ground := Ground.chain }], guard := none }) (v := _) rfl (by kernel_rfl) (by kernel_rfl) (by kernel_rfl) (by kernel_rfl) (fun _ _ _ h => h) (by assumption) (Or.inl ⟨by rfl, ?hy63⟩) (fun _ => rfl) ?rest63
                           case hy63 => (intro w hSw; (try dsimp only at hSw); go_simp; try with_reducible rfl))
                        | (refine ordS_take (i := 10) (oi := { dst := some 163, op := Op.move (Operand.tmp 162), type := 4, pos := _, after := #[{ on := 9, ground := Ground.data }, { on := 6, ground := Ground.chain }], guard := none }) (v := undef) rfl (by kernel_rfl) (by kernel_rfl) (by kernel_rfl) (by kernel_rfl) (fun _ _ _ h => h) (by assumption) (Or.inr ⟨by rfl, rfl⟩) (fun _ => rfl) ?_)
                      try simp only [Act.put, List.setIfInBounds_toArray, List.set_cons_zero, List.set_cons_succ]
                      first
                        | (refine' ordS_take (i := 11) (oi := { dst := some 164, op := Op.move (Operand.tmp 0), type := 55, pos := _, after := #[{ on := 10, ground := Ground.guard }], guard := some (10, false) }) (v := _) rfl (by kernel_rfl) (by kernel_rfl) (by kernel_rfl) (by kernel_rfl) (fun _ _ _ h => h) (by assumption) (Or.inl ⟨by rfl, ?hy64⟩) (fun _ => rfl) ?rest64
                           case hy64 => (intro w hSw; (try dsimp only at hSw); go_simp; try with_reducible rfl))
                        | (refine ordS_take (i := 11) (oi := { dst := some 164, op := Op.move (Operand.tmp 0), type := 55, pos := _, after := #[{ on := 10, ground := Ground.guard }], guard := some (10, false) }) (v := undef) rfl (by kernel_rfl) (by kernel_rfl) (by kernel_rfl) (by kernel_rfl) (fun _ _ _ h => h) (by assumption) (Or.inr ⟨by rfl, rfl⟩) (fun _ => rfl) ?_)
                      try simp only [Act.put, List.setIfInBounds_toArray, List.set_cons_zero, List.set_cons_succ]
                      first
                        | (refine' ordS_take (i := 12) (oi := { dst := some 165, op := Op.move (Operand.tmp 16), type := 3, pos := _, after := #[{ on := 10, ground := Ground.guard }], guard := some (10, false) }) (v := _) rfl (by kernel_rfl) (by kernel_rfl) (by kernel_rfl) (by kernel_rfl) (fun _ _ _ h => h) (by assumption) (Or.inl ⟨by rfl, ?hy65⟩) (fun _ => rfl) ?rest65
                           case hy65 => (intro w hSw; (try dsimp only at hSw); go_simp; try with_reducible rfl))
                        | (refine ordS_take (i := 12) (oi := { dst := some 165, op := Op.move (Operand.tmp 16), type := 3, pos := _, after := #[{ on := 10, ground := Ground.guard }], guard := some (10, false) }) (v := undef) rfl (by kernel_rfl) (by kernel_rfl) (by kernel_rfl) (by kernel_rfl) (fun _ _ _ h => h) (by assumption) (Or.inr ⟨by rfl, rfl⟩) (fun _ => rfl) ?_)
                      try simp only [Act.put, List.setIfInBounds_toArray, List.set_cons_zero, List.set_cons_succ]
                      first
                        | (refine' ordS_take (i := 13) (oi := { dst := some 166, op := Op.indexAddr 55 (Operand.tmp 164) (Operand.tmp 165), type := 0, pos := _, after := #[{ on := 11, ground := Ground.data }, { on := 12, ground := Ground.data }, { on := 10, ground := Ground.guard }], guard := some (10, false) }) (v := _) rfl (by kernel_rfl) (by kernel_rfl) (by kernel_rfl) (by kernel_rfl) (fun _ _ _ h => h) (by assumption) (Or.inl ⟨by rfl, ?hy66⟩) (fun _ => rfl) ?rest66
                           case hy66 => (intro w hSw; (try dsimp only at hSw); go_simp; try with_reducible rfl))
                        | (refine ordS_take (i := 13) (oi := { dst := some 166, op := Op.indexAddr 55 (Operand.tmp 164) (Operand.tmp 165), type := 0, pos := _, after := #[{ on := 11, ground := Ground.data }, { on := 12, ground := Ground.data }, { on := 10, ground := Ground.guard }], guard := some (10, false) }) (v := undef) rfl (by kernel_rfl) (by kernel_rfl) (by kernel_rfl) (by kernel_rfl) (fun _ _ _ h => h) (by assumption) (Or.inr ⟨by rfl, rfl⟩) (fun _ => rfl) ?_)
                      try simp only [Act.put, List.setIfInBounds_toArray, List.set_cons_zero, List.set_cons_succ]
                      first
                        | (refine' ordS_take (i := 14) (oi := { dst := some 167, op := Op.load 24 (Operand.tmp 166), type := 24, pos := _, after := #[{ on := 13, ground := Ground.data }, { on := 10, ground := Ground.guard }], guard := some (10, false) }) (v := _) rfl (by kernel_rfl) (by kernel_rfl) (by kernel_rfl) (by kernel_rfl) (fun _ _ _ h => h) (by assumption) (Or.inl ⟨by rfl, ?hy67⟩) (fun _ => rfl) ?rest67
                           case hy67 => (intro w hSw; (try dsimp only at hSw); go_simp; try with_reducible rfl))
                        | (refine ordS_take (i := 14) (oi := { dst := some 167, op := Op.load 24 (Operand.tmp 166), type := 24, pos := _, after := #[{ on := 13, ground := Ground.data }, { on := 10, ground := Ground.guard }], guard := some (10, false) }) (v := undef) rfl (by kernel_rfl) (by kernel_rfl) (by kernel_rfl) (by kernel_rfl) (fun _ _ _ h => h) (by assumption) (Or.inr ⟨by rfl, rfl⟩) (fun _ => rfl) ?_)
                      try simp only [Act.put, List.setIfInBounds_toArray, List.set_cons_zero, List.set_cons_succ]
                      first
                        | (refine' ordS_take (i := 15) (oi := { dst := some 168, op := Op.load 24 (Operand.tmp 13), type := 24, pos := _, after := #[{ on := 10, ground := Ground.guard }], guard := some (10, false) }) (v := _) rfl (by kernel_rfl) (by kernel_rfl) (by kernel_rfl) (by kernel_rfl) (fun _ _ _ h => h) (by assumption) (Or.inl ⟨by rfl, ?hy68⟩) (fun _ => rfl) ?rest68
                           case hy68 => (intro w hSw; (try dsimp only at hSw); go_simp; try with_reducible rfl))
                        | (refine ordS_take (i := 15) (oi := { dst := some 168, op := Op.load 24 (Operand.tmp 13), type := 24, pos := _, after := #[{ on := 10, ground := Ground.guard }], guard := some (10, false) }) (v := undef) rfl (by kernel_rfl) (by kernel_rfl) (by kernel_rfl) (by kernel_rfl) (fun _ _ _ h => h) (by assumption) (Or.inr ⟨by rfl, rfl⟩) (fun _ => rfl) ?_)
                      try simp only [Act.put, List.setIfInBounds_toArray, List.set_cons_zero, List.set_cons_succ]
                      refine ordS_one (i := 16) (o := { dst := some 169, op := Op.binOp BinOp.neq 24 (Operand.tmp 167) (Operand.tmp 168) 24, type := 4, pos := _, after := #[{ on := 14, ground := Ground.data }, { on := 15, ground := Ground.data }, { on := 10, ground := Ground.guard }], guard := some (10, false) }) (by kernel_rfl) rfl (by rfl) (fun K hK => ?_)
                      go_simp
                      refine hK _ _ hS2 ?_
                      clear hK K
                      try simp only [Act.put, List.setIfInBounds_toArray, List.set_cons_zero, List.set_cons_succ]
                      first
                        | (refine' ordS_take (i := 17) (oi := { dst := some 170, op := Op.move (Operand.tmp 169), type := 4, pos := _, after := #[{ on := 16, ground := Ground.data }, { on := 10, ground := Ground.chain }, { on := 10, ground := Ground.guard }], guard := some (10, false) }) (v := _) rfl (by kernel_rfl) (by kernel_rfl) (by kernel_rfl) (by kernel_rfl) (fun _ _ _ h => h) (by assumption) (Or.inl ⟨by rfl, ?hy69⟩) (fun _ => rfl) ?rest69
                           case hy69 => (intro w hSw; (try dsimp only at hSw); go_simp; try with_reducible rfl))
                        | (refine ordS_take (i := 17) (oi := { dst := some 170, op := Op.move (Operand.tmp 169), type := 4, pos := _, after := #[{ on := 16, ground := Ground.data }, { on := 10, ground := Ground.chain }, { on := 10, ground := Ground.guard }], guard := some (10, false) }) (v := undef) rfl (by kernel_rfl) (by kernel_rfl) (by kernel_rfl) (by kernel_rfl) (fun _ _ _ h => h) (by assumption) (Or.inr ⟨by rfl, rfl⟩) (fun _ => rfl) ?_)
                      try simp only [Act.put, List.setIfInBounds_toArray, List.set_cons_zero, List.set_cons_succ]
                      first
                        | (refine' ordS_take (i := 18) (oi := { dst := some 171, op := Op.move (Operand.tmp 17), type := 42, pos := _, after := #[{ on := 17, ground := Ground.guard }], guard := some (17, true) }) (v := _) rfl (by kernel_rfl) (by kernel_rfl) (by kernel_rfl) (by kernel_rfl) (fun _ _ _ h => h) (by assumption) (Or.inl ⟨by rfl, ?hy70⟩) (fun _ => rfl) ?rest70
                           case hy70 => (intro w hSw; (try dsimp only at hSw); go_simp; try with_reducible rfl))
                        | (refine ordS_take (i := 18) (oi := { dst := some 171, op := Op.move (Operand.tmp 17), type := 42, pos := _, after := #[{ on := 17, ground := Ground.guard }], guard := some (17, true) }) (v := undef) rfl (by kernel_rfl) (by kernel_rfl) (by kernel_rfl) (by kernel_rfl) (fun _ _ _ h => h) (by assumption) (Or.inr ⟨by rfl, rfl⟩) (fun _ => rfl) ?_)
                      try simp only [Act.put, List.setIfInBounds_toArray, List.set_cons_zero, List.set_cons_succ]
                      first
                        | (refine' ordS_take (i := 19) (oi := { dst := some 172, op := Op.binOp BinOp.neq 42 (Operand.tmp 171) (Operand.const (Value.int IntKind.i64 0)) 42, type := 4, pos := _, after := #[{ on := 18, ground := Ground.data }, { on := 17, ground := Ground.guard }], guard := some (17, true) }) (v := _) rfl (by kernel_rfl) (by kernel_rfl) (by kernel_rfl) (by kernel_rfl) (fun _ _ _ h => h) (by assumption) (Or.inl ⟨by rfl, ?hy71⟩) (fun _ => rfl) ?rest71
                           case hy71 => (intro w hSw; (try dsimp only at hSw); go_simp; try with_reducible rfl))
                        | (refine ordS_take (i := 19) (oi := { dst := some 172, op := Op.binOp BinOp.neq 42 (Operand.tmp 171) (Operand.const (Value.int IntKind.i64 0)) 42, type := 4, pos := _, after := #[{ on := 18, ground := Ground.data }, { on := 17, ground := Ground.guard }], guard := some (17, true) }) (v := undef) rfl (by kernel_rfl) (by kernel_rfl) (by kernel_rfl) (by kernel_rfl) (fun _ _ _ h => h) (by assumption) (Or.inr ⟨by rfl, rfl⟩) (fun _ => rfl) ?_)
                      try simp only [Act.put, List.setIfInBounds_toArray, List.set_cons_zero, List.set_cons_succ]
                      first
                        | (refine' ordS_take (i := 20) (oi := { dst := some 173, op := Op.pick (Operand.tmp 170) (Operand.tmp 172) (Operand.const (Value.bool false)), type := 4, pos := _, after := #[{ on := 17, ground := Ground.data }, { on := 19, ground := Ground.data }, { on := 10, ground := Ground.guard }], guard := some (10, false) }) (v := _) rfl (by kernel_rfl) (by kernel_rfl) (by kernel_rfl) (by kernel_rfl) (fun _ _ _ h => h) (by assumption) (Or.inl ⟨by rfl, ?hy72⟩) (fun _ => rfl) ?rest72
                           case hy72 => (intro w hSw; (try dsimp only at hSw); go_simp; try with_reducible rfl))
                        | (refine ordS_take (i := 20) (oi := { dst := some 173, op := Op.pick (Operand.tmp 170) (Operand.tmp 172) (Operand.const (Value.bool false)), type := 4, pos := _, after := #[{ on := 17, ground := Ground.data }, { on := 19, ground := Ground.data }, { on := 10, ground := Ground.guard }], guard := some (10, false) }) (v := undef) rfl (by kernel_rfl) (by kernel_rfl) (by kernel_rfl) (by kernel_rfl) (fun _ _ _ h => h) (by assumption) (Or.inr ⟨by rfl, rfl⟩) (fun _ => rfl) ?_)
                      try simp only [Act.put, List.setIfInBounds_toArray, List.set_cons_zero, List.set_cons_succ]
                      first
                        | (refine' ordS_take (i := 21) (oi := { dst := some 174, op := Op.pick (Operand.tmp 163) (Operand.const (Value.bool true)) (Operand.tmp 173), type := 4, pos := _, after := #[{ on := 10, ground := Ground.data }, { on := 20, ground := Ground.data }], guard := none }) (v := _) rfl (by kernel_rfl) (by kernel_rfl) (by kernel_rfl) (by kernel_rfl) (fun _ _ _ h => h) (by assumption) (Or.inl ⟨by rfl, ?hy73⟩) (fun _ => rfl) ?rest73
                           case hy73 => (intro w hSw; (try dsimp only at hSw); go_simp; try with_reducible rfl))
                        | (refine ordS_take (i := 21) (oi := { dst := some 174, op := Op.pick (Operand.tmp 163) (Operand.const (Value.bool true)) (Operand.tmp 173), type := 4, pos := _, after := #[{ on := 10, ground := Ground.data }, { on := 20, ground := Ground.data }], guard := none }) (v := undef) rfl (by kernel_rfl) (by kernel_rfl) (by kernel_rfl) (by kernel_rfl) (fun _ _ _ h => h) (by assumption) (Or.inr ⟨by rfl, rfl⟩) (fun _ => rfl) ?_)
                      try simp only [Act.put, List.setIfInBounds_toArray, List.set_cons_zero, List.set_cons_succ]
                      refine ordS_done (by kernel_rfl) ?_
                      clear hS2
                      have h6 := h5.below hB
                      have hA6 := bl_tr hA5 hB
                      clear h5 hA5 hB p0 p1 p2 p3 m0 m1 m2 m3 q0 q1 q2 q3
                      go_wp2
                      go_roundw
                      case rel => exact ⟨k + 1, by omega, by go_num, h6, hA6⟩
                      case measure => simp [intOf]; omega
                    · simp only [if_true] at hcall
                      go_wp2_with fail
                      refine hcall.mono ?_
                      rintro e w5 ⟨rfl, h5, hb⟩
                      have hA5 := hAr.trans hb
                      clear hcall hb hS hAr p0 p1 p2 p3
                      have p0 := cell_later hA5 q0
                      have p1 := cell_later hA5 q1
                      have p2 := cell_later hA5 q2
                      have p3 := cell_later hA5 q3
                      obtain ⟨rm, _⟩ := Sep.cells (l1 := [RowO 3 1 (.slice (some ⟨g, 0, none⟩) ks.length cap) ks.length (cellsI is), HeapO p (idxM ks), HeapO q (byM (fun x => atT ks x.toNat) is), HeapO l (byM (halfF ks (k + 1)) is)]) (l2 := []) h5
                      have m0 : w5.cell? ⟨mb, 0, none⟩ = some (.int .u64 18446744073709551615) := by simp [World.cell?, rm]
                      have m1 : w5.cell? ⟨mb, 1, none⟩ = some (.int .u64 18446744073709551615) := by simp [World.cell?, rm]
                      have m2 : w5.cell? ⟨mb, 2, none⟩ = some (.int .i64 9223372036854775807) := by simp [World.cell?, rm]
                      have m3 : w5.cell? ⟨mb, 3, none⟩ = some (.int .i64 9223372036854775807) := by simp [World.cell?, rm]
                      clear rm
                      have hB := bl_dr (bl0 w5)
                      go_upto_region 28 with fail
                      have hS2 : (fun w' : World => w'.cell? ⟨gb, go + k * 4, none⟩ = some (.int .u64 t.F) ∧ w'.cell? ⟨gb, go + k * 4 + 1, none⟩ = some (.int .u64 t.H) ∧ w'.cell? ⟨gb, go + k * 4 + 2, none⟩ = some (.int .i64 t.Y) ∧ w'.cell? ⟨gb, go + k * 4 + 3, none⟩ = some (.int .i64 t.X) ∧ w'.cell? ⟨mb, 0, none⟩ = some (.int .u64 18446744073709551615) ∧ w'.cell? ⟨mb, 1, none⟩ = some (.int .u64 18446744073709551615) ∧ w'.cell? ⟨mb, 2, none⟩ = some (.int .i64 9223372036854775807) ∧ w'.cell? ⟨mb, 3, none⟩ = some (.int .i64 9223372036854775807)) w5.drew := ⟨cell_later hB p0, cell_later hB p1, cell_later hB p2, cell_later hB p3, cell_later hB m0, cell_later hB m1, cell_later hB m2, cell_later hB m3⟩
                      refine (wpIn_wide (n := 11)).1 ?_
                      refine ordS_begin (S := (fun w' : World => w'.cell? ⟨gb, go + k * 4, none⟩ = some (.int .u64 t.F) ∧ w'.cell? ⟨gb, go + k * 4 + 1, none⟩ = some (.int .u64 t.H) ∧ w'.cell? ⟨gb, go + k * 4 + 2, none⟩ = some (.int .i64 t.Y) ∧ w'.cell? ⟨gb, go + k * 4 + 3, none⟩ = some (.int .i64 t.X) ∧ w'.cell? ⟨mb, 0, none⟩ = some (.int .u64 18446744073709551615) ∧ w'.cell? ⟨mb, 1, none⟩ = some (.int .u64 18446744073709551615) ∧ w'.cell? ⟨mb, 2, none⟩ = some (.int .i64 9223372036854775807) ∧ w'.cell? ⟨mb, 3, none⟩ = some (.int .i64 9223372036854775807))) (by kernel_rfl) hS2 (fun _ => ?_)
                      first
                        | (refine' ordS_take (i := 0) (oi := { dst := some 153, op := Op.move (Operand.tmp 0), type := 55, pos := _, after := #[], guard := none }) (v := _) rfl (by kernel_rfl) (by kernel_rfl) (by kernel_rfl) (by kernel_rfl) (fun _ _ _ h => h) (by assumption) (Or.inl ⟨by rfl, ?hy74⟩) (fun _ => rfl) ?rest74
                           case hy74 => (intro w hSw; (try dsimp only at hSw); go_simp; try with_reducible rfl))
                        | (refine ordS_take (i := 0) (oi := { dst := some 153, op := Op.move (Operand.tmp 0), type := 55, pos := _, after := #[], guard := none }) (v := undef) rfl (by kernel_rfl) (by kernel_rfl) (by kernel_rfl) (by kernel_rfl) (fun _ _ _ h => h) (by assumption) (Or.inr ⟨by rfl, rfl⟩) (fun _ => rfl) ?_)
                      try simp only [Act.put, List.setIfInBounds_toArray, List.set_cons_zero, List.set_cons_succ]
                      first
                        | (refine' ordS_take (i := 1) (oi := { dst := some 154, op := Op.move (Operand.tmp 16), type := 3, pos := _, after := #[], guard := none }) (v := _) rfl (by kernel_rfl) (by kernel_rfl) (by kernel_rfl) (by kernel_rfl) (fun _ _ _ h => h) (by assumption) (Or.inl ⟨by rfl, ?hy75⟩) (fun _ => rfl) ?rest75
                           case hy75 => (intro w hSw; (try dsimp only at hSw); go_simp; try with_reducible rfl))
                        | (refine ordS_take (i := 1) (oi := { dst := some 154, op := Op.move (Operand.tmp 16), type := 3, pos := _, after := #[], guard := none }) (v := undef) rfl (by kernel_rfl) (by kernel_rfl) (by kernel_rfl) (by kernel_rfl) (fun _ _ _ h => h) (by assumption) (Or.inr ⟨by rfl, rfl⟩) (fun _ => rfl) ?_)
                      try simp only [Act.put, List.setIfInBounds_toArray, List.set_cons_zero, List.set_cons_succ]
                      first
                        | (refine' ordS_take (i := 2) (oi := { dst := some 155, op := Op.indexAddr 55 (Operand.tmp 153) (Operand.tmp 154), type := 0, pos := _, after := #[{ on := 0, ground := Ground.data }, { on := 1, ground := Ground.data }], guard := none }) (v := _) rfl (by kernel_rfl) (by kernel_rfl) (by kernel_rfl) (by kernel_rfl) (fun _ _ _ h => h) (by assumption) (Or.inl ⟨by rfl, ?hy76⟩) (fun _ => rfl) ?rest76
                           case hy76 => (intro w hSw; (try dsimp only at hSw); go_simp; try with_reducible rfl))
                        | (refine ordS_take (i := 2) (oi := { dst := some 155, op := Op.indexAddr 55 (Operand.tmp 153) (Operand.tmp 154), type := 0, pos := _, after := #[{ on := 0, ground := Ground.data }, { on := 1, ground := Ground.data }], guard := none }) (v := undef) rfl (by kernel_rfl) (by kernel_rfl) (by kernel_rfl) (by kernel_rfl) (fun _ _ _ h => h) (by assumption) (Or.inr ⟨by rfl, rfl⟩) (fun _ => rfl) ?_)
                      try simp only [Act.put, List.setIfInBounds_toArray, List.set_cons_zero, List.set_cons_succ]
                      first
                        | (refine' ordS_take (i := 3) (oi := { dst := some 156, op := Op.load 24 (Operand.tmp 155), type := 24, pos := _, after := #[{ on := 2, ground := Ground.data }], guard := none }) (v := _) rfl (by kernel_rfl) (by kernel_rfl) (by kernel_rfl) (by kernel_rfl) (fun _ _ _ h => h) (by assumption) (Or.inl ⟨by rfl, ?hy77⟩) (fun _ => rfl) ?rest77
                           case hy77 => (intro w hSw; (try dsimp only at hSw); go_simp; try with_reducible rfl))
                        | (refine ordS_take (i := 3) (oi := { dst := some 156, op := Op.load 24 (Operand.tmp 155), type := 24, pos := _, after := #[{ on := 2, ground := Ground.data }], guard := none }) (v := undef) rfl (by kernel_rfl) (by kernel_rfl) (by kernel_rfl) (by kernel_rfl) (fun _ _ _ h => h) (by assumption) (Or.inr ⟨by rfl, rfl⟩) (fun _ => rfl) ?_)
                      try simp only [Act.put, List.setIfInBounds_toArray, List.set_cons_zero, List.set_cons_succ]
                      first
                        | (refine' ordS_take (i := 4) (oi := { dst := some 157, op := Op.load 24 (Operand.tmp 13), type := 24, pos := _, after := #[], guard := none }) (v := _) rfl (by kernel_rfl) (by kernel_rfl) (by kernel_rfl) (by kernel_rfl) (fun _ _ _ h => h) (by assumption) (Or.inl ⟨by rfl, ?hy78⟩) (fun _ => rfl) ?rest78
                           case hy78 => (intro w hSw; (try dsimp only at hSw); go_simp; try with_reducible rfl))
                        | (refine ordS_take (i := 4) (oi := { dst := some 157, op := Op.load 24 (Operand.tmp 13), type := 24, pos := _, after := #[], guard := none }) (v := undef) rfl (by kernel_rfl) (by kernel_rfl) (by kernel_rfl) (by kernel_rfl) (fun _ _ _ h => h) (by assumption) (Or.inr ⟨by rfl, rfl⟩) (fun _ => rfl) ?_)
                      try simp only [Act.put, List.setIfInBounds_toArray, List.set_cons_zero, List.set_cons_succ]
                      refine ordS_one (i := 5) (o := { dst := some 158, op := Op.binOp BinOp.eql 24 (Operand.tmp 156) (Operand.tmp 157) 24, type := 4, pos := _, after := #[{ on := 3, ground := Ground.data }, { on := 4, ground := Ground.data }], guard := none }) (by kernel_rfl) rfl (by rfl) (fun K hK => ?_)
                      go_simp
                      refine hK _ _ hS2 ?_
                      clear hK K
                      try simp only [Act.put, List.setIfInBounds_toArray, List.set_cons_zero, List.set_cons_succ]
                      first
                        | (refine' ordS_take (i := 6) (oi := { dst := some 159, op := Op.move (Operand.tmp 158), type := 4, pos := _, after := #[{ on := 5, ground := Ground.data }], guard := none }) (v := _) rfl (by kernel_rfl) (by kernel_rfl) (by kernel_rfl) (by kernel_rfl) (fun _ _ _ h => h) (by assumption) (Or.inl ⟨by rfl, ?hy79⟩) (fun _ => rfl) ?rest79
                           case hy79 => (intro w hSw; (try dsimp only at hSw); go_simp; try with_reducible rfl))
                        | (refine ordS_take (i := 6) (oi := { dst := some 159, op := Op.move (Operand.tmp 158), type := 4, pos := _, after := #[{ on := 5, ground := Ground.data }], guard := none }) (v := undef) rfl (by kernel_rfl) (by kernel_rfl) (by kernel_rfl) (by kernel_rfl) (fun _ _ _ h => h) (by assumption) (Or.inr ⟨by rfl, rfl⟩) (fun _ => rfl) ?_)
                      try simp only [Act.put, List.setIfInBounds_toArray, List.set_cons_zero, List.set_cons_succ]
                      first
                        | (refine' ordS_take (i := 7) (oi := { dst := some 160, op := Op.move (Operand.tmp 17), type := 42, pos := _, after := #[{ on := 6, ground := Ground.guard }], guard := some (6, true) }) (v := _) rfl (by kernel_rfl) (by kernel_rfl) (by kernel_rfl) (by kernel_rfl) (fun _ _ _ h => h) (by assumption) (Or.inl ⟨by rfl, ?hy80⟩) (fun _ => rfl) ?rest80
                           case hy80 => (intro w hSw; (try dsimp only at hSw); go_simp; try with_reducible rfl))
                        | (refine ordS_take (i := 7) (oi := { dst := some 160, op := Op.move (Operand.tmp 17), type := 42, pos := _, after := #[{ on := 6, ground := Ground.guard }], guard := some (6, true) }) (v := undef) rfl (by kernel_rfl) (by kernel_rfl) (by kernel_rfl) (by kernel_rfl) (fun _ _ _ h => h) (by assumption) (Or.inr ⟨by rfl, rfl⟩) (fun _ => rfl) ?_)
                      try simp only [Act.put, List.setIfInBounds_toArray, List.set_cons_zero, List.set_cons_succ]
                      first
                        | (refine' ordS_take (i := 8) (oi := { dst := some 161, op := Op.binOp BinOp.neq 42 (Operand.tmp 160) (Operand.const (Value.int IntKind.i64 1)) 42, type := 4, pos := _, after := #[{ on := 7, ground := Ground.data }, { on := 6, ground := Ground.guard }], guard := some (6, true) }) (v := _) rfl (by kernel_rfl) (by kernel_rfl) (by kernel_rfl) (by kernel_rfl) (fun _ _ _ h => h) (by assumption) (Or.inl ⟨by rfl, ?hy81⟩) (fun _ => rfl) ?rest81
                           case hy81 => (intro w hSw; (try dsimp only at hSw); go_simp; try with_reducible rfl))
                        | (refine ordS_take (i := 8) (oi := { dst := some 161, op := Op.binOp BinOp.neq 42 (Operand.tmp 160) (Operand.const (Value.int IntKind.i64 1)) 42, type := 4, pos := _, after := #[{ on := 7, ground := Ground.data }, { on := 6, ground := Ground.guard }], guard := some (6, true) }) (v := undef) rfl (by kernel_rfl) (by kernel_rfl) (by kernel_rfl) (by kernel_rfl) (fun _ _ _ h => h) (by assumption) (Or.inr ⟨by rfl, rfl⟩) (fun _ => rfl) ?_)
                      try simp only [Act.put, List.setIfInBounds_toArray, List.set_cons_zero, List.set_cons_succ]
                      first
                        | (refine' ordS_take (i := 9) (oi := { dst := some 162, op := Op.pick (Operand.tmp 159) (Operand.tmp 161) (Operand.const (Value.bool false)), type := 4, pos := _, after := #[{ on := 6, ground := Ground.data }, { on := 8, ground := Ground.data }], guard := none }) (v := _) rfl (by kernel_rfl) (by kernel_rfl) (by kernel_rfl) (by kernel_rfl) (fun _ _ _ h => h) (by assumption) (Or.inl ⟨by rfl, ?hy82⟩) (fun _ => rfl) ?rest82
                           case hy82 => (intro w hSw; (try dsimp only at hSw); go_simp; try with_reducible rfl))
                        | (refine ordS_take (i := 9) (oi := { dst := some 162, op := Op.pick (Operand.tmp 159) (Operand.tmp 161) (Operand.const (Value.bool false)), type := 4, pos := _, after := #[{ on := 6, ground := Ground.data }, { on := 8, ground := Ground.data }], guard := none }) (v := undef) rfl (by kernel_rfl) (by kernel_rfl) (by kernel_rfl) (by kernel_rfl) (fun _ _ _ h => h) (by assumption) (Or.inr ⟨by rfl, rfl⟩) (fun _ => rfl) ?_)
                      try simp only [Act.put, List.setIfInBounds_toArray, List.set_cons_zero, List.set_cons_succ]
                      first
                        | (refine' ordS_take (i := 10) (oi := { dst := some 163, op := Op.move (Operand.tmp 162), type := 4, pos := _, after := #[{ on := 9, ground := Ground.data }, { on := 6, ground := Ground.chain }], guard := none }) (v := _) rfl (by kernel_rfl) (by kernel_rfl) (by kernel_rfl) (by kernel_rfl) (fun _ _ _ h => h) (by assumption) (Or.inl ⟨by rfl, ?hy83⟩) (fun _ => rfl) ?rest83
                           case hy83 => (intro w hSw; (try dsimp only at hSw); go_simp; try with_reducible rfl))
                        | (refine ordS_take (i := 10) (oi := { dst := some 163, op := Op.move (Operand.tmp 162), type := 4, pos := _, after := #[{ on := 9, ground := Ground.data }, { on := 6, ground := Ground.chain }], guard := none }) (v := undef) rfl (by kernel_rfl) (by kernel_rfl) (by kernel_rfl) (by kernel_rfl) (fun _ _ _ h => h) (by assumption) (Or.inr ⟨by rfl, rfl⟩) (fun _ => rfl) ?_)
                      try simp only [Act.put, List.setIfInBounds_toArray, List.set_cons_zero, List.set_cons_succ]
                      first
                        | (refine' ordS_take (i := 11) (oi := { dst := some 164, op := Op.move (Operand.tmp 0), type := 55, pos := _, after := #[{ on := 10, ground := Ground.guard }], guard := some (10, false) }) (v := _) rfl (by kernel_rfl) (by kernel_rfl) (by kernel_rfl) (by kernel_rfl) (fun _ _ _ h => h) (by assumption) (Or.inl ⟨by rfl, ?hy84⟩) (fun _ => rfl) ?rest84
                           case hy84 => (intro w hSw; (try dsimp only at hSw); go_simp; try with_reducible rfl))
                        | (refine ordS_take (i := 11) (oi := { dst := some 164, op := Op.move (Operand.tmp 0), type := 55, pos := _, after := #[{ on := 10, ground := Ground.guard }], guard := some (10, false) }) (v := undef) rfl (by kernel_rfl) (by kernel_rfl) (by kernel_rfl) (by kernel_rfl) (fun _ _ _ h => h) (by assumption) (Or.inr ⟨by rfl, rfl⟩) (fun _ => rfl) ?_)
                      try simp only [Act.put, List.setIfInBounds_toArray, List.set_cons_zero, List.set_cons_succ]
                      first
                        | (refine' ordS_take (i := 12) (oi := { dst := some 165, op := Op.move (Operand.tmp 16), type := 3, pos := _, after := #[{ on := 10, ground := Ground.guard }], guard := some (10, false) }) (v := _) rfl (by kernel_rfl) (by kernel_rfl) (by kernel_rfl) (by kernel_rfl) (fun _ _ _ h => h) (by assumption) (Or.inl ⟨by rfl, ?hy85⟩) (fun _ => rfl) ?rest85
                           case hy85 => (intro w hSw; (try dsimp only at hSw); go_simp; try with_reducible rfl))
                        | (refine ordS_take (i := 12) (oi := { dst := some 165, op := Op.move (Operand.tmp 16), type := 3, pos := _, after := #[{ on := 10, ground := Ground.guard }], guard := some (10, false) }) (v := undef) rfl (by kernel_rfl) (by kernel_rfl) (by kernel_rfl) (by kernel_rfl) (fun _ _ _ h => h) (by assumption) (Or.inr ⟨by rfl, rfl⟩) (fun _ => rfl) ?_)
                      try simp only [Act.put, List.setIfInBounds_toArray, List.set_cons_zero, List.set_cons_succ]
                      first
                        | (refine' ordS_take (i := 13) (oi := { dst := some 166, op := Op.indexAddr 55 (Operand.tmp 164) (Operand.tmp 165), type := 0, pos := _, after := #[{ on := 11, ground := Ground.data }, { on := 12, ground := Ground.data }, { on := 10, ground := Ground.guard }], guard := some (10, false) }) (v := _) rfl (by kernel_rfl) (by kernel_rfl) (by kernel_rfl) (by kernel_rfl) (fun _ _ _ h => h) (by assumption) (Or.inl ⟨by rfl, ?hy86⟩) (fun _ => rfl) ?rest86
                           case hy86 => (intro w hSw; (try dsimp only at hSw); go_simp; try with_reducible rfl))
                        | (refine ordS_take (i := 13) (oi := { dst := some 166, op := Op.indexAddr 55 (Operand.tmp 164) (Operand.tmp 165), type := 0, pos := _, after := #[{ on := 11, ground := Ground.data }, { on := 12, ground := Ground.data }, { on := 10, ground := Ground.guard }], guard := some (10, false) }) (v := undef) rfl (by kernel_rfl) (by kernel_rfl) (by kernel_rfl) (by kernel_rfl) (fun _ _ _ h => h) (by assumption) (Or.inr ⟨by rfl, rfl⟩) (fun _ => rfl) ?_)
                      try simp only [Act.put, List.setIfInBounds_toArray, List.set_cons_zero, List.set_cons_succ]
                      first
                        | (refine' ordS_take (i := 14) (oi := { dst := some 167, op := Op.load 24 (Operand.tmp 166), type := 24, pos := _, after := #[{ on := 13, ground := Ground.data }, { on := 10, ground := Ground.guard }], guard := some (10, false) }) (v := _) rfl (by kernel_rfl) (by kernel_rfl) (by kernel_rfl) (by kernel_rfl) (fun _ _ _ h => h) (by assumption) (Or.inl ⟨by rfl, ?hy87⟩) (fun _ => rfl) ?rest87
                           case hy87 => (intro w hSw; (try dsimp only at hSw); go_simp; try with_reducible rfl))
                        | (refine ordS_take (i := 14) (oi := { dst := some 167, op := Op.load 24 (Operand.tmp 166), type := 24, pos := _, after := #[{ on := 13, ground := Ground.data }, { on := 10, ground := Ground.guard }], guard := some (10, false) }) (v := undef) rfl (by kernel_rfl) (by kernel_rfl) (by kernel_rfl) (by kernel_rfl) (fun _ _ _ h => h) (by assumption) (Or.inr ⟨by rfl, rfl⟩) (fun _ => rfl) ?_)
                      try simp only [Act.put, List.setIfInBounds_toArray, List.set_cons_zero, List.set_cons_succ]
                      first
                        | (refine' ordS_take (i := 15) (oi := { dst := some 168, op := Op.load 24 (Operand.tmp 13), type := 24, pos := _, after := #[{ on := 10, ground := Ground.guard }], guard := some (10, false) }) (v := _) rfl (by kernel_rfl) (by kernel_rfl) (by kernel_rfl) (by kernel_rfl) (fun _ _ _ h => h) (by assumption) (Or.inl ⟨by rfl, ?hy88⟩) (fun _ => rfl) ?rest88
                           case hy88 => (intro w hSw; (try dsimp only at hSw); go_simp; try with_reducible rfl))
                        | (refine ordS_take (i := 15) (oi := { dst := some 168, op := Op.load 24 (Operand.tmp 13), type := 24, pos := _, after := #[{ on := 10, ground := Ground.guard }], guard := some (10, false) }) (v := undef) rfl (by kernel_rfl) (by kernel_rfl) (by kernel_rfl) (by kernel_rfl) (fun _ _ _ h => h) (by assumption) (Or.inr ⟨by rfl, rfl⟩) (fun _ => rfl) ?_)
                      try simp only [Act.put, List.setIfInBounds_toArray, List.set_cons_zero, List.set_cons_succ]
                      refine ordS_one (i := 16) (o := { dst := some 169, op := Op.binOp BinOp.neq 24 (Operand.tmp 167) (Operand.tmp 168) 24, type := 4, pos := _, after := #[{ on := 14, ground := Ground.data }, { on := 15, ground := Ground.data }, { on := 10, ground := Ground.guard }], guard := some (10, false) }) (by kernel_rfl) rfl (by rfl) (fun K hK => ?_)
                      go_simp
                      refine hK _ _ hS2 ?_
                      clear hK K
                      try simp only [Act.put, List.setIfInBounds_toArray, List.set_cons_zero, List.set_cons_succ]
                      first
                        | (refine' ordS_take (i := 17) (oi := { dst := some 170, op := Op.move (Operand.tmp 169), type := 4, pos := _, after := #[{ on := 16, ground := Ground.data }, { on := 10, ground := Ground.chain }, { on := 10, ground := Ground.guard }], guard := some (10, false) }) (v := _) rfl (by kernel_rfl) (by kernel_rfl) (by kernel_rfl) (by kernel_rfl) (fun _ _ _ h => h) (by assumption) (Or.inl ⟨by rfl, ?hy89⟩) (fun _ => rfl) ?rest89
                           case hy89 => (intro w hSw; (try dsimp only at hSw); go_simp; try with_reducible rfl))
                        | (refine ordS_take (i := 17) (oi := { dst := some 170, op := Op.move (Operand.tmp 169), type := 4, pos := _, after := #[{ on := 16, ground := Ground.data }, { on := 10, ground := Ground.chain }, { on := 10, ground := Ground.guard }], guard := some (10, false) }) (v := undef) rfl (by kernel_rfl) (by kernel_rfl) (by kernel_rfl) (by kernel_rfl) (fun _ _ _ h => h) (by assumption) (Or.inr ⟨by rfl, rfl⟩) (fun _ => rfl) ?_)
                      try simp only [Act.put, List.setIfInBounds_toArray, List.set_cons_zero, List.set_cons_succ]
                      first
                        | (refine' ordS_take (i := 18) (oi := { dst := some 171, op := Op.move (Operand.tmp 17), type := 42, pos := _, after := #[{ on := 17, ground := Ground.guard }], guard := some (17, true) }) (v := _) rfl (by kernel_rfl) (by kernel_rfl) (by kernel_rfl) (by kernel_rfl) (fun _ _ _ h => h) (by assumption) (Or.inl ⟨by rfl, ?hy90⟩) (fun _ => rfl) ?rest90
                           case hy90 => (intro w hSw; (try dsimp only at hSw); go_simp; try with_reducible rfl))
                        | (refine ordS_take (i := 18) (oi := { dst := some 171, op := Op.move (Operand.tmp 17), type := 42, pos := _, after := #[{ on := 17, ground := Ground.guard }], guard := some (17, true) }) (v := undef) rfl (by kernel_rfl) (by kernel_rfl) (by kernel_rfl) (by kernel_rfl) (fun _ _ _ h => h) (by assumption) (Or.inr ⟨by rfl, rfl⟩) (fun _ => rfl) ?_)
                      try simp only [Act.put, List.setIfInBounds_toArray, List.set_cons_zero, List.set_cons_succ]
                      first
                        | (refine' ordS_take (i := 19) (oi := { dst := some 172, op := Op.binOp BinOp.neq 42 (Operand.tmp 171) (Operand.const (Value.int IntKind.i64 0)) 42, type := 4, pos := _, after := #[{ on := 18, ground := Ground.data }, { on := 17, ground := Ground.guard }], guard := some (17, true) }) (v := _) rfl (by kernel_rfl) (by kernel_rfl) (by kernel_rfl) (by kernel_rfl) (fun _ _ _ h => h) (by assumption) (Or.inl ⟨by rfl, ?hy91⟩) (fun _ => rfl) ?rest91
                           case hy91 => (intro w hSw; (try dsimp only at hSw); go_simp; try with_reducible rfl))
                        | (refine ordS_take (i := 19) (oi := { dst := some 172, op := Op.binOp BinOp.neq 42 (Operand.tmp 171) (Operand.const (Value.int IntKind.i64 0)) 42, type := 4, pos := _, after := #[{ on := 18, ground := Ground.data }, { on := 17, ground := Ground.guard }], guard := some (17, true) }) (v := undef) rfl (by kernel_rfl) (by kernel_rfl) (by kernel_rfl) (by kernel_rfl) (fun _ _ _ h => h) (by assumption) (Or.inr ⟨by rfl, rfl⟩) (fun _ => rfl) ?_)
                      try simp only [Act.put, List.setIfInBounds_toArray, List.set_cons_zero, List.set_cons_succ]
                      first
                        | (refine' ordS_take (i := 20) (oi := { dst := some 173, op := Op.pick (Operand.tmp 170) (Operand.tmp 172) (Operand.const (Value.bool false)), type := 4, pos := _, after := #[{ on := 17, ground := Ground.data }, { on := 19, ground := Ground.data }, { on := 10, ground := Ground.guard }], guard := some (10, false) }) (v := _) rfl (by kernel_rfl) (by kernel_rfl) (by kernel_rfl) (by kernel_rfl) (fun _ _ _ h => h) (by assumption) (Or.inl ⟨by rfl, ?hy92⟩) (fun _ => rfl) ?rest92
                           case hy92 => (intro w hSw; (try dsimp only at hSw); go_simp; try with_reducible rfl))
                        | (refine ordS_take (i := 20) (oi := { dst := some 173, op := Op.pick (Operand.tmp 170) (Operand.tmp 172) (Operand.const (Value.bool false)), type := 4, pos := _, after := #[{ on := 17, ground := Ground.data }, { on := 19, ground := Ground.data }, { on := 10, ground := Ground.guard }], guard := some (10, false) }) (v := undef) rfl (by kernel_rfl) (by kernel_rfl) (by kernel_rfl) (by kernel_rfl) (fun _ _ _ h => h) (by assumption) (Or.inr ⟨by rfl, rfl⟩) (fun _ => rfl) ?_)
                      try simp only [Act.put, List.setIfInBounds_toArray, List.set_cons_zero, List.set_cons_succ]
                      first
                        | (refine' ordS_take (i := 21) (oi := { dst := some 174, op := Op.pick (Operand.tmp 163) (Operand.const (Value.bool true)) (Operand.tmp 173), type := 4, pos := _, after := #[{ on := 10, ground := Ground.data }, { on := 20, ground := Ground.data }], guard := none }) (v := _) rfl (by kernel_rfl) (by kernel_rfl) (by kernel_rfl) (by kernel_rfl) (fun _ _ _ h => h) (by assumption) (Or.inl ⟨by rfl, ?hy93⟩) (fun _ => rfl) ?rest93
                           case hy93 => (intro w hSw; (try dsimp only at hSw); go_simp; try with_reducible rfl))
                        | (refine ordS_take (i := 21) (oi := { dst := some 174, op := Op.pick (Operand.tmp 163) (Operand.const (Value.bool true)) (Operand.tmp 173), type := 4, pos := _, after := #[{ on := 10, ground := Ground.data }, { on := 20, ground := Ground.data }], guard := none }) (v := undef) rfl (by kernel_rfl) (by kernel_rfl) (by kernel_rfl) (by kernel_rfl) (fun _ _ _ h => h) (by assumption) (Or.inr ⟨by rfl, rfl⟩) (fun _ => rfl) ?_)
                      try simp only [Act.put, List.setIfInBounds_toArray, List.set_cons_zero, List.set_cons_succ]
                      refine ordS_done (by kernel_rfl) ?_
                      clear hS2
                      have h6 := h5.below hB
                      have hA6 := bl_tr hA5 hB
                      clear h5 hA5 hB p0 p1 p2 p3 m0 m1 m2 m3 q0 q1 q2 q3
                      go_wp2
                      go_roundw
                      case rel => exact ⟨k + 1, by omega, by go_num, h6, hA6⟩
                      case measure => simp [intOf]; omega
                  · have hge : (ks.length : Int) ≤ (k : Int) := by omega
                    obtain rfl : k = ks.length := by omega
                    rw [half_end ks is ks.length (fun x hx => by obtain ⟨i, h1, rfl⟩ := mem_idsR.1 (HI.out.mem_iff.1 hx); omega)] at hS
                    have HPM : Hid ((idxM ks).Perm (byM (fun x => atT ks x.toNat) is)) := Lib.hid (by rw [idxM_by]; exact (HI.out.symm.map _))
                    have hml : (idxM ks).length = ks.length := idxM_len ks
                    clear hlt hge hk
                    go_wp2
                    have HNI : Hid (((idxM ks).map Th.id).Nodup) := Lib.hid (by rw [idxM_by, byM_ids]; exact idsR_nodup _)
                    generalize idxM ks = n1 at *
                    generalize byM (fun x => atT ks x.toNat) is = n2 at *
                    go_loopw [18] (fun i wr => ∃ (k : Nat) (m1 m2 : List Th), k ≤ ks.length + 1 ∧ i = .int .i64 k ∧ Hid (m1.Perm m2 ∧ m1.length = ks.length - k ∧ (m1.map Th.id).Nodup) ∧ Sep wr w.heap.size [RowO 3 1 (.slice (some ⟨g, 0, none⟩) ks.length cap) ks.length (cellsI is), HeapO p m1, HeapO q m2, HeapO l m2, CellsO mb #[.int .u64 18446744073709551615, .int .u64 18446744073709551615, .int .i64 9223372036854775807, .int .i64 9223372036854775807] 24] ∧ Below w.heap.size w wr) (fun i _ => ks.length + 1 - (intOf i).toNat)
                    case atStart => exact ⟨0, n1, n2, Nat.zero_le _, rfl, Lib.hid ⟨HPM.out, hml, HNI.out⟩, hS, hAr⟩
                    case round =>
                      obtain ⟨k, m1, m2, hk, rfl, HM, hS, hAr⟩ := hrel
                      have hl2 := HM.out.1.length_eq
                      have hl1 := HM.out.2.1
                      have hm1 : m1.length ≤ 1000000 := by omega
                      have hm2 : m2.length ≤ 1000000 := by omega
                      have hk0 : (0 : Int) ≤ (k : Int) := by omega
                      have hk1 : (k : Int) ≤ 101 := by omega
                      clear hml hl2
                      by_cases hlt : k < ks.length
                      · have hle : (k : Int) ≤ (ks.length : Int) := by omega
                        have hltI : (k : Int) < (ks.length : Int) := by omega
                        have HE : Hid ((!m1.isEmpty) = true) := Lib.hid (by cases m1 with | nil => simp at hl1; omega | cons => rfl)
                        have HEL : Hid ((popM m1).length = ks.length - (k + 1)) := Lib.hid (by
                          have h := (pop_perm HM.out.2.2 (by rintro rfl; simp at hl1; omega)).length_eq
                          simp only [List.length_cons] at h
                          omega)
                        have hlt2 : (k : Int) < (ks.length : Int) := hltI
                        clear hl1
                        have HP2 := Lib.hid (popM_perm HM.out.1)
                        have HN2 := Lib.hid (pop_nodup HM.out.2.2)
                        obtain ⟨t, ht⟩ : ∃ t, firstT m1 = t := ⟨_, rfl⟩
                        have HT := Lib.hid ht
                        have HT2 : Hid (firstT m2 = t) := Lib.hid (by rw [← first_perm HM.out.1]; exact ht)
                        have HE2 : Hid (m2.isEmpty = m1.isEmpty) := Lib.hid (empty_perm HM.out.1).symm
                        have heq : ∀ w : World, _ := fun w => eql_key t t w
                        have hsame : sameK t t = true := by unfold sameK; simp
                        rw [hsame] at heq
                        have hidn : (t.id != t.id) = false := by simp
                        clear ht hsame
                        have hcall := pop_sep (l1 := [RowO 3 1 (.slice (some ⟨g, 0, none⟩) ks.length cap) ks.length (cellsI is)]) (l2 := [HeapO q m2, HeapO l m2, CellsO mb #[.int .u64 18446744073709551615, .int .u64 18446744073709551615, .int .i64 9223372036854775807, .int .i64 9223372036854775807] 24]) hS hm1
                        rw [HT.out, HE.out] at hcall
                        go_wp2_with fail
                        refine hcall.mono ?_
                        rintro e w5 ⟨rfl, h5, hb⟩
                        have hA5 := bl_al (hAr.trans hb) (.cells #[.int .u64 t.F, .int .u64 t.H, .int .i64 t.Y, .int .i64 t.X] 24)
                        replace h5 := h5.box #[.int .u64 t.F, .int .u64 t.H, .int .i64 t.Y, .int .i64 t.X] 24
                        clear hcall hb hS hAr
                        have hcall := pop_sep (l1 := [RowO 3 1 (.slice (some ⟨g, 0, none⟩) ks.length cap) ks.length (cellsI is), HeapO p (popM m1)]) (l2 := [HeapO l m2, CellsO mb #[.int .u64 18446744073709551615, .int .u64 18446744073709551615, .int .i64 9223372036854775807, .int .i64 9223372036854775807] 24, CellsO w5.heap.size #[.int .u64 t.F, .int .u64 t.H, .int .i64 t.Y, .int .i64 t.X] 24]) h5 hm2
                        rw [HT2.out, HE2.out, HE.out] at hcall
                        go_wp2_with fail
                        refine hcall.mono ?_
                        rintro e w6 ⟨rfl, h6, hb⟩
                        have hA6 := bl_al (hA5.trans hb) (.cells #[.int .u64 t.F, .int .u64 t.H, .int .i64 t.Y, .int .i64 t.X] 24)
                        replace h6 := h6.box #[.int .u64 t.F, .int .u64 t.H, .int .i64 t.Y, .int .i64 t.X] 24
                        clear hcall hb h5 hA5
                        have hcall := pop_sep (l1 := [RowO 3 1 (.slice (some ⟨g, 0, none⟩) ks.length cap) ks.length (cellsI is), HeapO p (popM m1), HeapO q (popM m2)]) (l2 := [CellsO mb #[.int .u64 18446744073709551615, .int .u64 18446744073709551615, .int .i64 9223372036854775807, .int .i64 9223372036854775807] 24, CellsO w5.heap.size #[.int .u64 t.F, .int .u64 t.H, .int .i64 t.Y, .int .i64 t.X] 24, CellsO w6.heap.size #[.int .u64 t.F, .int .u64 t.H, .int .i64 t.Y, .int .i64 t.X] 24]) h6 hm2
                        rw [HT2.out, HE2.out, HE.out] at hcall
                        go_wp2_with fail
                        refine hcall.mono ?_
                        rintro e w7 ⟨rfl, h7, hb⟩
                        have hA7 := bl_al (hA6.trans hb) (.cells #[.int .u64 t.F, .int .u64 t.H, .int .i64 t.Y, .int .i64 t.X] 24)
                        replace h7 := h7.box #[.int .u64 t.F, .int .u64 t.H, .int .i64 t.Y, .int .i64 t.X] 24
                        clear hcall hb h6 hA6
                        obtain ⟨r1, _⟩ := Sep.cells (l1 := [RowO 3 1 (.slice (some ⟨g, 0, none⟩) ks.length cap) ks.length (cellsI is), HeapO p (popM m1), HeapO q (popM m2), HeapO l (popM m2), CellsO mb #[.int .u64 18446744073709551615, .int .u64 18446744073709551615, .int .i64 9223372036854775807, .int .i64 9223372036854775807] 24]) (l2 := [CellsO w6.heap.size #[.int .u64 t.F, .int .u64 t.H, .int .i64 t.Y, .int .i64 t.X] 24, CellsO w7.heap.size #[.int .u64 t.F, .int .u64 t.H, .int .i64 t.Y, .int .i64 t.X] 24]) h7
                        obtain ⟨r2, _⟩ := Sep.cells (l1 := [RowO 3 1 (.slice (some ⟨g, 0, none⟩) ks.length cap) ks.length (cellsI is), HeapO p (popM m1), HeapO q (popM m2), HeapO l (popM m2), CellsO mb #[.int .u64 18446744073709551615, .int .u64 18446744073709551615, .int .i64 9223372036854775807, .int .i64 9223372036854775807] 24, CellsO w5.heap.size #[.int .u64 t.F, .int .u64 t.H, .int .i64 t.Y, .int .i64 t.X] 24]) (l2 := [CellsO w7.heap.size #[.int .u64 t.F, .int .u64 t.H, .int .i64 t.Y, .int .i64 t.X] 24]) h7
                        obtain ⟨r3, _⟩ := Sep.cells (l1 := [RowO 3 1 (.slice (some ⟨g, 0, none⟩) ks.length cap) ks.length (cellsI is), HeapO p (popM m1), HeapO q (popM m2), HeapO l (popM m2), CellsO mb #[.int .u64 18446744073709551615, .int .u64 18446744073709551615, .int .i64 9223372036854775807, .int .i64 9223372036854775807] 24, CellsO w5.heap.size #[.int .u64 t.F, .int .u64 t.H, .int .i64 t.Y, .int .i64 t.X] 24, CellsO w6.heap.size #[.int .u64 t.F, .int .u64 t.H, .int .i64 t.Y, .int .i64 t.X] 24]) (l2 := []) h7
                        go_upto_region 36 with fail
                        generalize hW8 : w7.alloc (.cells #[.int .u64 t.F, .int .u64 t.H, .int .i64 t.Y, .int .i64 t.X] 24) = w8 at *
                        have x00 : w8.cell? ⟨w5.heap.size, 0, none⟩ = some (.int .u64 t.F) := by simp [World.cell?, r1]
                        have x01 : w8.cell? ⟨w5.heap.size, 1, none⟩ = some (.int .u64 t.H) := by simp [World.cell?, r1]
                        have x02 : w8.cell? ⟨w5.heap.size, 2, none⟩ = some (.int .i64 t.Y) := by simp [World.cell?, r1]
                        have x03 : w8.cell? ⟨w5.heap.size, 3, none⟩ = some (.int .i64 t.X) := by simp [World.cell?, r1]
                        have x10 : w8.cell? ⟨w6.heap.size, 0, none⟩ = some (.int .u64 t.F) := by simp [World.cell?, r2]
                        have x11 : w8.cell? ⟨w6.heap.size, 1, none⟩ = some (.int .u64 t.H) := by simp [World.cell?, r2]
                        have x12 : w8.cell? ⟨w6.heap.size, 2, none⟩ = some (.int .i64 t.Y) := by simp [World.cell?, r2]
                        have x13 : w8.cell? ⟨w6.heap.size, 3, none⟩ = some (.int .i64 t.X) := by simp [World.cell?, r2]
                        have x20 : w8.cell? ⟨w7.heap.size, 0, none⟩ = some (.int .u64 t.F) := by simp [World.cell?, r3]
                        have x21 : w8.cell? ⟨w7.heap.size, 1, none⟩ = some (.int .u64 t.H) := by simp [World.cell?, r3]
                        have x22 : w8.cell? ⟨w7.heap.size, 2, none⟩ = some (.int .i64 t.Y) := by simp [World.cell?, r3]
                        have x23 : w8.cell? ⟨w7.heap.size, 3, none⟩ = some (.int .i64 t.X) := by simp [World.cell?, r3]
                        clear r1 r2 r3 hW8
                        replace h7 := Sep.drop (l1 := [RowO 3 1 (.slice (some ⟨g, 0, none⟩) ks.length cap) ks.length (cellsI is), HeapO p (popM m1), HeapO q (popM m2), HeapO l (popM m2), CellsO mb #[.int .u64 18446744073709551615, .int .u64 18446744073709551615, .int .i64 9223372036854775807, .int .i64 9223372036854775807] 24, CellsO w5.heap.size #[.int .u64 t.F, .int .u64 t.H, .int .i64 t.Y, .int .i64 t.X] 24, CellsO w6.heap.size #[.int .u64 t.F, .int .u64 t.H, .int .i64 t.Y, .int .i64 t.X] 24]) (l2 := []) h7
                        replace h7 := Sep.drop (l1 := [RowO 3 1 (.slice (some ⟨g, 0, none⟩) ks.length cap) ks.length (cellsI is), HeapO p (popM m1), HeapO q (popM m2), HeapO l (popM m2), CellsO mb #[.int .u64 18446744073709551615, .int .u64 18446744073709551615, .int .i64 9223372036854775807, .int .i64 9223372036854775807] 24, CellsO w5.heap.size #[.int .u64 t.F, .int .u64 t.H, .int .i64 t.Y, .int .i64 t.X] 24]) (l2 := []) h7
                        replace h7 := Sep.drop (l1 := [RowO 3 1 (.slice (some ⟨g, 0, none⟩) ks.length cap) ks.length (cellsI is), HeapO p (popM m1), HeapO q (popM m2), HeapO l (popM m2), CellsO mb #[.int .u64 18446744073709551615, .int .u64 18446744073709551615, .int .i64 9223372036854775807, .int .i64 9223372036854775807] 24]) (l2 := []) h7
                        replace h7 : Sep w8 w.heap.size [RowO 3 1 (.slice (some ⟨g, 0, none⟩) ks.length cap) ks.length (cellsI is), HeapO p (popM m1), HeapO q (popM m2), HeapO l (popM m2), CellsO mb #[.int .u64 18446744073709551615, .int .u64 18446744073709551615, .int .i64 9223372036854775807, .int .i64 9223372036854775807] 24] := h7
                        have HS8 := Lib.hid h7
                        have HA8 := Lib.hid hA7
                        clear h7 hA7
                        go_wp2
                        go_roundw
                        case rel => exact ⟨k + 1, popM m1, popM m2, by omega, by go_num, Lib.hid ⟨HP2.out, HEL.out, HN2.out⟩, HS8.out, HA8.out⟩
                        case measure => simp [intOf]; omega
                      · by_cases hend : k = ks.length
                        · have hle : (k : Int) ≤ (ks.length : Int) := by omega
                          have hlt2 : (ks.length : Int) ≤ (k : Int) := by omega
                          have HE : Hid ((!m1.isEmpty) = false) := Lib.hid (by cases m1 with | nil => rfl | cons => simp at hl1; omega)
                          have HEL : Hid ((popM m1).length = ks.length - (k + 1)) := Lib.hid (by
                            have h := popM_len m1
                            omega)
                          clear hl1 hend
                          have HP2 := Lib.hid (popM_perm HM.out.1)
                          have HN2 := Lib.hid (pop_nodup HM.out.2.2)
                          obtain ⟨t, ht⟩ : ∃ t, firstT m1 = t := ⟨_, rfl⟩
                          have HT := Lib.hid ht
                          have HT2 : Hid (firstT m2 = t) := Lib.hid (by rw [← first_perm HM.out.1]; exact ht)
                          have HE2 : Hid (m2.isEmpty = m1.isEmpty) := Lib.hid (empty_perm HM.out.1).symm
                          have heq : ∀ w : World, _ := fun w => eql_key t t w
                          have hsame : sameK t t = true := by unfold sameK; simp
                          rw [hsame] at heq
                          have hidn : (t.id != t.id) = false := by simp
                          clear ht hsame
                          have hcall := pop_sep (l1 := [RowO 3 1 (.slice (some ⟨g, 0, none⟩) ks.length cap) ks.length (cellsI is)]) (l2 := [HeapO q m2, HeapO l m2, CellsO mb #[.int .u64 18446744073709551615, .int .u64 18446744073709551615, .int .i64 9223372036854775807, .int .i64 9223372036854775807] 24]) hS hm1
                          rw [HT.out, HE.out] at hcall
                          go_wp2_with fail
                          refine hcall.mono ?_
                          rintro e w5 ⟨rfl, h5, hb⟩
                          have hA5 := bl_al (hAr.trans hb) (.cells #[.int .u64 t.F, .int .u64 t.H, .int .i64 t.Y, .int .i64 t.X] 24)
                          replace h5 := h5.box #[.int .u64 t.F, .int .u64 t.H, .int .i64 t.Y, .int .i64 t.X] 24
                          clear hcall hb hS hAr
                          have hcall := pop_sep (l1 := [RowO 3 1 (.slice (some ⟨g, 0, none⟩) ks.length cap) ks.length (cellsI is), HeapO p (popM m1)]) (l2 := [HeapO l m2, CellsO mb #[.int .u64 18446744073709551615, .int .u64 18446744073709551615, .int .i64 9223372036854775807, .int .i64 9223372036854775807] 24, CellsO w5.heap.size #[.int .u64 t.F, .int .u64 t.H, .int .i64 t.Y, .int .i64 t.X] 24]) h5 hm2
                          rw [HT2.out, HE2.out, HE.out] at hcall
                          go_wp2_with fail
                          refine hcall.mono ?_
                          rintro e w6 ⟨rfl, h6, hb⟩
                          have hA6 := bl_al (hA5.trans hb) (.cells #[.int .u64 t.F, .int .u64 t.H, .int .i64 t.Y, .int .i64 t.X] 24)
                          replace h6 := h6.box #[.int .u64 t.F, .int .u64 t.H, .int .i64 t.Y, .int .i64 t.X] 24
                          clear hcall hb h5 hA5
                          have hcall := pop_sep (l1 := [RowO 3 1 (.slice (some ⟨g, 0, none⟩) ks.length cap) ks.length (cellsI is), HeapO p (popM m1), HeapO q (popM m2)]) (l2 := [CellsO mb #[.int .u64 18446744073709551615, .int .u64 18446744073709551615, .int .i64 9223372036854775807, .int .i64 9223372036854775807] 24, CellsO w5.heap.size #[.int .u64 t.F, .int .u64 t.H, .int .i64 t.Y, .int .i64 t.X] 24, CellsO w6.heap.size #[.int .u64 t.F, .int .u64 t.H, .int .i64 t.Y, .int .i64 t.X] 24]) h6 hm2
                          rw [HT2.out, HE2.out, HE.out] at hcall
                          go_wp2_with fail
                          refine hcall.mono ?_
                          rintro e w7 ⟨rfl, h7, hb⟩
                          have hA7 := bl_al (hA6.trans hb) (.cells #[.int .u64 t.F, .int .u64 t.H, .int .i64 t.Y, .int .i64 t.X] 24)
                          replace h7 := h7.box #[.int .u64 t.F, .int .u64 t.H, .int .i64 t.Y, .int .i64 t.X] 24
                          clear hcall hb h6 hA6
                          obtain ⟨r1, _⟩ := Sep.cells (l1 := [RowO 3 1 (.slice (some ⟨g, 0, none⟩) ks.length cap) ks.length (cellsI is), HeapO p (popM m1), HeapO q (popM m2), HeapO l (popM m2), CellsO mb #[.int .u64 18446744073709551615, .int .u64 18446744073709551615, .int .i64 9223372036854775807, .int .i64 9223372036854775807] 24]) (l2 := [CellsO w6.heap.size #[.int .u64 t.F, .int .u64 t.H, .int .i64 t.Y, .int .i64 t.X] 24, CellsO w7.heap.size #[.int .u64 t.F, .int .u64 t.H, .int .i64 t.Y, .int .i64 t.X] 24]) h7
                          obtain ⟨r2, _⟩ := Sep.cells (l1 := [RowO 3 1 (.slice (some ⟨g, 0, none⟩) ks.length cap) ks.length (cellsI is), HeapO p (popM m1), HeapO q (popM m2), HeapO l (popM m2), CellsO mb #[.int .u64 18446744073709551615, .int .u64 18446744073709551615, .int .i64 9223372036854775807, .int .i64 9223372036854775807] 24, CellsO w5.heap.size #[.int .u64 t.F, .int .u64 t.H, .int .i64 t.Y, .int .i64 t.X] 24]) (l2 := [CellsO w7.heap.size #[.int .u64 t.F, .int .u64 t.H, .int .i64 t.Y, .int .i64 t.X] 24]) h7
                          obtain ⟨r3, _⟩ := Sep.cells (l1 := [RowO 3 1 (.slice (some ⟨g, 0, none⟩) ks.length cap) ks.length (cellsI is), HeapO p (popM m1), HeapO q (popM m2), HeapO l (popM m2), CellsO mb #[.int .u64 18446744073709551615, .int .u64 18446744073709551615, .int .i64 9223372036854775807, .int .i64 9223372036854775807] 24, CellsO w5.heap.size #[.int .u64 t.F, .int .u64 t.H, .int .i64 t.Y, .int .i64 t.X] 24, CellsO w6.heap.size #[.int .u64 t.F, .int .u64 t.H, .int .i64 t.Y, .int .i64 t.X] 24]) (l2 := []) h7
                          go_upto_region 36 with fail
                          generalize hW8 : w7.alloc (.cells #[.int .u64 t.F, .int .u64 t.H, .int .i64 t.Y, .int .i64 t.X] 24) = w8 at *
                          have x00 : w8.cell? ⟨w5.heap.size, 0, none⟩ = some (.int .u64 t.F) := by simp [World.cell?, r1]
                          have x01 : w8.cell? ⟨w5.heap.size, 1, none⟩ = some (.int .u64 t.H) := by simp [World.cell?, r1]
                          have x02 : w8.cell? ⟨w5.heap.size, 2, none⟩ = some (.int .i64 t.Y) := by simp [World.cell?, r1]
                          have x03 : w8.cell? ⟨w5.heap.size, 3, none⟩ = some (.int .i64 t.X) := by simp [World.cell?, r1]
                          have x10 : w8.cell? ⟨w6.heap.size, 0, none⟩ = some (.int .u64 t.F) := by simp [World.cell?, r2]
                          have x11 : w8.cell? ⟨w6.heap.size, 1, none⟩ = some (.int .u64 t.H) := by simp [World.cell?, r2]
                          have x12 : w8.cell? ⟨w6.heap.size, 2, none⟩ = some (.int .i64 t.Y) := by simp [World.cell?, r2]
                          have x13 : w8.cell? ⟨w6.heap.size, 3, none⟩ = some (.int .i64 t.X) := by simp [World.cell?, r2]
                          have x20 : w8.cell? ⟨w7.heap.size, 0, none⟩ = some (.int .u64 t.F) := by simp [World.cell?, r3]
                          have x21 : w8.cell? ⟨w7.heap.size, 1, none⟩ = some (.int .u64 t.H) := by simp [World.cell?, r3]
                          have x22 : w8.cell? ⟨w7.heap.size, 2, none⟩ = some (.int .i64 t.Y) := by simp [World.cell?, r3]
                          have x23 : w8.cell? ⟨w7.heap.size, 3, none⟩ = some (.int .i64 t.X) := by simp [World.cell?, r3]
                          clear r1 r2 r3 hW8
                          replace h7 := Sep.drop (l1 := [RowO 3 1 (.slice (some ⟨g, 0, none⟩) ks.length cap) ks.length (cellsI is), HeapO p (popM m1), HeapO q (popM m2), HeapO l (popM m2), CellsO mb #[.int .u64 18446744073709551615, .int .u64 18446744073709551615, .int .i64 9223372036854775807, .int .i64 9223372036854775807] 24, CellsO w5.heap.size #[.int .u64 t.F, .int .u64 t.H, .int .i64 t.Y, .int .i64 t.X] 24, CellsO w6.heap.size #[.int .u64 t.F, .int .u64 t.H, .int .i64 t.Y, .int .i64 t.X] 24]) (l2 := []) h7
                          replace h7 := Sep.drop (l1 := [RowO 3 1 (.slice (some ⟨g, 0, none⟩) ks.length cap) ks.length (cellsI is), HeapO p (popM m1), HeapO q (popM m2), HeapO l (popM m2), CellsO mb #[.int .u64 18446744073709551615, .int .u64 18446744073709551615, .int .i64 9223372036854775807, .int .i64 9223372036854775807] 24, CellsO w5.heap.size #[.int .u64 t.F, .int .u64 t.H, .int .i64 t.Y, .int .i64 t.X] 24]) (l2 := []) h7
                          replace h7 := Sep.drop (l1 := [RowO 3 1 (.slice (some ⟨g, 0, none⟩) ks.length cap) ks.length (cellsI is), HeapO p (popM m1), HeapO q (popM m2), HeapO l (popM m2), CellsO mb #[.int .u64 18446744073709551615, .int .u64 18446744073709551615, .int .i64 9223372036854775807, .int .i64 9223372036854775807] 24]) (l2 := []) h7
                          replace h7 : Sep w8 w.heap.size [RowO 3 1 (.slice (some ⟨g, 0, none⟩) ks.length cap) ks.length (cellsI is), HeapO p (popM m1), HeapO q (popM m2), HeapO l (popM m2), CellsO mb #[.int .u64 18446744073709551615, .int .u64 18446744073709551615, .int .i64 9223372036854775807, .int .i64 9223372036854775807] 24] := h7
                          have HS8 := Lib.hid h7
                          have HA8 := Lib.hid hA7
                          clear h7 hA7
                          go_wp2
                          go_roundw
                          case rel => exact ⟨k + 1, popM m1, popM m2, by omega, by go_num, Lib.hid ⟨HP2.out, HEL.out, HN2.out⟩, HS8.out, HA8.out⟩
                          case measure => simp [intOf]; omega
                        · have hle : (ks.length : Int) < (k : Int) := by omega
                          have hA := hAr
                          clear hS hAr hl1 hend hlt
                          go_wp2_with fail
                          refine (hawake _).mono ?_
                          rintro e w9 ⟨rfl, hb⟩
                          have HA := Lib.hid (bl_tr hA hb)
                          clear hA hb
                          go_wp2
                          go_ret
                          exact ⟨rfl, HA.out⟩
end Go.Proofs.Ytgcncimeedoplaa
