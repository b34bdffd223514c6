/- Cache: the reference: Put. -/
import Derived.Test.YtbmpgafndpdnbaaEzc
namespace Go.Proofs.Ytbmpgafndpdnbaa
open Go.RowKit Go.Maps

/-- What first leaves: the row that was told is dropped. -/
theorem rfirst_tail {B q : Nat} {r : Int} {v : Value} {m : List IT} {l : List Own} (x : IT) {va : Option Addr} {vc : Nat} {s : List IT} (w : World) (h : Sep w B (RC q r v m l ++ [TO (.slice va s.length vc) s])) (hs : s.length ≤ 900) :
    Calls Try.prog 39 #[.pointer (some ⟨q, 0, none⟩), .agg #[.int .i64 x.1, .int .i64 x.2], .slice va s.length vc] w fun e w' => e = .returned (.tuple #[]) ∧ (∃ v', Sep w' B (RC q r v' (x :: s) l)) ∧ Below B w w' := by
  obtain ⟨va', vc', e, _, hr⟩ := TO.row (l1 := RC q r v m l) (l2 := []) h
  injection e with e1 e2 e3
  subst e1; subst e3
  refine (rfirst_any (l := l ++ [TO (.slice va s.length vc) s]) x va vc s w h hs hr (fun e => by subst e; exact TO.nilv (l1 := RC q r v m l) (l2 := []) h)).mono ?_
  rintro e w' ⟨he, ⟨v', h'⟩, hb⟩
  refine ⟨he, ⟨v', ?_⟩, hb⟩
  have h2 : Sep w' B (RC q r v' (x :: s) l ++ TO (.slice va s.length vc) s :: []) := h'
  have h3 := h2.drop
  rw [List.append_nil] at h3
  exact h3
set_option maxRecDepth 100000 in
set_option maxHeartbeats 4000000 in
theorem rput_any {B q : Nat} {r : Int} {v : Value} {m : List IT} {l : List Own} (k x : Int) (w : World) (h : Sep w B (RC q r v m l)) (hm : Fit r m) (hr1 : 1 ≤ r) (hr2 : r ≤ 16) :
    Calls Try.prog 21 #[.pointer (some ⟨q, 0, none⟩), .int .i64 k, .int .i64 x] w fun e w' => e = .returned (.tuple #[.int .i64 (goneK r k m), .bool (fullB r k m)]) ∧ (∃ v', Sep w' B (RC q r v' (putM r k x m) l)) ∧ Below B w w' := by
  have hml := hm.small hr2
  have hmr := hm.le
  obtain ⟨a, cap, rfl, _, hrow⟩ := RC.row h
  obtain ⟨q0, q1, q2, q3⟩ := RC.cells h
  have hfind := rfind_any k q a cap m w (by omega) q1 hrow
  have zq := blk_lt q0
  have HS := Lib.hid h
  cases e : findI k m with
  | some i =>
    rw [e] at hfind
    have e1 : fullB r k m = false := by simp [fullB, e]
    have e2 : goneK r k m = 0 := by simp [goneK, e1]
    have e3 : putM r k x m = leadL i (k, x) m := by simp [putM, placeI, e]
    rw [e1, e2, e3]
    obtain ⟨hi, _, _⟩ := findI_some e
    have hi0 : (0 : Int) ≤ (i : Int) := by omega
    have hwo := rwithout_any i q a cap m w (by omega) hi q1 hrow
    have hel : (m.eraseIdx i).length ≤ m.length := List.length_eraseIdx_le _ _
    clear h hrow e e1 e2 e3 hi hm q0 q2
    go_enter Try.func21, Try.ntmps21
    go_wp2_with fail
    refine hfind.mono ?_
    rintro e w2 ⟨rfl, rfl⟩
    clear hfind
    try dsimp only [idxV]
    go_wp2_with fail
    refine hwo.mono ?_
    rintro e W2 ⟨v2, rfl, ht⟩
    obtain ⟨hs2, hb2⟩ := HS.out.made ht
    obtain ⟨va, vc, rfl, _, _⟩ := TO.row (l1 := RC q r (.slice a m.length cap) m l) (l2 := []) hs2
    have hfi := rfirst_tail (k, x) W2 hs2 (by omega)
    have HB2 := Lib.hid (hb2.mono HS.out.base)
    clear hs2 hb2 ht hwo
    go_wp2_with fail
    refine hfi.mono ?_
    rintro e W3 ⟨rfl, ⟨v3, hs3⟩, hb3⟩
    have HF := Lib.hid (show Sep W3 B (RC q r v3 (leadL i (k, x) m) l) from hs3)
    have HBF := Lib.hid (HB2.out.trans hb3)
    clear hs3 hb3 hfi
    go_wp2
    go_ret2
    exact ⟨rfl, ⟨_, HF.out⟩, HBF.out⟩
  | none =>
    rw [e] at hfind
    by_cases hf : (m.length : Int) < r
    · have hfe : ¬ (m.length : Int) = r := by omega
      have e1 : fullB r k m = false := by simp [fullB, e, hfe]
      have e2 : goneK r k m = 0 := by simp [goneK, e1]
      have e3 : putM r k x m = (k, x) :: m := by
        unfold putM placeI leadL
        rw [e]
        dsimp only
        rw [if_neg hfe, List.eraseIdx_of_length_le (Nat.le_refl _)]
      rw [e1, e2, e3]
      have hfi := fun W (hS : Sep W B (RC q r (.slice a m.length cap) m l)) => rfirst_any (k, x) a cap m W hS (by omega) (by obtain ⟨a9, c9, e9, _, hr9⟩ := RC.row hS; injection e9 with f1 f2 f3; rw [f1]; exact hr9) (fun e => by subst e; exact RC.nilv hS)
      clear h hrow e e1 e2 e3 hm hfe
      go_enter Try.func21, Try.ntmps21
      go_wp2_with fail
      refine hfind.mono ?_
      rintro e w2 ⟨rfl, rfl⟩
      clear hfind
      try dsimp only [idxV]
      have hD := bl_dr (bl0 w)
      go_upto_region 5 with fail
      refine (wpIn_wide (n := 11)).1 ?_
      refine ordS_begin (S := (fun w' : World => w'.cell? ⟨q, 0, none⟩ = some (.int .i64 r) ∧ w'.cell? ⟨q, 1, none⟩ = some (.slice a m.length cap))) (by kernel_rfl) ⟨cell_later hD q0, cell_later hD q1⟩ (fun hH => ?_)
      refine' ordS_take (i := 0) (oi := { dst := some 23, op := Op.move (Operand.tmp 0), type := 29, pos := _, after := #[], guard := none }) (v := _) rfl (by kernel_rfl) (by kernel_rfl) (by kernel_rfl) (by kernel_rfl) (fun _ _ _ h => h) (by assumption) (Or.inl ⟨by rfl, ?hy1⟩) (fun _ => rfl) ?rest1
      case hy1 => (intro w hSw; (try dsimp only at hSw); go_simp; try with_reducible rfl)
      try simp only [Act.put, List.setIfInBounds_toArray, List.set_cons_zero, List.set_cons_succ]
      refine' ordS_take (i := 1) (oi := { dst := some 24, op := Op.nilCheck (Operand.tmp 23), type := 0, pos := _, after := #[{ on := 0, ground := Ground.data }], guard := none }) (v := _) rfl (by kernel_rfl) (by kernel_rfl) (by kernel_rfl) (by kernel_rfl) (fun _ _ _ h => h) (by assumption) (Or.inl ⟨by rfl, ?hy2⟩) (fun _ => rfl) ?rest2
      case hy2 => (intro w hSw; (try dsimp only at hSw); go_simp; try with_reducible rfl)
      try simp only [Act.put, List.setIfInBounds_toArray, List.set_cons_zero, List.set_cons_succ]
      refine' ordS_take (i := 2) (oi := { dst := some 25, op := Op.fieldAddr 32 (Operand.tmp 24) 1, type := 0, pos := _, after := #[{ on := 1, ground := Ground.data }], guard := none }) (v := _) rfl (by kernel_rfl) (by kernel_rfl) (by kernel_rfl) (by kernel_rfl) (fun _ _ _ h => h) (by assumption) (Or.inl ⟨by rfl, ?hy3⟩) (fun _ => rfl) ?rest3
      case hy3 => (intro w hSw; (try dsimp only at hSw); go_simp; try with_reducible rfl)
      try simp only [Act.put, List.setIfInBounds_toArray, List.set_cons_zero, List.set_cons_succ]
      refine' ordS_take (i := 3) (oi := { dst := some 26, op := Op.load 30 (Operand.tmp 25), type := 30, pos := _, after := #[{ on := 2, ground := Ground.data }], guard := none }) (v := _) rfl (by kernel_rfl) (by kernel_rfl) (by kernel_rfl) (by kernel_rfl) (fun _ _ _ h => h) (by assumption) (Or.inl ⟨by rfl, ?hy4⟩) (fun _ => rfl) ?rest4
      case hy4 => (intro w hSw; (try dsimp only at hSw); go_simp; try with_reducible rfl)
      try simp only [Act.put, List.setIfInBounds_toArray, List.set_cons_zero, List.set_cons_succ]
      refine' ordS_take (i := 4) (oi := { dst := some 27, op := Op.call { callee := Callee.builtin Builtin.len, args := #[Operand.tmp 26], argTypes := #[30] }, type := 3, pos := _, after := #[{ on := 3, ground := Ground.data }], guard := none }) (v := _) rfl (by kernel_rfl) (by kernel_rfl) (by kernel_rfl) (by kernel_rfl) (fun _ _ _ h => h) (by assumption) (Or.inl ⟨by rfl, ?hy5⟩) (fun _ => rfl) ?rest5
      case hy5 => (intro w hSw; (try dsimp only at hSw); go_simp; try with_reducible rfl)
      try simp only [Act.put, List.setIfInBounds_toArray, List.set_cons_zero, List.set_cons_succ]
      refine' ordS_take (i := 5) (oi := { dst := some 28, op := Op.move (Operand.tmp 0), type := 29, pos := _, after := #[], guard := none }) (v := _) rfl (by kernel_rfl) (by kernel_rfl) (by kernel_rfl) (by kernel_rfl) (fun _ _ _ h => h) (by assumption) (Or.inl ⟨by rfl, ?hy6⟩) (fun _ => rfl) ?rest6
      case hy6 => (intro w hSw; (try dsimp only at hSw); go_simp; try with_reducible rfl)
      try simp only [Act.put, List.setIfInBounds_toArray, List.set_cons_zero, List.set_cons_succ]
      refine' ordS_take (i := 6) (oi := { dst := some 29, op := Op.nilCheck (Operand.tmp 28), type := 0, pos := _, after := #[{ on := 5, ground := Ground.data }], guard := none }) (v := _) rfl (by kernel_rfl) (by kernel_rfl) (by kernel_rfl) (by kernel_rfl) (fun _ _ _ h => h) (by assumption) (Or.inl ⟨by rfl, ?hy7⟩) (fun _ => rfl) ?rest7
      case hy7 => (intro w hSw; (try dsimp only at hSw); go_simp; try with_reducible rfl)
      try simp only [Act.put, List.setIfInBounds_toArray, List.set_cons_zero, List.set_cons_succ]
      refine' ordS_take (i := 7) (oi := { dst := some 30, op := Op.fieldAddr 32 (Operand.tmp 29) 0, type := 0, pos := _, after := #[{ on := 6, ground := Ground.data }], guard := none }) (v := _) rfl (by kernel_rfl) (by kernel_rfl) (by kernel_rfl) (by kernel_rfl) (fun _ _ _ h => h) (by assumption) (Or.inl ⟨by rfl, ?hy8⟩) (fun _ => rfl) ?rest8
      case hy8 => (intro w hSw; (try dsimp only at hSw); go_simp; try with_reducible rfl)
      try simp only [Act.put, List.setIfInBounds_toArray, List.set_cons_zero, List.set_cons_succ]
      refine' ordS_take (i := 8) (oi := { dst := some 31, op := Op.load 3 (Operand.tmp 30), type := 3, pos := _, after := #[{ on := 7, ground := Ground.data }], guard := none }) (v := _) rfl (by kernel_rfl) (by kernel_rfl) (by kernel_rfl) (by kernel_rfl) (fun _ _ _ h => h) (by assumption) (Or.inl ⟨by rfl, ?hy9⟩) (fun _ => rfl) ?rest9
      case hy9 => (intro w hSw; (try dsimp only at hSw); go_simp; try with_reducible rfl)
      try simp only [Act.put, List.setIfInBounds_toArray, List.set_cons_zero, List.set_cons_succ]
      refine' ordS_take (i := 9) (oi := { dst := some 32, op := Op.binOp BinOp.lss 3 (Operand.tmp 27) (Operand.tmp 31) 3, type := 4, pos := _, after := #[{ on := 4, ground := Ground.data }, { on := 8, ground := Ground.data }], guard := none }) (v := _) rfl (by kernel_rfl) (by kernel_rfl) (by kernel_rfl) (by kernel_rfl) (fun _ _ _ h => h) (by assumption) (Or.inl ⟨by rfl, ?hy10⟩) (fun _ => rfl) ?rest10
      case hy10 => (intro w hSw; (try dsimp only at hSw); go_simp; try with_reducible rfl)
      try simp only [Act.put, List.setIfInBounds_toArray, List.set_cons_zero, List.set_cons_succ]
      refine ordS_done (by kernel_rfl) ?_
      obtain ⟨W1, hW1⟩ : ∃ W1, w.drew = W1 := ⟨_, rfl⟩
      rw [hW1] at hD ⊢
      replace q1 := cell_later hD q1
      have zq := blk_lt q1
      have HB1 := Lib.hid (hD.mono HS.out.base)
      have hcall := hfi W1 (HS.out.below hD)
      clear hH hW1 hD hfi q0 q2
      go_wp2_with fail
      refine hcall.mono ?_
      rintro e W3 ⟨rfl, ⟨v3, hs3⟩, hb3⟩
      have HF := Lib.hid hs3
      have HBF := Lib.hid (HB1.out.trans hb3)
      clear hs3 hb3 hcall
      go_wp2
      go_ret2
      exact ⟨rfl, ⟨_, HF.out⟩, HBF.out⟩
    · have hfe : (m.length : Int) = r := by omega
      obtain ⟨i, hi⟩ : ∃ i, m.length = i + 1 := ⟨m.length - 1, by omega⟩
      have hx := atI_get (show i < m.length by omega)
      obtain ⟨y, hy⟩ : ∃ y, atI m i = y := ⟨_, rfl⟩
      rw [hy] at hx
      have e1 : fullB r k m = true := by simp [fullB, e, hfe]
      have e2 : goneK r k m = y.1 := by
        unfold goneK
        rw [if_pos e1, hi, Nat.add_sub_cancel, hy]
      have e3 : putM r k x m = leadL i (k, x) m := by
        unfold putM placeI
        rw [e]
        dsimp only
        rw [if_pos hfe, hi, Nat.add_sub_cancel]
      rw [e1, e2, e3]
      obtain ⟨g, rfl, d0, d1⟩ := hrow.at hx
      have hel : (m.eraseIdx i).length ≤ m.length := List.length_eraseIdx_le _ _
      have hw1 : IntKind.i64.wrap ((m.length : Int) - 1) = (i : Int) := by rw [show (m.length : Int) - 1 = i by omega]; exact IntWalk.i64_in _ (by omega)
      have hi0 : (0 : Int) ≤ (i : Int) := by omega
      have hi1 : (i : Int) < (m.length : Int) := by omega
      have hilt : i < m.length := by omega
      have HR := Lib.hid hrow
      clear h hrow e e1 e2 e3 hm hfe hx hy hi d1
      go_enter Try.func21, Try.ntmps21
      go_wp2_with fail
      refine hfind.mono ?_
      rintro e w2 ⟨rfl, rfl⟩
      clear hfind
      try dsimp only [idxV]
      have hD := bl_dr (bl0 w)
      go_upto_region 5 with fail
      refine (wpIn_wide (n := 11)).1 ?_
      refine ordS_begin (S := (fun w' : World => w'.cell? ⟨q, 0, none⟩ = some (.int .i64 r) ∧ w'.cell? ⟨q, 1, none⟩ = some (.slice (some ⟨g, 0, none⟩) m.length cap))) (by kernel_rfl) ⟨cell_later hD q0, cell_later hD q1⟩ (fun hH => ?_)
      refine' ordS_take (i := 0) (oi := { dst := some 23, op := Op.move (Operand.tmp 0), type := 29, pos := _, after := #[], guard := none }) (v := _) rfl (by kernel_rfl) (by kernel_rfl) (by kernel_rfl) (by kernel_rfl) (fun _ _ _ h => h) (by assumption) (Or.inl ⟨by rfl, ?hy11⟩) (fun _ => rfl) ?rest11
      case hy11 => (intro w hSw; (try dsimp only at hSw); go_simp; try with_reducible rfl)
      try simp only [Act.put, List.setIfInBounds_toArray, List.set_cons_zero, List.set_cons_succ]
      refine' ordS_take (i := 1) (oi := { dst := some 24, op := Op.nilCheck (Operand.tmp 23), type := 0, pos := _, after := #[{ on := 0, ground := Ground.data }], guard := none }) (v := _) rfl (by kernel_rfl) (by kernel_rfl) (by kernel_rfl) (by kernel_rfl) (fun _ _ _ h => h) (by assumption) (Or.inl ⟨by rfl, ?hy12⟩) (fun _ => rfl) ?rest12
      case hy12 => (intro w hSw; (try dsimp only at hSw); go_simp; try with_reducible rfl)
      try simp only [Act.put, List.setIfInBounds_toArray, List.set_cons_zero, List.set_cons_succ]
      refine' ordS_take (i := 2) (oi := { dst := some 25, op := Op.fieldAddr 32 (Operand.tmp 24) 1, type := 0, pos := _, after := #[{ on := 1, ground := Ground.data }], guard := none }) (v := _) rfl (by kernel_rfl) (by kernel_rfl) (by kernel_rfl) (by kernel_rfl) (fun _ _ _ h => h) (by assumption) (Or.inl ⟨by rfl, ?hy13⟩) (fun _ => rfl) ?rest13
      case hy13 => (intro w hSw; (try dsimp only at hSw); go_simp; try with_reducible rfl)
      try simp only [Act.put, List.setIfInBounds_toArray, List.set_cons_zero, List.set_cons_succ]
      refine' ordS_take (i := 3) (oi := { dst := some 26, op := Op.load 30 (Operand.tmp 25), type := 30, pos := _, after := #[{ on := 2, ground := Ground.data }], guard := none }) (v := _) rfl (by kernel_rfl) (by kernel_rfl) (by kernel_rfl) (by kernel_rfl) (fun _ _ _ h => h) (by assumption) (Or.inl ⟨by rfl, ?hy14⟩) (fun _ => rfl) ?rest14
      case hy14 => (intro w hSw; (try dsimp only at hSw); go_simp; try with_reducible rfl)
      try simp only [Act.put, List.setIfInBounds_toArray, List.set_cons_zero, List.set_cons_succ]
      refine' ordS_take (i := 4) (oi := { dst := some 27, op := Op.call { callee := Callee.builtin Builtin.len, args := #[Operand.tmp 26], argTypes := #[30] }, type := 3, pos := _, after := #[{ on := 3, ground := Ground.data }], guard := none }) (v := _) rfl (by kernel_rfl) (by kernel_rfl) (by kernel_rfl) (by kernel_rfl) (fun _ _ _ h => h) (by assumption) (Or.inl ⟨by rfl, ?hy15⟩) (fun _ => rfl) ?rest15
      case hy15 => (intro w hSw; (try dsimp only at hSw); go_simp; try with_reducible rfl)
      try simp only [Act.put, List.setIfInBounds_toArray, List.set_cons_zero, List.set_cons_succ]
      refine' ordS_take (i := 5) (oi := { dst := some 28, op := Op.move (Operand.tmp 0), type := 29, pos := _, after := #[], guard := none }) (v := _) rfl (by kernel_rfl) (by kernel_rfl) (by kernel_rfl) (by kernel_rfl) (fun _ _ _ h => h) (by assumption) (Or.inl ⟨by rfl, ?hy16⟩) (fun _ => rfl) ?rest16
      case hy16 => (intro w hSw; (try dsimp only at hSw); go_simp; try with_reducible rfl)
      try simp only [Act.put, List.setIfInBounds_toArray, List.set_cons_zero, List.set_cons_succ]
      refine' ordS_take (i := 6) (oi := { dst := some 29, op := Op.nilCheck (Operand.tmp 28), type := 0, pos := _, after := #[{ on := 5, ground := Ground.data }], guard := none }) (v := _) rfl (by kernel_rfl) (by kernel_rfl) (by kernel_rfl) (by kernel_rfl) (fun _ _ _ h => h) (by assumption) (Or.inl ⟨by rfl, ?hy17⟩) (fun _ => rfl) ?rest17
      case hy17 => (intro w hSw; (try dsimp only at hSw); go_simp; try with_reducible rfl)
      try simp only [Act.put, List.setIfInBounds_toArray, List.set_cons_zero, List.set_cons_succ]
      refine' ordS_take (i := 7) (oi := { dst := some 30, op := Op.fieldAddr 32 (Operand.tmp 29) 0, type := 0, pos := _, after := #[{ on := 6, ground := Ground.data }], guard := none }) (v := _) rfl (by kernel_rfl) (by kernel_rfl) (by kernel_rfl) (by kernel_rfl) (fun _ _ _ h => h) (by assumption) (Or.inl ⟨by rfl, ?hy18⟩) (fun _ => rfl) ?rest18
      case hy18 => (intro w hSw; (try dsimp only at hSw); go_simp; try with_reducible rfl)
      try simp only [Act.put, List.setIfInBounds_toArray, List.set_cons_zero, List.set_cons_succ]
      refine' ordS_take (i := 8) (oi := { dst := some 31, op := Op.load 3 (Operand.tmp 30), type := 3, pos := _, after := #[{ on := 7, ground := Ground.data }], guard := none }) (v := _) rfl (by kernel_rfl) (by kernel_rfl) (by kernel_rfl) (by kernel_rfl) (fun _ _ _ h => h) (by assumption) (Or.inl ⟨by rfl, ?hy19⟩) (fun _ => rfl) ?rest19
      case hy19 => (intro w hSw; (try dsimp only at hSw); go_simp; try with_reducible rfl)
      try simp only [Act.put, List.setIfInBounds_toArray, List.set_cons_zero, List.set_cons_succ]
      refine' ordS_take (i := 9) (oi := { dst := some 32, op := Op.binOp BinOp.lss 3 (Operand.tmp 27) (Operand.tmp 31) 3, type := 4, pos := _, after := #[{ on := 4, ground := Ground.data }, { on := 8, ground := Ground.data }], guard := none }) (v := _) rfl (by kernel_rfl) (by kernel_rfl) (by kernel_rfl) (by kernel_rfl) (fun _ _ _ h => h) (by assumption) (Or.inl ⟨by rfl, ?hy20⟩) (fun _ => rfl) ?rest20
      case hy20 => (intro w hSw; (try dsimp only at hSw); go_simp; try with_reducible rfl)
      try simp only [Act.put, List.setIfInBounds_toArray, List.set_cons_zero, List.set_cons_succ]
      refine ordS_done (by kernel_rfl) ?_
      obtain ⟨W1, hW1⟩ : ∃ W1, w.drew = W1 := ⟨_, rfl⟩
      rw [hW1] at hD ⊢
      replace q1 := cell_later hD q1
      replace d0 := cell_later hD d0
      have HB1 := Lib.hid hD
      clear hH hW1 hD q0 q2
      have hD := bl_dr (bl0 W1)
      go_upto_region 8 with fail
      refine (wpIn_wide (n := 11)).1 ?_
      refine ordS_begin (S := (fun w' : World => w'.cell? ⟨q, 1, none⟩ = some (.slice (some ⟨g, 0, none⟩) m.length cap) ∧ w'.cell? ⟨g, i * 2, none⟩ = some (.int .i64 y.1))) (by kernel_rfl) ⟨cell_later hD q1, cell_later hD d0⟩ (fun hH => ?_)
      refine' ordS_take (i := 0) (oi := { dst := some 42, op := Op.move (Operand.tmp 0), type := 29, pos := _, after := #[], guard := none }) (v := _) rfl (by kernel_rfl) (by kernel_rfl) (by kernel_rfl) (by kernel_rfl) (fun _ _ _ h => h) (by assumption) (Or.inl ⟨by rfl, ?hy21⟩) (fun _ => rfl) ?rest21
      case hy21 => (intro w hSw; (try dsimp only at hSw); go_simp; try with_reducible rfl)
      try simp only [Act.put, List.setIfInBounds_toArray, List.set_cons_zero, List.set_cons_succ]
      refine' ordS_take (i := 1) (oi := { dst := some 43, op := Op.nilCheck (Operand.tmp 42), type := 0, pos := _, after := #[{ on := 0, ground := Ground.data }], guard := none }) (v := _) rfl (by kernel_rfl) (by kernel_rfl) (by kernel_rfl) (by kernel_rfl) (fun _ _ _ h => h) (by assumption) (Or.inl ⟨by rfl, ?hy22⟩) (fun _ => rfl) ?rest22
      case hy22 => (intro w hSw; (try dsimp only at hSw); go_simp; try with_reducible rfl)
      try simp only [Act.put, List.setIfInBounds_toArray, List.set_cons_zero, List.set_cons_succ]
      refine' ordS_take (i := 2) (oi := { dst := some 44, op := Op.fieldAddr 32 (Operand.tmp 43) 1, type := 0, pos := _, after := #[{ on := 1, ground := Ground.data }], guard := none }) (v := _) rfl (by kernel_rfl) (by kernel_rfl) (by kernel_rfl) (by kernel_rfl) (fun _ _ _ h => h) (by assumption) (Or.inl ⟨by rfl, ?hy23⟩) (fun _ => rfl) ?rest23
      case hy23 => (intro w hSw; (try dsimp only at hSw); go_simp; try with_reducible rfl)
      try simp only [Act.put, List.setIfInBounds_toArray, List.set_cons_zero, List.set_cons_succ]
      refine' ordS_take (i := 3) (oi := { dst := some 45, op := Op.load 30 (Operand.tmp 44), type := 30, pos := _, after := #[{ on := 2, ground := Ground.data }], guard := none }) (v := _) rfl (by kernel_rfl) (by kernel_rfl) (by kernel_rfl) (by kernel_rfl) (fun _ _ _ h => h) (by assumption) (Or.inl ⟨by rfl, ?hy24⟩) (fun _ => rfl) ?rest24
      case hy24 => (intro w hSw; (try dsimp only at hSw); go_simp; try with_reducible rfl)
      try simp only [Act.put, List.setIfInBounds_toArray, List.set_cons_zero, List.set_cons_succ]
      refine' ordS_take (i := 4) (oi := { dst := some 46, op := Op.move (Operand.tmp 0), type := 29, pos := _, after := #[], guard := none }) (v := _) rfl (by kernel_rfl) (by kernel_rfl) (by kernel_rfl) (by kernel_rfl) (fun _ _ _ h => h) (by assumption) (Or.inl ⟨by rfl, ?hy25⟩) (fun _ => rfl) ?rest25
      case hy25 => (intro w hSw; (try dsimp only at hSw); go_simp; try with_reducible rfl)
      try simp only [Act.put, List.setIfInBounds_toArray, List.set_cons_zero, List.set_cons_succ]
      refine' ordS_take (i := 5) (oi := { dst := some 47, op := Op.nilCheck (Operand.tmp 46), type := 0, pos := _, after := #[{ on := 4, ground := Ground.data }], guard := none }) (v := _) rfl (by kernel_rfl) (by kernel_rfl) (by kernel_rfl) (by kernel_rfl) (fun _ _ _ h => h) (by assumption) (Or.inl ⟨by rfl, ?hy26⟩) (fun _ => rfl) ?rest26
      case hy26 => (intro w hSw; (try dsimp only at hSw); go_simp; try with_reducible rfl)
      try simp only [Act.put, List.setIfInBounds_toArray, List.set_cons_zero, List.set_cons_succ]
      refine' ordS_take (i := 6) (oi := { dst := some 48, op := Op.fieldAddr 32 (Operand.tmp 47) 1, type := 0, pos := _, after := #[{ on := 5, ground := Ground.data }], guard := none }) (v := _) rfl (by kernel_rfl) (by kernel_rfl) (by kernel_rfl) (by kernel_rfl) (fun _ _ _ h => h) (by assumption) (Or.inl ⟨by rfl, ?hy27⟩) (fun _ => rfl) ?rest27
      case hy27 => (intro w hSw; (try dsimp only at hSw); go_simp; try with_reducible rfl)
      try simp only [Act.put, List.setIfInBounds_toArray, List.set_cons_zero, List.set_cons_succ]
      refine' ordS_take (i := 7) (oi := { dst := some 49, op := Op.load 30 (Operand.tmp 48), type := 30, pos := _, after := #[{ on := 6, ground := Ground.data }], guard := none }) (v := _) rfl (by kernel_rfl) (by kernel_rfl) (by kernel_rfl) (by kernel_rfl) (fun _ _ _ h => h) (by assumption) (Or.inl ⟨by rfl, ?hy28⟩) (fun _ => rfl) ?rest28
      case hy28 => (intro w hSw; (try dsimp only at hSw); go_simp; try with_reducible rfl)
      try simp only [Act.put, List.setIfInBounds_toArray, List.set_cons_zero, List.set_cons_succ]
      refine' ordS_take (i := 8) (oi := { dst := some 50, op := Op.call { callee := Callee.builtin Builtin.len, args := #[Operand.tmp 49], argTypes := #[30] }, type := 3, pos := _, after := #[{ on := 7, ground := Ground.data }], guard := none }) (v := _) rfl (by kernel_rfl) (by kernel_rfl) (by kernel_rfl) (by kernel_rfl) (fun _ _ _ h => h) (by assumption) (Or.inl ⟨by rfl, ?hy29⟩) (fun _ => rfl) ?rest29
      case hy29 => (intro w hSw; (try dsimp only at hSw); go_simp; try with_reducible rfl)
      try simp only [Act.put, List.setIfInBounds_toArray, List.set_cons_zero, List.set_cons_succ]
      refine' ordS_take (i := 9) (oi := { dst := some 51, op := Op.binOp BinOp.sub 3 (Operand.tmp 50) (Operand.const (Value.int IntKind.i64 1)) 3, type := 3, pos := _, after := #[{ on := 8, ground := Ground.data }], guard := none }) (v := _) rfl (by kernel_rfl) (by kernel_rfl) (by kernel_rfl) (by kernel_rfl) (fun _ _ _ h => h) (by assumption) (Or.inl ⟨by rfl, ?hy30⟩) (fun _ => rfl) ?rest30
      case hy30 => (intro w hSw; (try dsimp only at hSw); go_simp; try with_reducible rfl)
      try simp only [Act.put, List.setIfInBounds_toArray, List.set_cons_zero, List.set_cons_succ]
      refine' ordS_take (i := 10) (oi := { dst := some 52, op := Op.indexAddr 30 (Operand.tmp 45) (Operand.tmp 51), type := 0, pos := _, after := #[{ on := 3, ground := Ground.data }, { on := 9, ground := Ground.data }], guard := none }) (v := _) rfl (by kernel_rfl) (by kernel_rfl) (by kernel_rfl) (by kernel_rfl) (fun _ _ _ h => h) (by assumption) (Or.inl ⟨by rfl, ?hy31⟩) (fun _ => rfl) ?rest31
      case hy31 => (intro w hSw; (try dsimp only at hSw); go_simp; try with_reducible rfl)
      try simp only [Act.put, List.setIfInBounds_toArray, List.set_cons_zero, List.set_cons_succ]
      refine' ordS_take (i := 11) (oi := { dst := some 53, op := Op.fieldAddr 39 (Operand.tmp 52) 0, type := 0, pos := _, after := #[{ on := 10, ground := Ground.data }], guard := none }) (v := _) rfl (by kernel_rfl) (by kernel_rfl) (by kernel_rfl) (by kernel_rfl) (fun _ _ _ h => h) (by assumption) (Or.inl ⟨by rfl, ?hy32⟩) (fun _ => rfl) ?rest32
      case hy32 => (intro w hSw; (try dsimp only at hSw); go_simp; try with_reducible rfl)
      try simp only [Act.put, List.setIfInBounds_toArray, List.set_cons_zero, List.set_cons_succ]
      refine' ordS_take (i := 12) (oi := { dst := some 54, op := Op.load 3 (Operand.tmp 53), type := 3, pos := _, after := #[{ on := 11, ground := Ground.data }], guard := none }) (v := _) rfl (by kernel_rfl) (by kernel_rfl) (by kernel_rfl) (by kernel_rfl) (fun _ _ _ h => h) (by assumption) (Or.inl ⟨by rfl, ?hy33⟩) (fun _ => rfl) ?rest33
      case hy33 => (intro w hSw; (try dsimp only at hSw); go_simp; try with_reducible rfl)
      try simp only [Act.put, List.setIfInBounds_toArray, List.set_cons_zero, List.set_cons_succ]
      refine' ordS_take (i := 13) (oi := { dst := some 9, op := Op.assign (Operand.tmp 54), type := 3, pos := _, after := #[{ on := 12, ground := Ground.data }, { on := 0, ground := Ground.phase }, { on := 1, ground := Ground.phase }, { on := 2, ground := Ground.phase }, { on := 3, ground := Ground.phase }, { on := 4, ground := Ground.phase }, { on := 5, ground := Ground.phase }, { on := 6, ground := Ground.phase }, { on := 7, ground := Ground.phase }, { on := 8, ground := Ground.phase }, { on := 9, ground := Ground.phase }, { on := 10, ground := Ground.phase }, { on := 11, ground := Ground.phase }, { on := 12, ground := Ground.phase }], guard := none }) (v := _) rfl (by kernel_rfl) (by kernel_rfl) (by kernel_rfl) (by kernel_rfl) (fun _ _ _ h => h) (by assumption) (Or.inl ⟨by rfl, ?hy34⟩) (fun _ => rfl) ?rest34
      case hy34 => (intro w hSw; (try dsimp only at hSw); go_simp; try with_reducible rfl)
      try simp only [Act.put, List.setIfInBounds_toArray, List.set_cons_zero, List.set_cons_succ]
      refine ordS_done (by kernel_rfl) ?_
      obtain ⟨W2, hW2⟩ : ∃ W2, W1.drew = W2 := ⟨_, rfl⟩
      rw [hW2] at hD ⊢
      replace q1 := cell_later hD q1
      have zq := blk_lt q1
      have hbb := bl_tr HB1.out hD
      have hs2 := HS.out.below hbb
      have hwo := rwithout_any i q (some ⟨g, 0, none⟩) cap m W2 (by omega) hilt q1 (HR.out.below hbb)
      have HS2 := Lib.hid hs2
      have HB2 := Lib.hid (hbb.mono HS.out.base)
      clear hH hW2 hD d0 hs2 hbb
      go_wp2_with fail
      refine hwo.mono ?_
      rintro e W3 ⟨v3, rfl, ht⟩
      obtain ⟨hs3, hb3⟩ := HS2.out.made ht
      obtain ⟨va, vc, rfl, _, _⟩ := TO.row (l1 := RC q r (.slice (some ⟨g, 0, none⟩) m.length cap) m l) (l2 := []) hs3
      have hfi := rfirst_tail (k, x) W3 hs3 (by omega)
      have HB3 := Lib.hid (HB2.out.trans (hb3.mono HS2.out.base))
      clear hs3 hb3 ht hwo
      go_wp2_with fail
      refine hfi.mono ?_
      rintro e W4 ⟨rfl, ⟨v4, hs4⟩, hb4⟩
      have HF := Lib.hid (show Sep W4 B (RC q r v4 (leadL i (k, x) m) l) from hs4)
      have HBF := Lib.hid (HB3.out.trans hb4)
      clear hs4 hb4 hfi
      go_wp2
      go_ret2
      exact ⟨rfl, ⟨_, HF.out⟩, HBF.out⟩
end Go.Proofs.Ytbmpgafndpdnbaa
