/- The document's answer for texts: numerals, costs, Print. -/
import Derived.Test.YthnpoeobieninaaDoorYc
namespace Go.Proofs.YthnpoeobieninaaDoor
open Go.RowKit

theorem str_app (a b : List UInt8) : (⟨a.toArray⟩ : ByteArray) ++ ⟨b.toArray⟩ = ⟨(a ++ b).toArray⟩ := by
  apply ByteArray.ext
  simp
theorem digit_at : ∀ n : Nat, n < 10 → (⟨#[48, 49, 50, 51, 52, 53, 54, 55, 56, 57]⟩ : ByteArray).extract n (n + 1) = ⟨#[UInt8.ofNat (48 + n)]⟩ := by
  intro n h
  obtain rfl | rfl | rfl | rfl | rfl | rfl | rfl | rfl | rfl | rfl : n = 0 ∨ n = 1 ∨ n = 2 ∨ n = 3 ∨ n = 4 ∨ n = 5 ∨ n = 6 ∨ n = 7 ∨ n = 8 ∨ n = 9 := by omega
  all_goals rfl

set_option maxHeartbeats 2000000 in
theorem numeral_any : ∀ (f n : Nat), n < f → n ≤ 65535 → ∀ w : World,
    Calls Tryd.prog 32 #[.int .i64 n] w fun e w' => e = .returned (.string ⟨(Lib.decDigits n).toArray⟩) ∧ Below w.heap.size w w' := by
  intro f
  induction f with
  | zero => intro n h; omega
  | succ f ih =>
    intro n hf hn w
    by_cases h : n < 10
    · have h2 : (n : Int) < 10 := by omega
      have h3 : (0 : Int) ≤ (n : Int) := by omega
      have h4 : (n : Int) + 1 ≤ 10 := by omega
      have h5 : IntKind.i64.wrap ((n : Int) + 1) = (n : Int) + 1 := IntWalk.i64_in _ (by omega)
      have h6 : ((n : Int) + 1).toNat = n + 1 := by omega
      have HD := Lib.hid (digit_at n h)
      have HE := Lib.hid (Lib.decDigits_one h)
      go_enter Tryd.func32, Tryd.ntmps32
      go_wp2
      go_ret
      rw [HE.out]
      refine ⟨?_, bl0 _⟩
      rw [HD.out]
      rfl
    · have h2 : (10 : Int) ≤ (n : Int) := by omega
      have hq : (n : Int).tdiv 10 = ((n / 10 : Nat) : Int) := by rw [Int.tdiv_eq_ediv_of_nonneg (by omega)]; omega
      have hm : (n : Int).tmod 10 = ((n % 10 : Nat) : Int) := by rw [Int.tmod_eq_emod_of_nonneg (by omega)]; omega
      obtain ⟨q, hq2⟩ : ∃ q, n / 10 = q := ⟨_, rfl⟩
      obtain ⟨m, hm2⟩ : ∃ m, n % 10 = m := ⟨_, rfl⟩
      have hd : Lib.decDigits n = Lib.decDigits q ++ [UInt8.ofNat (48 + m)] := by rw [Lib.decDigits, dif_neg h, hq2, hm2]
      rw [hq2] at hq
      rw [hm2] at hm
      have h10 : m < 10 := by omega
      have w1 : IntKind.i64.wrap (q : Int) = q := IntWalk.i64_in _ (by omega)
      have w2 : IntKind.i64.wrap (m : Int) = m := IntWalk.i64_in _ (by omega)
      have h5 : IntKind.i64.wrap ((m : Int) + 1) = (m : Int) + 1 := IntWalk.i64_in _ (by omega)
      have h6 : ((m : Int) + 1).toNat = m + 1 := by omega
      have h7 : (0 : Int) ≤ (m : Int) := by omega
      have h8 : (m : Int) + 1 ≤ 10 := by omega
      have h9 : (m : Int) < 10 := by omega
      have h11 : (m : Int) ≤ (m : Int) + 1 := by omega
      have h12 : m ≤ m + 1 := by omega
      have hdl := digits_lt 4 q (by omega)
      have hsz : ¬ 9223372036854775807 < (Lib.decDigits q).length + (min (m + 1) 10 - m) := by omega
      have hqf : q < f := by omega
      have hq5 : q ≤ 65535 := by omega
      have HD := Lib.hid (digit_at m h10)
      have HE := Lib.hid hd
      clear hd hq2 hm2
      go_enter Tryd.func32, Tryd.ntmps32
      go_wp2_with fail
      have hB := bl_dr (bl0 w)
      refine (wpIn_wide (n := 11)).1 ?_
      refine ordS_begin (S := (fun _ => True)) (by kernel_rfl) trivial (fun hH => ?_)
      first
        | (refine' ordS_take (i := 0) (oi := { dst := some 9, op := Op.move (Operand.tmp 0), type := 3, pos := _, after := #[], guard := none }) (v := _) rfl (by kernel_rfl) (by kernel_rfl) (by kernel_rfl) (by kernel_rfl) (fun _ _ _ h => h) (by assumption) (Or.inl ⟨by rfl, ?hy1⟩) (fun _ => rfl) ?rest1
           case hy1 => (intro w hSw; (try dsimp only at hSw); go_simp; try with_reducible rfl))
        | (refine ordS_take (i := 0) (oi := { dst := some 9, op := Op.move (Operand.tmp 0), type := 3, pos := _, after := #[], guard := none }) (v := undef) rfl (by kernel_rfl) (by kernel_rfl) (by kernel_rfl) (by kernel_rfl) (fun _ _ _ h => h) (by assumption) (Or.inr ⟨by rfl, rfl⟩) (fun _ => rfl) ?_)
      try simp only [Act.put, List.setIfInBounds_toArray, List.set_cons_zero, List.set_cons_succ]
      first
        | (refine' ordS_take (i := 1) (oi := { dst := some 10, op := Op.binOp BinOp.quo 3 (Operand.tmp 9) (Operand.const (Value.int IntKind.i64 10)) 3, type := 3, pos := _, after := #[{ on := 0, ground := Ground.data }], guard := none }) (v := _) rfl (by kernel_rfl) (by kernel_rfl) (by kernel_rfl) (by kernel_rfl) (fun _ _ _ h => h) (by assumption) (Or.inl ⟨by rfl, ?hy2⟩) (fun _ => rfl) ?rest2
           case hy2 => (intro w hSw; (try dsimp only at hSw); go_simp; try with_reducible rfl))
        | (refine ordS_take (i := 1) (oi := { dst := some 10, op := Op.binOp BinOp.quo 3 (Operand.tmp 9) (Operand.const (Value.int IntKind.i64 10)) 3, type := 3, pos := _, after := #[{ on := 0, ground := Ground.data }], guard := none }) (v := undef) rfl (by kernel_rfl) (by kernel_rfl) (by kernel_rfl) (by kernel_rfl) (fun _ _ _ h => h) (by assumption) (Or.inr ⟨by rfl, rfl⟩) (fun _ => rfl) ?_)
      try simp only [Act.put, List.setIfInBounds_toArray, List.set_cons_zero, List.set_cons_succ]
      first
        | (refine' ordS_take (i := 3) (oi := { dst := some 12, op := Op.move (Operand.tmp 0), type := 3, pos := _, after := #[], guard := none }) (v := _) rfl (by kernel_rfl) (by kernel_rfl) (by kernel_rfl) (by kernel_rfl) (fun _ _ _ h => h) (by assumption) (Or.inl ⟨by rfl, ?hy3⟩) (fun _ => rfl) ?rest3
           case hy3 => (intro w hSw; (try dsimp only at hSw); go_simp; try with_reducible rfl))
        | (refine ordS_take (i := 3) (oi := { dst := some 12, op := Op.move (Operand.tmp 0), type := 3, pos := _, after := #[], guard := none }) (v := undef) rfl (by kernel_rfl) (by kernel_rfl) (by kernel_rfl) (by kernel_rfl) (fun _ _ _ h => h) (by assumption) (Or.inr ⟨by rfl, rfl⟩) (fun _ => rfl) ?_)
      try simp only [Act.put, List.setIfInBounds_toArray, List.set_cons_zero, List.set_cons_succ]
      first
        | (refine' ordS_take (i := 4) (oi := { dst := some 13, op := Op.binOp BinOp.rem 3 (Operand.tmp 12) (Operand.const (Value.int IntKind.i64 10)) 3, type := 3, pos := _, after := #[{ on := 3, ground := Ground.data }], guard := none }) (v := _) rfl (by kernel_rfl) (by kernel_rfl) (by kernel_rfl) (by kernel_rfl) (fun _ _ _ h => h) (by assumption) (Or.inl ⟨by rfl, ?hy4⟩) (fun _ => rfl) ?rest4
           case hy4 => (intro w hSw; (try dsimp only at hSw); go_simp; try with_reducible rfl))
        | (refine ordS_take (i := 4) (oi := { dst := some 13, op := Op.binOp BinOp.rem 3 (Operand.tmp 12) (Operand.const (Value.int IntKind.i64 10)) 3, type := 3, pos := _, after := #[{ on := 3, ground := Ground.data }], guard := none }) (v := undef) rfl (by kernel_rfl) (by kernel_rfl) (by kernel_rfl) (by kernel_rfl) (fun _ _ _ h => h) (by assumption) (Or.inr ⟨by rfl, rfl⟩) (fun _ => rfl) ?_)
      try simp only [Act.put, List.setIfInBounds_toArray, List.set_cons_zero, List.set_cons_succ]
      first
        | (refine' ordS_take (i := 5) (oi := { dst := some 14, op := Op.move (Operand.tmp 0), type := 3, pos := _, after := #[], guard := none }) (v := _) rfl (by kernel_rfl) (by kernel_rfl) (by kernel_rfl) (by kernel_rfl) (fun _ _ _ h => h) (by assumption) (Or.inl ⟨by rfl, ?hy5⟩) (fun _ => rfl) ?rest5
           case hy5 => (intro w hSw; (try dsimp only at hSw); go_simp; try with_reducible rfl))
        | (refine ordS_take (i := 5) (oi := { dst := some 14, op := Op.move (Operand.tmp 0), type := 3, pos := _, after := #[], guard := none }) (v := undef) rfl (by kernel_rfl) (by kernel_rfl) (by kernel_rfl) (by kernel_rfl) (fun _ _ _ h => h) (by assumption) (Or.inr ⟨by rfl, rfl⟩) (fun _ => rfl) ?_)
      try simp only [Act.put, List.setIfInBounds_toArray, List.set_cons_zero, List.set_cons_succ]
      first
        | (refine' ordS_take (i := 6) (oi := { dst := some 15, op := Op.binOp BinOp.rem 3 (Operand.tmp 14) (Operand.const (Value.int IntKind.i64 10)) 3, type := 3, pos := _, after := #[{ on := 5, ground := Ground.data }], guard := none }) (v := _) rfl (by kernel_rfl) (by kernel_rfl) (by kernel_rfl) (by kernel_rfl) (fun _ _ _ h => h) (by assumption) (Or.inl ⟨by rfl, ?hy6⟩) (fun _ => rfl) ?rest6
           case hy6 => (intro w hSw; (try dsimp only at hSw); go_simp; try with_reducible rfl))
        | (refine ordS_take (i := 6) (oi := { dst := some 15, op := Op.binOp BinOp.rem 3 (Operand.tmp 14) (Operand.const (Value.int IntKind.i64 10)) 3, type := 3, pos := _, after := #[{ on := 5, ground := Ground.data }], guard := none }) (v := undef) rfl (by kernel_rfl) (by kernel_rfl) (by kernel_rfl) (by kernel_rfl) (fun _ _ _ h => h) (by assumption) (Or.inr ⟨by rfl, rfl⟩) (fun _ => rfl) ?_)
      try simp only [Act.put, List.setIfInBounds_toArray, List.set_cons_zero, List.set_cons_succ]
      first
        | (refine' ordS_take (i := 7) (oi := { dst := some 16, op := Op.binOp BinOp.add 3 (Operand.tmp 15) (Operand.const (Value.int IntKind.i64 1)) 3, type := 3, pos := _, after := #[{ on := 6, ground := Ground.data }], guard := none }) (v := _) rfl (by kernel_rfl) (by kernel_rfl) (by kernel_rfl) (by kernel_rfl) (fun _ _ _ h => h) (by assumption) (Or.inl ⟨by rfl, ?hy7⟩) (fun _ => rfl) ?rest7
           case hy7 => (intro w hSw; (try dsimp only at hSw); go_simp; try with_reducible rfl))
        | (refine ordS_take (i := 7) (oi := { dst := some 16, op := Op.binOp BinOp.add 3 (Operand.tmp 15) (Operand.const (Value.int IntKind.i64 1)) 3, type := 3, pos := _, after := #[{ on := 6, ground := Ground.data }], guard := none }) (v := undef) rfl (by kernel_rfl) (by kernel_rfl) (by kernel_rfl) (by kernel_rfl) (fun _ _ _ h => h) (by assumption) (Or.inr ⟨by rfl, rfl⟩) (fun _ => rfl) ?_)
      try simp only [Act.put, List.setIfInBounds_toArray, List.set_cons_zero, List.set_cons_succ]
      first
        | (refine' ordS_take (i := 8) (oi := { dst := some 17, op := Op.slice 9 (Operand.const (Value.string { data := #[48, 49, 50, 51, 52, 53, 54, 55, 56, 57] })) (some (Operand.tmp 13)) (some (Operand.tmp 16)) none, type := 9, pos := _, after := #[{ on := 4, ground := Ground.data }, { on := 7, ground := Ground.data }], guard := none }) (v := _) rfl (by kernel_rfl) (by kernel_rfl) (by kernel_rfl) (by kernel_rfl) (fun _ _ _ h => h) (by assumption) (Or.inl ⟨by rfl, ?hy8⟩) (fun _ => rfl) ?rest8
           case hy8 => (intro w hSw; (try dsimp only at hSw); go_simp; try with_reducible rfl))
        | (refine ordS_take (i := 8) (oi := { dst := some 17, op := Op.slice 9 (Operand.const (Value.string { data := #[48, 49, 50, 51, 52, 53, 54, 55, 56, 57] })) (some (Operand.tmp 13)) (some (Operand.tmp 16)) none, type := 9, pos := _, after := #[{ on := 4, ground := Ground.data }, { on := 7, ground := Ground.data }], guard := none }) (v := undef) rfl (by kernel_rfl) (by kernel_rfl) (by kernel_rfl) (by kernel_rfl) (fun _ _ _ h => h) (by assumption) (Or.inr ⟨by rfl, rfl⟩) (fun _ => rfl) ?_)
      try simp only [Act.put, List.setIfInBounds_toArray, List.set_cons_zero, List.set_cons_succ]
      refine ordS_one (i := 2) (o := { dst := some 11, op := Op.call { callee := Callee.value (Operand.func 32), args := #[Operand.tmp 10], argTypes := #[3] }, type := 9, pos := _, after := #[{ on := 1, ground := Ground.data }], guard := none }) (by kernel_rfl) rfl (by rfl) (fun K hK => ?_)
      go_simp
      refine ⟨trivial, ?_⟩
      with_reducible refine (callsIn_wide.2 (ih q hqf hq5 _)).mono ?_
      rintro e W2 ⟨rfl, hb⟩
      have hB2 := bl_tr hB hb
      have hS9 : (fun _ : World => True) W2 := trivial
      refine hK _ _ hS9 ?_
      clear hK K
      try simp only [Act.put, List.setIfInBounds_toArray, List.set_cons_zero, List.set_cons_succ]
      refine ordS_one (i := 9) (o := { dst := some 18, op := Op.binOp BinOp.add 9 (Operand.tmp 11) (Operand.tmp 17) 9, type := 9, pos := _, after := #[{ on := 2, ground := Ground.data }, { on := 8, ground := Ground.data }], guard := none }) (by kernel_rfl) rfl (by rfl) (fun K hK => ?_)
      go_simp
      refine hK _ _ hS9 ?_
      clear hK K
      try simp only [Act.put, List.setIfInBounds_toArray, List.set_cons_zero, List.set_cons_succ]
      refine ordS_one (i := 10) (o := { dst := some 2, op := Op.assign (Operand.tmp 18), type := 9, pos := _, after := #[{ on := 9, ground := Ground.data }, { on := 2, ground := Ground.chain }, { on := 0, ground := Ground.phase }, { on := 1, ground := Ground.phase }, { on := 2, ground := Ground.phase }, { on := 3, ground := Ground.phase }, { on := 4, ground := Ground.phase }, { on := 5, ground := Ground.phase }, { on := 6, ground := Ground.phase }, { on := 7, ground := Ground.phase }, { on := 8, ground := Ground.phase }, { on := 9, ground := Ground.phase }], guard := none }) (by kernel_rfl) rfl (by rfl) (fun K hK => ?_)
      go_simp
      refine hK _ _ hS9 ?_
      clear hK K
      try simp only [Act.put, List.setIfInBounds_toArray, List.set_cons_zero, List.set_cons_succ]
      refine ordS_done (by kernel_rfl) ?_
      clear hS9 hH
      go_wp2
      go_ret
      rw [HE.out]
      refine ⟨?_, hB2⟩
      rw [← str_app, HD.out]
      rfl

/-- The cost of a cell, by its number. -/
theorem rcost_at (A B : Int) (a : Option Addr) (cap : Nat) (zs : List Int) (x y : Int) (j : Nat) (w : World) (hr : RowH w a zs) (hin : AllH zs) (hj : y * A + x = j) (hl : j < zs.length) (hA0 : 0 ≤ y * A) (hA1 : y * A ≤ 65536) (hj1 : j ≤ 65536) :
    Calls Tryd.prog 33 #[.agg #[.int .i64 A, .int .i64 B, .slice a zs.length cap], .agg #[.int .i64 x, .int .i64 y]] w fun e w' => e = .returned (.int .i64 zs[j]) ∧ Below w.heap.size w w' := by
  have hA := bl_al (bl_al (bl0 w) (.cells #[.int .i64 A, .int .i64 B, .slice a zs.length cap] 26)) (.cells #[.int .i64 x, .int .i64 y] 29)
  have hj0 : (0 : Int) ≤ (j : Int) := by omega
  have hl2 : (j : Int) < (zs.length : Int) := by omega
  obtain ⟨gb, go, rfl, q⟩ := hr.cell hl
  have zq := blk_lt q
  have zq1 : gb < w.heap.size + 1 := by omega
  obtain ⟨z1, z2⟩ := hin.at hl
  obtain ⟨z, hz⟩ : ∃ z, zs[j] = z := ⟨_, rfl⟩
  rw [hz] at q z1 z2 ⊢
  have hw : IntKind.i64.wrap z = z := by rw [IntKind.wrap_i64]; omega
  have e1 : IntKind.i64.wrap (y * A) = y * A := IntWalk.i64_in _ (by omega)
  have e2 : IntKind.i64.wrap (y * A + x) = j := by rw [hj]; exact IntWalk.i64_in _ (by omega)
  clear hr hin hz hj
  go_enter Tryd.func33, Tryd.ntmps33
  go_wp2
  go_ret
  exact ⟨rfl, hA⟩
end Go.Proofs.YthnpoeobieninaaDoor
