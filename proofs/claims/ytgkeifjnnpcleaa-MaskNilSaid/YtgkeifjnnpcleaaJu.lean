/- Package mask: Same of sets of two sizes. -/
import Derived.Test.YtgkeifjnnpcleaaKg
import Derived.Test.YtgkeifjnnpcleaaOh
namespace Go.Proofs.Ytgkeifjnnpcleaa
open Go.RowKit

set_option maxRecDepth 100000 in
set_option maxHeartbeats 4000000 in
theorem same_other (b h b2 h2 : Nat) (X Y U V : Int) (cs ds : List Nat) (w : World) (hm : MaskAt w b h X Y cs) (hm2 : MaskAt w b2 h2 U V ds) (hne : ¬ (X = U ∧ Y = V)) :
    Calls Try.prog 33 #[.pointer (some ⟨b, 0, none⟩), .pointer (some ⟨b2, 0, none⟩)] w fun e w' => e = .returned (.bool false) ∧ Below w.heap.size w w' := by
  have c0 := hm.c0
  have c1 := hm.c1
  have d0 := hm2.c0
  have d1 := hm2.c1
  clear hm hm2
  have hq : ∀ w : World, (binOp .eql 23 (.agg #[.int .i64 X, .int .i64 Y]) (.agg #[.int .i64 U, .int .i64 V])).run Try.prog w = .ok (.bool false) w := fun w => by
    by_cases hx : X = U
    · have hy : ¬ Y = V := fun h => hne ⟨hx, h⟩
      simp [go_sem, hx, hy]
    · simp [go_sem, hx]
  clear hne
  go_enter Try.func33, Try.ntmps33
  go_wp2_with fail
  refine (wpIn_wide (n := 11)).1 ?_
  refine ordS_begin (S := (fun w2 => w2.cell? ⟨b, 0, none⟩ = some (.int .i64 X) ∧ w2.cell? ⟨b, 1, none⟩ = some (.int .i64 Y) ∧ w2.cell? ⟨b2, 0, none⟩ = some (.int .i64 U) ∧ w2.cell? ⟨b2, 1, none⟩ = some (.int .i64 V))) (by kernel_rfl) ⟨c0, c1, d0, d1⟩ (fun hH => ?_)
  first
    | (refine' ordS_take (i := 0) (oi := { dst := some 14, op := Op.move (Operand.tmp 0), type := 27, pos := _, after := #[], guard := none }) (v := _) rfl (by kernel_rfl) (by kernel_rfl) (by kernel_rfl) (by kernel_rfl) (fun _ _ _ h => h) (by assumption) (Or.inl ⟨by rfl, ?hy18⟩) (fun _ => rfl) ?rest18
       case hy18 => (intro w hSw; (try dsimp only at hSw); go_simp; try with_reducible rfl))
    | (refine ordS_take (i := 0) (oi := { dst := some 14, op := Op.move (Operand.tmp 0), type := 27, pos := _, after := #[], guard := none }) (v := undef) rfl (by kernel_rfl) (by kernel_rfl) (by kernel_rfl) (by kernel_rfl) (fun _ _ _ h => h) (by assumption) (Or.inr ⟨by rfl, rfl⟩) (fun _ => rfl) ?_)
  try simp only [Act.put, List.setIfInBounds_toArray, List.set_cons_zero, List.set_cons_succ]
  first
    | (refine' ordS_take (i := 1) (oi := { dst := some 15, op := Op.nilCheck (Operand.tmp 14), type := 0, pos := _, after := #[{ on := 0, ground := Ground.data }], guard := none }) (v := _) rfl (by kernel_rfl) (by kernel_rfl) (by kernel_rfl) (by kernel_rfl) (fun _ _ _ h => h) (by assumption) (Or.inl ⟨by rfl, ?hy19⟩) (fun _ => rfl) ?rest19
       case hy19 => (intro w hSw; (try dsimp only at hSw); go_simp; try with_reducible rfl))
    | (refine ordS_take (i := 1) (oi := { dst := some 15, op := Op.nilCheck (Operand.tmp 14), type := 0, pos := _, after := #[{ on := 0, ground := Ground.data }], guard := none }) (v := undef) rfl (by kernel_rfl) (by kernel_rfl) (by kernel_rfl) (by kernel_rfl) (fun _ _ _ h => h) (by assumption) (Or.inr ⟨by rfl, rfl⟩) (fun _ => rfl) ?_)
  try simp only [Act.put, List.setIfInBounds_toArray, List.set_cons_zero, List.set_cons_succ]
  first
    | (refine' ordS_take (i := 2) (oi := { dst := some 16, op := Op.fieldAddr 76 (Operand.tmp 15) 0, type := 0, pos := _, after := #[{ on := 1, ground := Ground.data }], guard := none }) (v := _) rfl (by kernel_rfl) (by kernel_rfl) (by kernel_rfl) (by kernel_rfl) (fun _ _ _ h => h) (by assumption) (Or.inl ⟨by rfl, ?hy20⟩) (fun _ => rfl) ?rest20
       case hy20 => (intro w hSw; (try dsimp only at hSw); go_simp; try with_reducible rfl))
    | (refine ordS_take (i := 2) (oi := { dst := some 16, op := Op.fieldAddr 76 (Operand.tmp 15) 0, type := 0, pos := _, after := #[{ on := 1, ground := Ground.data }], guard := none }) (v := undef) rfl (by kernel_rfl) (by kernel_rfl) (by kernel_rfl) (by kernel_rfl) (fun _ _ _ h => h) (by assumption) (Or.inr ⟨by rfl, rfl⟩) (fun _ => rfl) ?_)
  try simp only [Act.put, List.setIfInBounds_toArray, List.set_cons_zero, List.set_cons_succ]
  first
    | (refine' ordS_take (i := 3) (oi := { dst := some 17, op := Op.load 23 (Operand.tmp 16), type := 23, pos := _, after := #[{ on := 2, ground := Ground.data }], guard := none }) (v := _) rfl (by kernel_rfl) (by kernel_rfl) (by kernel_rfl) (by kernel_rfl) (fun _ _ _ h => h) (by assumption) (Or.inl ⟨by rfl, ?hy21⟩) (fun _ => rfl) ?rest21
       case hy21 => (intro w hSw; (try dsimp only at hSw); go_simp; try with_reducible rfl))
    | (refine ordS_take (i := 3) (oi := { dst := some 17, op := Op.load 23 (Operand.tmp 16), type := 23, pos := _, after := #[{ on := 2, ground := Ground.data }], guard := none }) (v := undef) rfl (by kernel_rfl) (by kernel_rfl) (by kernel_rfl) (by kernel_rfl) (fun _ _ _ h => h) (by assumption) (Or.inr ⟨by rfl, rfl⟩) (fun _ => rfl) ?_)
  try simp only [Act.put, List.setIfInBounds_toArray, List.set_cons_zero, List.set_cons_succ]
  first
    | (refine' ordS_take (i := 4) (oi := { dst := some 18, op := Op.move (Operand.tmp 1), type := 27, pos := _, after := #[], guard := none }) (v := _) rfl (by kernel_rfl) (by kernel_rfl) (by kernel_rfl) (by kernel_rfl) (fun _ _ _ h => h) (by assumption) (Or.inl ⟨by rfl, ?hy22⟩) (fun _ => rfl) ?rest22
       case hy22 => (intro w hSw; (try dsimp only at hSw); go_simp; try with_reducible rfl))
    | (refine ordS_take (i := 4) (oi := { dst := some 18, op := Op.move (Operand.tmp 1), type := 27, pos := _, after := #[], guard := none }) (v := undef) rfl (by kernel_rfl) (by kernel_rfl) (by kernel_rfl) (by kernel_rfl) (fun _ _ _ h => h) (by assumption) (Or.inr ⟨by rfl, rfl⟩) (fun _ => rfl) ?_)
  try simp only [Act.put, List.setIfInBounds_toArray, List.set_cons_zero, List.set_cons_succ]
  first
    | (refine' ordS_take (i := 5) (oi := { dst := some 19, op := Op.nilCheck (Operand.tmp 18), type := 0, pos := _, after := #[{ on := 4, ground := Ground.data }], guard := none }) (v := _) rfl (by kernel_rfl) (by kernel_rfl) (by kernel_rfl) (by kernel_rfl) (fun _ _ _ h => h) (by assumption) (Or.inl ⟨by rfl, ?hy23⟩) (fun _ => rfl) ?rest23
       case hy23 => (intro w hSw; (try dsimp only at hSw); go_simp; try with_reducible rfl))
    | (refine ordS_take (i := 5) (oi := { dst := some 19, op := Op.nilCheck (Operand.tmp 18), type := 0, pos := _, after := #[{ on := 4, ground := Ground.data }], guard := none }) (v := undef) rfl (by kernel_rfl) (by kernel_rfl) (by kernel_rfl) (by kernel_rfl) (fun _ _ _ h => h) (by assumption) (Or.inr ⟨by rfl, rfl⟩) (fun _ => rfl) ?_)
  try simp only [Act.put, List.setIfInBounds_toArray, List.set_cons_zero, List.set_cons_succ]
  first
    | (refine' ordS_take (i := 6) (oi := { dst := some 20, op := Op.fieldAddr 76 (Operand.tmp 19) 0, type := 0, pos := _, after := #[{ on := 5, ground := Ground.data }], guard := none }) (v := _) rfl (by kernel_rfl) (by kernel_rfl) (by kernel_rfl) (by kernel_rfl) (fun _ _ _ h => h) (by assumption) (Or.inl ⟨by rfl, ?hy24⟩) (fun _ => rfl) ?rest24
       case hy24 => (intro w hSw; (try dsimp only at hSw); go_simp; try with_reducible rfl))
    | (refine ordS_take (i := 6) (oi := { dst := some 20, op := Op.fieldAddr 76 (Operand.tmp 19) 0, type := 0, pos := _, after := #[{ on := 5, ground := Ground.data }], guard := none }) (v := undef) rfl (by kernel_rfl) (by kernel_rfl) (by kernel_rfl) (by kernel_rfl) (fun _ _ _ h => h) (by assumption) (Or.inr ⟨by rfl, rfl⟩) (fun _ => rfl) ?_)
  try simp only [Act.put, List.setIfInBounds_toArray, List.set_cons_zero, List.set_cons_succ]
  first
    | (refine' ordS_take (i := 7) (oi := { dst := some 21, op := Op.load 23 (Operand.tmp 20), type := 23, pos := _, after := #[{ on := 6, ground := Ground.data }], guard := none }) (v := _) rfl (by kernel_rfl) (by kernel_rfl) (by kernel_rfl) (by kernel_rfl) (fun _ _ _ h => h) (by assumption) (Or.inl ⟨by rfl, ?hy25⟩) (fun _ => rfl) ?rest25
       case hy25 => (intro w hSw; (try dsimp only at hSw); go_simp; try with_reducible rfl))
    | (refine ordS_take (i := 7) (oi := { dst := some 21, op := Op.load 23 (Operand.tmp 20), type := 23, pos := _, after := #[{ on := 6, ground := Ground.data }], guard := none }) (v := undef) rfl (by kernel_rfl) (by kernel_rfl) (by kernel_rfl) (by kernel_rfl) (fun _ _ _ h => h) (by assumption) (Or.inr ⟨by rfl, rfl⟩) (fun _ => rfl) ?_)
  try simp only [Act.put, List.setIfInBounds_toArray, List.set_cons_zero, List.set_cons_succ]
  first
    | (refine' ordS_take (i := 8) (oi := { dst := some 22, op := Op.binOp BinOp.eql 23 (Operand.tmp 17) (Operand.tmp 21) 23, type := 4, pos := _, after := #[{ on := 3, ground := Ground.data }, { on := 7, ground := Ground.data }], guard := none }) (v := _) rfl (by kernel_rfl) (by kernel_rfl) (by kernel_rfl) (by kernel_rfl) (fun _ _ _ h => h) (by assumption) (Or.inl ⟨by rfl, ?hy26⟩) (fun _ => rfl) ?rest26
       case hy26 => (intro w hSw; (try dsimp only at hSw); go_simp; try with_reducible rfl))
    | (refine ordS_take (i := 8) (oi := { dst := some 22, op := Op.binOp BinOp.eql 23 (Operand.tmp 17) (Operand.tmp 21) 23, type := 4, pos := _, after := #[{ on := 3, ground := Ground.data }, { on := 7, ground := Ground.data }], guard := none }) (v := undef) rfl (by kernel_rfl) (by kernel_rfl) (by kernel_rfl) (by kernel_rfl) (fun _ _ _ h => h) (by assumption) (Or.inr ⟨by rfl, rfl⟩) (fun _ => rfl) ?_)
  try simp only [Act.put, List.setIfInBounds_toArray, List.set_cons_zero, List.set_cons_succ]
  first
    | (refine' ordS_take (i := 9) (oi := { dst := some 23, op := Op.move (Operand.tmp 22), type := 4, pos := _, after := #[{ on := 8, ground := Ground.data }], guard := none }) (v := _) rfl (by kernel_rfl) (by kernel_rfl) (by kernel_rfl) (by kernel_rfl) (fun _ _ _ h => h) (by assumption) (Or.inl ⟨by rfl, ?hy27⟩) (fun _ => rfl) ?rest27
       case hy27 => (intro w hSw; (try dsimp only at hSw); go_simp; try with_reducible rfl))
    | (refine ordS_take (i := 9) (oi := { dst := some 23, op := Op.move (Operand.tmp 22), type := 4, pos := _, after := #[{ on := 8, ground := Ground.data }], guard := none }) (v := undef) rfl (by kernel_rfl) (by kernel_rfl) (by kernel_rfl) (by kernel_rfl) (fun _ _ _ h => h) (by assumption) (Or.inr ⟨by rfl, rfl⟩) (fun _ => rfl) ?_)
  try simp only [Act.put, List.setIfInBounds_toArray, List.set_cons_zero, List.set_cons_succ]
  first
    | (refine' ordS_take (i := 10) (oi := { dst := some 24, op := Op.move (Operand.tmp 0), type := 27, pos := _, after := #[{ on := 9, ground := Ground.guard }], guard := some (9, true) }) (v := _) rfl (by kernel_rfl) (by kernel_rfl) (by kernel_rfl) (by kernel_rfl) (fun _ _ _ h => h) (by assumption) (Or.inl ⟨by rfl, ?hy28⟩) (fun _ => rfl) ?rest28
       case hy28 => (intro w hSw; (try dsimp only at hSw); go_simp; try with_reducible rfl))
    | (refine ordS_take (i := 10) (oi := { dst := some 24, op := Op.move (Operand.tmp 0), type := 27, pos := _, after := #[{ on := 9, ground := Ground.guard }], guard := some (9, true) }) (v := undef) rfl (by kernel_rfl) (by kernel_rfl) (by kernel_rfl) (by kernel_rfl) (fun _ _ _ h => h) (by assumption) (Or.inr ⟨by rfl, rfl⟩) (fun _ => rfl) ?_)
  try simp only [Act.put, List.setIfInBounds_toArray, List.set_cons_zero, List.set_cons_succ]
  first
    | (refine' ordS_take (i := 11) (oi := { dst := some 25, op := Op.nilCheck (Operand.tmp 24), type := 0, pos := _, after := #[{ on := 10, ground := Ground.data }, { on := 9, ground := Ground.guard }], guard := some (9, true) }) (v := _) rfl (by kernel_rfl) (by kernel_rfl) (by kernel_rfl) (by kernel_rfl) (fun _ _ _ h => h) (by assumption) (Or.inl ⟨by rfl, ?hy29⟩) (fun _ => rfl) ?rest29
       case hy29 => (intro w hSw; (try dsimp only at hSw); go_simp; try with_reducible rfl))
    | (refine ordS_take (i := 11) (oi := { dst := some 25, op := Op.nilCheck (Operand.tmp 24), type := 0, pos := _, after := #[{ on := 10, ground := Ground.data }, { on := 9, ground := Ground.guard }], guard := some (9, true) }) (v := undef) rfl (by kernel_rfl) (by kernel_rfl) (by kernel_rfl) (by kernel_rfl) (fun _ _ _ h => h) (by assumption) (Or.inr ⟨by rfl, rfl⟩) (fun _ => rfl) ?_)
  try simp only [Act.put, List.setIfInBounds_toArray, List.set_cons_zero, List.set_cons_succ]
  first
    | (refine' ordS_take (i := 12) (oi := { dst := some 26, op := Op.fieldAddr 76 (Operand.tmp 25) 1, type := 0, pos := _, after := #[{ on := 11, ground := Ground.data }, { on := 9, ground := Ground.guard }], guard := some (9, true) }) (v := _) rfl (by kernel_rfl) (by kernel_rfl) (by kernel_rfl) (by kernel_rfl) (fun _ _ _ h => h) (by assumption) (Or.inl ⟨by rfl, ?hy30⟩) (fun _ => rfl) ?rest30
       case hy30 => (intro w hSw; (try dsimp only at hSw); go_simp; try with_reducible rfl))
    | (refine ordS_take (i := 12) (oi := { dst := some 26, op := Op.fieldAddr 76 (Operand.tmp 25) 1, type := 0, pos := _, after := #[{ on := 11, ground := Ground.data }, { on := 9, ground := Ground.guard }], guard := some (9, true) }) (v := undef) rfl (by kernel_rfl) (by kernel_rfl) (by kernel_rfl) (by kernel_rfl) (fun _ _ _ h => h) (by assumption) (Or.inr ⟨by rfl, rfl⟩) (fun _ => rfl) ?_)
  try simp only [Act.put, List.setIfInBounds_toArray, List.set_cons_zero, List.set_cons_succ]
  first
    | (refine' ordS_take (i := 13) (oi := { dst := some 27, op := Op.load 46 (Operand.tmp 26), type := 46, pos := _, after := #[{ on := 12, ground := Ground.data }, { on := 9, ground := Ground.guard }], guard := some (9, true) }) (v := _) rfl (by kernel_rfl) (by kernel_rfl) (by kernel_rfl) (by kernel_rfl) (fun _ _ _ h => h) (by assumption) (Or.inl ⟨by rfl, ?hy31⟩) (fun _ => rfl) ?rest31
       case hy31 => (intro w hSw; (try dsimp only at hSw); go_simp; try with_reducible rfl))
    | (refine ordS_take (i := 13) (oi := { dst := some 27, op := Op.load 46 (Operand.tmp 26), type := 46, pos := _, after := #[{ on := 12, ground := Ground.data }, { on := 9, ground := Ground.guard }], guard := some (9, true) }) (v := undef) rfl (by kernel_rfl) (by kernel_rfl) (by kernel_rfl) (by kernel_rfl) (fun _ _ _ h => h) (by assumption) (Or.inr ⟨by rfl, rfl⟩) (fun _ => rfl) ?_)
  try simp only [Act.put, List.setIfInBounds_toArray, List.set_cons_zero, List.set_cons_succ]
  first
    | (refine' ordS_take (i := 14) (oi := { dst := some 28, op := Op.move (Operand.tmp 1), type := 27, pos := _, after := #[{ on := 9, ground := Ground.guard }], guard := some (9, true) }) (v := _) rfl (by kernel_rfl) (by kernel_rfl) (by kernel_rfl) (by kernel_rfl) (fun _ _ _ h => h) (by assumption) (Or.inl ⟨by rfl, ?hy32⟩) (fun _ => rfl) ?rest32
       case hy32 => (intro w hSw; (try dsimp only at hSw); go_simp; try with_reducible rfl))
    | (refine ordS_take (i := 14) (oi := { dst := some 28, op := Op.move (Operand.tmp 1), type := 27, pos := _, after := #[{ on := 9, ground := Ground.guard }], guard := some (9, true) }) (v := undef) rfl (by kernel_rfl) (by kernel_rfl) (by kernel_rfl) (by kernel_rfl) (fun _ _ _ h => h) (by assumption) (Or.inr ⟨by rfl, rfl⟩) (fun _ => rfl) ?_)
  try simp only [Act.put, List.setIfInBounds_toArray, List.set_cons_zero, List.set_cons_succ]
  first
    | (refine' ordS_take (i := 15) (oi := { dst := some 29, op := Op.nilCheck (Operand.tmp 28), type := 0, pos := _, after := #[{ on := 14, ground := Ground.data }, { on := 9, ground := Ground.guard }], guard := some (9, true) }) (v := _) rfl (by kernel_rfl) (by kernel_rfl) (by kernel_rfl) (by kernel_rfl) (fun _ _ _ h => h) (by assumption) (Or.inl ⟨by rfl, ?hy33⟩) (fun _ => rfl) ?rest33
       case hy33 => (intro w hSw; (try dsimp only at hSw); go_simp; try with_reducible rfl))
    | (refine ordS_take (i := 15) (oi := { dst := some 29, op := Op.nilCheck (Operand.tmp 28), type := 0, pos := _, after := #[{ on := 14, ground := Ground.data }, { on := 9, ground := Ground.guard }], guard := some (9, true) }) (v := undef) rfl (by kernel_rfl) (by kernel_rfl) (by kernel_rfl) (by kernel_rfl) (fun _ _ _ h => h) (by assumption) (Or.inr ⟨by rfl, rfl⟩) (fun _ => rfl) ?_)
  try simp only [Act.put, List.setIfInBounds_toArray, List.set_cons_zero, List.set_cons_succ]
  first
    | (refine' ordS_take (i := 16) (oi := { dst := some 30, op := Op.fieldAddr 76 (Operand.tmp 29) 1, type := 0, pos := _, after := #[{ on := 15, ground := Ground.data }, { on := 9, ground := Ground.guard }], guard := some (9, true) }) (v := _) rfl (by kernel_rfl) (by kernel_rfl) (by kernel_rfl) (by kernel_rfl) (fun _ _ _ h => h) (by assumption) (Or.inl ⟨by rfl, ?hy34⟩) (fun _ => rfl) ?rest34
       case hy34 => (intro w hSw; (try dsimp only at hSw); go_simp; try with_reducible rfl))
    | (refine ordS_take (i := 16) (oi := { dst := some 30, op := Op.fieldAddr 76 (Operand.tmp 29) 1, type := 0, pos := _, after := #[{ on := 15, ground := Ground.data }, { on := 9, ground := Ground.guard }], guard := some (9, true) }) (v := undef) rfl (by kernel_rfl) (by kernel_rfl) (by kernel_rfl) (by kernel_rfl) (fun _ _ _ h => h) (by assumption) (Or.inr ⟨by rfl, rfl⟩) (fun _ => rfl) ?_)
  try simp only [Act.put, List.setIfInBounds_toArray, List.set_cons_zero, List.set_cons_succ]
  first
    | (refine' ordS_take (i := 17) (oi := { dst := some 31, op := Op.load 46 (Operand.tmp 30), type := 46, pos := _, after := #[{ on := 16, ground := Ground.data }, { on := 9, ground := Ground.guard }], guard := some (9, true) }) (v := _) rfl (by kernel_rfl) (by kernel_rfl) (by kernel_rfl) (by kernel_rfl) (fun _ _ _ h => h) (by assumption) (Or.inl ⟨by rfl, ?hy35⟩) (fun _ => rfl) ?rest35
       case hy35 => (intro w hSw; (try dsimp only at hSw); go_simp; try with_reducible rfl))
    | (refine ordS_take (i := 17) (oi := { dst := some 31, op := Op.load 46 (Operand.tmp 30), type := 46, pos := _, after := #[{ on := 16, ground := Ground.data }, { on := 9, ground := Ground.guard }], guard := some (9, true) }) (v := undef) rfl (by kernel_rfl) (by kernel_rfl) (by kernel_rfl) (by kernel_rfl) (fun _ _ _ h => h) (by assumption) (Or.inr ⟨by rfl, rfl⟩) (fun _ => rfl) ?_)
  try simp only [Act.put, List.setIfInBounds_toArray, List.set_cons_zero, List.set_cons_succ]
  refine ordS_skip (i := 18) (o := { dst := some 32, op := Op.call { callee := Callee.value (Operand.func 48), args := #[Operand.tmp 27, Operand.tmp 31], argTypes := #[46, 46] }, type := 4, pos := _, after := #[{ on := 13, ground := Ground.data }, { on := 17, ground := Ground.data }, { on := 9, ground := Ground.chain }, { on := 9, ground := Ground.guard }], guard := some (9, true) }) (by kernel_rfl) rfl (by rfl) (fun _ => trivial) (by assumption) ?_
  try simp only [Act.put, List.setIfInBounds_toArray, List.set_cons_zero, List.set_cons_succ]
  first
    | (refine' ordS_take (i := 19) (oi := { dst := some 33, op := Op.pick (Operand.tmp 23) (Operand.tmp 32) (Operand.const (Value.bool false)), type := 4, pos := _, after := #[{ on := 9, ground := Ground.data }, { on := 18, ground := Ground.data }], guard := none }) (v := _) rfl (by kernel_rfl) (by kernel_rfl) (by kernel_rfl) (by kernel_rfl) (fun _ _ _ h => h) (by assumption) (Or.inl ⟨by rfl, ?hy36⟩) (fun _ => rfl) ?rest36
       case hy36 => (intro w hSw; (try dsimp only at hSw); go_simp; try with_reducible rfl))
    | (refine ordS_take (i := 19) (oi := { dst := some 33, op := Op.pick (Operand.tmp 23) (Operand.tmp 32) (Operand.const (Value.bool false)), type := 4, pos := _, after := #[{ on := 9, ground := Ground.data }, { on := 18, ground := Ground.data }], guard := none }) (v := undef) rfl (by kernel_rfl) (by kernel_rfl) (by kernel_rfl) (by kernel_rfl) (fun _ _ _ h => h) (by assumption) (Or.inr ⟨by rfl, rfl⟩) (fun _ => rfl) ?_)
  try simp only [Act.put, List.setIfInBounds_toArray, List.set_cons_zero, List.set_cons_succ]
  first
    | (refine' ordS_take (i := 20) (oi := { dst := some 4, op := Op.assign (Operand.tmp 33), type := 4, pos := _, after := #[{ on := 19, ground := Ground.data }, { on := 18, ground := Ground.chain }, { on := 0, ground := Ground.phase }, { on := 1, ground := Ground.phase }, { on := 2, ground := Ground.phase }, { on := 3, ground := Ground.phase }, { on := 4, ground := Ground.phase }, { on := 5, ground := Ground.phase }, { on := 6, ground := Ground.phase }, { on := 7, ground := Ground.phase }, { on := 8, ground := Ground.phase }, { on := 9, ground := Ground.phase }, { on := 10, ground := Ground.phase }, { on := 11, ground := Ground.phase }, { on := 12, ground := Ground.phase }, { on := 13, ground := Ground.phase }, { on := 14, ground := Ground.phase }, { on := 15, ground := Ground.phase }, { on := 16, ground := Ground.phase }, { on := 17, ground := Ground.phase }, { on := 18, ground := Ground.phase }, { on := 19, ground := Ground.phase }], guard := none }) (v := _) rfl (by kernel_rfl) (by kernel_rfl) (by kernel_rfl) (by kernel_rfl) (fun _ _ _ h => h) (by assumption) (Or.inl ⟨by rfl, ?hy37⟩) (fun _ => rfl) ?rest37
       case hy37 => (intro w hSw; (try dsimp only at hSw); go_simp; try with_reducible rfl))
    | (refine ordS_take (i := 20) (oi := { dst := some 4, op := Op.assign (Operand.tmp 33), type := 4, pos := _, after := #[{ on := 19, ground := Ground.data }, { on := 18, ground := Ground.chain }, { on := 0, ground := Ground.phase }, { on := 1, ground := Ground.phase }, { on := 2, ground := Ground.phase }, { on := 3, ground := Ground.phase }, { on := 4, ground := Ground.phase }, { on := 5, ground := Ground.phase }, { on := 6, ground := Ground.phase }, { on := 7, ground := Ground.phase }, { on := 8, ground := Ground.phase }, { on := 9, ground := Ground.phase }, { on := 10, ground := Ground.phase }, { on := 11, ground := Ground.phase }, { on := 12, ground := Ground.phase }, { on := 13, ground := Ground.phase }, { on := 14, ground := Ground.phase }, { on := 15, ground := Ground.phase }, { on := 16, ground := Ground.phase }, { on := 17, ground := Ground.phase }, { on := 18, ground := Ground.phase }, { on := 19, ground := Ground.phase }], guard := none }) (v := undef) rfl (by kernel_rfl) (by kernel_rfl) (by kernel_rfl) (by kernel_rfl) (fun _ _ _ h => h) (by assumption) (Or.inr ⟨by rfl, rfl⟩) (fun _ => rfl) ?_)
  try simp only [Act.put, List.setIfInBounds_toArray, List.set_cons_zero, List.set_cons_succ]
  refine ordS_done (by kernel_rfl) ?_
  go_wp2
  go_ret
  exact ⟨rfl, bl_dr (bl0 w)⟩
end Go.Proofs.Ytgkeifjnnpcleaa
