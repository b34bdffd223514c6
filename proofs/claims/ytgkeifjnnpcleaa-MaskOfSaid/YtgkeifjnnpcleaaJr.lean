/- Package mask: Of, of too many bytes or too few. -/
import Derived.Test.YtgkeifjnnpcleaaKe
import Derived.Test.YtgkeifjnnpcleaaOh
namespace Go.Proofs.Ytgkeifjnnpcleaa
open Go.RowKit

set_option maxRecDepth 100000 in
set_option maxHeartbeats 4000000 in
theorem of_len (X Y : Int) (v : Option Addr) (L c : Nat) (w : World) (hm : mayB X Y = true) (hlen : (L : Int) ≠ (X * Y + 7) / 8) :
    Calls Try.prog 25 #[.agg #[.int .i64 X, .int .i64 Y], .slice v L c] w fun e w' => e = .returned (.tuple #[.pointer none, .int .i64 11]) ∧ Below w.heap.size w w' := by
  obtain ⟨h1, h2, h3, h4⟩ := mayB_iff.1 hm
  obtain ⟨m1, m2⟩ : 1 ≤ X * Y ∧ X * Y ≤ 65536 := ⟨by have := Int.mul_pos (show 0 < X by omega) (show 0 < Y by omega); omega, by have a : X * Y ≤ 256 * Y := Int.mul_le_mul_of_nonneg_right h2 (by omega); omega⟩
  obtain ⟨n, hn⟩ : ∃ n : Nat, ((X * Y + 7) / 8).toNat = n := ⟨_, rfl⟩
  have hne : (L : Int) ≠ (n : Int) := by omega
  have hne2 : L ≠ n := by omega
  have hq : ((L : Int) != (n : Int)) = true := by rw [bne_iff_ne]; exact hne
  clear hlen
  have hA := bl0 w
  go_enter Try.func25, Try.ntmps25
  go_wp2_with fail
  have hb0 := bl_al (bl0 w) (.cells #[.int .i64 X, .int .i64 Y] 23)
  refine (new_yes X Y _ hm).mono ?_
  rintro e w1 ⟨b, g, rfl, hma, hb1, hg1, hbg, hb⟩
  rw [World.size_alloc] at hb1 hg1
  have hA := bl_tr hb0 hb
  rw [hn] at hma
  have c2 := hma.c2
  rw [List.length_replicate] at c2
  clear hb hb0
  go_wp2_with fail
  have hB := bl_dr (bl0 w1)
  refine (wpIn_wide (n := 11)).1 ?_
  refine ordS_begin (S := (fun w2 => w2.cell? ⟨b, 2, none⟩ = some (.slice (some ⟨g, 0, none⟩) n n))) (by kernel_rfl) c2 (fun hH => ?_)
  first
    | (refine' ordS_take (i := 0) (oi := { dst := some 16, op := Op.move (Operand.tmp 1), type := 46, pos := _, after := #[], guard := none }) (v := _) rfl (by kernel_rfl) (by kernel_rfl) (by kernel_rfl) (by kernel_rfl) (fun _ _ _ h => h) (by assumption) (Or.inl ⟨by rfl, ?hy1⟩) (fun _ => rfl) ?rest1
       case hy1 => (intro w hSw; (try dsimp only at hSw); go_simp; try with_reducible rfl))
    | (refine ordS_take (i := 0) (oi := { dst := some 16, op := Op.move (Operand.tmp 1), type := 46, pos := _, after := #[], guard := none }) (v := undef) rfl (by kernel_rfl) (by kernel_rfl) (by kernel_rfl) (by kernel_rfl) (fun _ _ _ h => h) (by assumption) (Or.inr ⟨by rfl, rfl⟩) (fun _ => rfl) ?_)
  try simp only [Act.put, List.setIfInBounds_toArray, List.set_cons_zero, List.set_cons_succ]
  first
    | (refine' ordS_take (i := 1) (oi := { dst := some 17, op := Op.call { callee := Callee.builtin Builtin.len, args := #[Operand.tmp 16], argTypes := #[46] }, type := 3, pos := _, after := #[{ on := 0, ground := Ground.data }], guard := none }) (v := _) rfl (by kernel_rfl) (by kernel_rfl) (by kernel_rfl) (by kernel_rfl) (fun _ _ _ h => h) (by assumption) (Or.inl ⟨by rfl, ?hy2⟩) (fun _ => rfl) ?rest2
       case hy2 => (intro w hSw; (try dsimp only at hSw); go_simp; try with_reducible rfl))
    | (refine ordS_take (i := 1) (oi := { dst := some 17, op := Op.call { callee := Callee.builtin Builtin.len, args := #[Operand.tmp 16], argTypes := #[46] }, type := 3, pos := _, after := #[{ on := 0, ground := Ground.data }], guard := none }) (v := undef) rfl (by kernel_rfl) (by kernel_rfl) (by kernel_rfl) (by kernel_rfl) (fun _ _ _ h => h) (by assumption) (Or.inr ⟨by rfl, rfl⟩) (fun _ => rfl) ?_)
  try simp only [Act.put, List.setIfInBounds_toArray, List.set_cons_zero, List.set_cons_succ]
  first
    | (refine' ordS_take (i := 2) (oi := { dst := some 18, op := Op.move (Operand.tmp 6), type := 27, pos := _, after := #[], guard := none }) (v := _) rfl (by kernel_rfl) (by kernel_rfl) (by kernel_rfl) (by kernel_rfl) (fun _ _ _ h => h) (by assumption) (Or.inl ⟨by rfl, ?hy3⟩) (fun _ => rfl) ?rest3
       case hy3 => (intro w hSw; (try dsimp only at hSw); go_simp; try with_reducible rfl))
    | (refine ordS_take (i := 2) (oi := { dst := some 18, op := Op.move (Operand.tmp 6), type := 27, pos := _, after := #[], guard := none }) (v := undef) rfl (by kernel_rfl) (by kernel_rfl) (by kernel_rfl) (by kernel_rfl) (fun _ _ _ h => h) (by assumption) (Or.inr ⟨by rfl, rfl⟩) (fun _ => rfl) ?_)
  try simp only [Act.put, List.setIfInBounds_toArray, List.set_cons_zero, List.set_cons_succ]
  first
    | (refine' ordS_take (i := 3) (oi := { dst := some 19, op := Op.nilCheck (Operand.tmp 18), type := 0, pos := _, after := #[{ on := 2, ground := Ground.data }], guard := none }) (v := _) rfl (by kernel_rfl) (by kernel_rfl) (by kernel_rfl) (by kernel_rfl) (fun _ _ _ h => h) (by assumption) (Or.inl ⟨by rfl, ?hy4⟩) (fun _ => rfl) ?rest4
       case hy4 => (intro w hSw; (try dsimp only at hSw); go_simp; try with_reducible rfl))
    | (refine ordS_take (i := 3) (oi := { dst := some 19, op := Op.nilCheck (Operand.tmp 18), type := 0, pos := _, after := #[{ on := 2, ground := Ground.data }], guard := none }) (v := undef) rfl (by kernel_rfl) (by kernel_rfl) (by kernel_rfl) (by kernel_rfl) (fun _ _ _ h => h) (by assumption) (Or.inr ⟨by rfl, rfl⟩) (fun _ => rfl) ?_)
  try simp only [Act.put, List.setIfInBounds_toArray, List.set_cons_zero, List.set_cons_succ]
  first
    | (refine' ordS_take (i := 4) (oi := { dst := some 20, op := Op.fieldAddr 76 (Operand.tmp 19) 1, type := 0, pos := _, after := #[{ on := 3, ground := Ground.data }], guard := none }) (v := _) rfl (by kernel_rfl) (by kernel_rfl) (by kernel_rfl) (by kernel_rfl) (fun _ _ _ h => h) (by assumption) (Or.inl ⟨by rfl, ?hy5⟩) (fun _ => rfl) ?rest5
       case hy5 => (intro w hSw; (try dsimp only at hSw); go_simp; try with_reducible rfl))
    | (refine ordS_take (i := 4) (oi := { dst := some 20, op := Op.fieldAddr 76 (Operand.tmp 19) 1, type := 0, pos := _, after := #[{ on := 3, ground := Ground.data }], guard := none }) (v := undef) rfl (by kernel_rfl) (by kernel_rfl) (by kernel_rfl) (by kernel_rfl) (fun _ _ _ h => h) (by assumption) (Or.inr ⟨by rfl, rfl⟩) (fun _ => rfl) ?_)
  try simp only [Act.put, List.setIfInBounds_toArray, List.set_cons_zero, List.set_cons_succ]
  first
    | (refine' ordS_take (i := 5) (oi := { dst := some 21, op := Op.load 46 (Operand.tmp 20), type := 46, pos := _, after := #[{ on := 4, ground := Ground.data }], guard := none }) (v := _) rfl (by kernel_rfl) (by kernel_rfl) (by kernel_rfl) (by kernel_rfl) (fun _ _ _ h => h) (by assumption) (Or.inl ⟨by rfl, ?hy6⟩) (fun _ => rfl) ?rest6
       case hy6 => (intro w hSw; (try dsimp only at hSw); go_simp; try with_reducible rfl))
    | (refine ordS_take (i := 5) (oi := { dst := some 21, op := Op.load 46 (Operand.tmp 20), type := 46, pos := _, after := #[{ on := 4, ground := Ground.data }], guard := none }) (v := undef) rfl (by kernel_rfl) (by kernel_rfl) (by kernel_rfl) (by kernel_rfl) (fun _ _ _ h => h) (by assumption) (Or.inr ⟨by rfl, rfl⟩) (fun _ => rfl) ?_)
  try simp only [Act.put, List.setIfInBounds_toArray, List.set_cons_zero, List.set_cons_succ]
  first
    | (refine' ordS_take (i := 6) (oi := { dst := some 22, op := Op.call { callee := Callee.builtin Builtin.len, args := #[Operand.tmp 21], argTypes := #[46] }, type := 3, pos := _, after := #[{ on := 5, ground := Ground.data }], guard := none }) (v := _) rfl (by kernel_rfl) (by kernel_rfl) (by kernel_rfl) (by kernel_rfl) (fun _ _ _ h => h) (by assumption) (Or.inl ⟨by rfl, ?hy7⟩) (fun _ => rfl) ?rest7
       case hy7 => (intro w hSw; (try dsimp only at hSw); go_simp; try with_reducible rfl))
    | (refine ordS_take (i := 6) (oi := { dst := some 22, op := Op.call { callee := Callee.builtin Builtin.len, args := #[Operand.tmp 21], argTypes := #[46] }, type := 3, pos := _, after := #[{ on := 5, ground := Ground.data }], guard := none }) (v := undef) rfl (by kernel_rfl) (by kernel_rfl) (by kernel_rfl) (by kernel_rfl) (fun _ _ _ h => h) (by assumption) (Or.inr ⟨by rfl, rfl⟩) (fun _ => rfl) ?_)
  try simp only [Act.put, List.setIfInBounds_toArray, List.set_cons_zero, List.set_cons_succ]
  first
    | (refine' ordS_take (i := 7) (oi := { dst := some 23, op := Op.binOp BinOp.neq 3 (Operand.tmp 17) (Operand.tmp 22) 3, type := 4, pos := _, after := #[{ on := 1, ground := Ground.data }, { on := 6, ground := Ground.data }], guard := none }) (v := _) rfl (by kernel_rfl) (by kernel_rfl) (by kernel_rfl) (by kernel_rfl) (fun _ _ _ h => h) (by assumption) (Or.inl ⟨by rfl, ?hy8⟩) (fun _ => rfl) ?rest8
       case hy8 => (intro w hSw; (try dsimp only at hSw); go_simp; try with_reducible rfl))
    | (refine ordS_take (i := 7) (oi := { dst := some 23, op := Op.binOp BinOp.neq 3 (Operand.tmp 17) (Operand.tmp 22) 3, type := 4, pos := _, after := #[{ on := 1, ground := Ground.data }, { on := 6, ground := Ground.data }], guard := none }) (v := undef) rfl (by kernel_rfl) (by kernel_rfl) (by kernel_rfl) (by kernel_rfl) (fun _ _ _ h => h) (by assumption) (Or.inr ⟨by rfl, rfl⟩) (fun _ => rfl) ?_)
  try simp only [Act.put, List.setIfInBounds_toArray, List.set_cons_zero, List.set_cons_succ]
  first
    | (refine' ordS_take (i := 8) (oi := { dst := some 24, op := Op.move (Operand.tmp 23), type := 4, pos := _, after := #[{ on := 7, ground := Ground.data }], guard := none }) (v := _) rfl (by kernel_rfl) (by kernel_rfl) (by kernel_rfl) (by kernel_rfl) (fun _ _ _ h => h) (by assumption) (Or.inl ⟨by rfl, ?hy9⟩) (fun _ => rfl) ?rest9
       case hy9 => (intro w hSw; (try dsimp only at hSw); go_simp; try with_reducible rfl))
    | (refine ordS_take (i := 8) (oi := { dst := some 24, op := Op.move (Operand.tmp 23), type := 4, pos := _, after := #[{ on := 7, ground := Ground.data }], guard := none }) (v := undef) rfl (by kernel_rfl) (by kernel_rfl) (by kernel_rfl) (by kernel_rfl) (fun _ _ _ h => h) (by assumption) (Or.inr ⟨by rfl, rfl⟩) (fun _ => rfl) ?_)
  try simp only [Act.put, List.setIfInBounds_toArray, List.set_cons_zero, List.set_cons_succ]
  first
    | (refine' ordS_take (i := 9) (oi := { dst := some 25, op := Op.load 23 (Operand.tmp 2), type := 23, pos := _, after := #[{ on := 8, ground := Ground.guard }], guard := some (8, false) }) (v := _) rfl (by kernel_rfl) (by kernel_rfl) (by kernel_rfl) (by kernel_rfl) (fun _ _ _ h => h) (by assumption) (Or.inl ⟨by rfl, ?hy10⟩) (fun _ => rfl) ?rest10
       case hy10 => (intro w hSw; (try dsimp only at hSw); go_simp; try with_reducible rfl))
    | (refine ordS_take (i := 9) (oi := { dst := some 25, op := Op.load 23 (Operand.tmp 2), type := 23, pos := _, after := #[{ on := 8, ground := Ground.guard }], guard := some (8, false) }) (v := undef) rfl (by kernel_rfl) (by kernel_rfl) (by kernel_rfl) (by kernel_rfl) (fun _ _ _ h => h) (by assumption) (Or.inr ⟨by rfl, rfl⟩) (fun _ => rfl) ?_)
  try simp only [Act.put, List.setIfInBounds_toArray, List.set_cons_zero, List.set_cons_succ]
  first
    | (refine' ordS_take (i := 10) (oi := { dst := some 26, op := Op.move (Operand.tmp 1), type := 46, pos := _, after := #[{ on := 8, ground := Ground.guard }], guard := some (8, false) }) (v := _) rfl (by kernel_rfl) (by kernel_rfl) (by kernel_rfl) (by kernel_rfl) (fun _ _ _ h => h) (by assumption) (Or.inl ⟨by rfl, ?hy11⟩) (fun _ => rfl) ?rest11
       case hy11 => (intro w hSw; (try dsimp only at hSw); go_simp; try with_reducible rfl))
    | (refine ordS_take (i := 10) (oi := { dst := some 26, op := Op.move (Operand.tmp 1), type := 46, pos := _, after := #[{ on := 8, ground := Ground.guard }], guard := some (8, false) }) (v := undef) rfl (by kernel_rfl) (by kernel_rfl) (by kernel_rfl) (by kernel_rfl) (fun _ _ _ h => h) (by assumption) (Or.inr ⟨by rfl, rfl⟩) (fun _ => rfl) ?_)
  try simp only [Act.put, List.setIfInBounds_toArray, List.set_cons_zero, List.set_cons_succ]
  first
    | (refine' ordS_take (i := 11) (oi := { dst := some 27, op := Op.move (Operand.tmp 1), type := 46, pos := _, after := #[{ on := 8, ground := Ground.guard }], guard := some (8, false) }) (v := _) rfl (by kernel_rfl) (by kernel_rfl) (by kernel_rfl) (by kernel_rfl) (fun _ _ _ h => h) (by assumption) (Or.inl ⟨by rfl, ?hy12⟩) (fun _ => rfl) ?rest12
       case hy12 => (intro w hSw; (try dsimp only at hSw); go_simp; try with_reducible rfl))
    | (refine ordS_take (i := 11) (oi := { dst := some 27, op := Op.move (Operand.tmp 1), type := 46, pos := _, after := #[{ on := 8, ground := Ground.guard }], guard := some (8, false) }) (v := undef) rfl (by kernel_rfl) (by kernel_rfl) (by kernel_rfl) (by kernel_rfl) (fun _ _ _ h => h) (by assumption) (Or.inr ⟨by rfl, rfl⟩) (fun _ => rfl) ?_)
  try simp only [Act.put, List.setIfInBounds_toArray, List.set_cons_zero, List.set_cons_succ]
  first
    | (refine' ordS_take (i := 12) (oi := { dst := some 28, op := Op.call { callee := Callee.builtin Builtin.len, args := #[Operand.tmp 27], argTypes := #[46] }, type := 3, pos := _, after := #[{ on := 11, ground := Ground.data }, { on := 8, ground := Ground.guard }], guard := some (8, false) }) (v := _) rfl (by kernel_rfl) (by kernel_rfl) (by kernel_rfl) (by kernel_rfl) (fun _ _ _ h => h) (by assumption) (Or.inl ⟨by rfl, ?hy13⟩) (fun _ => rfl) ?rest13
       case hy13 => (intro w hSw; (try dsimp only at hSw); go_simp; try with_reducible rfl))
    | (refine ordS_take (i := 12) (oi := { dst := some 28, op := Op.call { callee := Callee.builtin Builtin.len, args := #[Operand.tmp 27], argTypes := #[46] }, type := 3, pos := _, after := #[{ on := 11, ground := Ground.data }, { on := 8, ground := Ground.guard }], guard := some (8, false) }) (v := undef) rfl (by kernel_rfl) (by kernel_rfl) (by kernel_rfl) (by kernel_rfl) (fun _ _ _ h => h) (by assumption) (Or.inr ⟨by rfl, rfl⟩) (fun _ => rfl) ?_)
  try simp only [Act.put, List.setIfInBounds_toArray, List.set_cons_zero, List.set_cons_succ]
  first
    | (refine' ordS_take (i := 13) (oi := { dst := some 29, op := Op.binOp BinOp.sub 3 (Operand.tmp 28) (Operand.const (Value.int IntKind.i64 1)) 3, type := 3, pos := _, after := #[{ on := 12, ground := Ground.data }, { on := 8, ground := Ground.guard }], guard := some (8, false) }) (v := _) rfl (by kernel_rfl) (by kernel_rfl) (by kernel_rfl) (by kernel_rfl) (fun _ _ _ h => h) (by assumption) (Or.inl ⟨by rfl, ?hy14⟩) (fun _ => rfl) ?rest14
       case hy14 => (intro w hSw; (try dsimp only at hSw); go_simp; try with_reducible rfl))
    | (refine ordS_take (i := 13) (oi := { dst := some 29, op := Op.binOp BinOp.sub 3 (Operand.tmp 28) (Operand.const (Value.int IntKind.i64 1)) 3, type := 3, pos := _, after := #[{ on := 12, ground := Ground.data }, { on := 8, ground := Ground.guard }], guard := some (8, false) }) (v := undef) rfl (by kernel_rfl) (by kernel_rfl) (by kernel_rfl) (by kernel_rfl) (fun _ _ _ h => h) (by assumption) (Or.inr ⟨by rfl, rfl⟩) (fun _ => rfl) ?_)
  try simp only [Act.put, List.setIfInBounds_toArray, List.set_cons_zero, List.set_cons_succ]
  first
    | (refine' ordS_take (i := 14) (oi := { dst := some 30, op := Op.indexAddr 46 (Operand.tmp 26) (Operand.tmp 29), type := 0, pos := _, after := #[{ on := 10, ground := Ground.data }, { on := 13, ground := Ground.data }, { on := 8, ground := Ground.guard }], guard := some (8, false) }) (v := _) rfl (by kernel_rfl) (by kernel_rfl) (by kernel_rfl) (by kernel_rfl) (fun _ _ _ h => h) (by assumption) (Or.inl ⟨by rfl, ?hy15⟩) (fun _ => rfl) ?rest15
       case hy15 => (intro w hSw; (try dsimp only at hSw); go_simp; try with_reducible rfl))
    | (refine ordS_take (i := 14) (oi := { dst := some 30, op := Op.indexAddr 46 (Operand.tmp 26) (Operand.tmp 29), type := 0, pos := _, after := #[{ on := 10, ground := Ground.data }, { on := 13, ground := Ground.data }, { on := 8, ground := Ground.guard }], guard := some (8, false) }) (v := undef) rfl (by kernel_rfl) (by kernel_rfl) (by kernel_rfl) (by kernel_rfl) (fun _ _ _ h => h) (by assumption) (Or.inr ⟨by rfl, rfl⟩) (fun _ => rfl) ?_)
  try simp only [Act.put, List.setIfInBounds_toArray, List.set_cons_zero, List.set_cons_succ]
  first
    | (refine' ordS_take (i := 15) (oi := { dst := some 31, op := Op.load 5 (Operand.tmp 30), type := 5, pos := _, after := #[{ on := 14, ground := Ground.data }, { on := 8, ground := Ground.guard }], guard := some (8, false) }) (v := _) rfl (by kernel_rfl) (by kernel_rfl) (by kernel_rfl) (by kernel_rfl) (fun _ _ _ h => h) (by assumption) (Or.inl ⟨by rfl, ?hy16⟩) (fun _ => rfl) ?rest16
       case hy16 => (intro w hSw; (try dsimp only at hSw); go_simp; try with_reducible rfl))
    | (refine ordS_take (i := 15) (oi := { dst := some 31, op := Op.load 5 (Operand.tmp 30), type := 5, pos := _, after := #[{ on := 14, ground := Ground.data }, { on := 8, ground := Ground.guard }], guard := some (8, false) }) (v := undef) rfl (by kernel_rfl) (by kernel_rfl) (by kernel_rfl) (by kernel_rfl) (fun _ _ _ h => h) (by assumption) (Or.inr ⟨by rfl, rfl⟩) (fun _ => rfl) ?_)
  try simp only [Act.put, List.setIfInBounds_toArray, List.set_cons_zero, List.set_cons_succ]
  refine ordS_skip (i := 16) (o := { dst := some 32, op := Op.call { callee := Callee.value (Operand.func 44), args := #[Operand.tmp 25, Operand.tmp 31], argTypes := #[23, 5] }, type := 4, pos := _, after := #[{ on := 9, ground := Ground.data }, { on := 15, ground := Ground.data }, { on := 8, ground := Ground.chain }, { on := 8, ground := Ground.guard }], guard := some (8, false) }) (by kernel_rfl) rfl (by rfl) (fun _ => trivial) (by assumption) ?_
  try simp only [Act.put, List.setIfInBounds_toArray, List.set_cons_zero, List.set_cons_succ]
  first
    | (refine' ordS_take (i := 17) (oi := { dst := some 33, op := Op.pick (Operand.tmp 24) (Operand.const (Value.bool true)) (Operand.tmp 32), type := 4, pos := _, after := #[{ on := 8, ground := Ground.data }, { on := 16, ground := Ground.data }], guard := none }) (v := _) rfl (by kernel_rfl) (by kernel_rfl) (by kernel_rfl) (by kernel_rfl) (fun _ _ _ h => h) (by assumption) (Or.inl ⟨by rfl, ?hy17⟩) (fun _ => rfl) ?rest17
       case hy17 => (intro w hSw; (try dsimp only at hSw); go_simp; try with_reducible rfl))
    | (refine ordS_take (i := 17) (oi := { dst := some 33, op := Op.pick (Operand.tmp 24) (Operand.const (Value.bool true)) (Operand.tmp 32), type := 4, pos := _, after := #[{ on := 8, ground := Ground.data }, { on := 16, ground := Ground.data }], guard := none }) (v := undef) rfl (by kernel_rfl) (by kernel_rfl) (by kernel_rfl) (by kernel_rfl) (fun _ _ _ h => h) (by assumption) (Or.inr ⟨by rfl, rfl⟩) (fun _ => rfl) ?_)
  try simp only [Act.put, List.setIfInBounds_toArray, List.set_cons_zero, List.set_cons_succ]
  refine ordS_done (by kernel_rfl) ?_
  go_wp2
  go_ret2
  exact ⟨rfl, bl_tr hA hB⟩
end Go.Proofs.Ytgkeifjnnpcleaa
