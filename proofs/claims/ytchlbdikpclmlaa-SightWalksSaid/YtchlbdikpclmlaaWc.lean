/- A straight line, as an iterator: its contract. -/
import Derived.Test.YtchlbdikpclmlaaWa
import Derived.Test.YtchlbdikpclmlaaWb
import Derived.Test.YtchlbdikpclmlaaOh
namespace Go.Proofs.Ytchlbdikpclmlaa
open Go.RowKit Go.Shelf
attribute [local go_sem] Oper.semAt_some

/-- The cell number k of a line. -/
def lineK (X Y Z V n : Int) (k : Nat) : Int × Int := (X + pF (k * (Z - X)) n, Y + pF (k * (V - Y)) n)
/-- A line's cells, n being how far its ends lie apart. -/
def lineF (X Y Z V : Int) (n : Nat) : List (Int × Int) := (List.range (n + 1)).map (lineK X Y Z V n)
section
variable {X Y Z V : Int} {n k : Nat}
theorem lineF_len : (lineF X Y Z V n).length = n + 1 := by simp [lineF]
theorem lineF_at (h : k < n + 1) : (lineF X Y Z V n)[k]? = some (lineK X Y Z V n k) := by simp [lineF, h]
theorem lineF_snoc (h : k < n + 1) : (lineF X Y Z V n).take (k + 1) = (lineF X Y Z V n).take k ++ [lineK X Y Z V n k] := by
  have hl : k < (lineF X Y Z V n).length := by rw [lineF_len]; exact h
  rw [List.take_succ_eq_append_getElem hl]
  simp [lineF]
theorem lineF_all (h : n + 1 ≤ k) : (lineF X Y Z V n).take k = lineF X Y Z V n := List.take_of_length_le (by rw [lineF_len]; exact h)
end
theorem pF_bd {v : Int} {n : Nat} (hv : -1048576 ≤ v ∧ v ≤ 1048576) (hn : n ≤ 4096) : -4194305 ≤ pF v n ∧ pF v n ≤ 4194304 := by
  by_cases h0 : (n : Int) = 0
  · rw [h0, pF_nil]
    omega
  · have hp : pF v n = (2 * v + n) / (2 * n) := by simp only [pF, if_neg h0]
    obtain ⟨q1, q2⟩ := tdiv_bd (2 * (n : Int)) (t := 2 * v + n) (by omega)
    rw [hp]
    by_cases hr : (2 * v + (n : Int)).tmod (2 * n) < 0
    · rw [div_low (by omega) hr]; omega
    · rw [div_up (by omega) (by omega)]; omega
/-- k steps of n, of no more than n, are no more than these bounds. -/
theorem step_bd {k n : Nat} {d : Int} (hk : k < n + 1) (hn : n ≤ 512) (hd : -(n : Int) ≤ d ∧ d ≤ n) : -1048576 ≤ (k : Int) * d ∧ (k : Int) * d ≤ 1048576 := by
  have h1 : (k : Int) * d ≤ k * (n : Int) := Int.mul_le_mul_of_nonneg_left hd.2 (by omega)
  have h2 : (k : Int) * -(n : Int) ≤ k * d := Int.mul_le_mul_of_nonneg_left hd.1 (by omega)
  have h3 : (k : Int) * n ≤ 512 * 512 := Int.mul_le_mul (by omega) (by omega) (by omega) (by omega)
  rw [Int.mul_neg] at h2
  omega

/-- What a line's iterator holds. -/
def LineAt (W : World) (p : Nat) (X Y Z V n : Int) : Prop :=
  W.cell? ⟨p, 0, none⟩ = some (.int .i64 X) ∧ W.cell? ⟨p, 1, none⟩ = some (.int .i64 Y) ∧ W.cell? ⟨p + 1, 0, none⟩ = some (.int .i64 Z) ∧ W.cell? ⟨p + 1, 1, none⟩ = some (.int .i64 V) ∧ W.cell? ⟨p + 2, 0, none⟩ = some (.int .i64 n)
theorem LineAt.kept {W W' : World} {p : Nat} {X Y Z V n : Int} (h : LineAt W p X Y Z V n) (x : KP p 3 W W') : LineAt W' p X Y Z V n :=
  ⟨x.cell (by omega) (by omega) h.1, x.cell (by omega) (by omega) h.2.1, x.cell (by omega) (by omega) h.2.2.1, x.cell (by omega) (by omega) h.2.2.2.1, x.cell (by omega) (by omega) h.2.2.2.2⟩
theorem LineAt.below {W W' : World} {p : Nat} {X Y Z V n : Int} (h : LineAt W p X Y Z V n) (x : Below W.heap.size W W') : LineAt W' p X Y Z V n :=
  ⟨cell_later x h.1, cell_later x h.2.1, cell_later x h.2.2.1, cell_later x h.2.2.2.1, cell_later x h.2.2.2.2⟩

set_option maxHeartbeats 1000000 in
theorem line_mk (X Y Z V n : Int) (w : World) :
    Calls Try.prog 36 #[.agg #[.int .i64 X, .int .i64 Y], .agg #[.int .i64 Z, .int .i64 V], .int .i64 n] w fun e w' => e = .returned (.func (.func 63) #[] #[.pointer (some ⟨w.heap.size + 2, 0, none⟩), .pointer (some ⟨w.heap.size, 0, none⟩), .pointer (some ⟨w.heap.size + 1, 0, none⟩)]) ∧
      LineAt w' w.heap.size X Y Z V n ∧ w'.heap.size = w.heap.size + 3 ∧ Below w.heap.size w w' := by
  go_enter Try.func36, Try.ntmps36
  go_wp2
  go_ret
  refine ⟨rfl, ?_, by simp, bl_al (bl_al (bl_al (bl0 _) _) _) _⟩
  unfold LineAt
  simp [go_sem]

set_option maxRecDepth 100000 in
set_option maxHeartbeats 2000000 in
theorem line1_in (l p : Nat) (X Y Z V : Int) (n : Nat) (hn : n ≤ 512) (hX : plainB X Y = true) (hZ : plainB Z V = true) (hdx : -(n : Int) ≤ Z - X ∧ Z - X ≤ n) (hdy : -(n : Int) ≤ V - Y ∧ V - Y ≤ n)
    (J Jx : List (Int × Int) → World → Prop) (W : World) (hJ : AbP p 3 J)
    (hY : ∀ pre x W1, J pre W1 → pre ++ [x] <+: lineF X Y Z V n → YieldAt Fence.wide 0 Try.prog l #[.agg #[.int .i64 x.1, .int .i64 x.2]] W1 fun e W' =>
      (e = .returned (.bool true) ∧ J (pre ++ [x]) W' ∧ KP p 3 W1 W') ∨ (e = .returned (.bool false) ∧ Jx (pre ++ [x]) W' ∧ KP p 3 W1 W'))
    (hs : LineAt W p X Y Z V n) (h0 : J [] W) :
    CallsIn Fence.wide 10 Try.prog 63 #[.func (.yield l) #[] #[], .pointer (some ⟨p + 2, 0, none⟩), .pointer (some ⟨p, 0, none⟩), .pointer (some ⟨p + 1, 0, none⟩)] W fun e W' => (∃ v, e = .returned v) ∧
      (J (lineF X Y Z V n) W' ∨ ∃ q, q <+: lineF X Y Z V n ∧ Jx q W') := by
  obtain ⟨x1, x2, y1, y2⟩ := plainB_iff.1 hX
  obtain ⟨z1, z2, v1, v2⟩ := plainB_iff.1 hZ
  obtain ⟨s0, s1, s2, s3, s4⟩ := hs
  refine callsIn_of_wp Try.func63 rfl trivial ?_ rfl
  simp only [Try.ntmps63, List.size_toArray, List.length_cons, List.length_nil, Nat.reduceAdd, Nat.reduceSub, Array.replicate_succ, Array.replicate_zero, List.push_toArray, List.append_toArray, List.nil_append, List.cons_append]
  gi_wp2
  gi_loopw [5, 8] (fun _ i wr => ∃ k : Nat, k ≤ n + 1 ∧ i = .int .i64 k ∧ J ((lineF X Y Z V n).take k) wr ∧ LineAt wr p X Y Z V n) (fun _ i _ => n + 1 - (intOf i).toNat)
  case atStart => exact ⟨0, Nat.zero_le _, rfl, h0, s0, s1, s2, s3, s4⟩
  case round =>
    obtain ⟨k, hk, rfl, hJr, hL⟩ := hrel
    clear s0 s1 s2 s3 s4
    obtain ⟨s0, s1, s2, s3, s4⟩ := hL
    by_cases hlt : k < n + 1
    · have hlt2 : (k : Int) < (n : Int) + 1 := by omega
      obtain ⟨m1, m2⟩ := step_bd hlt hn hdx
      obtain ⟨m3, m4⟩ := step_bd hlt hn hdy
      obtain ⟨p1, p2⟩ := pF_bd (n := n) ⟨m1, m2⟩ (by omega)
      obtain ⟨p3, p4⟩ := pF_bd (n := n) ⟨m3, m4⟩ (by omega)
      have e1 : IntKind.i64.wrap (Z - X) = Z - X := IntWalk.i64_in _ (by omega)
      have e2 : IntKind.i64.wrap ((k : Int) * (Z - X)) = (k : Int) * (Z - X) := IntWalk.i64_in _ (by omega)
      have e3 : IntKind.i64.wrap (V - Y) = V - Y := IntWalk.i64_in _ (by omega)
      have e4 : IntKind.i64.wrap ((k : Int) * (V - Y)) = (k : Int) * (V - Y) := IntWalk.i64_in _ (by omega)
      have e5 : IntKind.i64.wrap (X + pF ((k : Int) * (Z - X)) n) = X + pF ((k : Int) * (Z - X)) n := IntWalk.i64_in _ (by omega)
      have e6 : IntKind.i64.wrap (Y + pF ((k : Int) * (V - Y)) n) = Y + pF ((k : Int) * (V - Y)) n := IntWalk.i64_in _ (by omega)
      gi_wp2
      have hB := bl_dr (bl0 wr)
      refine ordS_begin (S := (fun w' => w'.cell? ⟨p, 0, none⟩ = some (.int .i64 X) ∧ w'.cell? ⟨p, 1, none⟩ = some (.int .i64 Y) ∧ w'.cell? ⟨p + 1, 0, none⟩ = some (.int .i64 Z) ∧ w'.cell? ⟨p + 1, 1, none⟩ = some (.int .i64 V) ∧ w'.cell? ⟨p + 2, 0, none⟩ = some (.int .i64 (n : Int)))) (by kernel_rfl) ⟨s0, s1, s2, s3, s4⟩ (fun hH => ?_)
      first
        | (refine' ordS_take (i := 0) (oi := { dst := some 11, op := Op.move (Operand.tmp 0), type := 28, pos := _, after := #[], guard := none }) (v := _) rfl (by kernel_rfl) (by kernel_rfl) (by kernel_rfl) (by kernel_rfl) (fun _ _ _ h => h) (by assumption) (Or.inl ⟨by rfl, ?hy1⟩) (fun _ => rfl) ?rest1
           case hy1 => (intro w hSw; (try dsimp only at hSw); go_simp; try with_reducible rfl))
        | (refine ordS_take (i := 0) (oi := { dst := some 11, op := Op.move (Operand.tmp 0), type := 28, pos := _, after := #[], guard := none }) (v := undef) rfl (by kernel_rfl) (by kernel_rfl) (by kernel_rfl) (by kernel_rfl) (fun _ _ _ h => h) (by assumption) (Or.inr ⟨by rfl, rfl⟩) (fun _ => rfl) ?_)
      try simp only [Act.put, List.setIfInBounds_toArray, List.set_cons_zero, List.set_cons_succ]
      first
        | (refine' ordS_take (i := 1) (oi := { dst := some 12, op := Op.fieldAddr 23 (Operand.tmp 2) 0, type := 0, pos := _, after := #[], guard := none }) (v := _) rfl (by kernel_rfl) (by kernel_rfl) (by kernel_rfl) (by kernel_rfl) (fun _ _ _ h => h) (by assumption) (Or.inl ⟨by rfl, ?hy2⟩) (fun _ => rfl) ?rest2
           case hy2 => (intro w hSw; (try dsimp only at hSw); go_simp; try with_reducible rfl))
        | (refine ordS_take (i := 1) (oi := { dst := some 12, op := Op.fieldAddr 23 (Operand.tmp 2) 0, type := 0, pos := _, after := #[], guard := none }) (v := undef) rfl (by kernel_rfl) (by kernel_rfl) (by kernel_rfl) (by kernel_rfl) (fun _ _ _ h => h) (by assumption) (Or.inr ⟨by rfl, rfl⟩) (fun _ => rfl) ?_)
      try simp only [Act.put, List.setIfInBounds_toArray, List.set_cons_zero, List.set_cons_succ]
      first
        | (refine' ordS_take (i := 2) (oi := { dst := some 13, op := Op.load 3 (Operand.tmp 12), type := 3, pos := _, after := #[{ on := 1, ground := Ground.data }], guard := none }) (v := _) rfl (by kernel_rfl) (by kernel_rfl) (by kernel_rfl) (by kernel_rfl) (fun _ _ _ h => h) (by assumption) (Or.inl ⟨by rfl, ?hy3⟩) (fun _ => rfl) ?rest3
           case hy3 => (intro w hSw; (try dsimp only at hSw); go_simp; try with_reducible rfl))
        | (refine ordS_take (i := 2) (oi := { dst := some 13, op := Op.load 3 (Operand.tmp 12), type := 3, pos := _, after := #[{ on := 1, ground := Ground.data }], guard := none }) (v := undef) rfl (by kernel_rfl) (by kernel_rfl) (by kernel_rfl) (by kernel_rfl) (fun _ _ _ h => h) (by assumption) (Or.inr ⟨by rfl, rfl⟩) (fun _ => rfl) ?_)
      try simp only [Act.put, List.setIfInBounds_toArray, List.set_cons_zero, List.set_cons_succ]
      first
        | (refine' ordS_take (i := 3) (oi := { dst := some 14, op := Op.move (Operand.tmp 5), type := 3, pos := _, after := #[], guard := none }) (v := _) rfl (by kernel_rfl) (by kernel_rfl) (by kernel_rfl) (by kernel_rfl) (fun _ _ _ h => h) (by assumption) (Or.inl ⟨by rfl, ?hy4⟩) (fun _ => rfl) ?rest4
           case hy4 => (intro w hSw; (try dsimp only at hSw); go_simp; try with_reducible rfl))
        | (refine ordS_take (i := 3) (oi := { dst := some 14, op := Op.move (Operand.tmp 5), type := 3, pos := _, after := #[], guard := none }) (v := undef) rfl (by kernel_rfl) (by kernel_rfl) (by kernel_rfl) (by kernel_rfl) (fun _ _ _ h => h) (by assumption) (Or.inr ⟨by rfl, rfl⟩) (fun _ => rfl) ?_)
      try simp only [Act.put, List.setIfInBounds_toArray, List.set_cons_zero, List.set_cons_succ]
      first
        | (refine' ordS_take (i := 4) (oi := { dst := some 15, op := Op.fieldAddr 23 (Operand.tmp 3) 0, type := 0, pos := _, after := #[], guard := none }) (v := _) rfl (by kernel_rfl) (by kernel_rfl) (by kernel_rfl) (by kernel_rfl) (fun _ _ _ h => h) (by assumption) (Or.inl ⟨by rfl, ?hy5⟩) (fun _ => rfl) ?rest5
           case hy5 => (intro w hSw; (try dsimp only at hSw); go_simp; try with_reducible rfl))
        | (refine ordS_take (i := 4) (oi := { dst := some 15, op := Op.fieldAddr 23 (Operand.tmp 3) 0, type := 0, pos := _, after := #[], guard := none }) (v := undef) rfl (by kernel_rfl) (by kernel_rfl) (by kernel_rfl) (by kernel_rfl) (fun _ _ _ h => h) (by assumption) (Or.inr ⟨by rfl, rfl⟩) (fun _ => rfl) ?_)
      try simp only [Act.put, List.setIfInBounds_toArray, List.set_cons_zero, List.set_cons_succ]
      first
        | (refine' ordS_take (i := 5) (oi := { dst := some 16, op := Op.load 3 (Operand.tmp 15), type := 3, pos := _, after := #[{ on := 4, ground := Ground.data }], guard := none }) (v := _) rfl (by kernel_rfl) (by kernel_rfl) (by kernel_rfl) (by kernel_rfl) (fun _ _ _ h => h) (by assumption) (Or.inl ⟨by rfl, ?hy6⟩) (fun _ => rfl) ?rest6
           case hy6 => (intro w hSw; (try dsimp only at hSw); go_simp; try with_reducible rfl))
        | (refine ordS_take (i := 5) (oi := { dst := some 16, op := Op.load 3 (Operand.tmp 15), type := 3, pos := _, after := #[{ on := 4, ground := Ground.data }], guard := none }) (v := undef) rfl (by kernel_rfl) (by kernel_rfl) (by kernel_rfl) (by kernel_rfl) (fun _ _ _ h => h) (by assumption) (Or.inr ⟨by rfl, rfl⟩) (fun _ => rfl) ?_)
      try simp only [Act.put, List.setIfInBounds_toArray, List.set_cons_zero, List.set_cons_succ]
      first
        | (refine' ordS_take (i := 6) (oi := { dst := some 17, op := Op.fieldAddr 23 (Operand.tmp 2) 0, type := 0, pos := _, after := #[], guard := none }) (v := _) rfl (by kernel_rfl) (by kernel_rfl) (by kernel_rfl) (by kernel_rfl) (fun _ _ _ h => h) (by assumption) (Or.inl ⟨by rfl, ?hy7⟩) (fun _ => rfl) ?rest7
           case hy7 => (intro w hSw; (try dsimp only at hSw); go_simp; try with_reducible rfl))
        | (refine ordS_take (i := 6) (oi := { dst := some 17, op := Op.fieldAddr 23 (Operand.tmp 2) 0, type := 0, pos := _, after := #[], guard := none }) (v := undef) rfl (by kernel_rfl) (by kernel_rfl) (by kernel_rfl) (by kernel_rfl) (fun _ _ _ h => h) (by assumption) (Or.inr ⟨by rfl, rfl⟩) (fun _ => rfl) ?_)
      try simp only [Act.put, List.setIfInBounds_toArray, List.set_cons_zero, List.set_cons_succ]
      first
        | (refine' ordS_take (i := 7) (oi := { dst := some 18, op := Op.load 3 (Operand.tmp 17), type := 3, pos := _, after := #[{ on := 6, ground := Ground.data }], guard := none }) (v := _) rfl (by kernel_rfl) (by kernel_rfl) (by kernel_rfl) (by kernel_rfl) (fun _ _ _ h => h) (by assumption) (Or.inl ⟨by rfl, ?hy8⟩) (fun _ => rfl) ?rest8
           case hy8 => (intro w hSw; (try dsimp only at hSw); go_simp; try with_reducible rfl))
        | (refine ordS_take (i := 7) (oi := { dst := some 18, op := Op.load 3 (Operand.tmp 17), type := 3, pos := _, after := #[{ on := 6, ground := Ground.data }], guard := none }) (v := undef) rfl (by kernel_rfl) (by kernel_rfl) (by kernel_rfl) (by kernel_rfl) (fun _ _ _ h => h) (by assumption) (Or.inr ⟨by rfl, rfl⟩) (fun _ => rfl) ?_)
      try simp only [Act.put, List.setIfInBounds_toArray, List.set_cons_zero, List.set_cons_succ]
      first
        | (refine' ordS_take (i := 8) (oi := { dst := some 19, op := Op.binOp BinOp.sub 3 (Operand.tmp 16) (Operand.tmp 18) 3, type := 3, pos := _, after := #[{ on := 5, ground := Ground.data }, { on := 7, ground := Ground.data }], guard := none }) (v := _) rfl (by kernel_rfl) (by kernel_rfl) (by kernel_rfl) (by kernel_rfl) (fun _ _ _ h => h) (by assumption) (Or.inl ⟨by rfl, ?hy9⟩) (fun _ => rfl) ?rest9
           case hy9 => (intro w hSw; (try dsimp only at hSw); go_simp; try with_reducible rfl))
        | (refine ordS_take (i := 8) (oi := { dst := some 19, op := Op.binOp BinOp.sub 3 (Operand.tmp 16) (Operand.tmp 18) 3, type := 3, pos := _, after := #[{ on := 5, ground := Ground.data }, { on := 7, ground := Ground.data }], guard := none }) (v := undef) rfl (by kernel_rfl) (by kernel_rfl) (by kernel_rfl) (by kernel_rfl) (fun _ _ _ h => h) (by assumption) (Or.inr ⟨by rfl, rfl⟩) (fun _ => rfl) ?_)
      try simp only [Act.put, List.setIfInBounds_toArray, List.set_cons_zero, List.set_cons_succ]
      first
        | (refine' ordS_take (i := 9) (oi := { dst := some 20, op := Op.binOp BinOp.mul 3 (Operand.tmp 14) (Operand.tmp 19) 3, type := 3, pos := _, after := #[{ on := 3, ground := Ground.data }, { on := 8, ground := Ground.data }], guard := none }) (v := _) rfl (by kernel_rfl) (by kernel_rfl) (by kernel_rfl) (by kernel_rfl) (fun _ _ _ h => h) (by assumption) (Or.inl ⟨by rfl, ?hy10⟩) (fun _ => rfl) ?rest10
           case hy10 => (intro w hSw; (try dsimp only at hSw); go_simp; try with_reducible rfl))
        | (refine ordS_take (i := 9) (oi := { dst := some 20, op := Op.binOp BinOp.mul 3 (Operand.tmp 14) (Operand.tmp 19) 3, type := 3, pos := _, after := #[{ on := 3, ground := Ground.data }, { on := 8, ground := Ground.data }], guard := none }) (v := undef) rfl (by kernel_rfl) (by kernel_rfl) (by kernel_rfl) (by kernel_rfl) (fun _ _ _ h => h) (by assumption) (Or.inr ⟨by rfl, rfl⟩) (fun _ => rfl) ?_)
      try simp only [Act.put, List.setIfInBounds_toArray, List.set_cons_zero, List.set_cons_succ]
      first
        | (refine' ordS_take (i := 10) (oi := { dst := some 21, op := Op.load 3 (Operand.tmp 1), type := 3, pos := _, after := #[], guard := none }) (v := _) rfl (by kernel_rfl) (by kernel_rfl) (by kernel_rfl) (by kernel_rfl) (fun _ _ _ h => h) (by assumption) (Or.inl ⟨by rfl, ?hy11⟩) (fun _ => rfl) ?rest11
           case hy11 => (intro w hSw; (try dsimp only at hSw); go_simp; try with_reducible rfl))
        | (refine ordS_take (i := 10) (oi := { dst := some 21, op := Op.load 3 (Operand.tmp 1), type := 3, pos := _, after := #[], guard := none }) (v := undef) rfl (by kernel_rfl) (by kernel_rfl) (by kernel_rfl) (by kernel_rfl) (fun _ _ _ h => h) (by assumption) (Or.inr ⟨by rfl, rfl⟩) (fun _ => rfl) ?_)
      try simp only [Act.put, List.setIfInBounds_toArray, List.set_cons_zero, List.set_cons_succ]
      first
        | (refine' ordS_take (i := 13) (oi := { dst := some 24, op := Op.fieldAddr 23 (Operand.tmp 2) 1, type := 0, pos := _, after := #[], guard := none }) (v := _) rfl (by kernel_rfl) (by kernel_rfl) (by kernel_rfl) (by kernel_rfl) (fun _ _ _ h => h) (by assumption) (Or.inl ⟨by rfl, ?hy12⟩) (fun _ => rfl) ?rest12
           case hy12 => (intro w hSw; (try dsimp only at hSw); go_simp; try with_reducible rfl))
        | (refine ordS_take (i := 13) (oi := { dst := some 24, op := Op.fieldAddr 23 (Operand.tmp 2) 1, type := 0, pos := _, after := #[], guard := none }) (v := undef) rfl (by kernel_rfl) (by kernel_rfl) (by kernel_rfl) (by kernel_rfl) (fun _ _ _ h => h) (by assumption) (Or.inr ⟨by rfl, rfl⟩) (fun _ => rfl) ?_)
      try simp only [Act.put, List.setIfInBounds_toArray, List.set_cons_zero, List.set_cons_succ]
      first
        | (refine' ordS_take (i := 14) (oi := { dst := some 25, op := Op.load 3 (Operand.tmp 24), type := 3, pos := _, after := #[{ on := 13, ground := Ground.data }], guard := none }) (v := _) rfl (by kernel_rfl) (by kernel_rfl) (by kernel_rfl) (by kernel_rfl) (fun _ _ _ h => h) (by assumption) (Or.inl ⟨by rfl, ?hy13⟩) (fun _ => rfl) ?rest13
           case hy13 => (intro w hSw; (try dsimp only at hSw); go_simp; try with_reducible rfl))
        | (refine ordS_take (i := 14) (oi := { dst := some 25, op := Op.load 3 (Operand.tmp 24), type := 3, pos := _, after := #[{ on := 13, ground := Ground.data }], guard := none }) (v := undef) rfl (by kernel_rfl) (by kernel_rfl) (by kernel_rfl) (by kernel_rfl) (fun _ _ _ h => h) (by assumption) (Or.inr ⟨by rfl, rfl⟩) (fun _ => rfl) ?_)
      try simp only [Act.put, List.setIfInBounds_toArray, List.set_cons_zero, List.set_cons_succ]
      first
        | (refine' ordS_take (i := 15) (oi := { dst := some 26, op := Op.move (Operand.tmp 5), type := 3, pos := _, after := #[], guard := none }) (v := _) rfl (by kernel_rfl) (by kernel_rfl) (by kernel_rfl) (by kernel_rfl) (fun _ _ _ h => h) (by assumption) (Or.inl ⟨by rfl, ?hy14⟩) (fun _ => rfl) ?rest14
           case hy14 => (intro w hSw; (try dsimp only at hSw); go_simp; try with_reducible rfl))
        | (refine ordS_take (i := 15) (oi := { dst := some 26, op := Op.move (Operand.tmp 5), type := 3, pos := _, after := #[], guard := none }) (v := undef) rfl (by kernel_rfl) (by kernel_rfl) (by kernel_rfl) (by kernel_rfl) (fun _ _ _ h => h) (by assumption) (Or.inr ⟨by rfl, rfl⟩) (fun _ => rfl) ?_)
      try simp only [Act.put, List.setIfInBounds_toArray, List.set_cons_zero, List.set_cons_succ]
      first
        | (refine' ordS_take (i := 16) (oi := { dst := some 27, op := Op.fieldAddr 23 (Operand.tmp 3) 1, type := 0, pos := _, after := #[], guard := none }) (v := _) rfl (by kernel_rfl) (by kernel_rfl) (by kernel_rfl) (by kernel_rfl) (fun _ _ _ h => h) (by assumption) (Or.inl ⟨by rfl, ?hy15⟩) (fun _ => rfl) ?rest15
           case hy15 => (intro w hSw; (try dsimp only at hSw); go_simp; try with_reducible rfl))
        | (refine ordS_take (i := 16) (oi := { dst := some 27, op := Op.fieldAddr 23 (Operand.tmp 3) 1, type := 0, pos := _, after := #[], guard := none }) (v := undef) rfl (by kernel_rfl) (by kernel_rfl) (by kernel_rfl) (by kernel_rfl) (fun _ _ _ h => h) (by assumption) (Or.inr ⟨by rfl, rfl⟩) (fun _ => rfl) ?_)
      try simp only [Act.put, List.setIfInBounds_toArray, List.set_cons_zero, List.set_cons_succ]
      first
        | (refine' ordS_take (i := 17) (oi := { dst := some 28, op := Op.load 3 (Operand.tmp 27), type := 3, pos := _, after := #[{ on := 16, ground := Ground.data }], guard := none }) (v := _) rfl (by kernel_rfl) (by kernel_rfl) (by kernel_rfl) (by kernel_rfl) (fun _ _ _ h => h) (by assumption) (Or.inl ⟨by rfl, ?hy16⟩) (fun _ => rfl) ?rest16
           case hy16 => (intro w hSw; (try dsimp only at hSw); go_simp; try with_reducible rfl))
        | (refine ordS_take (i := 17) (oi := { dst := some 28, op := Op.load 3 (Operand.tmp 27), type := 3, pos := _, after := #[{ on := 16, ground := Ground.data }], guard := none }) (v := undef) rfl (by kernel_rfl) (by kernel_rfl) (by kernel_rfl) (by kernel_rfl) (fun _ _ _ h => h) (by assumption) (Or.inr ⟨by rfl, rfl⟩) (fun _ => rfl) ?_)
      try simp only [Act.put, List.setIfInBounds_toArray, List.set_cons_zero, List.set_cons_succ]
      first
        | (refine' ordS_take (i := 18) (oi := { dst := some 29, op := Op.fieldAddr 23 (Operand.tmp 2) 1, type := 0, pos := _, after := #[], guard := none }) (v := _) rfl (by kernel_rfl) (by kernel_rfl) (by kernel_rfl) (by kernel_rfl) (fun _ _ _ h => h) (by assumption) (Or.inl ⟨by rfl, ?hy17⟩) (fun _ => rfl) ?rest17
           case hy17 => (intro w hSw; (try dsimp only at hSw); go_simp; try with_reducible rfl))
        | (refine ordS_take (i := 18) (oi := { dst := some 29, op := Op.fieldAddr 23 (Operand.tmp 2) 1, type := 0, pos := _, after := #[], guard := none }) (v := undef) rfl (by kernel_rfl) (by kernel_rfl) (by kernel_rfl) (by kernel_rfl) (fun _ _ _ h => h) (by assumption) (Or.inr ⟨by rfl, rfl⟩) (fun _ => rfl) ?_)
      try simp only [Act.put, List.setIfInBounds_toArray, List.set_cons_zero, List.set_cons_succ]
      first
        | (refine' ordS_take (i := 19) (oi := { dst := some 30, op := Op.load 3 (Operand.tmp 29), type := 3, pos := _, after := #[{ on := 18, ground := Ground.data }], guard := none }) (v := _) rfl (by kernel_rfl) (by kernel_rfl) (by kernel_rfl) (by kernel_rfl) (fun _ _ _ h => h) (by assumption) (Or.inl ⟨by rfl, ?hy18⟩) (fun _ => rfl) ?rest18
           case hy18 => (intro w hSw; (try dsimp only at hSw); go_simp; try with_reducible rfl))
        | (refine ordS_take (i := 19) (oi := { dst := some 30, op := Op.load 3 (Operand.tmp 29), type := 3, pos := _, after := #[{ on := 18, ground := Ground.data }], guard := none }) (v := undef) rfl (by kernel_rfl) (by kernel_rfl) (by kernel_rfl) (by kernel_rfl) (fun _ _ _ h => h) (by assumption) (Or.inr ⟨by rfl, rfl⟩) (fun _ => rfl) ?_)
      try simp only [Act.put, List.setIfInBounds_toArray, List.set_cons_zero, List.set_cons_succ]
      first
        | (refine' ordS_take (i := 20) (oi := { dst := some 31, op := Op.binOp BinOp.sub 3 (Operand.tmp 28) (Operand.tmp 30) 3, type := 3, pos := _, after := #[{ on := 17, ground := Ground.data }, { on := 19, ground := Ground.data }], guard := none }) (v := _) rfl (by kernel_rfl) (by kernel_rfl) (by kernel_rfl) (by kernel_rfl) (fun _ _ _ h => h) (by assumption) (Or.inl ⟨by rfl, ?hy19⟩) (fun _ => rfl) ?rest19
           case hy19 => (intro w hSw; (try dsimp only at hSw); go_simp; try with_reducible rfl))
        | (refine ordS_take (i := 20) (oi := { dst := some 31, op := Op.binOp BinOp.sub 3 (Operand.tmp 28) (Operand.tmp 30) 3, type := 3, pos := _, after := #[{ on := 17, ground := Ground.data }, { on := 19, ground := Ground.data }], guard := none }) (v := undef) rfl (by kernel_rfl) (by kernel_rfl) (by kernel_rfl) (by kernel_rfl) (fun _ _ _ h => h) (by assumption) (Or.inr ⟨by rfl, rfl⟩) (fun _ => rfl) ?_)
      try simp only [Act.put, List.setIfInBounds_toArray, List.set_cons_zero, List.set_cons_succ]
      first
        | (refine' ordS_take (i := 21) (oi := { dst := some 32, op := Op.binOp BinOp.mul 3 (Operand.tmp 26) (Operand.tmp 31) 3, type := 3, pos := _, after := #[{ on := 15, ground := Ground.data }, { on := 20, ground := Ground.data }], guard := none }) (v := _) rfl (by kernel_rfl) (by kernel_rfl) (by kernel_rfl) (by kernel_rfl) (fun _ _ _ h => h) (by assumption) (Or.inl ⟨by rfl, ?hy20⟩) (fun _ => rfl) ?rest20
           case hy20 => (intro w hSw; (try dsimp only at hSw); go_simp; try with_reducible rfl))
        | (refine ordS_take (i := 21) (oi := { dst := some 32, op := Op.binOp BinOp.mul 3 (Operand.tmp 26) (Operand.tmp 31) 3, type := 3, pos := _, after := #[{ on := 15, ground := Ground.data }, { on := 20, ground := Ground.data }], guard := none }) (v := undef) rfl (by kernel_rfl) (by kernel_rfl) (by kernel_rfl) (by kernel_rfl) (fun _ _ _ h => h) (by assumption) (Or.inr ⟨by rfl, rfl⟩) (fun _ => rfl) ?_)
      try simp only [Act.put, List.setIfInBounds_toArray, List.set_cons_zero, List.set_cons_succ]
      first
        | (refine' ordS_take (i := 22) (oi := { dst := some 33, op := Op.load 3 (Operand.tmp 1), type := 3, pos := _, after := #[], guard := none }) (v := _) rfl (by kernel_rfl) (by kernel_rfl) (by kernel_rfl) (by kernel_rfl) (fun _ _ _ h => h) (by assumption) (Or.inl ⟨by rfl, ?hy21⟩) (fun _ => rfl) ?rest21
           case hy21 => (intro w hSw; (try dsimp only at hSw); go_simp; try with_reducible rfl))
        | (refine ordS_take (i := 22) (oi := { dst := some 33, op := Op.load 3 (Operand.tmp 1), type := 3, pos := _, after := #[], guard := none }) (v := undef) rfl (by kernel_rfl) (by kernel_rfl) (by kernel_rfl) (by kernel_rfl) (fun _ _ _ h => h) (by assumption) (Or.inr ⟨by rfl, rfl⟩) (fun _ => rfl) ?_)
      try simp only [Act.put, List.setIfInBounds_toArray, List.set_cons_zero, List.set_cons_succ]
      try simp only [e1, e2, e3, e4]
      refine ordS_one (i := 11) (o := { dst := some 22, op := Op.call { callee := Callee.value (Operand.func 64), args := #[Operand.tmp 20, Operand.tmp 21], argTypes := #[3, 3] }, type := 3, pos := _, after := #[{ on := 9, ground := Ground.data }, { on := 10, ground := Ground.data }], guard := none }) (by kernel_rfl) rfl (by rfl) (fun K hK => ?_)
      go_simp
      refine ⟨trivial, ?_⟩
      with_reducible refine (callsIn_wide.2 (nearest_any _ _ _ ⟨m1, m2⟩ (by omega))).mono ?_
      rintro e w8 ⟨rfl, hb⟩
      replace s0 := cell_later hb (cell_later hB s0); replace s1 := cell_later hb (cell_later hB s1); replace s2 := cell_later hb (cell_later hB s2); replace s3 := cell_later hb (cell_later hB s3); replace s4 := cell_later hb (cell_later hB s4)
      have hB2 := bl_tr hB hb
      have hS8 : (fun w' => w'.cell? ⟨p, 0, none⟩ = some (.int .i64 X) ∧ w'.cell? ⟨p, 1, none⟩ = some (.int .i64 Y) ∧ w'.cell? ⟨p + 1, 0, none⟩ = some (.int .i64 Z) ∧ w'.cell? ⟨p + 1, 1, none⟩ = some (.int .i64 V) ∧ w'.cell? ⟨p + 2, 0, none⟩ = some (.int .i64 (n : Int))) w8 := ⟨s0, s1, s2, s3, s4⟩
      refine hK _ _ hS8 ?_
      clear hK K hb
      try simp only [Act.put, List.setIfInBounds_toArray, List.set_cons_zero, List.set_cons_succ]
      first
        | (refine' ordS_take (i := 12) (oi := { dst := some 23, op := Op.binOp BinOp.add 3 (Operand.tmp 13) (Operand.tmp 22) 3, type := 3, pos := _, after := #[{ on := 2, ground := Ground.data }, { on := 11, ground := Ground.data }], guard := none }) (v := _) rfl (by kernel_rfl) (by kernel_rfl) (by kernel_rfl) (by kernel_rfl) (fun _ _ _ h => h) (by assumption) (Or.inl ⟨by rfl, ?hy22⟩) (fun _ => rfl) ?rest22
           case hy22 => (intro w hSw; (try dsimp only at hSw); go_simp; try with_reducible rfl))
        | (refine ordS_take (i := 12) (oi := { dst := some 23, op := Op.binOp BinOp.add 3 (Operand.tmp 13) (Operand.tmp 22) 3, type := 3, pos := _, after := #[{ on := 2, ground := Ground.data }, { on := 11, ground := Ground.data }], guard := none }) (v := undef) rfl (by kernel_rfl) (by kernel_rfl) (by kernel_rfl) (by kernel_rfl) (fun _ _ _ h => h) (by assumption) (Or.inr ⟨by rfl, rfl⟩) (fun _ => rfl) ?_)
      try simp only [Act.put, List.setIfInBounds_toArray, List.set_cons_zero, List.set_cons_succ]
      refine ordS_one (i := 23) (o := { dst := some 34, op := Op.call { callee := Callee.value (Operand.func 64), args := #[Operand.tmp 32, Operand.tmp 33], argTypes := #[3, 3] }, type := 3, pos := _, after := #[{ on := 21, ground := Ground.data }, { on := 22, ground := Ground.data }, { on := 11, ground := Ground.chain }], guard := none }) (by kernel_rfl) rfl (by rfl) (fun K hK => ?_)
      go_simp
      refine ⟨trivial, ?_⟩
      with_reducible refine (callsIn_wide.2 (nearest_any _ _ _ ⟨m3, m4⟩ (by omega))).mono ?_
      rintro e w9 ⟨rfl, hb⟩
      replace s0 := cell_later hb s0; replace s1 := cell_later hb s1; replace s2 := cell_later hb s2; replace s3 := cell_later hb s3; replace s4 := cell_later hb s4
      have hB3 := bl_tr hB2 hb
      have hS9 : (fun w' => w'.cell? ⟨p, 0, none⟩ = some (.int .i64 X) ∧ w'.cell? ⟨p, 1, none⟩ = some (.int .i64 Y) ∧ w'.cell? ⟨p + 1, 0, none⟩ = some (.int .i64 Z) ∧ w'.cell? ⟨p + 1, 1, none⟩ = some (.int .i64 V) ∧ w'.cell? ⟨p + 2, 0, none⟩ = some (.int .i64 (n : Int))) w9 := ⟨s0, s1, s2, s3, s4⟩
      refine hK _ _ hS9 ?_
      clear hK K hb
      try simp only [Act.put, List.setIfInBounds_toArray, List.set_cons_zero, List.set_cons_succ]
      first
        | (refine' ordS_take (i := 24) (oi := { dst := some 35, op := Op.binOp BinOp.add 3 (Operand.tmp 25) (Operand.tmp 34) 3, type := 3, pos := _, after := #[{ on := 14, ground := Ground.data }, { on := 23, ground := Ground.data }], guard := none }) (v := _) rfl (by kernel_rfl) (by kernel_rfl) (by kernel_rfl) (by kernel_rfl) (fun _ _ _ h => h) (by assumption) (Or.inl ⟨by rfl, ?hy23⟩) (fun _ => rfl) ?rest23
           case hy23 => (intro w hSw; (try dsimp only at hSw); go_simp; try with_reducible rfl))
        | (refine ordS_take (i := 24) (oi := { dst := some 35, op := Op.binOp BinOp.add 3 (Operand.tmp 25) (Operand.tmp 34) 3, type := 3, pos := _, after := #[{ on := 14, ground := Ground.data }, { on := 23, ground := Ground.data }], guard := none }) (v := undef) rfl (by kernel_rfl) (by kernel_rfl) (by kernel_rfl) (by kernel_rfl) (fun _ _ _ h => h) (by assumption) (Or.inr ⟨by rfl, rfl⟩) (fun _ => rfl) ?_)
      try simp only [Act.put, List.setIfInBounds_toArray, List.set_cons_zero, List.set_cons_succ]
      first
        | (refine' ordS_take (i := 25) (oi := { dst := some 36, op := Op.build 23 #[(0, Operand.tmp 23), (1, Operand.tmp 35)], type := 23, pos := _, after := #[{ on := 12, ground := Ground.data }, { on := 24, ground := Ground.data }], guard := none }) (v := _) rfl (by kernel_rfl) (by kernel_rfl) (by kernel_rfl) (by kernel_rfl) (fun _ _ _ h => h) (by assumption) (Or.inl ⟨by rfl, ?hy24⟩) (fun _ => rfl) ?rest24
           case hy24 => (intro w hSw; (try dsimp only at hSw); go_simp; try with_reducible rfl))
        | (refine ordS_take (i := 25) (oi := { dst := some 36, op := Op.build 23 #[(0, Operand.tmp 23), (1, Operand.tmp 35)], type := 23, pos := _, after := #[{ on := 12, ground := Ground.data }, { on := 24, ground := Ground.data }], guard := none }) (v := undef) rfl (by kernel_rfl) (by kernel_rfl) (by kernel_rfl) (by kernel_rfl) (fun _ _ _ h => h) (by assumption) (Or.inr ⟨by rfl, rfl⟩) (fun _ => rfl) ?_)
      try simp only [Act.put, List.setIfInBounds_toArray, List.set_cons_zero, List.set_cons_succ]
      try simp only [e5, e6]
      have hJ9 := hJ _ _ _ none hJr (grown_of_below hB3) (fun r e => by cases e)
      obtain ⟨fn, tmps, assign, body, hy, hR⟩ := yieldAt_wide 9 (hY _ (lineK X Y Z V n k) w9 hJ9 (by rw [← lineF_snoc hlt]; exact List.take_prefix _ _))
      simp only [lineK] at hy
      refine ordS_one (i := 26) (o := { dst := some 37, op := Op.call { callee := Callee.value (Operand.tmp 11), args := #[Operand.tmp 36], argTypes := #[23] }, type := 4, pos := _, after := #[{ on := 0, ground := Ground.data }, { on := 25, ground := Ground.data }, { on := 23, ground := Ground.chain }], guard := none }) (by kernel_rfl) rfl (by rfl) (fun K hK => ?_)
      go_simp
      refine hR.mono ?_
      rintro e w10 (⟨rfl, hJ10, hk10⟩ | ⟨rfl, hJx, hk10⟩)
      · have hS10 : (fun w' => w'.cell? ⟨p, 0, none⟩ = some (.int .i64 X) ∧ w'.cell? ⟨p, 1, none⟩ = some (.int .i64 Y) ∧ w'.cell? ⟨p + 1, 0, none⟩ = some (.int .i64 Z) ∧ w'.cell? ⟨p + 1, 1, none⟩ = some (.int .i64 V) ∧ w'.cell? ⟨p + 2, 0, none⟩ = some (.int .i64 (n : Int))) w10 := ⟨hk10.cell (by omega) (by omega) s0, hk10.cell (by omega) (by omega) s1, hk10.cell (by omega) (by omega) s2, hk10.cell (by omega) (by omega) s3, hk10.cell (by omega) (by omega) s4⟩
        refine hK _ _ hS10 ?_
        clear hK K
        try simp only [Act.put, List.setIfInBounds_toArray, List.set_cons_zero, List.set_cons_succ]
        first
          | (refine' ordS_take (i := 27) (oi := { dst := some 38, op := Op.unOp UnOp.not 4 (Operand.tmp 37), type := 4, pos := _, after := #[{ on := 26, ground := Ground.data }], guard := none }) (v := _) rfl (by kernel_rfl) (by kernel_rfl) (by kernel_rfl) (by kernel_rfl) (fun _ _ _ h => h) (by assumption) (Or.inl ⟨by rfl, ?hy25⟩) (fun _ => rfl) ?rest25
             case hy25 => (intro w hSw; (try dsimp only at hSw); go_simp; try with_reducible rfl))
          | (refine ordS_take (i := 27) (oi := { dst := some 38, op := Op.unOp UnOp.not 4 (Operand.tmp 37), type := 4, pos := _, after := #[{ on := 26, ground := Ground.data }], guard := none }) (v := undef) rfl (by kernel_rfl) (by kernel_rfl) (by kernel_rfl) (by kernel_rfl) (fun _ _ _ h => h) (by assumption) (Or.inr ⟨by rfl, rfl⟩) (fun _ => rfl) ?_)
        try simp only [Act.put, List.setIfInBounds_toArray, List.set_cons_zero, List.set_cons_succ]
        refine ordS_done (by kernel_rfl) ?_
        gi_wp2
        go_roundw
        case rel => exact ⟨k + 1, by omega, by go_num, by rw [lineF_snoc hlt]; exact hJ10, hS10⟩
        case measure => simp [intOf]; omega
      · have hS10 : (fun w' => w'.cell? ⟨p, 0, none⟩ = some (.int .i64 X) ∧ w'.cell? ⟨p, 1, none⟩ = some (.int .i64 Y) ∧ w'.cell? ⟨p + 1, 0, none⟩ = some (.int .i64 Z) ∧ w'.cell? ⟨p + 1, 1, none⟩ = some (.int .i64 V) ∧ w'.cell? ⟨p + 2, 0, none⟩ = some (.int .i64 (n : Int))) w10 := ⟨hk10.cell (by omega) (by omega) s0, hk10.cell (by omega) (by omega) s1, hk10.cell (by omega) (by omega) s2, hk10.cell (by omega) (by omega) s3, hk10.cell (by omega) (by omega) s4⟩
        refine hK _ _ hS10 ?_
        clear hK K
        try simp only [Act.put, List.setIfInBounds_toArray, List.set_cons_zero, List.set_cons_succ]
        first
          | (refine' ordS_take (i := 27) (oi := { dst := some 38, op := Op.unOp UnOp.not 4 (Operand.tmp 37), type := 4, pos := _, after := #[{ on := 26, ground := Ground.data }], guard := none }) (v := _) rfl (by kernel_rfl) (by kernel_rfl) (by kernel_rfl) (by kernel_rfl) (fun _ _ _ h => h) (by assumption) (Or.inl ⟨by rfl, ?hy26⟩) (fun _ => rfl) ?rest26
             case hy26 => (intro w hSw; (try dsimp only at hSw); go_simp; try with_reducible rfl))
          | (refine ordS_take (i := 27) (oi := { dst := some 38, op := Op.unOp UnOp.not 4 (Operand.tmp 37), type := 4, pos := _, after := #[{ on := 26, ground := Ground.data }], guard := none }) (v := undef) rfl (by kernel_rfl) (by kernel_rfl) (by kernel_rfl) (by kernel_rfl) (fun _ _ _ h => h) (by assumption) (Or.inr ⟨by rfl, rfl⟩) (fun _ => rfl) ?_)
        try simp only [Act.put, List.setIfInBounds_toArray, List.set_cons_zero, List.set_cons_succ]
        refine ordS_done (by kernel_rfl) ?_
        gi_wp2
        refine bodyPost_ret (results_none rfl _ _ _) rfl ?_
        refine ⟨⟨_, rfl⟩, .inr ⟨_, ?_, hJx⟩⟩
        rw [← lineF_snoc hlt]
        exact List.take_prefix _ _
    · have hge : (n : Int) + 1 ≤ (k : Int) := by omega
      have hall := lineF_all (X := X) (Y := Y) (Z := Z) (V := V) (n := n) (k := k) (by omega)
      rw [hall] at hJr
      gi_wp2
      go_end0
      exact ⟨⟨_, rfl⟩, .inl hJr⟩
end Go.Proofs.Ytchlbdikpclmlaa
