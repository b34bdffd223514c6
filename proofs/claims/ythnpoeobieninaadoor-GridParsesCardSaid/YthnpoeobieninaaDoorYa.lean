/- The rows of a row of costs, each so many long, as an iterator: its contract. -/
import Derived.Test.YthnpoeobieninaaDoorVi
import Derived.Test.YthnpoeobieninaaDoorWb
import Derived.Test.YthnpoeobieninaaDoorOh
namespace Go.Proofs.YthnpoeobieninaaDoor
open Go.RowKit Go.Shelf
attribute [local go_sem] Oper.semAt_some

/-- What the iterator holds: the row, and how long each piece is. -/
def ChunkAt (W : World) (p b o n c k : Nat) : Prop := W.cell? ⟨p, 0, none⟩ = some (.slice (some ⟨b, o, none⟩) n c) ∧ W.cell? ⟨p + 1, 0, none⟩ = some (.int .i64 k)
theorem ChunkAt.kept {W W' : World} {p b o n c k : Nat} (h : ChunkAt W p b o n c k) (x : KP p 2 W W') : ChunkAt W' p b o n c k := ⟨x.cell (by omega) (by omega) h.1, x.cell (by omega) (by omega) h.2⟩
theorem ChunkAt.below {W W' : World} {p b o n c k : Nat} (h : ChunkAt W p b o n c k) (x : Below W.heap.size W W') : ChunkAt W' p b o n c k := ⟨cell_later x h.1, cell_later x h.2⟩
/-- Piece number j. -/
def encP (b o k : Nat) (j : Nat) : Array Value := #[.slice (some ⟨b, o + j * k, none⟩) k k]

set_option maxHeartbeats 1000000 in
theorem chunk_mk (b o n c k : Nat) (hk : 1 ≤ k) (w : World) :
    Calls Tryd.prog 30 #[.slice (some ⟨b, o, none⟩) n c, .int .i64 k] w fun e w' => e = .returned (.func (.func 45) #[] #[.pointer (some ⟨w.heap.size, 0, none⟩), .pointer (some ⟨w.heap.size + 1, 0, none⟩)]) ∧
      ChunkAt w' w.heap.size b o n c k ∧ w'.heap.size = w.heap.size + 2 ∧ Below w.heap.size w w' := by
  have hk2 : (1 : Int) ≤ (k : Int) := by omega
  go_enter Tryd.func30, Tryd.ntmps30
  go_wp2
  go_ret
  refine ⟨rfl, ?_, by simp, bl_al (bl_al (bl0 _) _) _⟩
  unfold ChunkAt
  simp [go_sem]

set_option maxRecDepth 100000 in
set_option maxHeartbeats 2000000 in
theorem chunk1_in (l p b o c k m : Nat) (hk : 1 ≤ k) (hm : m * k ≤ 65536) (hc : m * k ≤ c) (J Jx : List Nat → World → Prop) (W : World) (hJ : AbP p 2 J)
    (hY : ∀ pre x W1, J pre W1 → pre ++ [x] <+: List.range m → YieldAt Fence.wide 0 Tryd.prog l (encP b o k x) W1 fun e W' =>
      (e = .returned (.bool true) ∧ J (pre ++ [x]) W' ∧ KP p 2 W1 W') ∨ (e = .returned (.bool false) ∧ Jx (pre ++ [x]) W' ∧ KP p 2 W1 W'))
    (hs : ChunkAt W p b o (m * k) c k) (h0 : J [] W) :
    CallsIn Fence.wide 10 Tryd.prog 45 #[.func (.yield l) #[] #[], .pointer (some ⟨p, 0, none⟩), .pointer (some ⟨p + 1, 0, none⟩)] W fun e W' => (∃ v, e = .returned v) ∧
      (J (List.range m) W' ∨ ∃ q, q <+: List.range m ∧ Jx q W') := by
  obtain ⟨s0, s1⟩ := hs
  refine callsIn_of_wp Tryd.func45 rfl trivial ?_ rfl
  simp only [Tryd.ntmps45, List.size_toArray, List.length_cons, List.length_nil, Nat.reduceAdd, Nat.reduceSub, Array.replicate_succ, Array.replicate_zero, List.push_toArray, List.append_toArray, List.nil_append, List.cons_append]
  obtain ⟨n, hn⟩ : ∃ n, m * k = n := ⟨_, rfl⟩
  rw [hn] at hm hc s0
  gi_wp2
  gi_loopw [4] (fun i wr => ∃ j : Nat, j ≤ m ∧ i = .int .i64 ((j * k : Nat) : Int) ∧ J (List.range j) wr ∧ ChunkAt wr p b o n c k) (fun i _ => n - (intOf i).toNat)
  case atStart => exact ⟨0, Nat.zero_le _, by simp, h0, s0, s1⟩
  case round =>
    obtain ⟨j, hj, rfl, hJr, hL⟩ := hrel
    clear s0 s1
    obtain ⟨s0, s1⟩ := hL
    by_cases hlt : j < m
    · have hle : (j + 1) * k ≤ m * k := Nat.mul_le_mul_right k hlt
      rw [Nat.add_mul, Nat.one_mul] at hle
      have hpre : List.range j ++ [j] <+: List.range m := by
        rw [← List.range_succ]
        rw [show m = (j + 1) + (m - (j + 1)) by omega, List.range_add]
        exact List.prefix_append _ _
      obtain ⟨q, hq⟩ : ∃ q, j * k = q := ⟨_, rfl⟩
      rw [hq] at hle ⊢
      have hq1 : (q : Int) < (n : Int) := by omega
      have hq2 : (q : Int) ≤ (n : Int) := by omega
      have hq3 : (0 : Int) ≤ (q : Int) := by omega
      have hq4 : (q : Int) ≤ (c : Int) := by omega
      have hcq : ¬ c = q := by omega
      obtain ⟨r, hr⟩ : ∃ r, n - q = r := ⟨_, rfl⟩
      have hkr : (k : Int) ≤ (r : Int) := by omega
      have hrk : ¬ (r : Int) < (k : Int) := by omega
      have hrk2 : ¬ r < k := by omega
      have hr2 : ((n : Int) - (q : Int)) = (r : Int) := by omega
      gi_wp2
      have hB := bl_dr (bl0 wr)
      refine ordS_begin (S := (fun w' => w'.cell? ⟨p, 0, none⟩ = some (.slice (some ⟨b, o, none⟩) n c) ∧ w'.cell? ⟨p + 1, 0, none⟩ = some (.int .i64 (k : Int)))) (by kernel_rfl) ⟨s0, s1⟩ (fun hH => ?_)
      first
        | (refine' ordS_take (i := 0) (oi := { dst := some 13, op := Op.load 3 (Operand.tmp 2), type := 3, pos := _, after := #[], guard := none }) (v := _) rfl (by kernel_rfl) (by kernel_rfl) (by kernel_rfl) (by kernel_rfl) (fun _ _ _ h => h) (by assumption) (Or.inl ⟨by rfl, ?hy1⟩) (fun _ => rfl) ?rest1
           case hy1 => (intro w hSw; (try dsimp only at hSw); go_simp; try with_reducible rfl))
        | (refine ordS_take (i := 0) (oi := { dst := some 13, op := Op.load 3 (Operand.tmp 2), type := 3, pos := _, after := #[], guard := none }) (v := undef) rfl (by kernel_rfl) (by kernel_rfl) (by kernel_rfl) (by kernel_rfl) (fun _ _ _ h => h) (by assumption) (Or.inr ⟨by rfl, rfl⟩) (fun _ => rfl) ?_)
      try simp only [Act.put, List.setIfInBounds_toArray, List.set_cons_zero, List.set_cons_succ]
      first
        | (refine' ordS_take (i := 1) (oi := { dst := some 14, op := Op.load 24 (Operand.tmp 1), type := 24, pos := _, after := #[], guard := none }) (v := _) rfl (by kernel_rfl) (by kernel_rfl) (by kernel_rfl) (by kernel_rfl) (fun _ _ _ h => h) (by assumption) (Or.inl ⟨by rfl, ?hy2⟩) (fun _ => rfl) ?rest2
           case hy2 => (intro w hSw; (try dsimp only at hSw); go_simp; try with_reducible rfl))
        | (refine ordS_take (i := 1) (oi := { dst := some 14, op := Op.load 24 (Operand.tmp 1), type := 24, pos := _, after := #[], guard := none }) (v := undef) rfl (by kernel_rfl) (by kernel_rfl) (by kernel_rfl) (by kernel_rfl) (fun _ _ _ h => h) (by assumption) (Or.inr ⟨by rfl, rfl⟩) (fun _ => rfl) ?_)
      try simp only [Act.put, List.setIfInBounds_toArray, List.set_cons_zero, List.set_cons_succ]
      first
        | (refine' ordS_take (i := 2) (oi := { dst := some 15, op := Op.move (Operand.tmp 4), type := 3, pos := _, after := #[], guard := none }) (v := _) rfl (by kernel_rfl) (by kernel_rfl) (by kernel_rfl) (by kernel_rfl) (fun _ _ _ h => h) (by assumption) (Or.inl ⟨by rfl, ?hy3⟩) (fun _ => rfl) ?rest3
           case hy3 => (intro w hSw; (try dsimp only at hSw); go_simp; try with_reducible rfl))
        | (refine ordS_take (i := 2) (oi := { dst := some 15, op := Op.move (Operand.tmp 4), type := 3, pos := _, after := #[], guard := none }) (v := undef) rfl (by kernel_rfl) (by kernel_rfl) (by kernel_rfl) (by kernel_rfl) (fun _ _ _ h => h) (by assumption) (Or.inr ⟨by rfl, rfl⟩) (fun _ => rfl) ?_)
      try simp only [Act.put, List.setIfInBounds_toArray, List.set_cons_zero, List.set_cons_succ]
      refine ordS_one (i := 3) (o := { dst := some 16, op := Op.slice 24 (Operand.tmp 14) (some (Operand.tmp 15)) none none, type := 24, pos := _, after := #[{ on := 1, ground := Ground.data }, { on := 2, ground := Ground.data }], guard := none }) (by kernel_rfl) rfl (by rfl) (fun K hK => ?_)
      go_simp
      try rw [hr]
      refine hK _ _ ⟨s0, s1⟩ ?_
      clear hK K
      try simp only [Act.put, List.setIfInBounds_toArray, List.set_cons_zero, List.set_cons_succ]
      refine ordS_one (i := 4) (o := { dst := some 17, op := Op.call { callee := Callee.builtin Builtin.len, args := #[Operand.tmp 16], argTypes := #[24] }, type := 3, pos := _, after := #[{ on := 3, ground := Ground.data }], guard := none }) (by kernel_rfl) rfl (by rfl) (fun K hK => ?_)
      go_simp
      refine hK _ _ ⟨s0, s1⟩ ?_
      clear hK K
      try simp only [Act.put, List.setIfInBounds_toArray, List.set_cons_zero, List.set_cons_succ]
      refine ordS_one (i := 5) (o := { dst := some 18, op := Op.call { callee := Callee.builtin Builtin.min, args := #[Operand.tmp 13, Operand.tmp 17], argTypes := #[3, 3] }, type := 3, pos := _, after := #[{ on := 0, ground := Ground.data }, { on := 4, ground := Ground.data }], guard := none }) (by kernel_rfl) rfl (by rfl) (fun K hK => ?_)
      go_simp
      refine hK _ _ ⟨s0, s1⟩ ?_
      clear hK K
      try simp only [Act.put, List.setIfInBounds_toArray, List.set_cons_zero, List.set_cons_succ]
      refine ordS_one (i := 6) (o := { dst := some 5, op := Op.assign (Operand.tmp 18), type := 3, pos := _, after := #[{ on := 5, ground := Ground.data }, { on := 0, ground := Ground.phase }, { on := 1, ground := Ground.phase }, { on := 2, ground := Ground.phase }, { on := 3, ground := Ground.phase }, { on := 4, ground := Ground.phase }, { on := 5, ground := Ground.phase }], guard := none }) (by kernel_rfl) rfl (by rfl) (fun K hK => ?_)
      go_simp
      refine hK _ _ ⟨s0, s1⟩ ?_
      clear hK K
      try simp only [Act.put, List.setIfInBounds_toArray, List.set_cons_zero, List.set_cons_succ]
      refine ordS_done (by kernel_rfl) ?_
      have hJ9 := hJ _ _ _ none hJr (grown_of_below hB) (fun r e => by cases e)
      obtain ⟨W2, hW2⟩ : ∃ W2, wr.drew = W2 := ⟨_, rfl⟩
      have t0 : W2.cell? ⟨p, 0, none⟩ = some (.slice (some ⟨b, o, none⟩) n c) := by rw [← hW2]; exact s0
      have t1 : W2.cell? ⟨p + 1, 0, none⟩ = some (.int .i64 (k : Int)) := by rw [← hW2]; exact s1
      rw [hW2] at hJ9 ⊢
      clear hW2 hH hB s0 s1 hr hr2 hkr hrk hrk2 hJr
      have v1 : (q : Int) + (k : Int) ≤ (n : Int) := by omega
      have v2 : (q : Int) + (k : Int) ≤ (c : Int) := by omega
      have v3 : (0 : Int) ≤ (q : Int) + (k : Int) := by omega
      have v4 : (q : Int) ≤ (q : Int) + (k : Int) := by omega
      have v5 : IntKind.i64.wrap ((q : Int) + (k : Int)) = (q : Int) + (k : Int) := IntWalk.i64_in _ (by omega)
      have v6 : ((q : Int) + (k : Int)).toNat = q + k := by omega
      have v7 : q + k - q = k := by omega
      have v8 : ¬ q + k = q := by omega
      obtain ⟨fn, tmps, assign, body, hy, hR⟩ := yieldAt_wide 9 (hY _ j W2 hJ9 hpre)
      simp only [encP, hq] at hy
      have hjk : ((j + 1) * k : Nat) = q + k := by rw [Nat.add_mul, Nat.one_mul, hq]
      gi_wp2
      refine hR.mono ?_
      rintro e W3 (⟨rfl, hJ3, hk3⟩ | ⟨rfl, hJx, hk3⟩)
      · have r0 := hk3.cell (Nat.le_refl _) (by omega) t0
        have r1 := hk3.cell (by omega) (by omega) t1
        gi_wp2
        go_roundw
        case rel => exact ⟨j + 1, by omega, by rw [hjk, Int.natCast_add], by rw [List.range_succ]; exact hJ3, r0, r1⟩
        case measure => simp [intOf]; omega
      · gi_wp2
        refine bodyPost_ret (results_none rfl _ _ _) rfl ?_
        exact ⟨⟨_, rfl⟩, .inr ⟨_, hpre, hJx⟩⟩
    · obtain rfl : j = m := by omega
      have hge : (n : Int) ≤ ((j * k : Nat) : Int) := by omega
      have hge2 : (n : Int) ≤ (j : Int) * (k : Int) := by rw [← Int.natCast_mul]; exact hge
      gi_wp2
      go_end0
      exact ⟨⟨_, rfl⟩, .inl hJr⟩
theorem iter_chunk (p b o c k m : Nat) (w : World) (hk : 1 ≤ k) (hm : m * k ≤ 65536) (hc : m * k ≤ c) (hs : ChunkAt w p b o (m * k) c k) :
    IterQ p 2 45 #[.pointer (some ⟨p, 0, none⟩), .pointer (some ⟨p + 1, 0, none⟩)] (encP b o k) (List.range m) w :=
  fun l J Jx W hW hJ _ hY h0 => chunk1_in l p b o c k m hk hm hc J Jx W hJ hY (hs.below hW) h0
end Go.Proofs.YthnpoeobieninaaDoor
