/- Heap: Pop. -/
import Derived.Test.YtofpoenehdmkpaaDoorHk
namespace Go.Proofs.YtofpoenehdmkpaaDoor
open Go.RowKit Go.Maps

theorem heap_end {w W W' : World} {S : Nat → Prop} {p b g cap n n' : Nat} {s : HS} {m : List Th} (hi : HI s m) (h : HeapAt W 0 p b (.slice (some ⟨g, 0, none⟩) n' cap) s) (k : KeptS (HB p b (.slice (some ⟨g, 0, none⟩) n cap)) w W) (h3 : ∀ k, S k ↔ HB p b (.slice (some ⟨g, 0, none⟩) n cap) k)
    (k2 : KeptS (fun x => x = w.heap.size) W W') (hn : ¬ HB p b (.slice (some ⟨g, 0, none⟩) n cap) w.heap.size) : Turned S w W' (HeapO p m) := by
  refine ⟨(k.wide (fun x e => (h3 x).2 e)).trans k2 (fun x hx e => by omega), S, ⟨b, _, _, h.keptS k2 ?_, hi, h3⟩, fun _ h => .inl h⟩
  intro x hx e
  subst e
  exact hn hx

set_option maxRecDepth 100000 in
set_option maxHeartbeats 4000000 in
theorem hpop_yes (p : Nat) (m : List Th) (S : Nat → Prop) (w : World) (h : (HeapO p m).P w S) (h0 : m ≠ []) (hm : m.length ≤ 1000000) :
    Calls Tryd.prog 61 #[.pointer (some ⟨p, 0, none⟩)] w fun e w' => e = .returned (.tuple #[.int .i64 (firstT m).id, .agg #[.int .u64 (firstT m).F, .int .u64 (firstT m).H, .int .i64 (firstT m).Y, .int .i64 (firstT m).X], .bool true]) ∧ Turned S w w' (HeapO p (popM m)) := by
  have hA := bl_al (bl0 w) (.cells #[.int .u64 0, .int .u64 0, .int .i64 0, .int .i64 0] 101)
  have hcall := hlen_any p m S _ ((HeapO p m).keep h (hA.mono (Nat.zero_le _)) (fun k hk => hA.block k ((HeapO p m).lt h k hk)))
  obtain ⟨b, v, s, h1, h2, h3⟩ := h
  have hlm := h2.len
  have hl0 : 0 < m.length := List.length_pos_iff.2 h0
  obtain ⟨g, cap, rfl⟩ := h1.slice (by omega)
  have hl1 : 0 < s.ts.length := by omega
  have hsb : s.ts.length ≤ 1000000 := by omega
  have hsnb : s.n ≤ 1000000 := by rw [h2.pf.n]; omega
  have hfirst := h2.firstT h0
  have hpop := h2.pop h0
  rw [hfirst] at hpop
  have HPOP : Hid (HI (popS s) (popM m)) := Lib.hid (show HI (popS s) (popM m) from hpop)
  clear hpop
  generalize firstT m = t at *
  have hwt : wfT t := by rw [← hfirst]; exact h1.wf _ (atT_mem hl1)
  obtain ⟨y0, y1, y2, y3, y4⟩ := h1.at hl1
  rw [hfirst] at y0 y1 y2 y3 y4
  simp only [Nat.zero_mul, Nat.zero_add] at y0 y1 y2 y3 y4
  have hE0 : decide ((m.length : Int) = 0) = false := by simp; omega
  have hE1 : ((m.length : Int) == 0) = false := by rw [beq_eq_false_iff_ne]; omega
  obtain ⟨W0, hW0⟩ : ∃ W0, w.alloc (.cells #[.int .u64 0, .int .u64 0, .int .i64 0, .int .i64 0] 101) = W0 := ⟨_, rfl⟩
  have r0 : W0.heap[w.heap.size]? = some (.cells #[.int .u64 0, .int .u64 0, .int .i64 0, .int .i64 0] 101 (0, 0)) := by rw [← hW0]; exact heap_alloc_new _ _
  have zr0 : w.heap.size < W0.heap.size := by rw [← hW0]; simp
  rw [hW0] at hA hcall
  have HF := Lib.hid hfirst
  have HLM := Lib.hid hlm
  clear hfirst hlm
  go_enter Tryd.func61, Tryd.ntmps61
  go_wp2_with fail
  clear hW0
  refine hcall.mono ?_
  rintro e w' ⟨rfl, rfl⟩
  clear hcall
  have hH0 := h1.below hA
  have c0 := hH0.c0
  replace y0 := cell_later hA y0
  replace y1 := cell_later hA y1
  replace y2 := cell_later hA y2
  replace y3 := cell_later hA y3
  replace y4 := cell_later hA y4
  have hl1I : (0 : Int) < (s.ts.length : Int) := by omega
  obtain ⟨k, hk⟩ : ∃ k, s.ts.length - 1 = k := ⟨_, rfl⟩
  have hkI : (s.ts.length : Int) - 1 = (k : Int) := by omega
  have hw1 : IntKind.i64.wrap (k : Int) = (k : Int) := IntWalk.i64_in _ (by omega)
  have hk0 : (0 : Int) ≤ (k : Int) := by omega
  have hk1 : (k : Int) < (s.ts.length : Int) := by omega
  have hkl : k < s.ts.length := by omega
  have hkc : (k : Int) ≤ (cap : Int) := by
    rcases hH0.row.2 with ⟨q, _⟩ | ⟨g', cap', cur, q, _, _, q2, _⟩
    · cases q
    · cases q; omega
  obtain ⟨z0, z1, z2, z3, z4⟩ := hH0.at hkl
  have hwl : wfT (atT s.ts k) := h1.wf _ (atT_mem hkl)
  generalize hlx : atT s.ts k = l at *
  have HLX := Lib.hid hlx
  have HKK := Lib.hid hk
  clear hk hlx
  go_upto_region 3 with fail
  have hD := bl_dr (bl0 w')
  refine (wpIn_wide (n := 11)).1 ?_
  refine ordS_begin (S := (fun w'' : World => w''.cell? ⟨p, 0, none⟩ = some (.slice (some ⟨g, 0, none⟩) s.ts.length cap) ∧ w''.cell? ⟨g, 0, none⟩ = some (.int .i64 t.id) ∧ w''.cell? ⟨g, 1, none⟩ = some (.int .u64 t.F) ∧ w''.cell? ⟨g, 2, none⟩ = some (.int .u64 t.H) ∧ w''.cell? ⟨g, 3, none⟩ = some (.int .i64 t.Y) ∧ w''.cell? ⟨g, 4, none⟩ = some (.int .i64 t.X))) (by kernel_rfl) ⟨cell_later hD c0, cell_later hD y0, cell_later hD y1, cell_later hD y2, cell_later hD y3, cell_later hD y4⟩ (fun hH => ?_)
  first
    | (refine' ordS_take (i := 0) (oi := { dst := some 12, op := Op.move (Operand.tmp 0), type := 97, pos := _, after := #[], guard := none }) (v := _) rfl (by kernel_rfl) (by kernel_rfl) (by kernel_rfl) (by kernel_rfl) (fun _ _ _ h => h) (by assumption) (Or.inl ⟨by rfl, ?hy30⟩) (fun _ => rfl) ?rest30
       case hy30 => (intro w hSw; (try dsimp only at hSw); go_simp; try with_reducible rfl))
    | (refine ordS_take (i := 0) (oi := { dst := some 12, op := Op.move (Operand.tmp 0), type := 97, pos := _, after := #[], guard := none }) (v := undef) rfl (by kernel_rfl) (by kernel_rfl) (by kernel_rfl) (by kernel_rfl) (fun _ _ _ h => h) (by assumption) (Or.inr ⟨by rfl, rfl⟩) (fun _ => rfl) ?_)
  try simp only [Act.put, List.setIfInBounds_toArray, List.set_cons_zero, List.set_cons_succ]
  first
    | (refine' ordS_take (i := 1) (oi := { dst := some 13, op := Op.nilCheck (Operand.tmp 12), type := 0, pos := _, after := #[{ on := 0, ground := Ground.data }], guard := none }) (v := _) rfl (by kernel_rfl) (by kernel_rfl) (by kernel_rfl) (by kernel_rfl) (fun _ _ _ h => h) (by assumption) (Or.inl ⟨by rfl, ?hy31⟩) (fun _ => rfl) ?rest31
       case hy31 => (intro w hSw; (try dsimp only at hSw); go_simp; try with_reducible rfl))
    | (refine ordS_take (i := 1) (oi := { dst := some 13, op := Op.nilCheck (Operand.tmp 12), type := 0, pos := _, after := #[{ on := 0, ground := Ground.data }], guard := none }) (v := undef) rfl (by kernel_rfl) (by kernel_rfl) (by kernel_rfl) (by kernel_rfl) (fun _ _ _ h => h) (by assumption) (Or.inr ⟨by rfl, rfl⟩) (fun _ => rfl) ?_)
  try simp only [Act.put, List.setIfInBounds_toArray, List.set_cons_zero, List.set_cons_succ]
  first
    | (refine' ordS_take (i := 2) (oi := { dst := some 14, op := Op.fieldAddr 135 (Operand.tmp 13) 0, type := 0, pos := _, after := #[{ on := 1, ground := Ground.data }], guard := none }) (v := _) rfl (by kernel_rfl) (by kernel_rfl) (by kernel_rfl) (by kernel_rfl) (fun _ _ _ h => h) (by assumption) (Or.inl ⟨by rfl, ?hy32⟩) (fun _ => rfl) ?rest32
       case hy32 => (intro w hSw; (try dsimp only at hSw); go_simp; try with_reducible rfl))
    | (refine ordS_take (i := 2) (oi := { dst := some 14, op := Op.fieldAddr 135 (Operand.tmp 13) 0, type := 0, pos := _, after := #[{ on := 1, ground := Ground.data }], guard := none }) (v := undef) rfl (by kernel_rfl) (by kernel_rfl) (by kernel_rfl) (by kernel_rfl) (fun _ _ _ h => h) (by assumption) (Or.inr ⟨by rfl, rfl⟩) (fun _ => rfl) ?_)
  try simp only [Act.put, List.setIfInBounds_toArray, List.set_cons_zero, List.set_cons_succ]
  first
    | (refine' ordS_take (i := 3) (oi := { dst := some 15, op := Op.load 133 (Operand.tmp 14), type := 133, pos := _, after := #[{ on := 2, ground := Ground.data }], guard := none }) (v := _) rfl (by kernel_rfl) (by kernel_rfl) (by kernel_rfl) (by kernel_rfl) (fun _ _ _ h => h) (by assumption) (Or.inl ⟨by rfl, ?hy33⟩) (fun _ => rfl) ?rest33
       case hy33 => (intro w hSw; (try dsimp only at hSw); go_simp; try with_reducible rfl))
    | (refine ordS_take (i := 3) (oi := { dst := some 15, op := Op.load 133 (Operand.tmp 14), type := 133, pos := _, after := #[{ on := 2, ground := Ground.data }], guard := none }) (v := undef) rfl (by kernel_rfl) (by kernel_rfl) (by kernel_rfl) (by kernel_rfl) (fun _ _ _ h => h) (by assumption) (Or.inr ⟨by rfl, rfl⟩) (fun _ => rfl) ?_)
  try simp only [Act.put, List.setIfInBounds_toArray, List.set_cons_zero, List.set_cons_succ]
  first
    | (refine' ordS_take (i := 4) (oi := { dst := some 16, op := Op.indexAddr 133 (Operand.tmp 15) (Operand.const (Value.int IntKind.i64 0)), type := 0, pos := _, after := #[{ on := 3, ground := Ground.data }], guard := none }) (v := _) rfl (by kernel_rfl) (by kernel_rfl) (by kernel_rfl) (by kernel_rfl) (fun _ _ _ h => h) (by assumption) (Or.inl ⟨by rfl, ?hy34⟩) (fun _ => rfl) ?rest34
       case hy34 => (intro w hSw; (try dsimp only at hSw); go_simp; try with_reducible rfl))
    | (refine ordS_take (i := 4) (oi := { dst := some 16, op := Op.indexAddr 133 (Operand.tmp 15) (Operand.const (Value.int IntKind.i64 0)), type := 0, pos := _, after := #[{ on := 3, ground := Ground.data }], guard := none }) (v := undef) rfl (by kernel_rfl) (by kernel_rfl) (by kernel_rfl) (by kernel_rfl) (fun _ _ _ h => h) (by assumption) (Or.inr ⟨by rfl, rfl⟩) (fun _ => rfl) ?_)
  try simp only [Act.put, List.setIfInBounds_toArray, List.set_cons_zero, List.set_cons_succ]
  first
    | (refine' ordS_take (i := 5) (oi := { dst := some 17, op := Op.load 138 (Operand.tmp 16), type := 138, pos := _, after := #[{ on := 4, ground := Ground.data }], guard := none }) (v := _) rfl (by kernel_rfl) (by kernel_rfl) (by kernel_rfl) (by kernel_rfl) (fun _ _ _ h => h) (by assumption) (Or.inl ⟨by rfl, ?hy35⟩) (fun _ => rfl) ?rest35
       case hy35 => (intro w hSw; (try dsimp only at hSw); go_simp; try with_reducible rfl))
    | (refine ordS_take (i := 5) (oi := { dst := some 17, op := Op.load 138 (Operand.tmp 16), type := 138, pos := _, after := #[{ on := 4, ground := Ground.data }], guard := none }) (v := undef) rfl (by kernel_rfl) (by kernel_rfl) (by kernel_rfl) (by kernel_rfl) (fun _ _ _ h => h) (by assumption) (Or.inr ⟨by rfl, rfl⟩) (fun _ => rfl) ?_)
  try simp only [Act.put, List.setIfInBounds_toArray, List.set_cons_zero, List.set_cons_succ]
  first
    | (refine' ordS_take (i := 6) (oi := { dst := some 18, op := Op.move (Operand.tmp 0), type := 97, pos := _, after := #[], guard := none }) (v := _) rfl (by kernel_rfl) (by kernel_rfl) (by kernel_rfl) (by kernel_rfl) (fun _ _ _ h => h) (by assumption) (Or.inl ⟨by rfl, ?hy36⟩) (fun _ => rfl) ?rest36
       case hy36 => (intro w hSw; (try dsimp only at hSw); go_simp; try with_reducible rfl))
    | (refine ordS_take (i := 6) (oi := { dst := some 18, op := Op.move (Operand.tmp 0), type := 97, pos := _, after := #[], guard := none }) (v := undef) rfl (by kernel_rfl) (by kernel_rfl) (by kernel_rfl) (by kernel_rfl) (fun _ _ _ h => h) (by assumption) (Or.inr ⟨by rfl, rfl⟩) (fun _ => rfl) ?_)
  try simp only [Act.put, List.setIfInBounds_toArray, List.set_cons_zero, List.set_cons_succ]
  first
    | (refine' ordS_take (i := 7) (oi := { dst := some 19, op := Op.nilCheck (Operand.tmp 18), type := 0, pos := _, after := #[{ on := 6, ground := Ground.data }], guard := none }) (v := _) rfl (by kernel_rfl) (by kernel_rfl) (by kernel_rfl) (by kernel_rfl) (fun _ _ _ h => h) (by assumption) (Or.inl ⟨by rfl, ?hy37⟩) (fun _ => rfl) ?rest37
       case hy37 => (intro w hSw; (try dsimp only at hSw); go_simp; try with_reducible rfl))
    | (refine ordS_take (i := 7) (oi := { dst := some 19, op := Op.nilCheck (Operand.tmp 18), type := 0, pos := _, after := #[{ on := 6, ground := Ground.data }], guard := none }) (v := undef) rfl (by kernel_rfl) (by kernel_rfl) (by kernel_rfl) (by kernel_rfl) (fun _ _ _ h => h) (by assumption) (Or.inr ⟨by rfl, rfl⟩) (fun _ => rfl) ?_)
  try simp only [Act.put, List.setIfInBounds_toArray, List.set_cons_zero, List.set_cons_succ]
  first
    | (refine' ordS_take (i := 8) (oi := { dst := some 20, op := Op.fieldAddr 135 (Operand.tmp 19) 0, type := 0, pos := _, after := #[{ on := 7, ground := Ground.data }], guard := none }) (v := _) rfl (by kernel_rfl) (by kernel_rfl) (by kernel_rfl) (by kernel_rfl) (fun _ _ _ h => h) (by assumption) (Or.inl ⟨by rfl, ?hy38⟩) (fun _ => rfl) ?rest38
       case hy38 => (intro w hSw; (try dsimp only at hSw); go_simp; try with_reducible rfl))
    | (refine ordS_take (i := 8) (oi := { dst := some 20, op := Op.fieldAddr 135 (Operand.tmp 19) 0, type := 0, pos := _, after := #[{ on := 7, ground := Ground.data }], guard := none }) (v := undef) rfl (by kernel_rfl) (by kernel_rfl) (by kernel_rfl) (by kernel_rfl) (fun _ _ _ h => h) (by assumption) (Or.inr ⟨by rfl, rfl⟩) (fun _ => rfl) ?_)
  try simp only [Act.put, List.setIfInBounds_toArray, List.set_cons_zero, List.set_cons_succ]
  first
    | (refine' ordS_take (i := 9) (oi := { dst := some 21, op := Op.load 133 (Operand.tmp 20), type := 133, pos := _, after := #[{ on := 8, ground := Ground.data }], guard := none }) (v := _) rfl (by kernel_rfl) (by kernel_rfl) (by kernel_rfl) (by kernel_rfl) (fun _ _ _ h => h) (by assumption) (Or.inl ⟨by rfl, ?hy39⟩) (fun _ => rfl) ?rest39
       case hy39 => (intro w hSw; (try dsimp only at hSw); go_simp; try with_reducible rfl))
    | (refine ordS_take (i := 9) (oi := { dst := some 21, op := Op.load 133 (Operand.tmp 20), type := 133, pos := _, after := #[{ on := 8, ground := Ground.data }], guard := none }) (v := undef) rfl (by kernel_rfl) (by kernel_rfl) (by kernel_rfl) (by kernel_rfl) (fun _ _ _ h => h) (by assumption) (Or.inr ⟨by rfl, rfl⟩) (fun _ => rfl) ?_)
  try simp only [Act.put, List.setIfInBounds_toArray, List.set_cons_zero, List.set_cons_succ]
  first
    | (refine' ordS_take (i := 10) (oi := { dst := some 22, op := Op.call { callee := Callee.builtin Builtin.len, args := #[Operand.tmp 21], argTypes := #[133] }, type := 3, pos := _, after := #[{ on := 9, ground := Ground.data }], guard := none }) (v := _) rfl (by kernel_rfl) (by kernel_rfl) (by kernel_rfl) (by kernel_rfl) (fun _ _ _ h => h) (by assumption) (Or.inl ⟨by rfl, ?hy40⟩) (fun _ => rfl) ?rest40
       case hy40 => (intro w hSw; (try dsimp only at hSw); go_simp; try with_reducible rfl))
    | (refine ordS_take (i := 10) (oi := { dst := some 22, op := Op.call { callee := Callee.builtin Builtin.len, args := #[Operand.tmp 21], argTypes := #[133] }, type := 3, pos := _, after := #[{ on := 9, ground := Ground.data }], guard := none }) (v := undef) rfl (by kernel_rfl) (by kernel_rfl) (by kernel_rfl) (by kernel_rfl) (fun _ _ _ h => h) (by assumption) (Or.inr ⟨by rfl, rfl⟩) (fun _ => rfl) ?_)
  try simp only [Act.put, List.setIfInBounds_toArray, List.set_cons_zero, List.set_cons_succ]
  first
    | (refine' ordS_take (i := 11) (oi := { dst := some 23, op := Op.binOp BinOp.sub 3 (Operand.tmp 22) (Operand.const (Value.int IntKind.i64 1)) 3, type := 3, pos := _, after := #[{ on := 10, ground := Ground.data }, { on := 13, ground := Ground.gcOnly Departure.lateStores }], guard := none }) (v := _) rfl (by kernel_rfl) (by kernel_rfl) (by kernel_rfl) (by kernel_rfl) (fun _ _ _ h => h) (by assumption) (Or.inl ⟨by rfl, ?hy41⟩) (fun _ => rfl) ?rest41
       case hy41 => (intro w hSw; (try dsimp only at hSw); go_simp; try with_reducible rfl))
    | (refine ordS_take (i := 11) (oi := { dst := some 23, op := Op.binOp BinOp.sub 3 (Operand.tmp 22) (Operand.const (Value.int IntKind.i64 1)) 3, type := 3, pos := _, after := #[{ on := 10, ground := Ground.data }, { on := 13, ground := Ground.gcOnly Departure.lateStores }], guard := none }) (v := undef) rfl (by kernel_rfl) (by kernel_rfl) (by kernel_rfl) (by kernel_rfl) (fun _ _ _ h => h) (by assumption) (Or.inr ⟨by rfl, rfl⟩) (fun _ => rfl) ?_)
  try simp only [Act.put, List.setIfInBounds_toArray, List.set_cons_zero, List.set_cons_succ]
  refine ordS_one (i := 12) (o := { dst := some 5, op := Op.alloc 138, type := 0, pos := _, after := #[], guard := none }) (by kernel_rfl) rfl (by rfl) (fun K hK => ?_)
  go_simp
  refine hK _ _ ⟨cell_later (bl_al hD _) c0, cell_later (bl_al hD _) y0, cell_later (bl_al hD _) y1, cell_later (bl_al hD _) y2, cell_later (bl_al hD _) y3, cell_later (bl_al hD _) y4⟩ ?_
  clear hK K hH
  try simp only [Act.put, List.setIfInBounds_toArray, List.set_cons_zero, List.set_cons_succ]
  refine ordS_one (i := 13) (o := { dst := none, op := Op.store 138 (Operand.tmp 5) (Operand.tmp 17), type := 0, pos := _, after := #[{ on := 12, ground := Ground.data }, { on := 5, ground := Ground.data }, { on := 0, ground := Ground.phase }, { on := 1, ground := Ground.phase }, { on := 2, ground := Ground.phase }, { on := 3, ground := Ground.phase }, { on := 4, ground := Ground.phase }, { on := 5, ground := Ground.phase }, { on := 6, ground := Ground.textOnly Departure.lateStores }, { on := 7, ground := Ground.textOnly Departure.lateStores }, { on := 8, ground := Ground.textOnly Departure.lateStores }, { on := 9, ground := Ground.textOnly Departure.lateStores }, { on := 10, ground := Ground.textOnly Departure.lateStoresUnsure }, { on := 11, ground := Ground.textOnly Departure.lateStores }, { on := 12, ground := Ground.phase }], guard := none }) (by kernel_rfl) rfl (by rfl) (fun K hK => ?_)
  go_simp
  have hB : Below w'.heap.size w' (w'.alloc (.cells #[.int .i64 t.id, .int .u64 t.F, .int .u64 t.H, .int .i64 t.Y, .int .i64 t.X] 138)).drew := bl_dr (bl_al (bl0 _) _)
  have b1 : BoxT (w'.alloc (.cells #[.int .i64 t.id, .int .u64 t.F, .int .u64 t.H, .int .i64 t.Y, .int .i64 t.X] 138)).drew w'.heap.size t := ⟨by simp [go_sem], by simp [go_sem], by simp [go_sem], by simp [go_sem], by simp [go_sem]⟩
  obtain ⟨W2, hW2⟩ : ∃ W2, (w'.alloc (.cells #[.int .i64 t.id, .int .u64 t.F, .int .u64 t.H, .int .i64 t.Y, .int .i64 t.X] 138)).drew = W2 := ⟨_, rfl⟩
  rw [hW2] at hB b1 ⊢
  refine hK _ _ ⟨cell_later hB c0, cell_later hB y0, cell_later hB y1, cell_later hB y2, cell_later hB y3, cell_later hB y4⟩ ?_
  clear hK K hW2
  try simp only [Act.put, List.setIfInBounds_toArray, List.set_cons_zero, List.set_cons_succ]
  refine ordS_one (i := 14) (o := { dst := some 6, op := Op.assign (Operand.tmp 23), type := 3, pos := _, after := #[{ on := 11, ground := Ground.data }, { on := 13, ground := Ground.chain }, { on := 0, ground := Ground.phase }, { on := 1, ground := Ground.phase }, { on := 2, ground := Ground.phase }, { on := 3, ground := Ground.phase }, { on := 4, ground := Ground.phase }, { on := 5, ground := Ground.phase }, { on := 6, ground := Ground.phase }, { on := 7, ground := Ground.phase }, { on := 8, ground := Ground.phase }, { on := 9, ground := Ground.phase }, { on := 10, ground := Ground.phase }, { on := 11, ground := Ground.phase }, { on := 12, ground := Ground.phase }, { on := 13, ground := Ground.phase }], guard := none }) (by kernel_rfl) rfl (by rfl) (fun K hK => ?_)
  go_simp
  refine hK _ _ ⟨cell_later hB c0, cell_later hB y0, cell_later hB y1, cell_later hB y2, cell_later hB y3, cell_later hB y4⟩ ?_
  clear hK K
  try simp only [Act.put, List.setIfInBounds_toArray, List.set_cons_zero, List.set_cons_succ]
  refine ordS_done (by kernel_rfl) ?_
  replace c0 := cell_later hB c0
  replace z0 := cell_later hB z0
  replace z1 := cell_later hB z1
  replace z2 := cell_later hB z2
  replace z3 := cell_later hB z3
  replace z4 := cell_later hB z4
  have hH2 := hH0.below hB
  have f0 := hH2.fz 0
  have zc0 := blk_lt c0
  have r2 := (hB.block _ (by omega)).trans r0
  have hA2 := bl_tr hA hB
  have zw := hA2.size
  have zw1 := hA.size
  have zb1 := blk_lt b1.t0
  clear hB hD y0 y1 y2 y3 y4 hA r0
  go_upto_region 6 with fail
  obtain ⟨hH3, k3⟩ := heap_cut hH2 k (by omega)
  obtain ⟨W3, hW3⟩ : ∃ W3, W2.setCell ⟨p, 0, none⟩ (.slice (some ⟨g, 0, none⟩) k cap) = W3 := ⟨_, rfl⟩
  have zW3 : W2.heap.size = W3.heap.size := by rw [← hW3]; simp
  rw [hW3] at hH3 k3 ⊢
  have hpw := (h1.lt p (.inl rfl)).2
  have b13 := b1.kept k3 (show w'.heap.size ≠ p by omega)
  have r3 := (k3.2 _ (by omega) (show w.heap.size ≠ p by omega)).trans r2
  have hB4 := bl_al (bl0 W3) (.cells #[.int .i64 l.id, .int .u64 l.F, .int .u64 l.H, .int .i64 l.Y, .int .i64 l.X] 138)
  have b2 : BoxT (W3.alloc (.cells #[.int .i64 l.id, .int .u64 l.F, .int .u64 l.H, .int .i64 l.Y, .int .i64 l.X] 138)) W3.heap.size l := ⟨by simp [go_sem], by simp [go_sem], by simp [go_sem], by simp [go_sem], by simp [go_sem]⟩
  obtain ⟨W4, hW4⟩ : ∃ W4, W3.alloc (.cells #[.int .i64 l.id, .int .u64 l.F, .int .u64 l.H, .int .i64 l.Y, .int .i64 l.X] 138) = W4 := ⟨_, rfl⟩
  rw [hW4] at hB4 b2 ⊢
  have k4 : KeptS (HB p b (.slice (some ⟨g, 0, none⟩) s.ts.length cap)) w W4 := (KeptS.of_below hA2).trans ((k3.below hB4).wide (fun x e => .inl e)) (fun _ _ h => h)
  have hH4 := hH3.below hB4
  have b14 := b13.below hB4
  have r4 := (hB4.block _ (by omega)).trans r3
  have hz4 := hB4.size
  clear hW3 hW4 k3 b1 b13 r2 r3 hB4 hH3 hH2 c0 f0 z0 z1 z2 z3 z4
  have c1 := hH4.c1
  have t0 := b14.t0
  have hD := bl_dr (bl0 W4)
  have hH4D := hH4.below hD
  have hsn : s.f t.id = some 0 := by rw [← HF.out]; exact h2.pf.pl 0 hl1
  obtain ⟨W5, hrun, hpl, hturn⟩ := hH4D.pl.drop hwt 0
  rw [hsn] at hpl
  simp only [Option.isSome_some, if_true] at hpl
  obtain ⟨hH5, k5⟩ := hH4D.setF hpl hturn
  have k5' : KeptS (HB p b (.slice (some ⟨g, 0, none⟩) s.ts.length cap)) W4 W5 := (KeptS.of_below hD).trans k5 (fun x _ e => e)
  have hnb : ∀ x, w.heap.size ≤ x → ¬ HB p b (.slice (some ⟨g, 0, none⟩) s.ts.length cap) x := fun x hx e => by have := (h1.lt x e).2; omega
  have b25 := b2.kept k5' (hnb _ (by omega))
  have b15 := b14.kept k5' (hnb _ (by omega))
  have r5 := (k5'.2 _ (by omega) (hnb _ (Nat.le_refl _))).trans r4
  have k5a := k4.trans k5' (fun _ _ h => h)
  have hz5 := k5'.1.size
  have hS5 : (fun w'' : World => w''.cell? ⟨p, 1, none⟩ = some (.map (some b)) ∧ w''.cell? ⟨w'.heap.size, 0, none⟩ = some (.int .i64 t.id)) W5 := ⟨hH5.c1, b15.t0⟩
  clear b2 b14 r4 k4 k5 k5' hH4 hH4D hpl hturn hsn
  refine (wpIn_wide (n := 11)).1 ?_
  refine ordS_begin (S := (fun w'' : World => w''.cell? ⟨p, 1, none⟩ = some (.map (some b)) ∧ w''.cell? ⟨w'.heap.size, 0, none⟩ = some (.int .i64 t.id))) (by kernel_rfl) ⟨cell_later hD c1, cell_later hD t0⟩ (fun hH => ?_)
  first
    | (refine' ordS_take (i := 0) (oi := { dst := some 40, op := Op.move (Operand.tmp 0), type := 97, pos := _, after := #[], guard := none }) (v := _) rfl (by kernel_rfl) (by kernel_rfl) (by kernel_rfl) (by kernel_rfl) (fun _ _ _ h => h) (by assumption) (Or.inl ⟨by rfl, ?hy42⟩) (fun _ => rfl) ?rest42
       case hy42 => (intro w hSw; (try dsimp only at hSw); go_simp; try with_reducible rfl))
    | (refine ordS_take (i := 0) (oi := { dst := some 40, op := Op.move (Operand.tmp 0), type := 97, pos := _, after := #[], guard := none }) (v := undef) rfl (by kernel_rfl) (by kernel_rfl) (by kernel_rfl) (by kernel_rfl) (fun _ _ _ h => h) (by assumption) (Or.inr ⟨by rfl, rfl⟩) (fun _ => rfl) ?_)
  try simp only [Act.put, List.setIfInBounds_toArray, List.set_cons_zero, List.set_cons_succ]
  first
    | (refine' ordS_take (i := 1) (oi := { dst := some 41, op := Op.nilCheck (Operand.tmp 40), type := 0, pos := _, after := #[{ on := 0, ground := Ground.data }], guard := none }) (v := _) rfl (by kernel_rfl) (by kernel_rfl) (by kernel_rfl) (by kernel_rfl) (fun _ _ _ h => h) (by assumption) (Or.inl ⟨by rfl, ?hy43⟩) (fun _ => rfl) ?rest43
       case hy43 => (intro w hSw; (try dsimp only at hSw); go_simp; try with_reducible rfl))
    | (refine ordS_take (i := 1) (oi := { dst := some 41, op := Op.nilCheck (Operand.tmp 40), type := 0, pos := _, after := #[{ on := 0, ground := Ground.data }], guard := none }) (v := undef) rfl (by kernel_rfl) (by kernel_rfl) (by kernel_rfl) (by kernel_rfl) (fun _ _ _ h => h) (by assumption) (Or.inr ⟨by rfl, rfl⟩) (fun _ => rfl) ?_)
  try simp only [Act.put, List.setIfInBounds_toArray, List.set_cons_zero, List.set_cons_succ]
  first
    | (refine' ordS_take (i := 2) (oi := { dst := some 42, op := Op.fieldAddr 135 (Operand.tmp 41) 1, type := 0, pos := _, after := #[{ on := 1, ground := Ground.data }], guard := none }) (v := _) rfl (by kernel_rfl) (by kernel_rfl) (by kernel_rfl) (by kernel_rfl) (fun _ _ _ h => h) (by assumption) (Or.inl ⟨by rfl, ?hy44⟩) (fun _ => rfl) ?rest44
       case hy44 => (intro w hSw; (try dsimp only at hSw); go_simp; try with_reducible rfl))
    | (refine ordS_take (i := 2) (oi := { dst := some 42, op := Op.fieldAddr 135 (Operand.tmp 41) 1, type := 0, pos := _, after := #[{ on := 1, ground := Ground.data }], guard := none }) (v := undef) rfl (by kernel_rfl) (by kernel_rfl) (by kernel_rfl) (by kernel_rfl) (fun _ _ _ h => h) (by assumption) (Or.inr ⟨by rfl, rfl⟩) (fun _ => rfl) ?_)
  try simp only [Act.put, List.setIfInBounds_toArray, List.set_cons_zero, List.set_cons_succ]
  first
    | (refine' ordS_take (i := 3) (oi := { dst := some 43, op := Op.load 132 (Operand.tmp 42), type := 132, pos := _, after := #[{ on := 2, ground := Ground.data }], guard := none }) (v := _) rfl (by kernel_rfl) (by kernel_rfl) (by kernel_rfl) (by kernel_rfl) (fun _ _ _ h => h) (by assumption) (Or.inl ⟨by rfl, ?hy45⟩) (fun _ => rfl) ?rest45
       case hy45 => (intro w hSw; (try dsimp only at hSw); go_simp; try with_reducible rfl))
    | (refine ordS_take (i := 3) (oi := { dst := some 43, op := Op.load 132 (Operand.tmp 42), type := 132, pos := _, after := #[{ on := 2, ground := Ground.data }], guard := none }) (v := undef) rfl (by kernel_rfl) (by kernel_rfl) (by kernel_rfl) (by kernel_rfl) (fun _ _ _ h => h) (by assumption) (Or.inr ⟨by rfl, rfl⟩) (fun _ => rfl) ?_)
  try simp only [Act.put, List.setIfInBounds_toArray, List.set_cons_zero, List.set_cons_succ]
  first
    | (refine' ordS_take (i := 4) (oi := { dst := some 44, op := Op.fieldAddr 138 (Operand.tmp 5) 0, type := 0, pos := _, after := #[], guard := none }) (v := _) rfl (by kernel_rfl) (by kernel_rfl) (by kernel_rfl) (by kernel_rfl) (fun _ _ _ h => h) (by assumption) (Or.inl ⟨by rfl, ?hy46⟩) (fun _ => rfl) ?rest46
       case hy46 => (intro w hSw; (try dsimp only at hSw); go_simp; try with_reducible rfl))
    | (refine ordS_take (i := 4) (oi := { dst := some 44, op := Op.fieldAddr 138 (Operand.tmp 5) 0, type := 0, pos := _, after := #[], guard := none }) (v := undef) rfl (by kernel_rfl) (by kernel_rfl) (by kernel_rfl) (by kernel_rfl) (fun _ _ _ h => h) (by assumption) (Or.inr ⟨by rfl, rfl⟩) (fun _ => rfl) ?_)
  try simp only [Act.put, List.setIfInBounds_toArray, List.set_cons_zero, List.set_cons_succ]
  first
    | (refine' ordS_take (i := 5) (oi := { dst := some 45, op := Op.load 3 (Operand.tmp 44), type := 3, pos := _, after := #[{ on := 4, ground := Ground.data }], guard := none }) (v := _) rfl (by kernel_rfl) (by kernel_rfl) (by kernel_rfl) (by kernel_rfl) (fun _ _ _ h => h) (by assumption) (Or.inl ⟨by rfl, ?hy47⟩) (fun _ => rfl) ?rest47
       case hy47 => (intro w hSw; (try dsimp only at hSw); go_simp; try with_reducible rfl))
    | (refine ordS_take (i := 5) (oi := { dst := some 45, op := Op.load 3 (Operand.tmp 44), type := 3, pos := _, after := #[{ on := 4, ground := Ground.data }], guard := none }) (v := undef) rfl (by kernel_rfl) (by kernel_rfl) (by kernel_rfl) (by kernel_rfl) (fun _ _ _ h => h) (by assumption) (Or.inr ⟨by rfl, rfl⟩) (fun _ => rfl) ?_)
  try simp only [Act.put, List.setIfInBounds_toArray, List.set_cons_zero, List.set_cons_succ]
  refine ordS_one (i := 6) (o := { dst := none, op := Op.call { callee := Callee.builtin Builtin.delete, args := #[Operand.tmp 43, Operand.tmp 45], argTypes := #[132, 3] }, type := 0, pos := _, after := #[{ on := 3, ground := Ground.data }, { on := 5, ground := Ground.data }], guard := none }) (by kernel_rfl) rfl (by rfl) (fun K hK => ?_)
  go_simp
  refine hK _ _ hS5 ?_
  clear hK K hS5 hrun hH hD
  try simp only [Act.put, List.setIfInBounds_toArray, List.set_cons_zero, List.set_cons_succ]
  refine ordS_done (by kernel_rfl) ?_
  have hlt : (s.ts.take k).length = k := by rw [List.length_take]; omega
  have hnk : w'.heap.size ≠ w.heap.size := by omega
  have HB0 := Lib.hid (show HB p b (.slice (some ⟨g, 0, none⟩) k cap) = HB p b (.slice (some ⟨g, 0, none⟩) s.ts.length cap) from rfl)
  have hw5 : w'.heap.size < W5.heap.size := by omega
  clear zW3 c1 t0
  by_cases hkz : k = 0
  · subst hkz
    have hps : popS s = ⟨s.ts.take 0, upd s.f t.id none, s.n - 1⟩ := by unfold popS; rw [if_pos HKK.out, HKK.out, HF.out]
    have HPS := Lib.hid hps
    have HH5 := Lib.hid hH5
    have K5 := Lib.hid k5a
    clear hps hH5 k5a hlt b25
    generalize W5 = W7 at *
    go_upto_region 9 with fail
    have hnb7 : ¬ HB p b (.slice (some ⟨g, 0, none⟩) s.ts.length cap) w.heap.size := hnb _ (Nat.le_refl _)
    have hD := bl_dr (bl0 W7)
    have b7 := b15
    have r7 := r5
    clear b15 r5
    have rd := (hD.block _ (Array.getElem?_eq_some_iff.1 r7).1).trans r7
    obtain ⟨W8, hW8⟩ : ∃ W8, W7.drew = W8 := ⟨_, rfl⟩
    have b8 := b7.below hD
    rw [hW8] at rd b8
    have q0 : W8.cell? ⟨w.heap.size, 0, none⟩ = some (.int .u64 0) := by simp [World.cell?, rd]
    have q1 : W8.cell? ⟨w.heap.size, 1, none⟩ = some (.int .u64 0) := by simp [World.cell?, rd]
    have q2 : W8.cell? ⟨w.heap.size, 2, none⟩ = some (.int .i64 0) := by simp [World.cell?, rd]
    have q3 : W8.cell? ⟨w.heap.size, 3, none⟩ = some (.int .i64 0) := by simp [World.cell?, rd]
    have f0 : W8.frozen? ⟨w.heap.size, 0, none⟩ = false := by simp [World.frozen?, rd]
    have f1 : W8.frozen? ⟨w.heap.size, 1, none⟩ = false := by simp [World.frozen?, rd]
    have f2 : W8.frozen? ⟨w.heap.size, 2, none⟩ = false := by simp [World.frozen?, rd]
    have f3 : W8.frozen? ⟨w.heap.size, 3, none⟩ = false := by simp [World.frozen?, rd]
    have k8 : KeptS (fun x => x = w.heap.size) W7 W8 := by rw [← hW8]; exact .of_below hD
    obtain ⟨t0, t1, t2, t3, t4⟩ := b8
    refine (wpIn_wide (n := 11)).1 ?_
    refine ordS_begin (S := (fun w'' : World => w''.cell? ⟨w'.heap.size, 0, none⟩ = some (.int .i64 t.id) ∧ w''.cell? ⟨w'.heap.size, 1, none⟩ = some (.int .u64 t.F) ∧ w''.cell? ⟨w'.heap.size, 2, none⟩ = some (.int .u64 t.H) ∧ w''.cell? ⟨w'.heap.size, 3, none⟩ = some (.int .i64 t.Y) ∧ w''.cell? ⟨w'.heap.size, 4, none⟩ = some (.int .i64 t.X))) (by kernel_rfl) (by rw [hW8]; exact ⟨t0, t1, t2, t3, t4⟩) (fun hH => ?_)
    first
      | (refine' ordS_take (i := 0) (oi := { dst := some 51, op := Op.fieldAddr 138 (Operand.tmp 5) 0, type := 0, pos := _, after := #[], guard := none }) (v := _) rfl (by kernel_rfl) (by kernel_rfl) (by kernel_rfl) (by kernel_rfl) (fun _ _ _ h => h) (by assumption) (Or.inl ⟨by rfl, ?hy48⟩) (fun _ => rfl) ?rest48
         case hy48 => (intro w hSw; (try dsimp only at hSw); go_simp; try with_reducible rfl))
      | (refine ordS_take (i := 0) (oi := { dst := some 51, op := Op.fieldAddr 138 (Operand.tmp 5) 0, type := 0, pos := _, after := #[], guard := none }) (v := undef) rfl (by kernel_rfl) (by kernel_rfl) (by kernel_rfl) (by kernel_rfl) (fun _ _ _ h => h) (by assumption) (Or.inr ⟨by rfl, rfl⟩) (fun _ => rfl) ?_)
    try simp only [Act.put, List.setIfInBounds_toArray, List.set_cons_zero, List.set_cons_succ]
    first
      | (refine' ordS_take (i := 1) (oi := { dst := some 52, op := Op.load 3 (Operand.tmp 51), type := 3, pos := _, after := #[{ on := 0, ground := Ground.data }], guard := none }) (v := _) rfl (by kernel_rfl) (by kernel_rfl) (by kernel_rfl) (by kernel_rfl) (fun _ _ _ h => h) (by assumption) (Or.inl ⟨by rfl, ?hy49⟩) (fun _ => rfl) ?rest49
         case hy49 => (intro w hSw; (try dsimp only at hSw); go_simp; try with_reducible rfl))
      | (refine ordS_take (i := 1) (oi := { dst := some 52, op := Op.load 3 (Operand.tmp 51), type := 3, pos := _, after := #[{ on := 0, ground := Ground.data }], guard := none }) (v := undef) rfl (by kernel_rfl) (by kernel_rfl) (by kernel_rfl) (by kernel_rfl) (fun _ _ _ h => h) (by assumption) (Or.inr ⟨by rfl, rfl⟩) (fun _ => rfl) ?_)
    try simp only [Act.put, List.setIfInBounds_toArray, List.set_cons_zero, List.set_cons_succ]
    first
      | (refine' ordS_take (i := 2) (oi := { dst := some 53, op := Op.fieldAddr 138 (Operand.tmp 5) 1, type := 0, pos := _, after := #[{ on := 4, ground := Ground.gcOnly Departure.lateStores }], guard := none }) (v := _) rfl (by kernel_rfl) (by kernel_rfl) (by kernel_rfl) (by kernel_rfl) (fun _ _ _ h => h) (by assumption) (Or.inl ⟨by rfl, ?hy50⟩) (fun _ => rfl) ?rest50
         case hy50 => (intro w hSw; (try dsimp only at hSw); go_simp; try with_reducible rfl))
      | (refine ordS_take (i := 2) (oi := { dst := some 53, op := Op.fieldAddr 138 (Operand.tmp 5) 1, type := 0, pos := _, after := #[{ on := 4, ground := Ground.gcOnly Departure.lateStores }], guard := none }) (v := undef) rfl (by kernel_rfl) (by kernel_rfl) (by kernel_rfl) (by kernel_rfl) (fun _ _ _ h => h) (by assumption) (Or.inr ⟨by rfl, rfl⟩) (fun _ => rfl) ?_)
    try simp only [Act.put, List.setIfInBounds_toArray, List.set_cons_zero, List.set_cons_succ]
    first
      | (refine' ordS_take (i := 3) (oi := { dst := some 54, op := Op.load 101 (Operand.tmp 53), type := 101, pos := _, after := #[{ on := 2, ground := Ground.data }, { on := 4, ground := Ground.gcOnly Departure.lateStores }], guard := none }) (v := _) rfl (by kernel_rfl) (by kernel_rfl) (by kernel_rfl) (by kernel_rfl) (fun _ _ _ h => h) (by assumption) (Or.inl ⟨by rfl, ?hy51⟩) (fun _ => rfl) ?rest51
         case hy51 => (intro w hSw; (try dsimp only at hSw); go_simp; try with_reducible rfl))
      | (refine ordS_take (i := 3) (oi := { dst := some 54, op := Op.load 101 (Operand.tmp 53), type := 101, pos := _, after := #[{ on := 2, ground := Ground.data }, { on := 4, ground := Ground.gcOnly Departure.lateStores }], guard := none }) (v := undef) rfl (by kernel_rfl) (by kernel_rfl) (by kernel_rfl) (by kernel_rfl) (fun _ _ _ h => h) (by assumption) (Or.inr ⟨by rfl, rfl⟩) (fun _ => rfl) ?_)
    try simp only [Act.put, List.setIfInBounds_toArray, List.set_cons_zero, List.set_cons_succ]
    first
      | (refine' ordS_take (i := 4) (oi := { dst := some 2, op := Op.assign (Operand.tmp 52), type := 3, pos := _, after := #[{ on := 1, ground := Ground.data }, { on := 0, ground := Ground.phase }, { on := 1, ground := Ground.phase }, { on := 2, ground := Ground.textOnly Departure.lateStores }, { on := 3, ground := Ground.textOnly Departure.lateStores }], guard := none }) (v := _) rfl (by kernel_rfl) (by kernel_rfl) (by kernel_rfl) (by kernel_rfl) (fun _ _ _ h => h) (by assumption) (Or.inl ⟨by rfl, ?hy52⟩) (fun _ => rfl) ?rest52
         case hy52 => (intro w hSw; (try dsimp only at hSw); go_simp; try with_reducible rfl))
      | (refine ordS_take (i := 4) (oi := { dst := some 2, op := Op.assign (Operand.tmp 52), type := 3, pos := _, after := #[{ on := 1, ground := Ground.data }, { on := 0, ground := Ground.phase }, { on := 1, ground := Ground.phase }, { on := 2, ground := Ground.textOnly Departure.lateStores }, { on := 3, ground := Ground.textOnly Departure.lateStores }], guard := none }) (v := undef) rfl (by kernel_rfl) (by kernel_rfl) (by kernel_rfl) (by kernel_rfl) (fun _ _ _ h => h) (by assumption) (Or.inr ⟨by rfl, rfl⟩) (fun _ => rfl) ?_)
    try simp only [Act.put, List.setIfInBounds_toArray, List.set_cons_zero, List.set_cons_succ]
    rw [hW8] at hH ⊢
    clear hW8
    refine ordS_one (i := 5) (o := { dst := none, op := Op.store 101 (Operand.tmp 3) (Operand.tmp 54), type := 0, pos := _, after := #[{ on := 3, ground := Ground.data }, { on := 4, ground := Ground.chain }, { on := 0, ground := Ground.phase }, { on := 1, ground := Ground.phase }, { on := 2, ground := Ground.phase }, { on := 3, ground := Ground.phase }, { on := 4, ground := Ground.phase }], guard := none }) (by kernel_rfl) rfl (by rfl) (fun K hK => ?_)
    go_simp
    have e0 : ((((W8.setCell ⟨w.heap.size, 0, none⟩ (.int .u64 t.F)).setCell ⟨w.heap.size, 1, none⟩ (.int .u64 t.H)).setCell ⟨w.heap.size, 2, none⟩ (.int .i64 t.Y)).setCell ⟨w.heap.size, 3, none⟩ (.int .i64 t.X)).heap[w.heap.size]? = some (.cells #[.int .u64 t.F, .int .u64 t.H, .int .i64 t.Y, .int .i64 t.X] 101 (0, 0)) := by
      have a0 := hset_same W8 w.heap.size 0 _ 101 (.int .u64 t.F) rd
      have a1 := hset_same _ w.heap.size 1 _ 101 (.int .u64 t.H) a0
      have a2 := hset_same _ w.heap.size 2 _ 101 (.int .i64 t.Y) a1
      have a3 := hset_same _ w.heap.size 3 _ 101 (.int .i64 t.X) a2
      simpa using a3
    have k9 : KeptS (fun x => x = w.heap.size) W8 ((((W8.setCell ⟨w.heap.size, 0, none⟩ (.int .u64 t.F)).setCell ⟨w.heap.size, 1, none⟩ (.int .u64 t.H)).setCell ⟨w.heap.size, 2, none⟩ (.int .i64 t.Y)).setCell ⟨w.heap.size, 3, none⟩ (.int .i64 t.X)) := by
      have a0 := hgrown_set W8 w.heap.size 0 (.int .u64 t.F)
      have a1 := a0.trans (hgrown_set _ w.heap.size 1 (.int .u64 t.H))
      have a2 := a1.trans (hgrown_set _ w.heap.size 2 (.int .i64 t.Y))
      have a3 := a2.trans (hgrown_set _ w.heap.size 3 (.int .i64 t.X))
      exact .of_grown a3 (fun x e _ => by cases e; rfl)
    obtain ⟨W9, hW9⟩ : ∃ W9, ((((W8.setCell ⟨w.heap.size, 0, none⟩ (.int .u64 t.F)).setCell ⟨w.heap.size, 1, none⟩ (.int .u64 t.H)).setCell ⟨w.heap.size, 2, none⟩ (.int .i64 t.Y)).setCell ⟨w.heap.size, 3, none⟩ (.int .i64 t.X)) = W9 := ⟨_, rfl⟩
    rw [hW9] at e0 k9 ⊢
    have k79 := k8.trans k9 (fun _ _ h => h)
    have hS9 : (fun w'' : World => w''.cell? ⟨w'.heap.size, 0, none⟩ = some (.int .i64 t.id) ∧ w''.cell? ⟨w'.heap.size, 1, none⟩ = some (.int .u64 t.F) ∧ w''.cell? ⟨w'.heap.size, 2, none⟩ = some (.int .u64 t.H) ∧ w''.cell? ⟨w'.heap.size, 3, none⟩ = some (.int .i64 t.Y) ∧ w''.cell? ⟨w'.heap.size, 4, none⟩ = some (.int .i64 t.X)) W9 := ⟨k9.cell t0 hnk, k9.cell t1 hnk, k9.cell t2 hnk, k9.cell t3 hnk, k9.cell t4 hnk⟩
    have hEnd := heap_end (HPS.out ▸ HPOP.out) HH5.out K5.out h3 k79 hnb7
    have HEnd := Lib.hid hEnd
    have y0 : W9.cell? ⟨w.heap.size, 0, none⟩ = some (.int .u64 t.F) := by simp [World.cell?, e0]
    have y1 : W9.cell? ⟨w.heap.size, 1, none⟩ = some (.int .u64 t.H) := by simp [World.cell?, e0]
    have y2 : W9.cell? ⟨w.heap.size, 2, none⟩ = some (.int .i64 t.Y) := by simp [World.cell?, e0]
    have y3 : W9.cell? ⟨w.heap.size, 3, none⟩ = some (.int .i64 t.X) := by simp [World.cell?, e0]
    clear hW9 k8 k9 k79 hEnd q0 q1 q2 q3 f0 f1 f2 f3 t0 t1 t2 t3 t4 rd e0
    refine hK _ _ hS9 ?_
    clear hK K hH
    try simp only [Act.put, List.setIfInBounds_toArray, List.set_cons_zero, List.set_cons_succ]
    refine ordS_one (i := 6) (o := { dst := some 4, op := Op.assign (Operand.const (Value.bool true)), type := 4, pos := _, after := #[{ on := 5, ground := Ground.chain }, { on := 0, ground := Ground.phase }, { on := 1, ground := Ground.phase }, { on := 2, ground := Ground.phase }, { on := 3, ground := Ground.phase }, { on := 4, ground := Ground.phase }, { on := 5, ground := Ground.phase }], guard := none }) (by kernel_rfl) rfl (by rfl) (fun K hK => ?_)
    go_simp
    refine hK _ _ hS9 ?_
    clear hK K hS9
    try simp only [Act.put, List.setIfInBounds_toArray, List.set_cons_zero, List.set_cons_succ]
    refine ordS_done (by kernel_rfl) ?_
    go_wp2
    exact bodyPost_ret (v := .tuple #[.int .i64 t.id, .agg #[.int .u64 t.F, .int .u64 t.H, .int .i64 t.Y, .int .i64 t.X], .bool true]) (by simp [results, Tryd.results61, go_sem, y0, y1, y2, y3]) rfl ⟨rfl, HEnd.out⟩
  · have hkp : (0 : Int) < (k : Int) := by omega
    have hps : popS s = sinkS ⟨s.ts.take k, upd s.f t.id none, s.n - 1⟩ 0 l := by unfold popS; rw [if_neg (by rw [HKK.out]; exact hkz), HKK.out, HF.out, HLX.out]
    have HPS := Lib.hid hps
    have hH5' : HeapAt W5 0 p b (.slice (some ⟨g, 0, none⟩) (s.ts.take k).length cap) ⟨s.ts.take k, upd s.f t.id none, s.n - 1⟩ := by rw [hlt]; exact hH5
    have hcall := sink_any 0 p b g cap ⟨s.ts.take k, upd s.f t.id none, s.n - 1⟩ 0 l W5 hH5' (by simp only [hlt]; omega) (by simp only [hlt]; omega) (by simp only; omega) hwl
    rw [show ((0 : Nat) : Int) = 0 from rfl] at hcall
    simp only [hlt] at hcall
    have u0 := b25.t0
    have u1 := b25.t1
    have u2 := b25.t2
    have u3 := b25.t3
    have u4 := b25.t4
    clear hps hH5 hH5' hlt b25
    go_wp2_with fail
    refine hcall.mono ?_
    rintro e W6 ⟨rfl, hH6, k6⟩
    have hnb2 : ∀ x, w.heap.size ≤ x → ¬ HB p b (.slice (some ⟨g, 0, none⟩) k cap) x := fun x hx => by rw [HB0.out]; exact hnb x hx
    have b16 := b15.kept k6 (hnb2 _ (by omega))
    have r6 := (k6.2 _ (by omega) (hnb2 _ (Nat.le_refl _))).trans r5
    have hz6 := k6.1.size
    have k6a := k5a.trans k6 (fun x _ h => by rw [HB0.out] at h; exact h)
    have HH5 := Lib.hid hH6
    have K5 := Lib.hid k6a
    clear b15 r5 k6 k6a hH6 k5a hcall u0 u1 u2 u3 u4
    obtain ⟨b15, r5⟩ : BoxT W6 w'.heap.size t ∧ W6.heap[w.heap.size]? = some (.cells #[.int .u64 0, .int .u64 0, .int .i64 0, .int .i64 0] 101 (0, 0)) := ⟨b16, r6⟩
    clear b16 r6
    generalize W6 = W7 at *
    go_upto_region 9 with fail
    have hnb7 : ¬ HB p b (.slice (some ⟨g, 0, none⟩) s.ts.length cap) w.heap.size := hnb _ (Nat.le_refl _)
    have hD := bl_dr (bl0 W7)
    have b7 := b15
    have r7 := r5
    clear b15 r5
    have rd := (hD.block _ (Array.getElem?_eq_some_iff.1 r7).1).trans r7
    obtain ⟨W8, hW8⟩ : ∃ W8, W7.drew = W8 := ⟨_, rfl⟩
    have b8 := b7.below hD
    rw [hW8] at rd b8
    have q0 : W8.cell? ⟨w.heap.size, 0, none⟩ = some (.int .u64 0) := by simp [World.cell?, rd]
    have q1 : W8.cell? ⟨w.heap.size, 1, none⟩ = some (.int .u64 0) := by simp [World.cell?, rd]
    have q2 : W8.cell? ⟨w.heap.size, 2, none⟩ = some (.int .i64 0) := by simp [World.cell?, rd]
    have q3 : W8.cell? ⟨w.heap.size, 3, none⟩ = some (.int .i64 0) := by simp [World.cell?, rd]
    have f0 : W8.frozen? ⟨w.heap.size, 0, none⟩ = false := by simp [World.frozen?, rd]
    have f1 : W8.frozen? ⟨w.heap.size, 1, none⟩ = false := by simp [World.frozen?, rd]
    have f2 : W8.frozen? ⟨w.heap.size, 2, none⟩ = false := by simp [World.frozen?, rd]
    have f3 : W8.frozen? ⟨w.heap.size, 3, none⟩ = false := by simp [World.frozen?, rd]
    have k8 : KeptS (fun x => x = w.heap.size) W7 W8 := by rw [← hW8]; exact .of_below hD
    obtain ⟨t0, t1, t2, t3, t4⟩ := b8
    refine (wpIn_wide (n := 11)).1 ?_
    refine ordS_begin (S := (fun w'' : World => w''.cell? ⟨w'.heap.size, 0, none⟩ = some (.int .i64 t.id) ∧ w''.cell? ⟨w'.heap.size, 1, none⟩ = some (.int .u64 t.F) ∧ w''.cell? ⟨w'.heap.size, 2, none⟩ = some (.int .u64 t.H) ∧ w''.cell? ⟨w'.heap.size, 3, none⟩ = some (.int .i64 t.Y) ∧ w''.cell? ⟨w'.heap.size, 4, none⟩ = some (.int .i64 t.X))) (by kernel_rfl) (by rw [hW8]; exact ⟨t0, t1, t2, t3, t4⟩) (fun hH => ?_)
    first
      | (refine' ordS_take (i := 0) (oi := { dst := some 51, op := Op.fieldAddr 138 (Operand.tmp 5) 0, type := 0, pos := _, after := #[], guard := none }) (v := _) rfl (by kernel_rfl) (by kernel_rfl) (by kernel_rfl) (by kernel_rfl) (fun _ _ _ h => h) (by assumption) (Or.inl ⟨by rfl, ?hy53⟩) (fun _ => rfl) ?rest53
         case hy53 => (intro w hSw; (try dsimp only at hSw); go_simp; try with_reducible rfl))
      | (refine ordS_take (i := 0) (oi := { dst := some 51, op := Op.fieldAddr 138 (Operand.tmp 5) 0, type := 0, pos := _, after := #[], guard := none }) (v := undef) rfl (by kernel_rfl) (by kernel_rfl) (by kernel_rfl) (by kernel_rfl) (fun _ _ _ h => h) (by assumption) (Or.inr ⟨by rfl, rfl⟩) (fun _ => rfl) ?_)
    try simp only [Act.put, List.setIfInBounds_toArray, List.set_cons_zero, List.set_cons_succ]
    first
      | (refine' ordS_take (i := 1) (oi := { dst := some 52, op := Op.load 3 (Operand.tmp 51), type := 3, pos := _, after := #[{ on := 0, ground := Ground.data }], guard := none }) (v := _) rfl (by kernel_rfl) (by kernel_rfl) (by kernel_rfl) (by kernel_rfl) (fun _ _ _ h => h) (by assumption) (Or.inl ⟨by rfl, ?hy54⟩) (fun _ => rfl) ?rest54
         case hy54 => (intro w hSw; (try dsimp only at hSw); go_simp; try with_reducible rfl))
      | (refine ordS_take (i := 1) (oi := { dst := some 52, op := Op.load 3 (Operand.tmp 51), type := 3, pos := _, after := #[{ on := 0, ground := Ground.data }], guard := none }) (v := undef) rfl (by kernel_rfl) (by kernel_rfl) (by kernel_rfl) (by kernel_rfl) (fun _ _ _ h => h) (by assumption) (Or.inr ⟨by rfl, rfl⟩) (fun _ => rfl) ?_)
    try simp only [Act.put, List.setIfInBounds_toArray, List.set_cons_zero, List.set_cons_succ]
    first
      | (refine' ordS_take (i := 2) (oi := { dst := some 53, op := Op.fieldAddr 138 (Operand.tmp 5) 1, type := 0, pos := _, after := #[{ on := 4, ground := Ground.gcOnly Departure.lateStores }], guard := none }) (v := _) rfl (by kernel_rfl) (by kernel_rfl) (by kernel_rfl) (by kernel_rfl) (fun _ _ _ h => h) (by assumption) (Or.inl ⟨by rfl, ?hy55⟩) (fun _ => rfl) ?rest55
         case hy55 => (intro w hSw; (try dsimp only at hSw); go_simp; try with_reducible rfl))
      | (refine ordS_take (i := 2) (oi := { dst := some 53, op := Op.fieldAddr 138 (Operand.tmp 5) 1, type := 0, pos := _, after := #[{ on := 4, ground := Ground.gcOnly Departure.lateStores }], guard := none }) (v := undef) rfl (by kernel_rfl) (by kernel_rfl) (by kernel_rfl) (by kernel_rfl) (fun _ _ _ h => h) (by assumption) (Or.inr ⟨by rfl, rfl⟩) (fun _ => rfl) ?_)
    try simp only [Act.put, List.setIfInBounds_toArray, List.set_cons_zero, List.set_cons_succ]
    first
      | (refine' ordS_take (i := 3) (oi := { dst := some 54, op := Op.load 101 (Operand.tmp 53), type := 101, pos := _, after := #[{ on := 2, ground := Ground.data }, { on := 4, ground := Ground.gcOnly Departure.lateStores }], guard := none }) (v := _) rfl (by kernel_rfl) (by kernel_rfl) (by kernel_rfl) (by kernel_rfl) (fun _ _ _ h => h) (by assumption) (Or.inl ⟨by rfl, ?hy56⟩) (fun _ => rfl) ?rest56
         case hy56 => (intro w hSw; (try dsimp only at hSw); go_simp; try with_reducible rfl))
      | (refine ordS_take (i := 3) (oi := { dst := some 54, op := Op.load 101 (Operand.tmp 53), type := 101, pos := _, after := #[{ on := 2, ground := Ground.data }, { on := 4, ground := Ground.gcOnly Departure.lateStores }], guard := none }) (v := undef) rfl (by kernel_rfl) (by kernel_rfl) (by kernel_rfl) (by kernel_rfl) (fun _ _ _ h => h) (by assumption) (Or.inr ⟨by rfl, rfl⟩) (fun _ => rfl) ?_)
    try simp only [Act.put, List.setIfInBounds_toArray, List.set_cons_zero, List.set_cons_succ]
    first
      | (refine' ordS_take (i := 4) (oi := { dst := some 2, op := Op.assign (Operand.tmp 52), type := 3, pos := _, after := #[{ on := 1, ground := Ground.data }, { on := 0, ground := Ground.phase }, { on := 1, ground := Ground.phase }, { on := 2, ground := Ground.textOnly Departure.lateStores }, { on := 3, ground := Ground.textOnly Departure.lateStores }], guard := none }) (v := _) rfl (by kernel_rfl) (by kernel_rfl) (by kernel_rfl) (by kernel_rfl) (fun _ _ _ h => h) (by assumption) (Or.inl ⟨by rfl, ?hy57⟩) (fun _ => rfl) ?rest57
         case hy57 => (intro w hSw; (try dsimp only at hSw); go_simp; try with_reducible rfl))
      | (refine ordS_take (i := 4) (oi := { dst := some 2, op := Op.assign (Operand.tmp 52), type := 3, pos := _, after := #[{ on := 1, ground := Ground.data }, { on := 0, ground := Ground.phase }, { on := 1, ground := Ground.phase }, { on := 2, ground := Ground.textOnly Departure.lateStores }, { on := 3, ground := Ground.textOnly Departure.lateStores }], guard := none }) (v := undef) rfl (by kernel_rfl) (by kernel_rfl) (by kernel_rfl) (by kernel_rfl) (fun _ _ _ h => h) (by assumption) (Or.inr ⟨by rfl, rfl⟩) (fun _ => rfl) ?_)
    try simp only [Act.put, List.setIfInBounds_toArray, List.set_cons_zero, List.set_cons_succ]
    rw [hW8] at hH ⊢
    clear hW8
    refine ordS_one (i := 5) (o := { dst := none, op := Op.store 101 (Operand.tmp 3) (Operand.tmp 54), type := 0, pos := _, after := #[{ on := 3, ground := Ground.data }, { on := 4, ground := Ground.chain }, { on := 0, ground := Ground.phase }, { on := 1, ground := Ground.phase }, { on := 2, ground := Ground.phase }, { on := 3, ground := Ground.phase }, { on := 4, ground := Ground.phase }], guard := none }) (by kernel_rfl) rfl (by rfl) (fun K hK => ?_)
    go_simp
    have e0 : ((((W8.setCell ⟨w.heap.size, 0, none⟩ (.int .u64 t.F)).setCell ⟨w.heap.size, 1, none⟩ (.int .u64 t.H)).setCell ⟨w.heap.size, 2, none⟩ (.int .i64 t.Y)).setCell ⟨w.heap.size, 3, none⟩ (.int .i64 t.X)).heap[w.heap.size]? = some (.cells #[.int .u64 t.F, .int .u64 t.H, .int .i64 t.Y, .int .i64 t.X] 101 (0, 0)) := by
      have a0 := hset_same W8 w.heap.size 0 _ 101 (.int .u64 t.F) rd
      have a1 := hset_same _ w.heap.size 1 _ 101 (.int .u64 t.H) a0
      have a2 := hset_same _ w.heap.size 2 _ 101 (.int .i64 t.Y) a1
      have a3 := hset_same _ w.heap.size 3 _ 101 (.int .i64 t.X) a2
      simpa using a3
    have k9 : KeptS (fun x => x = w.heap.size) W8 ((((W8.setCell ⟨w.heap.size, 0, none⟩ (.int .u64 t.F)).setCell ⟨w.heap.size, 1, none⟩ (.int .u64 t.H)).setCell ⟨w.heap.size, 2, none⟩ (.int .i64 t.Y)).setCell ⟨w.heap.size, 3, none⟩ (.int .i64 t.X)) := by
      have a0 := hgrown_set W8 w.heap.size 0 (.int .u64 t.F)
      have a1 := a0.trans (hgrown_set _ w.heap.size 1 (.int .u64 t.H))
      have a2 := a1.trans (hgrown_set _ w.heap.size 2 (.int .i64 t.Y))
      have a3 := a2.trans (hgrown_set _ w.heap.size 3 (.int .i64 t.X))
      exact .of_grown a3 (fun x e _ => by cases e; rfl)
    obtain ⟨W9, hW9⟩ : ∃ W9, ((((W8.setCell ⟨w.heap.size, 0, none⟩ (.int .u64 t.F)).setCell ⟨w.heap.size, 1, none⟩ (.int .u64 t.H)).setCell ⟨w.heap.size, 2, none⟩ (.int .i64 t.Y)).setCell ⟨w.heap.size, 3, none⟩ (.int .i64 t.X)) = W9 := ⟨_, rfl⟩
    rw [hW9] at e0 k9 ⊢
    have k79 := k8.trans k9 (fun _ _ h => h)
    have hS9 : (fun w'' : World => w''.cell? ⟨w'.heap.size, 0, none⟩ = some (.int .i64 t.id) ∧ w''.cell? ⟨w'.heap.size, 1, none⟩ = some (.int .u64 t.F) ∧ w''.cell? ⟨w'.heap.size, 2, none⟩ = some (.int .u64 t.H) ∧ w''.cell? ⟨w'.heap.size, 3, none⟩ = some (.int .i64 t.Y) ∧ w''.cell? ⟨w'.heap.size, 4, none⟩ = some (.int .i64 t.X)) W9 := ⟨k9.cell t0 hnk, k9.cell t1 hnk, k9.cell t2 hnk, k9.cell t3 hnk, k9.cell t4 hnk⟩
    have hEnd := heap_end (HPS.out ▸ HPOP.out) HH5.out K5.out h3 k79 hnb7
    have HEnd := Lib.hid hEnd
    have y0 : W9.cell? ⟨w.heap.size, 0, none⟩ = some (.int .u64 t.F) := by simp [World.cell?, e0]
    have y1 : W9.cell? ⟨w.heap.size, 1, none⟩ = some (.int .u64 t.H) := by simp [World.cell?, e0]
    have y2 : W9.cell? ⟨w.heap.size, 2, none⟩ = some (.int .i64 t.Y) := by simp [World.cell?, e0]
    have y3 : W9.cell? ⟨w.heap.size, 3, none⟩ = some (.int .i64 t.X) := by simp [World.cell?, e0]
    clear hW9 k8 k9 k79 hEnd q0 q1 q2 q3 f0 f1 f2 f3 t0 t1 t2 t3 t4 rd e0
    refine hK _ _ hS9 ?_
    clear hK K hH
    try simp only [Act.put, List.setIfInBounds_toArray, List.set_cons_zero, List.set_cons_succ]
    refine ordS_one (i := 6) (o := { dst := some 4, op := Op.assign (Operand.const (Value.bool true)), type := 4, pos := _, after := #[{ on := 5, ground := Ground.chain }, { on := 0, ground := Ground.phase }, { on := 1, ground := Ground.phase }, { on := 2, ground := Ground.phase }, { on := 3, ground := Ground.phase }, { on := 4, ground := Ground.phase }, { on := 5, ground := Ground.phase }], guard := none }) (by kernel_rfl) rfl (by rfl) (fun K hK => ?_)
    go_simp
    refine hK _ _ hS9 ?_
    clear hK K hS9
    try simp only [Act.put, List.setIfInBounds_toArray, List.set_cons_zero, List.set_cons_succ]
    refine ordS_done (by kernel_rfl) ?_
    go_wp2
    exact bodyPost_ret (v := .tuple #[.int .i64 t.id, .agg #[.int .u64 t.F, .int .u64 t.H, .int .i64 t.Y, .int .i64 t.X], .bool true]) (by simp [results, Tryd.results61, go_sem, y0, y1, y2, y3]) rfl ⟨rfl, HEnd.out⟩

/-- The value that Pop hands back. -/
def popV (m : List Th) : Value := .tuple #[.int .i64 (firstT m).id, .agg #[.int .u64 (firstT m).F, .int .u64 (firstT m).H, .int .i64 (firstT m).Y, .int .i64 (firstT m).X], .bool (!m.isEmpty)]
theorem hpop_any (p : Nat) (m : List Th) (S : Nat → Prop) (w : World) (h : (HeapO p m).P w S) (hm : m.length ≤ 1000000) :
    Calls Tryd.prog 61 #[.pointer (some ⟨p, 0, none⟩)] w fun e w' => e = .returned (.tuple #[.int .i64 (firstT m).id, .agg #[.int .u64 (firstT m).F, .int .u64 (firstT m).H, .int .i64 (firstT m).Y, .int .i64 (firstT m).X], .bool (!m.isEmpty)]) ∧ Turned S w w' (HeapO p (popM m)) := by
  cases m with
  | nil => exact (hpop_none p S w h).mono fun e w' ⟨he, hb⟩ => ⟨he, heap_there h hb⟩
  | cons t l => exact hpop_yes p (t :: l) S w h (by simp) hm
end Go.Proofs.YtofpoenehdmkpaaDoor
