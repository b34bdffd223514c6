/- Heap: which thing goes ahead; a thing is put at a place. -/
import Derived.Test.YtofpoenehdmkpaaDoorHa
import Derived.Test.YtofpoenehdmkpaaDoorOz
import Derived.RangeFuncCalls
import Derived.Deep.Cut
namespace Go.Proofs.YtofpoenehdmkpaaDoor
open Go.RowKit Go.Maps

set_option maxHeartbeats 1600000 in
theorem ahead_other (a b : Th) (w : World) (h : sameK a b = false) :
    Calls Tryd.prog 93 #[.agg #[.int .i64 a.id, .int .u64 a.F, .int .u64 a.H, .int .i64 a.Y, .int .i64 a.X], .agg #[.int .i64 b.id, .int .u64 b.F, .int .u64 b.H, .int .i64 b.Y, .int .i64 b.X]] w fun e w' => e = .returned (.bool (aheadT a b)) ∧ Below w.heap.size w w' := by
  have HC := fun w => less_any a b w
  obtain ⟨r, hr⟩ : ∃ r, aheadT a b = r := ⟨_, rfl⟩
  rw [hr]
  unfold aheadT at hr
  rw [h] at hr
  simp only [Bool.false_eq_true, if_false] at hr
  unfold sameK at h
  have h := of_decide_eq_false h
  by_cases h1 : a.F = b.F
  · have n1 : (a.F == b.F) = true := by rw [beq_iff_eq]; exact h1
    by_cases h2 : a.H = b.H
    · have n2 : (a.H == b.H) = true := by rw [beq_iff_eq]; exact h2
      by_cases h3 : a.Y = b.Y
      · have n3 : (a.Y == b.Y) = true := by rw [beq_iff_eq]; exact h3
        have n4 : (a.X == b.X) = false := by rw [beq_eq_false_iff_ne]; exact fun h4 => h ⟨h1, h2, h3, h4⟩
        clear h1 h2 h3
        have HR := Lib.hid hr
        clear hr h
        go_enter Tryd.func93, Tryd.ntmps93
        go_wp2_with fail
        refine (HC _).mono ?_
        rintro e w' ⟨rfl, hb⟩
        go_wp2
        go_ret
        exact ⟨ret_bool HR.out, bl_tr (bl_al (bl_al (bl0 _) _) _) hb⟩
      · have n3 : (a.Y == b.Y) = false := by rw [beq_eq_false_iff_ne]; exact h3
        clear h1 h2 h3
        have HR := Lib.hid hr
        clear hr h
        go_enter Tryd.func93, Tryd.ntmps93
        go_wp2_with fail
        refine (HC _).mono ?_
        rintro e w' ⟨rfl, hb⟩
        go_wp2
        go_ret
        exact ⟨ret_bool HR.out, bl_tr (bl_al (bl_al (bl0 _) _) _) hb⟩
    · have n2 : (a.H == b.H) = false := by rw [beq_eq_false_iff_ne]; exact h2
      clear h1 h2
      have HR := Lib.hid hr
      clear hr h
      go_enter Tryd.func93, Tryd.ntmps93
      go_wp2_with fail
      refine (HC _).mono ?_
      rintro e w' ⟨rfl, hb⟩
      go_wp2
      go_ret
      exact ⟨ret_bool HR.out, bl_tr (bl_al (bl_al (bl0 _) _) _) hb⟩
  · have n1 : (a.F == b.F) = false := by rw [beq_eq_false_iff_ne]; exact h1
    clear h1
    have HR := Lib.hid hr
    clear hr h
    go_enter Tryd.func93, Tryd.ntmps93
    go_wp2_with fail
    refine (HC _).mono ?_
    rintro e w' ⟨rfl, hb⟩
    go_wp2
    go_ret
    exact ⟨ret_bool HR.out, bl_tr (bl_al (bl_al (bl0 _) _) _) hb⟩

set_option maxHeartbeats 1600000 in
theorem ahead_any (a b : Th) (w : World) :
    Calls Tryd.prog 93 #[.agg #[.int .i64 a.id, .int .u64 a.F, .int .u64 a.H, .int .i64 a.Y, .int .i64 a.X], .agg #[.int .i64 b.id, .int .u64 b.F, .int .u64 b.H, .int .i64 b.Y, .int .i64 b.X]] w fun e w' => e = .returned (.bool (aheadT a b)) ∧ Below w.heap.size w w' := by
  by_cases h1 : sameK a b = true
  · obtain ⟨r, hr⟩ : ∃ r, aheadT a b = r := ⟨_, rfl⟩
    rw [hr]
    unfold aheadT at hr
    rw [if_pos h1] at hr
    unfold sameK at h1
    obtain ⟨m1, m2, m3, m4⟩ := of_decide_eq_true h1
    have n1 : (a.F == b.F) = true := by rw [beq_iff_eq]; exact m1
    have n2 : (a.H == b.H) = true := by rw [beq_iff_eq]; exact m2
    have n3 : (a.Y == b.Y) = true := by rw [beq_iff_eq]; exact m3
    have n4 : (a.X == b.X) = true := by rw [beq_iff_eq]; exact m4
    have HR := Lib.hid hr
    clear hr h1 m1 m2 m3 m4
    go_enter Tryd.func93, Tryd.ntmps93
    go_wp2
    go_ret
    exact ⟨ret_bool HR.out, bl_al (bl_al (bl0 _) _) _⟩
  · exact ahead_other a b w (by simpa using h1)

/-- A thing is put at a place of the row. -/
theorem HeapAt.setT {W : World} {B p b g cap : Nat} {s : HS} (h : HeapAt W B p b (.slice (some ⟨g, 0, none⟩) s.ts.length cap) s) {i : Nat} (hi : i < s.ts.length) (t : Th) (ht : wfT t) {W1 : World}
    (h1 : W1 = ((((W.setCell ⟨g, i * 5, none⟩ (.int .i64 t.id)).setCell ⟨g, i * 5 + 1, none⟩ (.int .u64 t.F)).setCell ⟨g, i * 5 + 2, none⟩ (.int .u64 t.H)).setCell ⟨g, i * 5 + 3, none⟩ (.int .i64 t.Y)).setCell ⟨g, i * 5 + 4, none⟩ (.int .i64 t.X)) :
    HeapAt W1 B p b (.slice (some ⟨g, 0, none⟩) s.ts.length cap) ⟨s.ts.set i t, s.f, s.n⟩ ∧ KeptS (HB p b (.slice (some ⟨g, 0, none⟩) s.ts.length cap)) W W1 := by
  have hgp : g ≠ p := fun e => h.gp (by rw [e]; rfl)
  have hgb : g ≠ b := fun e => h.gb (by rw [e]; rfl)
  have q0 := hgrown_set W g (i * 5) (.int .i64 t.id)
  have q1 := q0.trans (hgrown_set _ g (i * 5 + 1) (.int .u64 t.F))
  have q2 := q1.trans (hgrown_set _ g (i * 5 + 2) (.int .u64 t.H))
  have q3 := q2.trans (hgrown_set _ g (i * 5 + 3) (.int .i64 t.Y))
  have q4 := q3.trans (hgrown_set _ g (i * 5 + 4) (.int .i64 t.X))
  rw [← h1] at q4
  have k1 : KeptS (fun k => k = g) W W1 := .of_grown q4 (fun k e _ => by cases e; rfl)
  refine ⟨⟨(k1.2 p (h.lt p (.inl rfl)).2 (Ne.symm hgp)).trans h.hp, ?_, h.pl.keptS k1 (Ne.symm hgb), ?_, h.bp, h.bb⟩, k1.wide ?_⟩
  · refine ⟨by simp [flatT_len], ?_⟩
    rcases h.row.2 with ⟨e, _⟩ | ⟨g', cap', cur, e, hB, hg, l1, l2, l3, l4⟩
    · cases e
    · cases e
      have e0 := hset_same W g (i * 5) cur 138 (.int .i64 t.id) hg
      have e1 := hset_same _ g (i * 5 + 1) _ 138 (.int .u64 t.F) e0
      have e2 := hset_same _ g (i * 5 + 2) _ 138 (.int .u64 t.H) e1
      have e3 := hset_same _ g (i * 5 + 3) _ 138 (.int .i64 t.Y) e2
      have e4 := hset_same _ g (i * 5 + 4) _ 138 (.int .i64 t.X) e3
      rw [← h1] at e4
      refine .inr ⟨g, cap, _, by simp, hB, e4, by simpa using l1, l2, by simpa using l3, ?_⟩
      rw [flatT_set _ _ _ hi, ← l4]
      simp [List.take_set]
  · intro x hx
    rcases List.mem_or_eq_of_mem_set hx with hx | rfl
    · exact h.wf x hx
    · exact ht
  · rintro k rfl
    exact .inr (.inr rfl)
/-- Places are told anew. -/
theorem HeapAt.setF {W W' : World} {B p b : Nat} {v : Value} {s : HS} (h : HeapAt W B p b v s) {n : Nat} {f : Int → Option Nat} (h3 : PlacesAt W' b n f) (h4 : W.mapTurned W' b) :
    HeapAt W' B p b v ⟨s.ts, f, n⟩ ∧ KeptS (HB p b v) W W' := by
  have k1 : KeptS (fun k => k = b) W W' := .of_grown h4.grown (fun k e _ => by cases e; rfl)
  exact ⟨⟨(k1.2 p (h.lt p (.inl rfl)).2 h.pb).trans h.hp, k1.own h.row (fun g hg e => h.gb (by rw [hg, e])), h3, h.wf, h.bp, h.bb⟩, k1.wide (fun k e => .inr (.inl e))⟩

set_option maxHeartbeats 4000000 in
theorem put_any (B p b g cap : Nat) (s : HS) (i : Nat) (t : Th) (w : World) (h : HeapAt w B p b (.slice (some ⟨g, 0, none⟩) s.ts.length cap) s) (hi : i < s.ts.length) (hl : s.ts.length ≤ 1048576) (hn : s.n ≤ 2097152) (ht : wfT t) :
    Calls Tryd.prog 94 #[.pointer (some ⟨p, 0, none⟩), .int .i64 (i : Int), .agg #[.int .i64 t.id, .int .u64 t.F, .int .u64 t.H, .int .i64 t.Y, .int .i64 t.X]] w fun e w' =>
      e = .returned (.tuple #[]) ∧ HeapAt w' B p b (.slice (some ⟨g, 0, none⟩) s.ts.length cap) (putS s i t) ∧ KeptS (HB p b (.slice (some ⟨g, 0, none⟩) s.ts.length cap)) w w' := by
  have hi2 : (i : Int) < (s.ts.length : Int) := by omega
  have hi0 : (0 : Int) ≤ (i : Int) := by omega
  have h0 := h
  have hA := bl_al (bl0 w) (.cells #[.int .i64 t.id, .int .u64 t.F, .int .u64 t.H, .int .i64 t.Y, .int .i64 t.X] 138)
  go_enter Tryd.func94, Tryd.ntmps94
  go_upto_region 1 with fail
  obtain ⟨W, hW⟩ : ∃ W, w.alloc (.cells #[.int .i64 t.id, .int .u64 t.F, .int .u64 t.H, .int .i64 t.Y, .int .i64 t.X] 138) = W := ⟨_, rfl⟩
  rw [hW] at hA ⊢
  have t0 : W.cell? ⟨w.heap.size, 0, none⟩ = some (.int .i64 t.id) := by rw [← hW]; simp [go_sem]
  have t1 : W.cell? ⟨w.heap.size, 1, none⟩ = some (.int .u64 t.F) := by rw [← hW]; simp [go_sem]
  have t2 : W.cell? ⟨w.heap.size, 2, none⟩ = some (.int .u64 t.H) := by rw [← hW]; simp [go_sem]
  have t3 : W.cell? ⟨w.heap.size, 3, none⟩ = some (.int .i64 t.Y) := by rw [← hW]; simp [go_sem]
  have t4 : W.cell? ⟨w.heap.size, 4, none⟩ = some (.int .i64 t.X) := by rw [← hW]; simp [go_sem]
  clear hW
  replace h := h.below hA
  have c0 := h.c0
  have hD := bl_dr (bl0 W)
  refine (wpIn_wide (n := 11)).1 ?_
  refine ordZ_begin (z := 7) (S := (fun w' : World => w'.cell? ⟨p, 0, none⟩ = some (.slice (some ⟨g, 0, none⟩) s.ts.length cap) ∧ w'.cell? ⟨w.heap.size, 0, none⟩ = some (.int .i64 t.id) ∧ w'.cell? ⟨w.heap.size, 1, none⟩ = some (.int .u64 t.F) ∧ w'.cell? ⟨w.heap.size, 2, none⟩ = some (.int .u64 t.H) ∧ w'.cell? ⟨w.heap.size, 3, none⟩ = some (.int .i64 t.Y) ∧ w'.cell? ⟨w.heap.size, 4, none⟩ = some (.int .i64 t.X))) (by kernel_rfl) ⟨cell_later hD c0, cell_later hD t0, cell_later hD t1, cell_later hD t2, cell_later hD t3, cell_later hD t4⟩ (fun hH => ?_)
  first
    | (refine' ordZ_take (i := 0) (oi := { dst := some 6, op := Op.move (Operand.tmp 0), type := 97, pos := _, after := #[], guard := none }) (v := _) rfl (by kernel_rfl) (by kernel_rfl) (by kernel_rfl) (by kernel_rfl) (fun _ _ _ h => h) (by assumption) (by kernel_rfl) (by decide) (by rfl) (Or.inl ⟨by rfl, ?hy1⟩) (fun _ => rfl) ?rest1
       case hy1 => (intro w hSw; (try dsimp only at hSw); go_simp; try with_reducible rfl))
    | (refine ordZ_take (i := 0) (oi := { dst := some 6, op := Op.move (Operand.tmp 0), type := 97, pos := _, after := #[], guard := none }) (v := undef) rfl (by kernel_rfl) (by kernel_rfl) (by kernel_rfl) (by kernel_rfl) (fun _ _ _ h => h) (by assumption) (by kernel_rfl) (by decide) (by rfl) (Or.inr ⟨by rfl, rfl⟩) (fun _ => rfl) ?_)
  try simp only [Act.put, List.setIfInBounds_toArray, List.set_cons_zero, List.set_cons_succ]
  first
    | (refine' ordZ_take (i := 1) (oi := { dst := some 7, op := Op.nilCheck (Operand.tmp 6), type := 0, pos := _, after := #[{ on := 0, ground := Ground.data }], guard := none }) (v := _) rfl (by kernel_rfl) (by kernel_rfl) (by kernel_rfl) (by kernel_rfl) (fun _ _ _ h => h) (by assumption) (by kernel_rfl) (by decide) (by rfl) (Or.inl ⟨by rfl, ?hy2⟩) (fun _ => rfl) ?rest2
       case hy2 => (intro w hSw; (try dsimp only at hSw); go_simp; try with_reducible rfl))
    | (refine ordZ_take (i := 1) (oi := { dst := some 7, op := Op.nilCheck (Operand.tmp 6), type := 0, pos := _, after := #[{ on := 0, ground := Ground.data }], guard := none }) (v := undef) rfl (by kernel_rfl) (by kernel_rfl) (by kernel_rfl) (by kernel_rfl) (fun _ _ _ h => h) (by assumption) (by kernel_rfl) (by decide) (by rfl) (Or.inr ⟨by rfl, rfl⟩) (fun _ => rfl) ?_)
  try simp only [Act.put, List.setIfInBounds_toArray, List.set_cons_zero, List.set_cons_succ]
  first
    | (refine' ordZ_take (i := 2) (oi := { dst := some 8, op := Op.fieldAddr 135 (Operand.tmp 7) 0, type := 0, pos := _, after := #[{ on := 1, ground := Ground.data }], guard := none }) (v := _) rfl (by kernel_rfl) (by kernel_rfl) (by kernel_rfl) (by kernel_rfl) (fun _ _ _ h => h) (by assumption) (by kernel_rfl) (by decide) (by rfl) (Or.inl ⟨by rfl, ?hy3⟩) (fun _ => rfl) ?rest3
       case hy3 => (intro w hSw; (try dsimp only at hSw); go_simp; try with_reducible rfl))
    | (refine ordZ_take (i := 2) (oi := { dst := some 8, op := Op.fieldAddr 135 (Operand.tmp 7) 0, type := 0, pos := _, after := #[{ on := 1, ground := Ground.data }], guard := none }) (v := undef) rfl (by kernel_rfl) (by kernel_rfl) (by kernel_rfl) (by kernel_rfl) (fun _ _ _ h => h) (by assumption) (by kernel_rfl) (by decide) (by rfl) (Or.inr ⟨by rfl, rfl⟩) (fun _ => rfl) ?_)
  try simp only [Act.put, List.setIfInBounds_toArray, List.set_cons_zero, List.set_cons_succ]
  first
    | (refine' ordZ_take (i := 3) (oi := { dst := some 9, op := Op.load 133 (Operand.tmp 8), type := 133, pos := _, after := #[{ on := 2, ground := Ground.data }], guard := none }) (v := _) rfl (by kernel_rfl) (by kernel_rfl) (by kernel_rfl) (by kernel_rfl) (fun _ _ _ h => h) (by assumption) (by kernel_rfl) (by decide) (by rfl) (Or.inl ⟨by rfl, ?hy4⟩) (fun _ => rfl) ?rest4
       case hy4 => (intro w hSw; (try dsimp only at hSw); go_simp; try with_reducible rfl))
    | (refine ordZ_take (i := 3) (oi := { dst := some 9, op := Op.load 133 (Operand.tmp 8), type := 133, pos := _, after := #[{ on := 2, ground := Ground.data }], guard := none }) (v := undef) rfl (by kernel_rfl) (by kernel_rfl) (by kernel_rfl) (by kernel_rfl) (fun _ _ _ h => h) (by assumption) (by kernel_rfl) (by decide) (by rfl) (Or.inr ⟨by rfl, rfl⟩) (fun _ => rfl) ?_)
  try simp only [Act.put, List.setIfInBounds_toArray, List.set_cons_zero, List.set_cons_succ]
  first
    | (refine' ordZ_take (i := 4) (oi := { dst := some 10, op := Op.move (Operand.tmp 1), type := 3, pos := _, after := #[], guard := none }) (v := _) rfl (by kernel_rfl) (by kernel_rfl) (by kernel_rfl) (by kernel_rfl) (fun _ _ _ h => h) (by assumption) (by kernel_rfl) (by decide) (by rfl) (Or.inl ⟨by rfl, ?hy5⟩) (fun _ => rfl) ?rest5
       case hy5 => (intro w hSw; (try dsimp only at hSw); go_simp; try with_reducible rfl))
    | (refine ordZ_take (i := 4) (oi := { dst := some 10, op := Op.move (Operand.tmp 1), type := 3, pos := _, after := #[], guard := none }) (v := undef) rfl (by kernel_rfl) (by kernel_rfl) (by kernel_rfl) (by kernel_rfl) (fun _ _ _ h => h) (by assumption) (by kernel_rfl) (by decide) (by rfl) (Or.inr ⟨by rfl, rfl⟩) (fun _ => rfl) ?_)
  try simp only [Act.put, List.setIfInBounds_toArray, List.set_cons_zero, List.set_cons_succ]
  first
    | (refine' ordZ_take (i := 5) (oi := { dst := some 11, op := Op.load 138 (Operand.tmp 5), type := 138, pos := _, after := #[], guard := none }) (v := _) rfl (by kernel_rfl) (by kernel_rfl) (by kernel_rfl) (by kernel_rfl) (fun _ _ _ h => h) (by assumption) (by kernel_rfl) (by decide) (by rfl) (Or.inl ⟨by rfl, ?hy6⟩) (fun _ => rfl) ?rest6
       case hy6 => (intro w hSw; (try dsimp only at hSw); go_simp; try with_reducible rfl))
    | (refine ordZ_take (i := 5) (oi := { dst := some 11, op := Op.load 138 (Operand.tmp 5), type := 138, pos := _, after := #[], guard := none }) (v := undef) rfl (by kernel_rfl) (by kernel_rfl) (by kernel_rfl) (by kernel_rfl) (fun _ _ _ h => h) (by assumption) (by kernel_rfl) (by decide) (by rfl) (Or.inr ⟨by rfl, rfl⟩) (fun _ => rfl) ?_)
  try simp only [Act.put, List.setIfInBounds_toArray, List.set_cons_zero, List.set_cons_succ]
  first
    | (refine' ordZ_take (i := 6) (oi := { dst := some 12, op := Op.indexAddr 133 (Operand.tmp 9) (Operand.tmp 10), type := 0, pos := _, after := #[{ on := 3, ground := Ground.data }, { on := 4, ground := Ground.data }, { on := 0, ground := Ground.phase }, { on := 1, ground := Ground.phase }, { on := 2, ground := Ground.phase }, { on := 3, ground := Ground.phase }, { on := 4, ground := Ground.phase }, { on := 5, ground := Ground.phase }], guard := none }) (v := _) rfl (by kernel_rfl) (by kernel_rfl) (by kernel_rfl) (by kernel_rfl) (fun _ _ _ h => h) (by assumption) (by kernel_rfl) (by decide) (by rfl) (Or.inl ⟨by rfl, ?hy7⟩) (fun _ => rfl) ?rest7
       case hy7 => (intro w hSw; (try dsimp only at hSw); go_simp; try with_reducible rfl))
    | (refine ordZ_take (i := 6) (oi := { dst := some 12, op := Op.indexAddr 133 (Operand.tmp 9) (Operand.tmp 10), type := 0, pos := _, after := #[{ on := 3, ground := Ground.data }, { on := 4, ground := Ground.data }, { on := 0, ground := Ground.phase }, { on := 1, ground := Ground.phase }, { on := 2, ground := Ground.phase }, { on := 3, ground := Ground.phase }, { on := 4, ground := Ground.phase }, { on := 5, ground := Ground.phase }], guard := none }) (v := undef) rfl (by kernel_rfl) (by kernel_rfl) (by kernel_rfl) (by kernel_rfl) (fun _ _ _ h => h) (by assumption) (by kernel_rfl) (by decide) (by rfl) (Or.inr ⟨by rfl, rfl⟩) (fun _ => rfl) ?_)
  try simp only [Act.put, List.setIfInBounds_toArray, List.set_cons_zero, List.set_cons_succ]
  refine ordZ_one (i := 7) (o := { dst := none, op := Op.store 138 (Operand.tmp 12) (Operand.tmp 11), type := 0, pos := _, after := #[{ on := 6, ground := Ground.data }, { on := 5, ground := Ground.data }, { on := 0, ground := Ground.phase }, { on := 1, ground := Ground.phase }, { on := 2, ground := Ground.phase }, { on := 3, ground := Ground.phase }, { on := 4, ground := Ground.phase }, { on := 5, ground := Ground.phase }], guard := none }) (by kernel_rfl) rfl (by rfl) (fun K hK => ?_)
  have f0 : W.frozen? ⟨g, i * 5, none⟩ = false := h.row.frozenAt _
  have f1 : W.frozen? ⟨g, i * 5 + 1, none⟩ = false := h.row.frozenAt _
  have f2 : W.frozen? ⟨g, i * 5 + 2, none⟩ = false := h.row.frozenAt _
  have f3 : W.frozen? ⟨g, i * 5 + 3, none⟩ = false := h.row.frozenAt _
  have f4 : W.frozen? ⟨g, i * 5 + 4, none⟩ = false := h.row.frozenAt _
  obtain ⟨y0, y1, y2, y3, y4⟩ := h.at hi
  go_simp
  refine hK _ _ (fun h => by cases h) ?_
  clear hK K
  try simp only [Act.put, List.setIfInBounds_toArray, List.set_cons_zero, List.set_cons_succ]
  refine ordZ_done (by kernel_rfl) ?_
  obtain ⟨W1, hW1⟩ : ∃ W1, ((((W.setCell ⟨g, i * 5, none⟩ (.int .i64 t.id)).setCell ⟨g, i * 5 + 1, none⟩ (.int .u64 t.F)).setCell ⟨g, i * 5 + 2, none⟩ (.int .u64 t.H)).setCell ⟨g, i * 5 + 3, none⟩ (.int .i64 t.Y)).setCell ⟨g, i * 5 + 4, none⟩ (.int .i64 t.X) = W1 := ⟨_, rfl⟩
  obtain ⟨h1, k1⟩ := h.setT hi t ht hW1.symm
  have hgw : g < w.heap.size := (h0.lt g (.inr (.inr rfl))).2
  have hnb : ¬ HB p b (.slice (some ⟨g, 0, none⟩) s.ts.length cap) w.heap.size := fun e => by have := (h0.lt _ e).2; omega
  rw [hW1]
  replace t0 := k1.cell t0 hnb
  have c1 := h1.c1
  have hD1 := bl_dr (bl0 W1)
  clear hW1 hH hD y0 y1 y2 y3 y4 f0 f1 f2 f3 f4 t1 t2 t3 t4
  obtain ⟨W2, hW2⟩ : ∃ W2, W1.drew = W2 := ⟨_, rfl⟩
  rw [hW2] at hD1 ⊢
  have k2 := k1.below hD1
  replace h1 := h1.below hD1
  replace t0 := cell_later hD1 t0
  replace c1 := cell_later hD1 c1
  clear hW2 k1 hD1 c0
  have hD := bl_dr (bl0 W2)
  go_upto_region 2 with fail
  refine (wpIn_wide (n := 11)).1 ?_
  refine ordZ_begin (z := 7) (S := (fun w' : World => w'.cell? ⟨p, 1, none⟩ = some (.map (some b)) ∧ w'.cell? ⟨w.heap.size, 0, none⟩ = some (.int .i64 t.id))) (by kernel_rfl) ⟨cell_later hD c1, cell_later hD t0⟩ (fun hH => ?_)
  first
    | (refine' ordZ_take (i := 0) (oi := { dst := some 13, op := Op.move (Operand.tmp 0), type := 97, pos := _, after := #[], guard := none }) (v := _) rfl (by kernel_rfl) (by kernel_rfl) (by kernel_rfl) (by kernel_rfl) (fun _ _ _ h => h) (by assumption) (by kernel_rfl) (by decide) (by rfl) (Or.inl ⟨by rfl, ?hy8⟩) (fun _ => rfl) ?rest8
       case hy8 => (intro w hSw; (try dsimp only at hSw); go_simp; try with_reducible rfl))
    | (refine ordZ_take (i := 0) (oi := { dst := some 13, op := Op.move (Operand.tmp 0), type := 97, pos := _, after := #[], guard := none }) (v := undef) rfl (by kernel_rfl) (by kernel_rfl) (by kernel_rfl) (by kernel_rfl) (fun _ _ _ h => h) (by assumption) (by kernel_rfl) (by decide) (by rfl) (Or.inr ⟨by rfl, rfl⟩) (fun _ => rfl) ?_)
  try simp only [Act.put, List.setIfInBounds_toArray, List.set_cons_zero, List.set_cons_succ]
  first
    | (refine' ordZ_take (i := 1) (oi := { dst := some 14, op := Op.nilCheck (Operand.tmp 13), type := 0, pos := _, after := #[{ on := 0, ground := Ground.data }], guard := none }) (v := _) rfl (by kernel_rfl) (by kernel_rfl) (by kernel_rfl) (by kernel_rfl) (fun _ _ _ h => h) (by assumption) (by kernel_rfl) (by decide) (by rfl) (Or.inl ⟨by rfl, ?hy9⟩) (fun _ => rfl) ?rest9
       case hy9 => (intro w hSw; (try dsimp only at hSw); go_simp; try with_reducible rfl))
    | (refine ordZ_take (i := 1) (oi := { dst := some 14, op := Op.nilCheck (Operand.tmp 13), type := 0, pos := _, after := #[{ on := 0, ground := Ground.data }], guard := none }) (v := undef) rfl (by kernel_rfl) (by kernel_rfl) (by kernel_rfl) (by kernel_rfl) (fun _ _ _ h => h) (by assumption) (by kernel_rfl) (by decide) (by rfl) (Or.inr ⟨by rfl, rfl⟩) (fun _ => rfl) ?_)
  try simp only [Act.put, List.setIfInBounds_toArray, List.set_cons_zero, List.set_cons_succ]
  first
    | (refine' ordZ_take (i := 2) (oi := { dst := some 15, op := Op.fieldAddr 135 (Operand.tmp 14) 1, type := 0, pos := _, after := #[{ on := 1, ground := Ground.data }], guard := none }) (v := _) rfl (by kernel_rfl) (by kernel_rfl) (by kernel_rfl) (by kernel_rfl) (fun _ _ _ h => h) (by assumption) (by kernel_rfl) (by decide) (by rfl) (Or.inl ⟨by rfl, ?hy10⟩) (fun _ => rfl) ?rest10
       case hy10 => (intro w hSw; (try dsimp only at hSw); go_simp; try with_reducible rfl))
    | (refine ordZ_take (i := 2) (oi := { dst := some 15, op := Op.fieldAddr 135 (Operand.tmp 14) 1, type := 0, pos := _, after := #[{ on := 1, ground := Ground.data }], guard := none }) (v := undef) rfl (by kernel_rfl) (by kernel_rfl) (by kernel_rfl) (by kernel_rfl) (fun _ _ _ h => h) (by assumption) (by kernel_rfl) (by decide) (by rfl) (Or.inr ⟨by rfl, rfl⟩) (fun _ => rfl) ?_)
  try simp only [Act.put, List.setIfInBounds_toArray, List.set_cons_zero, List.set_cons_succ]
  first
    | (refine' ordZ_take (i := 3) (oi := { dst := some 16, op := Op.load 132 (Operand.tmp 15), type := 132, pos := _, after := #[{ on := 2, ground := Ground.data }], guard := none }) (v := _) rfl (by kernel_rfl) (by kernel_rfl) (by kernel_rfl) (by kernel_rfl) (fun _ _ _ h => h) (by assumption) (by kernel_rfl) (by decide) (by rfl) (Or.inl ⟨by rfl, ?hy11⟩) (fun _ => rfl) ?rest11
       case hy11 => (intro w hSw; (try dsimp only at hSw); go_simp; try with_reducible rfl))
    | (refine ordZ_take (i := 3) (oi := { dst := some 16, op := Op.load 132 (Operand.tmp 15), type := 132, pos := _, after := #[{ on := 2, ground := Ground.data }], guard := none }) (v := undef) rfl (by kernel_rfl) (by kernel_rfl) (by kernel_rfl) (by kernel_rfl) (fun _ _ _ h => h) (by assumption) (by kernel_rfl) (by decide) (by rfl) (Or.inr ⟨by rfl, rfl⟩) (fun _ => rfl) ?_)
  try simp only [Act.put, List.setIfInBounds_toArray, List.set_cons_zero, List.set_cons_succ]
  first
    | (refine' ordZ_take (i := 4) (oi := { dst := some 17, op := Op.fieldAddr 138 (Operand.tmp 5) 0, type := 0, pos := _, after := #[], guard := none }) (v := _) rfl (by kernel_rfl) (by kernel_rfl) (by kernel_rfl) (by kernel_rfl) (fun _ _ _ h => h) (by assumption) (by kernel_rfl) (by decide) (by rfl) (Or.inl ⟨by rfl, ?hy12⟩) (fun _ => rfl) ?rest12
       case hy12 => (intro w hSw; (try dsimp only at hSw); go_simp; try with_reducible rfl))
    | (refine ordZ_take (i := 4) (oi := { dst := some 17, op := Op.fieldAddr 138 (Operand.tmp 5) 0, type := 0, pos := _, after := #[], guard := none }) (v := undef) rfl (by kernel_rfl) (by kernel_rfl) (by kernel_rfl) (by kernel_rfl) (fun _ _ _ h => h) (by assumption) (by kernel_rfl) (by decide) (by rfl) (Or.inr ⟨by rfl, rfl⟩) (fun _ => rfl) ?_)
  try simp only [Act.put, List.setIfInBounds_toArray, List.set_cons_zero, List.set_cons_succ]
  first
    | (refine' ordZ_take (i := 5) (oi := { dst := some 18, op := Op.load 3 (Operand.tmp 17), type := 3, pos := _, after := #[{ on := 4, ground := Ground.data }], guard := none }) (v := _) rfl (by kernel_rfl) (by kernel_rfl) (by kernel_rfl) (by kernel_rfl) (fun _ _ _ h => h) (by assumption) (by kernel_rfl) (by decide) (by rfl) (Or.inl ⟨by rfl, ?hy13⟩) (fun _ => rfl) ?rest13
       case hy13 => (intro w hSw; (try dsimp only at hSw); go_simp; try with_reducible rfl))
    | (refine ordZ_take (i := 5) (oi := { dst := some 18, op := Op.load 3 (Operand.tmp 17), type := 3, pos := _, after := #[{ on := 4, ground := Ground.data }], guard := none }) (v := undef) rfl (by kernel_rfl) (by kernel_rfl) (by kernel_rfl) (by kernel_rfl) (fun _ _ _ h => h) (by assumption) (by kernel_rfl) (by decide) (by rfl) (Or.inr ⟨by rfl, rfl⟩) (fun _ => rfl) ?_)
  try simp only [Act.put, List.setIfInBounds_toArray, List.set_cons_zero, List.set_cons_succ]
  first
    | (refine' ordZ_take (i := 6) (oi := { dst := some 19, op := Op.move (Operand.tmp 1), type := 3, pos := _, after := #[], guard := none }) (v := _) rfl (by kernel_rfl) (by kernel_rfl) (by kernel_rfl) (by kernel_rfl) (fun _ _ _ h => h) (by assumption) (by kernel_rfl) (by decide) (by rfl) (Or.inl ⟨by rfl, ?hy14⟩) (fun _ => rfl) ?rest14
       case hy14 => (intro w hSw; (try dsimp only at hSw); go_simp; try with_reducible rfl))
    | (refine ordZ_take (i := 6) (oi := { dst := some 19, op := Op.move (Operand.tmp 1), type := 3, pos := _, after := #[], guard := none }) (v := undef) rfl (by kernel_rfl) (by kernel_rfl) (by kernel_rfl) (by kernel_rfl) (fun _ _ _ h => h) (by assumption) (by kernel_rfl) (by decide) (by rfl) (Or.inr ⟨by rfl, rfl⟩) (fun _ => rfl) ?_)
  try simp only [Act.put, List.setIfInBounds_toArray, List.set_cons_zero, List.set_cons_succ]
  have h2 := h1.below hD
  obtain ⟨W3, hrun, hpl, hturn⟩ := h2.pl.store ht (show s.n < maxLen by unfold maxLen; omega) (p := i) (by unfold maxLen; omega)
  obtain ⟨h3, k3⟩ := h2.setF hpl hturn
  refine ordZ_one (i := 7) (o := { dst := none, op := Op.mapUpdate 132 (Operand.tmp 16) (Operand.tmp 18) (Operand.tmp 19), type := 0, pos := _, after := #[{ on := 3, ground := Ground.data }, { on := 5, ground := Ground.data }, { on := 6, ground := Ground.data }, { on := 0, ground := Ground.phase }, { on := 1, ground := Ground.phase }, { on := 2, ground := Ground.phase }, { on := 3, ground := Ground.phase }, { on := 4, ground := Ground.phase }, { on := 5, ground := Ground.phase }, { on := 6, ground := Ground.phase }], guard := none }) (by kernel_rfl) rfl (by rfl) (fun K hK => ?_)
  go_simp
  refine hK _ _ (fun h => by cases h) ?_
  clear hK K
  try simp only [Act.put, List.setIfInBounds_toArray, List.set_cons_zero, List.set_cons_succ]
  refine ordZ_done (by kernel_rfl) ?_
  go_end0
  have k0 : KeptS (HB p b (.slice (some ⟨g, 0, none⟩) s.ts.length cap)) w W3 := (KeptS.of_below (S := HB p b (.slice (some ⟨g, 0, none⟩) s.ts.length cap)) hA).trans ((k2.below hD).trans k3 (fun _ _ h => h)) (fun _ _ h => h)
  exact ⟨rfl, h3, k0⟩
end Go.Proofs.YtofpoenehdmkpaaDoor
