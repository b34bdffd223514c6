/- Heap's laws: the reference's Push. -/
import Derived.Test.YtgcncimeedoplaaZb
namespace Go.Proofs.Ytgcncimeedoplaa
open Go.RowKit Go.Maps

/-- One number more, to a row that may be nil. -/
theorem wpList_append_intv {w : World} {ops : Array Oper} {rest : List Oper} {o : Oper} {a : Act} {Q : Exit → Act → World → Prop} (hgd : o.guard = none) (s x : Operand)
    (ho : o.op = .call { callee := .builtin .append, args := #[s, x], argTypes := #[36, 36] })
    {W : World} (z : Int) (hw : w = W.alloc (.cells #[.int .i64 z] 3)) {B : Nat} {l1 l2 : List Own} {v : Value} {n : Nat} {is : List Int} (h : Sep W B (l1 ++ RowO 3 1 v n (cellsI is) :: l2)) (hn : n ≤ 1000000)
    (hs : a.eval s = v) (H : Nat) (hH : W.heap.size = H) (hx : a.eval x = .slice (some ⟨H, 0, none⟩) 1 1)
    (hQ : ∀ v' w', Sep w' B (l1 ++ RowO 3 1 v' (n + 1) (cellsI (is ++ [z])) :: l2) → Below B W w' → wpList Try.prog ops Q rest (a.put o.dst v') w') : wpList Try.prog ops Q (o :: rest) a w := by
  obtain ⟨i0, hi, hz0, hz1, hz2⟩ := info_parts Try.infoI
  subst hw
  subst hH
  have hb := bl_al (bl0 W) (.cells #[.int .i64 z] 3)
  have h2 := h.below hb
  refine wpList_append_own_at _ hgd s x 36 ho 0 3 i0 (.int .i64 0) 1 8 Try.underlying36 hi hz0 hz1 hz2 rfl (by decide) _ n (cellsI is) hs h2.own ⟨W.heap.size, 0, none⟩ 1 1 [.int .i64 z] hx rfl (cell_one_new W _ _) ?_ (by unfold maxLen; omega) (by omega) (Nat.zero_le _) (fun v' w' h3 h4 _ h6 => ?_)
  · intro u hu
    rw [List.mem_singleton.1 hu]
    rfl
  · rw [cellsI_snoc] at h3
    obtain ⟨q1, q2⟩ := h2.grew h3 h4 h6
    exact hQ v' w' q1 ((hb.mono h.base).trans q2)
theorem flatK_snoc (m : List Th) (t : Th) : flatK m ++ [.int .u64 t.F, .int .u64 t.H, .int .i64 t.Y, .int .i64 t.X] = flatK (m ++ [t]) := by simp [flatK]
theorem Try.infoR : (Try.prog.info? 28).map (fun i => (i.zero, i.size, i.bytes)) = some (some (.agg #[.int .u64 0, .int .u64 0, .int .i64 0, .int .i64 0]), 4, 32) := by kernel_rfl

set_option maxRecDepth 100000 in
set_option maxHeartbeats 4000000 in
theorem push_ref {w : World} {B : Nat} {p : Nat} {u v : Value} {m : List Th} {l : List Own} (t : Th) (h : Sep w B (RefL p u v m l)) (hm : m.length ≤ 1000) :
    Calls Try.prog 15 #[.pointer (some ⟨p, 0, none⟩), .int .i64 t.id, .agg #[.int .u64 t.F, .int .u64 t.H, .int .i64 t.Y, .int .i64 t.X]] w fun e w' => e = .returned (.int .i64 (pushE m t.id)) ∧ (∃ u' v', Sep w' B (RefL p u' v' (pushM m t) l)) ∧ Below B w w' := by
  have hbase := h.base
  have hA := (bl_al (bl0 w) (.cells #[.int .u64 t.F, .int .u64 t.H, .int .i64 t.Y, .int .i64 t.X] 28)).mono hbase
  replace h := h.box #[.int .u64 t.F, .int .u64 t.H, .int .i64 t.Y, .int .i64 t.X] 28
  obtain ⟨b, hb0⟩ : ∃ b, w.heap.size = b := ⟨_, rfl⟩
  rw [hb0] at h
  replace h : Sep (w.alloc (.cells #[.int .u64 t.F, .int .u64 t.H, .int .i64 t.Y, .int .i64 t.X] 28)) B (RefL p u v m (l ++ [CellsO b #[.int .u64 t.F, .int .u64 t.H, .int .i64 t.Y, .int .i64 t.X] 28])) := h
  have hcall := find_ref t.id h hm
  go_enter Try.func15, Try.ntmps15
  go_wp2_with fail
  refine hcall.mono ?_
  rintro e w2 ⟨r, rfl, hF, hb⟩
  have hA2 := hA.trans (hb.mono h.base)
  have h2 := h.below hb
  clear hcall hb h hA
  rcases hF with ⟨rfl, hf⟩ | ⟨k, rfl, hk, _, hf⟩
  · have HE : Hid (pushE m t.id = 0 ∧ pushM m t = m ++ [t]) := Lib.hid ⟨by unfold pushE; rw [hf]; rfl, by unfold pushM; rw [hf]; rfl⟩
    obtain ⟨rc, _⟩ := Sep.cells (l1 := []) h2
    obtain ⟨r, cap, rfl, hr⟩ := Sep.shape (l1 := [CellsO p #[u, v] 39]) h2
    obtain ⟨rv, capv, rfl, hrv⟩ := Sep.shape (l1 := [CellsO p #[.slice r m.length cap, v] 39, RowO 3 1 (.slice r m.length cap) m.length (cellsI (m.map Th.id))]) h2
    have c0 : w2.cell? ⟨p, 0, none⟩ = some (.slice r m.length cap) := by simp [World.cell?, rc]
    clear rc hf
    go_wp2_with (at_builtin; refine wpList_append_intv (W := w2) rfl _ _ rfl t.id (by rfl) (l1 := [CellsO p #[.slice r m.length cap, .slice rv m.length capv] 39]) (n := m.length) (is := m.map Th.id) (B := B) h2 (by omega) (by rfl) w2.heap.size rfl (by rfl) ?_)
    intro u' w3 h3 hb3
    have hA3 := hA2.trans hb3
    obtain ⟨ru, capu, rfl, hru⟩ := Sep.shape (l1 := [CellsO p #[.slice r m.length cap, .slice rv m.length capv] 39]) h3
    clear h2 hb3 hA2 c0
    obtain ⟨rc, hBp⟩ := Sep.cells (l1 := []) h3
    have f0 : w3.frozen? ⟨p, 0, none⟩ = false := by simp [World.frozen?, rc]
    have c0 : w3.cell? ⟨p, 0, none⟩ = some (.slice r m.length cap) := by simp [World.cell?, rc]
    go_upto_region 4 with fail
    have h4 := Sep.set (l1 := []) h3 0 (.slice ru (m.length + 1) capu)
    rw [show (#[Value.slice r m.length cap, .slice rv m.length capv] : Array Value).setIfInBounds 0 (.slice ru (m.length + 1) capu) = #[.slice ru (m.length + 1) capu, .slice rv m.length capv] from rfl, List.nil_append] at h4
    have hA4 := hA3.grown (hgrown_set w3 p 0 (.slice ru (m.length + 1) capu)) h3.base (fun j e => by cases e; exact hBp)
    generalize hw4 : w3.setCell ⟨p, 0, none⟩ (.slice ru (m.length + 1) capu) = w4 at *
    clear hw4 rc f0 c0 h3 hA3 hr
    have hS4 : ∀ W, Sep W B (CellsO p #[.slice ru (m.length + 1) capu, .slice rv m.length capv] 39 :: RowO 3 1 (.slice ru (m.length + 1) capu) (m.length + 1) (cellsI (m.map Th.id ++ [t.id])) :: RowO 28 4 (.slice rv m.length capv) m.length (flatK m) :: (l ++ [CellsO b #[.int .u64 t.F, .int .u64 t.H, .int .i64 t.Y, .int .i64 t.X] 28])) →
        (fun w' : World => w'.cell? ⟨p, 1, none⟩ = some (.slice rv m.length capv) ∧ w'.cell? ⟨b, 0, none⟩ = some (.int .u64 t.F) ∧ w'.cell? ⟨b, 1, none⟩ = some (.int .u64 t.H) ∧ w'.cell? ⟨b, 2, none⟩ = some (.int .i64 t.Y) ∧ w'.cell? ⟨b, 3, none⟩ = some (.int .i64 t.X)) W := by
      intro W hW
      obtain ⟨q1, _⟩ := Sep.cells (l1 := []) hW
      obtain ⟨q2, _⟩ := Sep.cells (l1 := CellsO p #[.slice ru (m.length + 1) capu, .slice rv m.length capv] 39 :: RowO 3 1 (.slice ru (m.length + 1) capu) (m.length + 1) (cellsI (m.map Th.id ++ [t.id])) :: RowO 28 4 (.slice rv m.length capv) m.length (flatK m) :: l) (l2 := []) hW
      exact ⟨by simp [World.cell?, q1], by simp [World.cell?, q2], by simp [World.cell?, q2], by simp [World.cell?, q2], by simp [World.cell?, q2]⟩
    have HS4 := Lib.hid hS4
    clear hS4
    have hD := bl_dr (bl0 w4)
    have h5 := h4.below hD
    have hA5 := hA4.trans (hD.mono h4.base)
    clear h4 hA4 hD
    have hS5 := HS4.out _ h5
    obtain ⟨c1, b0, b1, b2, b3⟩ := hS5
    have zb := blk_lt b0
    have h6 := h5.below (bl_al (bl0 w4.drew) (.cells #[.int .u64 t.F, .int .u64 t.H, .int .i64 t.Y, .int .i64 t.X] 28))
    have hA6 := hA5.trans ((bl_al (bl0 w4.drew) (.cells #[.int .u64 t.F, .int .u64 t.H, .int .i64 t.Y, .int .i64 t.X] 28)).mono h5.base)
    have hS6 := HS4.out _ h6
    obtain ⟨i0, hi, hz0, hz1, hz2⟩ := info_parts Try.infoR
    refine (wpIn_wide (n := 11)).1 ?_
    refine ordZ_begin (z := 10) (S := (fun w' : World => w'.cell? ⟨p, 1, none⟩ = some (.slice rv m.length capv) ∧ w'.cell? ⟨b, 0, none⟩ = some (.int .u64 t.F) ∧ w'.cell? ⟨b, 1, none⟩ = some (.int .u64 t.H) ∧ w'.cell? ⟨b, 2, none⟩ = some (.int .i64 t.Y) ∧ w'.cell? ⟨b, 3, none⟩ = some (.int .i64 t.X))) (by kernel_rfl) (HS4.out _ h5) (fun hH => ?_)
    first
      | (refine' ordZ_take (i := 0) (oi := { dst := some 21, op := Op.move (Operand.tmp 0), type := 35, pos := _, after := #[], guard := none }) (v := _) rfl (by kernel_rfl) (by kernel_rfl) (by kernel_rfl) (by kernel_rfl) (fun _ _ _ h => h) (by assumption) (by kernel_rfl) (by decide) (by rfl) (Or.inl ⟨by rfl, ?hy1⟩) (fun _ => rfl) ?rest1
         case hy1 => (intro w hSw; (try dsimp only at hSw); go_simp; try with_reducible rfl))
      | (refine ordZ_take (i := 0) (oi := { dst := some 21, op := Op.move (Operand.tmp 0), type := 35, pos := _, after := #[], guard := none }) (v := undef) rfl (by kernel_rfl) (by kernel_rfl) (by kernel_rfl) (by kernel_rfl) (fun _ _ _ h => h) (by assumption) (by kernel_rfl) (by decide) (by rfl) (Or.inr ⟨by rfl, rfl⟩) (fun _ => rfl) ?_)
    try simp only [Act.put, List.setIfInBounds_toArray, List.set_cons_zero, List.set_cons_succ]
    first
      | (refine' ordZ_take (i := 1) (oi := { dst := some 22, op := Op.move (Operand.tmp 0), type := 35, pos := _, after := #[], guard := none }) (v := _) rfl (by kernel_rfl) (by kernel_rfl) (by kernel_rfl) (by kernel_rfl) (fun _ _ _ h => h) (by assumption) (by kernel_rfl) (by decide) (by rfl) (Or.inl ⟨by rfl, ?hy2⟩) (fun _ => rfl) ?rest2
         case hy2 => (intro w hSw; (try dsimp only at hSw); go_simp; try with_reducible rfl))
      | (refine ordZ_take (i := 1) (oi := { dst := some 22, op := Op.move (Operand.tmp 0), type := 35, pos := _, after := #[], guard := none }) (v := undef) rfl (by kernel_rfl) (by kernel_rfl) (by kernel_rfl) (by kernel_rfl) (fun _ _ _ h => h) (by assumption) (by kernel_rfl) (by decide) (by rfl) (Or.inr ⟨by rfl, rfl⟩) (fun _ => rfl) ?_)
    try simp only [Act.put, List.setIfInBounds_toArray, List.set_cons_zero, List.set_cons_succ]
    first
      | (refine' ordZ_take (i := 2) (oi := { dst := some 23, op := Op.nilCheck (Operand.tmp 22), type := 0, pos := _, after := #[{ on := 1, ground := Ground.data }], guard := none }) (v := _) rfl (by kernel_rfl) (by kernel_rfl) (by kernel_rfl) (by kernel_rfl) (fun _ _ _ h => h) (by assumption) (by kernel_rfl) (by decide) (by rfl) (Or.inl ⟨by rfl, ?hy3⟩) (fun _ => rfl) ?rest3
         case hy3 => (intro w hSw; (try dsimp only at hSw); go_simp; try with_reducible rfl))
      | (refine ordZ_take (i := 2) (oi := { dst := some 23, op := Op.nilCheck (Operand.tmp 22), type := 0, pos := _, after := #[{ on := 1, ground := Ground.data }], guard := none }) (v := undef) rfl (by kernel_rfl) (by kernel_rfl) (by kernel_rfl) (by kernel_rfl) (fun _ _ _ h => h) (by assumption) (by kernel_rfl) (by decide) (by rfl) (Or.inr ⟨by rfl, rfl⟩) (fun _ => rfl) ?_)
    try simp only [Act.put, List.setIfInBounds_toArray, List.set_cons_zero, List.set_cons_succ]
    first
      | (refine' ordZ_take (i := 3) (oi := { dst := some 24, op := Op.fieldAddr 39 (Operand.tmp 23) 1, type := 0, pos := _, after := #[{ on := 2, ground := Ground.data }], guard := none }) (v := _) rfl (by kernel_rfl) (by kernel_rfl) (by kernel_rfl) (by kernel_rfl) (fun _ _ _ h => h) (by assumption) (by kernel_rfl) (by decide) (by rfl) (Or.inl ⟨by rfl, ?hy4⟩) (fun _ => rfl) ?rest4
         case hy4 => (intro w hSw; (try dsimp only at hSw); go_simp; try with_reducible rfl))
      | (refine ordZ_take (i := 3) (oi := { dst := some 24, op := Op.fieldAddr 39 (Operand.tmp 23) 1, type := 0, pos := _, after := #[{ on := 2, ground := Ground.data }], guard := none }) (v := undef) rfl (by kernel_rfl) (by kernel_rfl) (by kernel_rfl) (by kernel_rfl) (fun _ _ _ h => h) (by assumption) (by kernel_rfl) (by decide) (by rfl) (Or.inr ⟨by rfl, rfl⟩) (fun _ => rfl) ?_)
    try simp only [Act.put, List.setIfInBounds_toArray, List.set_cons_zero, List.set_cons_succ]
    first
      | (refine' ordZ_take (i := 4) (oi := { dst := some 25, op := Op.load 37 (Operand.tmp 24), type := 37, pos := _, after := #[{ on := 3, ground := Ground.data }], guard := none }) (v := _) rfl (by kernel_rfl) (by kernel_rfl) (by kernel_rfl) (by kernel_rfl) (fun _ _ _ h => h) (by assumption) (by kernel_rfl) (by decide) (by rfl) (Or.inl ⟨by rfl, ?hy5⟩) (fun _ => rfl) ?rest5
         case hy5 => (intro w hSw; (try dsimp only at hSw); go_simp; try with_reducible rfl))
      | (refine ordZ_take (i := 4) (oi := { dst := some 25, op := Op.load 37 (Operand.tmp 24), type := 37, pos := _, after := #[{ on := 3, ground := Ground.data }], guard := none }) (v := undef) rfl (by kernel_rfl) (by kernel_rfl) (by kernel_rfl) (by kernel_rfl) (fun _ _ _ h => h) (by assumption) (by kernel_rfl) (by decide) (by rfl) (Or.inr ⟨by rfl, rfl⟩) (fun _ => rfl) ?_)
    try simp only [Act.put, List.setIfInBounds_toArray, List.set_cons_zero, List.set_cons_succ]
    first
      | (refine' ordZ_take (i := 5) (oi := { dst := some 26, op := Op.load 28 (Operand.tmp 5), type := 28, pos := _, after := #[], guard := none }) (v := _) rfl (by kernel_rfl) (by kernel_rfl) (by kernel_rfl) (by kernel_rfl) (fun _ _ _ h => h) (by assumption) (by kernel_rfl) (by decide) (by rfl) (Or.inl ⟨by rfl, ?hy6⟩) (fun _ => rfl) ?rest6
         case hy6 => (intro w hSw; (try dsimp only at hSw); go_simp; try with_reducible rfl))
      | (refine ordZ_take (i := 5) (oi := { dst := some 26, op := Op.load 28 (Operand.tmp 5), type := 28, pos := _, after := #[], guard := none }) (v := undef) rfl (by kernel_rfl) (by kernel_rfl) (by kernel_rfl) (by kernel_rfl) (fun _ _ _ h => h) (by assumption) (by kernel_rfl) (by decide) (by rfl) (Or.inr ⟨by rfl, rfl⟩) (fun _ => rfl) ?_)
    try simp only [Act.put, List.setIfInBounds_toArray, List.set_cons_zero, List.set_cons_succ]
    refine ordZ_one (i := 6) (o := { dst := some 27, op := Op.buildSlice 37 1 #[(0, Operand.tmp 26)], type := 37, pos := _, after := #[{ on := 5, ground := Ground.data }], guard := none }) (by kernel_rfl) rfl (by rfl) (fun K hK => ?_)
    go_simp
    refine hK _ _ (fun _ => hS6) ?_
    clear hK K hH
    try simp only [Act.put, List.setIfInBounds_toArray, List.set_cons_zero, List.set_cons_succ]
    refine ordZ_append_at (i := 7) (o := { dst := some 28, op := Op.call { callee := Callee.builtin Builtin.append, args := #[Operand.tmp 25, Operand.tmp 27], argTypes := #[37, 37] }, type := 37, pos := _, after := #[{ on := 4, ground := Ground.data }, { on := 6, ground := Ground.data }], guard := none }) _ (by kernel_rfl) rfl (by rfl) _ _ 37 rfl 0 28 i0 (.agg #[.int .u64 0, .int .u64 0, .int .i64 0, .int .i64 0]) 4 32 Try.underlying37 hi hz0 hz1 hz2 rfl (by decide) _ _ _ rfl (Sep.own (l1 := [CellsO p #[.slice ru (m.length + 1) capu, .slice rv m.length capv] 39, RowO 3 1 (.slice ru (m.length + 1) capu) (m.length + 1) (cellsI (m.map Th.id ++ [t.id]))]) h6) ⟨w4.drew.heap.size, 0, none⟩ 1 1 [.int .u64 t.F, .int .u64 t.H, .int .i64 t.Y, .int .i64 t.X] rfl rfl ?c1 ?c2 ?c3 ?c4 ?c5 ?_
    case c1 =>
      intro j u hj
      match j, hj with
      | 0, hj => (simp at hj; subst hj; simp [go_sem, hadd])
      | 1, hj => (simp at hj; subst hj; simp [go_sem, hadd])
      | 2, hj => (simp at hj; subst hj; simp [go_sem, hadd])
      | 3, hj => (simp at hj; subst hj; simp [go_sem, hadd])
      | j + 4, hj => simp at hj
    case c2 =>
      intro u hu
      simp at hu
      rcases hu with rfl | rfl | rfl | rfl <;> rfl
    case c3 => unfold maxLen; omega
    case c4 => omega
    case c5 => exact Nat.zero_le _
    intro v' W9 hown hgrow hloc
    rw [flatK_snoc] at hown
    obtain ⟨h9, hb9⟩ := Sep.grew (l1 := [CellsO p #[.slice ru (m.length + 1) capu, .slice rv m.length capv] 39, RowO 3 1 (.slice ru (m.length + 1) capu) (m.length + 1) (cellsI (m.map Th.id ++ [t.id]))]) h6 hown hgrow hloc
    obtain ⟨rx, capx, rfl, hrx⟩ := Sep.shape (l1 := [CellsO p #[.slice ru (m.length + 1) capu, .slice rv m.length capv] 39, RowO 3 1 (.slice ru (m.length + 1) capu) (m.length + 1) (cellsI (m.map Th.id ++ [t.id]))]) h9
    have hA9 := hA6.trans hb9
    obtain ⟨rc9, _⟩ := Sep.cells (l1 := []) h9
    obtain ⟨rb9, _⟩ := Sep.cells (l1 := CellsO p #[.slice ru (m.length + 1) capu, .slice rv m.length capv] 39 :: RowO 3 1 (.slice ru (m.length + 1) capu) (m.length + 1) (cellsI (m.map Th.id ++ [t.id])) :: RowO 28 4 (.slice rx (m.length + 1) capx) (m.length + 1) (flatK (m ++ [t])) :: l) (l2 := []) h9
    have hS9 : (fun w' : World => w'.cell? ⟨p, 1, none⟩ = some (.slice rv m.length capv) ∧ w'.cell? ⟨b, 0, none⟩ = some (.int .u64 t.F) ∧ w'.cell? ⟨b, 1, none⟩ = some (.int .u64 t.H) ∧ w'.cell? ⟨b, 2, none⟩ = some (.int .i64 t.Y) ∧ w'.cell? ⟨b, 3, none⟩ = some (.int .i64 t.X)) W9 :=
      ⟨by simp [World.cell?, rc9], by simp [World.cell?, rb9], by simp [World.cell?, rb9], by simp [World.cell?, rb9], by simp [World.cell?, rb9]⟩
    have f1 : W9.frozen? ⟨p, 1, none⟩ = false := by simp [World.frozen?, rc9]
    have e1 : W9.cell? ⟨p, 1, none⟩ = some (.slice rv m.length capv) := by simp [World.cell?, rc9]
    refine ⟨fun _ => hS9, ?_⟩
    clear hown hgrow hloc hb9 hS6 h5 h6 hA5 hA6 b0 b1 b2 b3 c1 zb rc9 rb9
    try simp only [Act.put, List.setIfInBounds_toArray, List.set_cons_zero, List.set_cons_succ]
    refine ordZ_one (i := 8) (o := { dst := some 29, op := Op.nilCheck (Operand.tmp 21), type := 0, pos := _, after := #[{ on := 0, ground := Ground.data }, { on := 0, ground := Ground.phase }, { on := 1, ground := Ground.phase }, { on := 2, ground := Ground.phase }, { on := 3, ground := Ground.phase }, { on := 4, ground := Ground.phase }, { on := 5, ground := Ground.phase }, { on := 6, ground := Ground.phase }, { on := 7, ground := Ground.phase }], guard := none }) (by kernel_rfl) rfl (by rfl) (fun K hK => ?_)
    go_simp
    refine hK _ _ (fun _ => hS9) ?_
    clear hK K
    try simp only [Act.put, List.setIfInBounds_toArray, List.set_cons_zero, List.set_cons_succ]
    first
      | (refine' ordZ_take (i := 9) (oi := { dst := some 30, op := Op.fieldAddr 39 (Operand.tmp 29) 1, type := 0, pos := _, after := #[{ on := 8, ground := Ground.data }, { on := 0, ground := Ground.phase }, { on := 1, ground := Ground.phase }, { on := 2, ground := Ground.phase }, { on := 3, ground := Ground.phase }, { on := 4, ground := Ground.phase }, { on := 5, ground := Ground.phase }, { on := 6, ground := Ground.phase }, { on := 7, ground := Ground.phase }], guard := none }) (v := _) rfl (by kernel_rfl) (by kernel_rfl) (by kernel_rfl) (by kernel_rfl) (fun _ _ _ h => h) (by assumption) (by kernel_rfl) (by decide) (by rfl) (Or.inl ⟨by rfl, ?hy7⟩) (fun _ => rfl) ?rest7
         case hy7 => (intro w hSw; (try dsimp only at hSw); go_simp; try with_reducible rfl))
      | (refine ordZ_take (i := 9) (oi := { dst := some 30, op := Op.fieldAddr 39 (Operand.tmp 29) 1, type := 0, pos := _, after := #[{ on := 8, ground := Ground.data }, { on := 0, ground := Ground.phase }, { on := 1, ground := Ground.phase }, { on := 2, ground := Ground.phase }, { on := 3, ground := Ground.phase }, { on := 4, ground := Ground.phase }, { on := 5, ground := Ground.phase }, { on := 6, ground := Ground.phase }, { on := 7, ground := Ground.phase }], guard := none }) (v := undef) rfl (by kernel_rfl) (by kernel_rfl) (by kernel_rfl) (by kernel_rfl) (fun _ _ _ h => h) (by assumption) (by kernel_rfl) (by decide) (by rfl) (Or.inr ⟨by rfl, rfl⟩) (fun _ => rfl) ?_)
    try simp only [Act.put, List.setIfInBounds_toArray, List.set_cons_zero, List.set_cons_succ]
    refine ordZ_one (i := 10) (o := { dst := none, op := Op.store 37 (Operand.tmp 30) (Operand.tmp 28), type := 0, pos := _, after := #[{ on := 9, ground := Ground.data }, { on := 7, ground := Ground.data }, { on := 7, ground := Ground.chain }, { on := 0, ground := Ground.phase }, { on := 1, ground := Ground.phase }, { on := 2, ground := Ground.phase }, { on := 3, ground := Ground.phase }, { on := 4, ground := Ground.phase }, { on := 5, ground := Ground.phase }, { on := 6, ground := Ground.phase }, { on := 7, ground := Ground.phase }], guard := none }) (by kernel_rfl) rfl (by rfl) (fun K hK => ?_)
    go_simp
    refine hK _ _ (fun h => by cases h) ?_
    clear hK K hS9
    try simp only [Act.put, List.setIfInBounds_toArray, List.set_cons_zero, List.set_cons_succ]
    refine ordZ_done (by kernel_rfl) ?_
    have h10 := Sep.set (l1 := []) h9 1 (.slice rx (m.length + 1) capx)
    rw [show (#[Value.slice ru (m.length + 1) capu, .slice rv m.length capv] : Array Value).setIfInBounds 1 (.slice rx (m.length + 1) capx) = #[.slice ru (m.length + 1) capu, .slice rx (m.length + 1) capx] from rfl, List.nil_append] at h10
    have hA10 := hA9.grown (hgrown_set W9 p 1 (.slice rx (m.length + 1) capx)) h9.base (fun j e => by cases e; exact hBp)
    have HS : Hid (Sep (W9.setCell ⟨p, 1, none⟩ (.slice rx (m.length + 1) capx)) B (RefL p (.slice ru (m.length + 1) capu) (.slice rx (m.length + 1) capx) (m ++ [t]) l)) := Lib.hid (by
      have h11 := Sep.drop (l1 := CellsO p #[.slice ru (m.length + 1) capu, .slice rx (m.length + 1) capx] 39 :: RowO 3 1 (.slice ru (m.length + 1) capu) (m.length + 1) (cellsI (m.map Th.id ++ [t.id])) :: RowO 28 4 (.slice rx (m.length + 1) capx) (m.length + 1) (flatK (m ++ [t])) :: l) (l2 := []) h10
      rw [List.append_nil] at h11
      unfold RefL
      rw [List.length_append, List.length_singleton, List.map_append, List.map_cons, List.map_nil]
      exact h11)
    have HA := Lib.hid hA10
    clear h9 h10 hA9 hA10 f1 e1
    go_wp2
    go_ret
    exact ⟨by rw [HE.out.1]; try rfl, ⟨_, _, by rw [HE.out.2]; exact HS.out⟩, HA.out⟩
  · have HE : Hid (pushE m t.id = 15 ∧ pushM m t = m) := Lib.hid ⟨by unfold pushE; rw [hf]; rfl, by unfold pushM; rw [hf]; rfl⟩
    have hk0 : (0 : Int) ≤ (k : Int) := by omega
    have HA := Lib.hid hA2
    have HS : Hid (Sep w2 B (RefL p u v m l)) := Lib.hid (by
      have := Sep.drop (l1 := CellsO p #[u, v] 39 :: RowO 3 1 u m.length (cellsI (m.map Th.id)) :: RowO 28 4 v m.length (flatK m) :: l) (l2 := []) h2
      rwa [List.append_nil] at this)
    clear h2 hA2 hf
    go_wp2
    go_ret
    exact ⟨by rw [HE.out.1]; try rfl, ⟨u, v, by rw [HE.out.2]; exact HS.out⟩, HA.out⟩
end Go.Proofs.Ytgcncimeedoplaa
