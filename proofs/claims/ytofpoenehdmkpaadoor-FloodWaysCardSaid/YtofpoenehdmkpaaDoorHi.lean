/- Heap: Push. -/
import Derived.Test.YtofpoenehdmkpaaDoorHg
namespace Go.Proofs.YtofpoenehdmkpaaDoor
open Go.RowKit Go.Maps

/-- As text Oz's, with where the new row lies. -/
theorem ordZ_append_at {F : Fence} {n : Nat} {P : Program} {ops : Array Oper} {Q : Exit → Act → World → Prop} {md : Region.Mode} {S : World → Prop} {z : Nat} {i : Nat} {o : Oper} {j : Nat} {l : Array Bool} {a : Act} (w : World)
    (hr : Region.ready md ops l = [i]) (ho : ops[i]? = some o) (hw : Region.wanted o (yielded ops a.tmps) = true) (s x : Operand) (t : TypeId) (hop : o.op = Op.call { callee := Callee.builtin Builtin.append, args := #[s, x], argTypes := #[t, t] })
    (base : Nat) (e : TypeId) (ti : TypeInfo) (zv : Value) (size bytes : Nat) (h1 : P.underlying t = some (.slice e)) (h2 : P.info? e = some ti) (h3 : ti.zero = some zv) (h4 : ti.size = size) (h5 : ti.bytes = bytes) (h6 : zv.cells.size = size) (h7 : 0 < size)
    (v : Value) (k : Nat) (xs : List Value) (hs : a.eval s = v) (hown : w.ownsRow base e size v k xs) (ad : Addr) (m c : Nat) (news : List Value) (hx : a.eval x = .slice (some ad) m c) (hn : news.length = m * size)
    (hc : ∀ j u, news[j]? = some u → w.cell? (ad.add j) = some u) (h1c : ∀ u ∈ news, u.oneCell' = true) (b1 : k + m ≤ maxLen) (b2 : (k + m) * bytes ≤ 140737488355328) (b3 : base ≤ w.heap.size)
    (hK : ∀ v' w', w'.ownsRow base e size v' (k + m) (xs ++ news) → w.grownBy w' v.ownBlock → (v'.ownBlock = v.ownBlock ∨ v'.ownBlock = some w.heap.size) → ((l.setIfInBounds i true).getD z true = false → S w') ∧ OrdZ F n P md ops Q S z j (l.setIfInBounds i true) (a.put o.dst v') w') :
    OrdZ F n P md ops Q S z (j + 1) l a w := by
  refine ordZ_one hr ho hw fun K hK' => ?_
  obtain ⟨v', w', hrun, r1, r2, _, r4⟩ := run_append_own_at (P := P) (w := w) base t o.type e ti zv size bytes h1 h2 h3 h4 h5 h6 h7 v k xs hown ad m c news hn hc h1c b1 b2 b3
  unfold Oper.wpIn
  refine ⟨?_, ?_⟩
  · simp [Oper.about, hop, resolve, Target.leads, Sem.run_pure]
  · rw [Oper.semAt_plain F _ _ (by rw [hop]; intro c hc'; cases hc')]
    simp [execOp, hop, resolve, invoke, builtin, hs, hx, hrun, Result.andThen]
    exact hK' _ _ (hK v' w' r1 r2 r4).1 (hK v' w' r1 r2 r4).2

theorem Tryd.infoT : (Tryd.prog.info? 138).map (fun i => (i.zero, i.size, i.bytes)) = some (some (.agg #[.int .i64 0, .int .u64 0, .int .u64 0, .int .i64 0, .int .i64 0]), 5, 40) := by kernel_rfl
/-- A row's header is stored anew. -/
theorem heap_grew {W W1 : World} {p b : Nat} {v v' : Value} {s : HS} {t : Th} (h : HeapAt W 0 p b v s) (ht : wfT t) (h1 : W1.ownsRow 0 138 5 v' (s.ts.length + 1) (flatT s.ts ++ [.int .i64 t.id, .int .u64 t.F, .int .u64 t.H, .int .i64 t.Y, .int .i64 t.X]))
    (hg : W.grownBy W1 v.ownBlock) (hl : v'.ownBlock = v.ownBlock ∨ v'.ownBlock = some W.heap.size) :
    HeapAt (W1.setCell ⟨p, 0, none⟩ v') 0 p b v' ⟨s.ts ++ [t], s.f, s.n⟩ ∧ KeptS (HB p b v) W (W1.setCell ⟨p, 0, none⟩ v') ∧ W1.frozen? ⟨p, 0, none⟩ = false ∧ W1.cell? ⟨p, 0, none⟩ = some v := by
  have hpW := (h.lt p (.inl rfl)).2
  have hpv : v.ownBlock ≠ some p := h.gp
  have hpv' : v'.ownBlock ≠ some p := by
    rcases hl with e | e
    · rw [e]; exact hpv
    · rw [e]; intro e2; cases e2; omega
  have k1 : KeptS (HB p b v) W W1 := .of_grown hg (fun k e _ => .inr (.inr e))
  have hp1 : W1.heap[p]? = some (.cells #[v, .map (some b)] 135 (0, 0)) := (hg.block p hpW (fun e => hpv e.symm)).trans h.hp
  have hsame := hset_same W1 p 0 #[v, .map (some b)] 135 v' hp1
  have q := hgrown_set W1 p 0 v'
  have k2 : KeptS (HB p b v) W1 (W1.setCell ⟨p, 0, none⟩ v') := .of_grown q (fun k e _ => by cases e; exact .inl rfl)
  have hbp : b ≠ p := h.pb.symm
  refine ⟨⟨by simpa using hsame, ?_, ?_, ?_, Nat.zero_le _, Nat.zero_le _⟩, k1.trans k2 (fun _ _ h => h), by simp [World.frozen?, hp1], by simp [World.cell?, hp1]⟩
  · rw [List.length_append, List.length_singleton, flatT_snoc]
    refine ⟨h1.1, ?_⟩
    rcases h1.2 with e | ⟨g, cap, cur, e, hB, h3, h4⟩
    · exact .inl e
    · refine .inr ⟨g, cap, cur, e, hB, ?_, h4⟩
      have hgp : g ≠ p := fun e2 => hpv' (by rw [e, ← e2]; rfl)
      exact (Below.heap_setCell _ _ _ g (show g ≠ p from hgp)).trans h3
  · obtain ⟨D, ⟨es, clock, h3, h4⟩, h5⟩ := h.pl
    refine ⟨D, ⟨es, clock, ?_, h4⟩, h5⟩
    refine (Below.heap_setCell _ _ _ b (show b ≠ p from hbp)).trans ((hg.block b h.pl.lt (fun e => h.gb e.symm)).trans h3)
  · intro x hx
    rcases List.mem_append.1 hx with hx | hx
    · exact h.wf x hx
    · rw [List.mem_singleton.1 hx]; exact ht

/-- What Push answers, and what is in then. -/
def pushE (m : List Th) (x : Int) : Int := if (findT m x).isSome then 15 else 0
def pushM (m : List Th) (t : Th) : List Th := if (findT m t.id).isSome then m else m ++ [t]

theorem heap_there {p : Nat} {m : List Th} {S : Nat → Prop} {w w' : World} (h : (HeapO p m).P w S) (hb : Below w.heap.size w w') : Turned S w w' (HeapO p m) :=
  ⟨.of_below hb, S, (HeapO p m).keep h (hb.mono (Nat.zero_le _)) (fun k hk => hb.block k ((HeapO p m).lt h k hk)), fun _ h => .inl h⟩

set_option maxRecDepth 100000 in
set_option maxHeartbeats 4000000 in
theorem hpush_any (p : Nat) (m : List Th) (t : Th) (S : Nat → Prop) (w : World) (h : (HeapO p m).P w S) (ht : wfT t) (hm : m.length ≤ 1000000) :
    Calls Tryd.prog 78 #[.pointer (some ⟨p, 0, none⟩), .int .i64 t.id, .agg #[.int .u64 t.F, .int .u64 t.H, .int .i64 t.Y, .int .i64 t.X]] w fun e w' => e = .returned (.int .i64 (pushE m t.id)) ∧ Turned S w w' (HeapO p (pushM m t)) := by
  have h' := h
  obtain ⟨b, v, s, h1, h2, h3⟩ := h
  have hids := h2.ids t.id
  have hA := bl_al (bl0 w) (.cells #[.int .u64 t.F, .int .u64 t.H, .int .i64 t.Y, .int .i64 t.X] 101)
  have h1' := h1.below hA
  have hlook := h1'.pl.look ht
  have c1 := h1.c1
  have zc1 := blk_lt c1
  unfold pushE pushM
  cases e : s.f t.id with
  | some q =>
    rw [e] at hids hlook
    rw [← hids]
    simp only [Option.isSome_some, if_true]
    have HT := Lib.hid (heap_there h' hA)
    clear h1 h2 h' h1' hids hA h3
    go_enter Tryd.func78, Tryd.ntmps78
    go_wp2
    go_ret
    exact ⟨rfl, HT.out⟩
  | none =>
    rw [e] at hids hlook
    rw [← hids]
    simp only [Option.isSome_none, Bool.false_eq_true, if_false]
    have hnone := e
    have HH2 := Lib.hid h2
    have hsl := h2.len
    have hsn := h2.pf.n
    have c0 := h1.c0
    have hsb : s.ts.length ≤ 1000000 := by omega
    have hsnb : s.n ≤ 1000000 := by omega
    clear hids h' h2 hsl hsn
    go_enter Tryd.func78, Tryd.ntmps78
    go_upto_region 7 with fail
    obtain ⟨W, hW⟩ : ∃ W, (w.alloc (.cells #[.int .u64 t.F, .int .u64 t.H, .int .i64 t.Y, .int .i64 t.X] 101)).alloc (.cells #[.int .i64 t.id, .int .u64 t.F, .int .u64 t.H, .int .i64 t.Y, .int .i64 t.X] 138) = W := ⟨_, rfl⟩
    have hAW := bl_al hA (.cells #[.int .i64 t.id, .int .u64 t.F, .int .u64 t.H, .int .i64 t.Y, .int .i64 t.X] 138)
    rw [hW] at hAW ⊢
    have x0 : W.cell? ⟨w.heap.size + 1, 0, none⟩ = some (.int .i64 t.id) := by rw [← hW]; simp [go_sem]
    have x1 : W.cell? ⟨w.heap.size + 1, 1, none⟩ = some (.int .u64 t.F) := by rw [← hW]; simp [go_sem]
    have x2 : W.cell? ⟨w.heap.size + 1, 2, none⟩ = some (.int .u64 t.H) := by rw [← hW]; simp [go_sem]
    have x3 : W.cell? ⟨w.heap.size + 1, 3, none⟩ = some (.int .i64 t.Y) := by rw [← hW]; simp [go_sem]
    have x4 : W.cell? ⟨w.heap.size + 1, 4, none⟩ = some (.int .i64 t.X) := by rw [← hW]; simp [go_sem]
    have hWz := Lib.hid (show w.heap.size + 2 = W.heap.size by rw [← hW]; simp)
    clear hlook hW h1' hA c1 zc1 e
    replace c0 := cell_later hAW c0
    have hHW := h1.below hAW
    have zc0 := blk_lt c0
    have hD := bl_dr (bl0 W)
    obtain ⟨i0, hi, hz0, hz1, hz2⟩ := info_parts Tryd.infoT
    refine (wpIn_wide (n := 11)).1 ?_
    refine ordZ_begin (z := 10) (S := (fun w' : World => w'.cell? ⟨p, 0, none⟩ = some v ∧ w'.cell? ⟨w.heap.size + 1, 0, none⟩ = some (.int .i64 t.id) ∧ w'.cell? ⟨w.heap.size + 1, 1, none⟩ = some (.int .u64 t.F) ∧ w'.cell? ⟨w.heap.size + 1, 2, none⟩ = some (.int .u64 t.H) ∧ w'.cell? ⟨w.heap.size + 1, 3, none⟩ = some (.int .i64 t.Y) ∧ w'.cell? ⟨w.heap.size + 1, 4, none⟩ = some (.int .i64 t.X))) (by kernel_rfl) ⟨cell_later hD c0, cell_later hD x0, cell_later hD x1, cell_later hD x2, cell_later hD x3, cell_later hD x4⟩ (fun hH => ?_)
    first
      | (refine' ordZ_take (i := 0) (oi := { dst := some 25, op := Op.move (Operand.tmp 0), type := 97, pos := _, after := #[], guard := none }) (v := _) rfl (by kernel_rfl) (by kernel_rfl) (by kernel_rfl) (by kernel_rfl) (fun _ _ _ h => h) (by assumption) (by kernel_rfl) (by decide) (by rfl) (Or.inl ⟨by rfl, ?hy15⟩) (fun _ => rfl) ?rest15
         case hy15 => (intro w hSw; (try dsimp only at hSw); go_simp; try with_reducible rfl))
      | (refine ordZ_take (i := 0) (oi := { dst := some 25, op := Op.move (Operand.tmp 0), type := 97, pos := _, after := #[], guard := none }) (v := undef) rfl (by kernel_rfl) (by kernel_rfl) (by kernel_rfl) (by kernel_rfl) (fun _ _ _ h => h) (by assumption) (by kernel_rfl) (by decide) (by rfl) (Or.inr ⟨by rfl, rfl⟩) (fun _ => rfl) ?_)
    try simp only [Act.put, List.setIfInBounds_toArray, List.set_cons_zero, List.set_cons_succ]
    first
      | (refine' ordZ_take (i := 1) (oi := { dst := some 26, op := Op.move (Operand.tmp 0), type := 97, pos := _, after := #[], guard := none }) (v := _) rfl (by kernel_rfl) (by kernel_rfl) (by kernel_rfl) (by kernel_rfl) (fun _ _ _ h => h) (by assumption) (by kernel_rfl) (by decide) (by rfl) (Or.inl ⟨by rfl, ?hy16⟩) (fun _ => rfl) ?rest16
         case hy16 => (intro w hSw; (try dsimp only at hSw); go_simp; try with_reducible rfl))
      | (refine ordZ_take (i := 1) (oi := { dst := some 26, op := Op.move (Operand.tmp 0), type := 97, pos := _, after := #[], guard := none }) (v := undef) rfl (by kernel_rfl) (by kernel_rfl) (by kernel_rfl) (by kernel_rfl) (fun _ _ _ h => h) (by assumption) (by kernel_rfl) (by decide) (by rfl) (Or.inr ⟨by rfl, rfl⟩) (fun _ => rfl) ?_)
    try simp only [Act.put, List.setIfInBounds_toArray, List.set_cons_zero, List.set_cons_succ]
    first
      | (refine' ordZ_take (i := 2) (oi := { dst := some 27, op := Op.nilCheck (Operand.tmp 26), type := 0, pos := _, after := #[{ on := 1, ground := Ground.data }], guard := none }) (v := _) rfl (by kernel_rfl) (by kernel_rfl) (by kernel_rfl) (by kernel_rfl) (fun _ _ _ h => h) (by assumption) (by kernel_rfl) (by decide) (by rfl) (Or.inl ⟨by rfl, ?hy17⟩) (fun _ => rfl) ?rest17
         case hy17 => (intro w hSw; (try dsimp only at hSw); go_simp; try with_reducible rfl))
      | (refine ordZ_take (i := 2) (oi := { dst := some 27, op := Op.nilCheck (Operand.tmp 26), type := 0, pos := _, after := #[{ on := 1, ground := Ground.data }], guard := none }) (v := undef) rfl (by kernel_rfl) (by kernel_rfl) (by kernel_rfl) (by kernel_rfl) (fun _ _ _ h => h) (by assumption) (by kernel_rfl) (by decide) (by rfl) (Or.inr ⟨by rfl, rfl⟩) (fun _ => rfl) ?_)
    try simp only [Act.put, List.setIfInBounds_toArray, List.set_cons_zero, List.set_cons_succ]
    first
      | (refine' ordZ_take (i := 3) (oi := { dst := some 28, op := Op.fieldAddr 135 (Operand.tmp 27) 0, type := 0, pos := _, after := #[{ on := 2, ground := Ground.data }], guard := none }) (v := _) rfl (by kernel_rfl) (by kernel_rfl) (by kernel_rfl) (by kernel_rfl) (fun _ _ _ h => h) (by assumption) (by kernel_rfl) (by decide) (by rfl) (Or.inl ⟨by rfl, ?hy18⟩) (fun _ => rfl) ?rest18
         case hy18 => (intro w hSw; (try dsimp only at hSw); go_simp; try with_reducible rfl))
      | (refine ordZ_take (i := 3) (oi := { dst := some 28, op := Op.fieldAddr 135 (Operand.tmp 27) 0, type := 0, pos := _, after := #[{ on := 2, ground := Ground.data }], guard := none }) (v := undef) rfl (by kernel_rfl) (by kernel_rfl) (by kernel_rfl) (by kernel_rfl) (fun _ _ _ h => h) (by assumption) (by kernel_rfl) (by decide) (by rfl) (Or.inr ⟨by rfl, rfl⟩) (fun _ => rfl) ?_)
    try simp only [Act.put, List.setIfInBounds_toArray, List.set_cons_zero, List.set_cons_succ]
    first
      | (refine' ordZ_take (i := 4) (oi := { dst := some 29, op := Op.load 133 (Operand.tmp 28), type := 133, pos := _, after := #[{ on := 3, ground := Ground.data }], guard := none }) (v := _) rfl (by kernel_rfl) (by kernel_rfl) (by kernel_rfl) (by kernel_rfl) (fun _ _ _ h => h) (by assumption) (by kernel_rfl) (by decide) (by rfl) (Or.inl ⟨by rfl, ?hy19⟩) (fun _ => rfl) ?rest19
         case hy19 => (intro w hSw; (try dsimp only at hSw); go_simp; try with_reducible rfl))
      | (refine ordZ_take (i := 4) (oi := { dst := some 29, op := Op.load 133 (Operand.tmp 28), type := 133, pos := _, after := #[{ on := 3, ground := Ground.data }], guard := none }) (v := undef) rfl (by kernel_rfl) (by kernel_rfl) (by kernel_rfl) (by kernel_rfl) (fun _ _ _ h => h) (by assumption) (by kernel_rfl) (by decide) (by rfl) (Or.inr ⟨by rfl, rfl⟩) (fun _ => rfl) ?_)
    try simp only [Act.put, List.setIfInBounds_toArray, List.set_cons_zero, List.set_cons_succ]
    first
      | (refine' ordZ_take (i := 5) (oi := { dst := some 30, op := Op.load 138 (Operand.tmp 9), type := 138, pos := _, after := #[], guard := none }) (v := _) rfl (by kernel_rfl) (by kernel_rfl) (by kernel_rfl) (by kernel_rfl) (fun _ _ _ h => h) (by assumption) (by kernel_rfl) (by decide) (by rfl) (Or.inl ⟨by rfl, ?hy20⟩) (fun _ => rfl) ?rest20
         case hy20 => (intro w hSw; (try dsimp only at hSw); go_simp; try with_reducible rfl))
      | (refine ordZ_take (i := 5) (oi := { dst := some 30, op := Op.load 138 (Operand.tmp 9), type := 138, pos := _, after := #[], guard := none }) (v := undef) rfl (by kernel_rfl) (by kernel_rfl) (by kernel_rfl) (by kernel_rfl) (fun _ _ _ h => h) (by assumption) (by kernel_rfl) (by decide) (by rfl) (Or.inr ⟨by rfl, rfl⟩) (fun _ => rfl) ?_)
    try simp only [Act.put, List.setIfInBounds_toArray, List.set_cons_zero, List.set_cons_succ]
    refine ordZ_one (i := 6) (o := { dst := some 31, op := Op.buildSlice 133 1 #[(0, Operand.tmp 30)], type := 133, pos := _, after := #[{ on := 5, ground := Ground.data }], guard := none }) (by kernel_rfl) rfl (by rfl) (fun K hK => ?_)
    go_simp
    refine hK _ _ (fun _ => ⟨cell_later (bl_al hD _) c0, cell_later (bl_al hD _) x0, cell_later (bl_al hD _) x1, cell_later (bl_al hD _) x2, cell_later (bl_al hD _) x3, cell_later (bl_al hD _) x4⟩) ?_
    clear hK K hH
    try simp only [Act.put, List.setIfInBounds_toArray, List.set_cons_zero, List.set_cons_succ]
    refine ordZ_append_at (i := 7) (o := { dst := some 32, op := Op.call { callee := Callee.builtin Builtin.append, args := #[Operand.tmp 29, Operand.tmp 31], argTypes := #[133, 133] }, type := 133, pos := _, after := #[{ on := 4, ground := Ground.data }, { on := 6, ground := Ground.data }], guard := none }) _ (by kernel_rfl) rfl (by rfl) _ _ 133 rfl 0 138 i0 (.agg #[.int .i64 0, .int .u64 0, .int .u64 0, .int .i64 0, .int .i64 0]) 5 40 Tryd.underlying133 hi hz0 hz1 hz2 rfl (by decide) _ _ _ rfl (hHW.below (bl_al hD _)).row ⟨W.drew.heap.size, 0, none⟩ 1 1 [.int .i64 t.id, .int .u64 t.F, .int .u64 t.H, .int .i64 t.Y, .int .i64 t.X] rfl rfl ?c1 ?c2 ?c3 ?c4 ?c5 ?_
    case c1 =>
      intro j u hj
      match j, hj with
      | 0, hj => (simp at hj; subst hj; simp [go_sem, hadd])
      | 1, hj => (simp at hj; subst hj; simp [go_sem, hadd])
      | 2, hj => (simp at hj; subst hj; simp [go_sem, hadd])
      | 3, hj => (simp at hj; subst hj; simp [go_sem, hadd])
      | 4, hj => (simp at hj; subst hj; simp [go_sem, hadd])
      | j + 5, hj => simp at hj
    case c2 =>
      intro u hu
      simp at hu
      rcases hu with rfl | rfl | rfl | rfl | rfl <;> rfl
    case c3 => unfold maxLen; omega
    case c4 => omega
    case c5 => exact Nat.zero_le _
    intro v' W9 hown hgrow hloc
    obtain ⟨g', cap', rfl⟩ : ∃ g' cap', v' = .slice (some ⟨g', 0, none⟩) (s.ts.length + 1) cap' := by
      rcases hown.2 with ⟨_, e⟩ | ⟨g', cap', cur, e, _⟩
      · omega
      · exact ⟨g', cap', e⟩
    obtain ⟨hG, hGK, hGf, hGc⟩ := heap_grew (hHW.below (bl_al hD _)) ht hown hgrow hloc
    have hnb : ¬ HB p b v (w.heap.size + 1) := fun e => by have := (h1.lt _ e).2; omega
    have k9 : KeptS (HB p b v) W W9 := (KeptS.of_below (bl_al hD _)).trans (KeptS.of_grown hgrow (fun k e _ => .inr (.inr e))) (fun _ _ h => h)
    have hS9 : (fun w' : World => w'.cell? ⟨p, 0, none⟩ = some v ∧ w'.cell? ⟨w.heap.size + 1, 0, none⟩ = some (.int .i64 t.id) ∧ w'.cell? ⟨w.heap.size + 1, 1, none⟩ = some (.int .u64 t.F) ∧ w'.cell? ⟨w.heap.size + 1, 2, none⟩ = some (.int .u64 t.H) ∧ w'.cell? ⟨w.heap.size + 1, 3, none⟩ = some (.int .i64 t.Y) ∧ w'.cell? ⟨w.heap.size + 1, 4, none⟩ = some (.int .i64 t.X)) W9 := ⟨hGc, k9.cell x0 hnb, k9.cell x1 hnb, k9.cell x2 hnb, k9.cell x3 hnb, k9.cell x4 hnb⟩
    refine ⟨fun _ => hS9, ?_⟩
    replace x0 := k9.cell x0 hnb
    replace x1 := k9.cell x1 hnb
    replace x2 := k9.cell x2 hnb
    replace x3 := k9.cell x3 hnb
    replace x4 := k9.cell x4 hnb
    have HLOC := Lib.hid hloc
    clear hown hgrow hloc k9 hD c0
    try simp only [Act.put, List.setIfInBounds_toArray, List.set_cons_zero, List.set_cons_succ]
    refine ordZ_one (i := 8) (o := { dst := some 33, op := Op.nilCheck (Operand.tmp 25), type := 0, pos := _, after := #[{ on := 0, ground := Ground.data }, { on := 0, ground := Ground.phase }, { on := 1, ground := Ground.phase }, { on := 2, ground := Ground.phase }, { on := 3, ground := Ground.phase }, { on := 4, ground := Ground.phase }, { on := 5, ground := Ground.phase }, { on := 6, ground := Ground.phase }, { on := 7, ground := Ground.phase }], guard := none }) (by kernel_rfl) rfl (by rfl) (fun K hK => ?_)
    go_simp
    refine hK _ _ (fun _ => hS9) ?_
    clear hK K
    try simp only [Act.put, List.setIfInBounds_toArray, List.set_cons_zero, List.set_cons_succ]
    first
      | (refine' ordZ_take (i := 9) (oi := { dst := some 34, op := Op.fieldAddr 135 (Operand.tmp 33) 0, type := 0, pos := _, after := #[{ on := 8, ground := Ground.data }, { on := 0, ground := Ground.phase }, { on := 1, ground := Ground.phase }, { on := 2, ground := Ground.phase }, { on := 3, ground := Ground.phase }, { on := 4, ground := Ground.phase }, { on := 5, ground := Ground.phase }, { on := 6, ground := Ground.phase }, { on := 7, ground := Ground.phase }], guard := none }) (v := _) rfl (by kernel_rfl) (by kernel_rfl) (by kernel_rfl) (by kernel_rfl) (fun _ _ _ h => h) (by assumption) (by kernel_rfl) (by decide) (by rfl) (Or.inl ⟨by rfl, ?hy21⟩) (fun _ => rfl) ?rest21
         case hy21 => (intro w hSw; (try dsimp only at hSw); go_simp; try with_reducible rfl))
      | (refine ordZ_take (i := 9) (oi := { dst := some 34, op := Op.fieldAddr 135 (Operand.tmp 33) 0, type := 0, pos := _, after := #[{ on := 8, ground := Ground.data }, { on := 0, ground := Ground.phase }, { on := 1, ground := Ground.phase }, { on := 2, ground := Ground.phase }, { on := 3, ground := Ground.phase }, { on := 4, ground := Ground.phase }, { on := 5, ground := Ground.phase }, { on := 6, ground := Ground.phase }, { on := 7, ground := Ground.phase }], guard := none }) (v := undef) rfl (by kernel_rfl) (by kernel_rfl) (by kernel_rfl) (by kernel_rfl) (fun _ _ _ h => h) (by assumption) (by kernel_rfl) (by decide) (by rfl) (Or.inr ⟨by rfl, rfl⟩) (fun _ => rfl) ?_)
    try simp only [Act.put, List.setIfInBounds_toArray, List.set_cons_zero, List.set_cons_succ]
    refine ordZ_one (i := 10) (o := { dst := none, op := Op.store 133 (Operand.tmp 34) (Operand.tmp 32), type := 0, pos := _, after := #[{ on := 9, ground := Ground.data }, { on := 7, ground := Ground.data }, { on := 7, ground := Ground.chain }, { on := 0, ground := Ground.phase }, { on := 1, ground := Ground.phase }, { on := 2, ground := Ground.phase }, { on := 3, ground := Ground.phase }, { on := 4, ground := Ground.phase }, { on := 5, ground := Ground.phase }, { on := 6, ground := Ground.phase }, { on := 7, ground := Ground.phase }], guard := none }) (by kernel_rfl) rfl (by rfl) (fun K hK => ?_)
    go_simp
    refine hK _ _ (fun h => by cases h) ?_
    clear hK K hS9
    try simp only [Act.put, List.setIfInBounds_toArray, List.set_cons_zero, List.set_cons_succ]
    refine ordZ_done (by kernel_rfl) ?_
    obtain ⟨W10, hW10⟩ : ∃ W10, W9.setCell ⟨p, 0, none⟩ (.slice (some ⟨g', 0, none⟩) (s.ts.length + 1) cap') = W10 := ⟨_, rfl⟩
    have hz : w.heap.size + 1 ≠ p := by have := (h1.lt p (.inl rfl)).2; omega
    have k10 : KeptS (fun k => k = p) W9 W10 := by rw [← hW10]; exact .of_grown (hgrown_set W9 p 0 _) (fun k e _ => by cases e; rfl)
    rw [hW10] at hG hGK ⊢
    have hlen1 : (s.ts ++ [t]).length = s.ts.length + 1 := by simp
    have hK10 : KeptS (HB p b v) w W10 := (KeptS.of_below hAW).trans ((KeptS.of_below (bl_al (bl_dr (bl0 W)) _)).trans hGK (fun _ _ h => h)) (fun _ _ h => h)
    replace x0 := k10.cell x0 hz
    replace x1 := k10.cell x1 hz
    replace x2 := k10.cell x2 hz
    replace x3 := k10.cell x3 hz
    replace x4 := k10.cell x4 hz
    have hnb' : ¬ HB p b (.slice (some ⟨g', 0, none⟩) (s.ts ++ [t]).length cap') (w.heap.size + 1) := by
      rintro (e | e | e)
      · exact hnb (.inl e)
      · exact hnb (.inr (.inl e))
      · rcases HLOC.out with q | q
        · exact hnb (.inr (.inr (q.symm.trans e)))
        · have q2 := q.symm.trans e
          simp only [Option.some.injEq] at q2
          have := hAW.size
          have h5 : w.heap.size + 1 < W.heap.size := by rw [← hWz.out]; omega
          simp at q2
          omega
    have NB := Lib.hid hnb'
    clear hnb'
    have hgo : (Value.slice (some ⟨g', 0, none⟩) (s.ts.length + 1) cap').ownBlock = v.ownBlock ∨ w.heap.size ≤ g' := by
      rcases HLOC.out with e | e
      · exact .inl e
      · right
        simp only [Value.ownBlock, Option.some.injEq] at e
        have := hAW.size
        rw [e]
        simp
        omega
    rw [← hlen1] at hG hgo
    have c0 := hG.c0
    have zx0 := blk_lt x0
    have hD := bl_dr (bl0 W10)
    have hGD := hG.below hD
    have hcall := rise_any 0 p b g' cap' ⟨s.ts ++ [t], s.f, s.n⟩ s.ts.length t W10.drew hGD (by simp) (by simp; omega) (by simp; omega) ht
    have HG := Lib.hid hG
    have HK10 := Lib.hid hK10
    have HL1 := Lib.hid hlen1
    have hw1 : IntKind.i64.wrap (s.ts.length : Int) = (s.ts.length : Int) := IntWalk.i64_in _ (by omega)
    clear hW10 hG hGK hGf hGc k10 hK10 hGD hlen1 hHW hAW hi hz0 hz1 hz2
    go_upto_region 8 with fail
    refine (wpIn_wide (n := 11)).1 ?_
    refine ordS_begin (S := (fun w' : World => w'.cell? ⟨p, 0, none⟩ = some (.slice (some ⟨g', 0, none⟩) (s.ts ++ [t]).length cap') ∧ w'.cell? ⟨w.heap.size + 1, 0, none⟩ = some (.int .i64 t.id) ∧ w'.cell? ⟨w.heap.size + 1, 1, none⟩ = some (.int .u64 t.F) ∧ w'.cell? ⟨w.heap.size + 1, 2, none⟩ = some (.int .u64 t.H) ∧ w'.cell? ⟨w.heap.size + 1, 3, none⟩ = some (.int .i64 t.Y) ∧ w'.cell? ⟨w.heap.size + 1, 4, none⟩ = some (.int .i64 t.X))) (by kernel_rfl) ⟨cell_later hD c0, cell_later hD x0, cell_later hD x1, cell_later hD x2, cell_later hD x3, cell_later hD x4⟩ (fun hH => ?_)
    first
      | (refine' ordS_take (i := 0) (oi := { dst := some 35, op := Op.move (Operand.tmp 0), type := 97, pos := _, after := #[], guard := none }) (v := _) rfl (by kernel_rfl) (by kernel_rfl) (by kernel_rfl) (by kernel_rfl) (fun _ _ _ h => h) (by assumption) (Or.inl ⟨by rfl, ?hy22⟩) (fun _ => rfl) ?rest22
         case hy22 => (intro w hSw; (try dsimp only at hSw); go_simp; try with_reducible rfl))
      | (refine ordS_take (i := 0) (oi := { dst := some 35, op := Op.move (Operand.tmp 0), type := 97, pos := _, after := #[], guard := none }) (v := undef) rfl (by kernel_rfl) (by kernel_rfl) (by kernel_rfl) (by kernel_rfl) (fun _ _ _ h => h) (by assumption) (Or.inr ⟨by rfl, rfl⟩) (fun _ => rfl) ?_)
    try simp only [Act.put, List.setIfInBounds_toArray, List.set_cons_zero, List.set_cons_succ]
    first
      | (refine' ordS_take (i := 1) (oi := { dst := some 36, op := Op.move (Operand.tmp 0), type := 97, pos := _, after := #[], guard := none }) (v := _) rfl (by kernel_rfl) (by kernel_rfl) (by kernel_rfl) (by kernel_rfl) (fun _ _ _ h => h) (by assumption) (Or.inl ⟨by rfl, ?hy23⟩) (fun _ => rfl) ?rest23
         case hy23 => (intro w hSw; (try dsimp only at hSw); go_simp; try with_reducible rfl))
      | (refine ordS_take (i := 1) (oi := { dst := some 36, op := Op.move (Operand.tmp 0), type := 97, pos := _, after := #[], guard := none }) (v := undef) rfl (by kernel_rfl) (by kernel_rfl) (by kernel_rfl) (by kernel_rfl) (fun _ _ _ h => h) (by assumption) (Or.inr ⟨by rfl, rfl⟩) (fun _ => rfl) ?_)
    try simp only [Act.put, List.setIfInBounds_toArray, List.set_cons_zero, List.set_cons_succ]
    first
      | (refine' ordS_take (i := 2) (oi := { dst := some 37, op := Op.nilCheck (Operand.tmp 36), type := 0, pos := _, after := #[{ on := 1, ground := Ground.data }], guard := none }) (v := _) rfl (by kernel_rfl) (by kernel_rfl) (by kernel_rfl) (by kernel_rfl) (fun _ _ _ h => h) (by assumption) (Or.inl ⟨by rfl, ?hy24⟩) (fun _ => rfl) ?rest24
         case hy24 => (intro w hSw; (try dsimp only at hSw); go_simp; try with_reducible rfl))
      | (refine ordS_take (i := 2) (oi := { dst := some 37, op := Op.nilCheck (Operand.tmp 36), type := 0, pos := _, after := #[{ on := 1, ground := Ground.data }], guard := none }) (v := undef) rfl (by kernel_rfl) (by kernel_rfl) (by kernel_rfl) (by kernel_rfl) (fun _ _ _ h => h) (by assumption) (Or.inr ⟨by rfl, rfl⟩) (fun _ => rfl) ?_)
    try simp only [Act.put, List.setIfInBounds_toArray, List.set_cons_zero, List.set_cons_succ]
    first
      | (refine' ordS_take (i := 3) (oi := { dst := some 38, op := Op.fieldAddr 135 (Operand.tmp 37) 0, type := 0, pos := _, after := #[{ on := 2, ground := Ground.data }], guard := none }) (v := _) rfl (by kernel_rfl) (by kernel_rfl) (by kernel_rfl) (by kernel_rfl) (fun _ _ _ h => h) (by assumption) (Or.inl ⟨by rfl, ?hy25⟩) (fun _ => rfl) ?rest25
         case hy25 => (intro w hSw; (try dsimp only at hSw); go_simp; try with_reducible rfl))
      | (refine ordS_take (i := 3) (oi := { dst := some 38, op := Op.fieldAddr 135 (Operand.tmp 37) 0, type := 0, pos := _, after := #[{ on := 2, ground := Ground.data }], guard := none }) (v := undef) rfl (by kernel_rfl) (by kernel_rfl) (by kernel_rfl) (by kernel_rfl) (fun _ _ _ h => h) (by assumption) (Or.inr ⟨by rfl, rfl⟩) (fun _ => rfl) ?_)
    try simp only [Act.put, List.setIfInBounds_toArray, List.set_cons_zero, List.set_cons_succ]
    first
      | (refine' ordS_take (i := 4) (oi := { dst := some 39, op := Op.load 133 (Operand.tmp 38), type := 133, pos := _, after := #[{ on := 3, ground := Ground.data }], guard := none }) (v := _) rfl (by kernel_rfl) (by kernel_rfl) (by kernel_rfl) (by kernel_rfl) (fun _ _ _ h => h) (by assumption) (Or.inl ⟨by rfl, ?hy26⟩) (fun _ => rfl) ?rest26
         case hy26 => (intro w hSw; (try dsimp only at hSw); go_simp; try with_reducible rfl))
      | (refine ordS_take (i := 4) (oi := { dst := some 39, op := Op.load 133 (Operand.tmp 38), type := 133, pos := _, after := #[{ on := 3, ground := Ground.data }], guard := none }) (v := undef) rfl (by kernel_rfl) (by kernel_rfl) (by kernel_rfl) (by kernel_rfl) (fun _ _ _ h => h) (by assumption) (Or.inr ⟨by rfl, rfl⟩) (fun _ => rfl) ?_)
    try simp only [Act.put, List.setIfInBounds_toArray, List.set_cons_zero, List.set_cons_succ]
    first
      | (refine' ordS_take (i := 5) (oi := { dst := some 40, op := Op.call { callee := Callee.builtin Builtin.len, args := #[Operand.tmp 39], argTypes := #[133] }, type := 3, pos := _, after := #[{ on := 4, ground := Ground.data }], guard := none }) (v := _) rfl (by kernel_rfl) (by kernel_rfl) (by kernel_rfl) (by kernel_rfl) (fun _ _ _ h => h) (by assumption) (Or.inl ⟨by rfl, ?hy27⟩) (fun _ => rfl) ?rest27
         case hy27 => (intro w hSw; (try dsimp only at hSw); go_simp; try with_reducible rfl))
      | (refine ordS_take (i := 5) (oi := { dst := some 40, op := Op.call { callee := Callee.builtin Builtin.len, args := #[Operand.tmp 39], argTypes := #[133] }, type := 3, pos := _, after := #[{ on := 4, ground := Ground.data }], guard := none }) (v := undef) rfl (by kernel_rfl) (by kernel_rfl) (by kernel_rfl) (by kernel_rfl) (fun _ _ _ h => h) (by assumption) (Or.inr ⟨by rfl, rfl⟩) (fun _ => rfl) ?_)
    try simp only [Act.put, List.setIfInBounds_toArray, List.set_cons_zero, List.set_cons_succ]
    first
      | (refine' ordS_take (i := 6) (oi := { dst := some 41, op := Op.binOp BinOp.sub 3 (Operand.tmp 40) (Operand.const (Value.int IntKind.i64 1)) 3, type := 3, pos := _, after := #[{ on := 5, ground := Ground.data }], guard := none }) (v := _) rfl (by kernel_rfl) (by kernel_rfl) (by kernel_rfl) (by kernel_rfl) (fun _ _ _ h => h) (by assumption) (Or.inl ⟨by rfl, ?hy28⟩) (fun _ => rfl) ?rest28
         case hy28 => (intro w hSw; (try dsimp only at hSw); go_simp; try with_reducible rfl))
      | (refine ordS_take (i := 6) (oi := { dst := some 41, op := Op.binOp BinOp.sub 3 (Operand.tmp 40) (Operand.const (Value.int IntKind.i64 1)) 3, type := 3, pos := _, after := #[{ on := 5, ground := Ground.data }], guard := none }) (v := undef) rfl (by kernel_rfl) (by kernel_rfl) (by kernel_rfl) (by kernel_rfl) (fun _ _ _ h => h) (by assumption) (Or.inr ⟨by rfl, rfl⟩) (fun _ => rfl) ?_)
    try simp only [Act.put, List.setIfInBounds_toArray, List.set_cons_zero, List.set_cons_succ]
    first
      | (refine' ordS_take (i := 7) (oi := { dst := some 42, op := Op.load 138 (Operand.tmp 9), type := 138, pos := _, after := #[], guard := none }) (v := _) rfl (by kernel_rfl) (by kernel_rfl) (by kernel_rfl) (by kernel_rfl) (fun _ _ _ h => h) (by assumption) (Or.inl ⟨by rfl, ?hy29⟩) (fun _ => rfl) ?rest29
         case hy29 => (intro w hSw; (try dsimp only at hSw); go_simp; try with_reducible rfl))
      | (refine ordS_take (i := 7) (oi := { dst := some 42, op := Op.load 138 (Operand.tmp 9), type := 138, pos := _, after := #[], guard := none }) (v := undef) rfl (by kernel_rfl) (by kernel_rfl) (by kernel_rfl) (by kernel_rfl) (fun _ _ _ h => h) (by assumption) (Or.inr ⟨by rfl, rfl⟩) (fun _ => rfl) ?_)
    try simp only [Act.put, List.setIfInBounds_toArray, List.set_cons_zero, List.set_cons_succ]
    refine ordS_one (i := 8) (o := { dst := some 43, op := Op.call { callee := Callee.value (Operand.func 91), args := #[Operand.tmp 35, Operand.tmp 41, Operand.tmp 42], argTypes := #[97, 3, 138] }, type := 0, pos := _, after := #[{ on := 0, ground := Ground.data }, { on := 6, ground := Ground.data }, { on := 7, ground := Ground.data }], guard := none }) (by kernel_rfl) rfl (by rfl) (fun K hK => ?_)
    go_simp
    refine ⟨trivial, (callsIn_wide.2 hcall).mono ?_⟩
    rintro e W11 ⟨rfl, hH11, hk11⟩
    have HF : HI (pushS s t) (m ++ [t]) := HH2.out.push hnone
    have hEnd : Turned S w W11 (HeapO p (m ++ [t])) := by
      have hsub : ∀ k, k < w.heap.size → HB p b (.slice (some ⟨g', 0, none⟩) (s.ts ++ [t]).length cap') k → HB p b v k := by
        rintro k hk (e | e | e)
        · exact .inl e
        · exact .inr (.inl e)
        · rcases hgo with q | q
          · rw [q] at e; exact .inr (.inr e)
          · simp only [Value.ownBlock, Option.some.injEq] at e; omega
      refine ⟨(HK10.out.trans ((KeptS.of_below hD).trans hk11 (fun _ _ h => h)) hsub).wide (fun k h => (h3 k).2 h), HB p b (.slice (some ⟨g', 0, none⟩) (s.ts ++ [t]).length cap'), ⟨b, .slice (some ⟨g', 0, none⟩) (s.ts ++ [t]).length cap', pushS s t, hH11, HF, fun _ => Iff.rfl⟩, ?_⟩
      · intro k hk
        by_cases hkw : k < w.heap.size
        · exact .inl ((h3 k).2 (hsub k hkw hk))
        · exact .inr (by omega)
    have HEnd := Lib.hid hEnd
    clear hEnd HF
    have hnb11 : ¬ HB p b (.slice (some ⟨g', 0, none⟩) (s.ts ++ [t]).length cap') (w.heap.size + 1) := NB.out
    have hSend : (fun w' : World => w'.cell? ⟨p, 0, none⟩ = some (.slice (some ⟨g', 0, none⟩) (s.ts ++ [t]).length cap') ∧ w'.cell? ⟨w.heap.size + 1, 0, none⟩ = some (.int .i64 t.id) ∧ w'.cell? ⟨w.heap.size + 1, 1, none⟩ = some (.int .u64 t.F) ∧ w'.cell? ⟨w.heap.size + 1, 2, none⟩ = some (.int .u64 t.H) ∧ w'.cell? ⟨w.heap.size + 1, 3, none⟩ = some (.int .i64 t.Y) ∧ w'.cell? ⟨w.heap.size + 1, 4, none⟩ = some (.int .i64 t.X)) W11 := ⟨hH11.c0, hk11.cell (cell_later hD x0) hnb11, hk11.cell (cell_later hD x1) hnb11, hk11.cell (cell_later hD x2) hnb11, hk11.cell (cell_later hD x3) hnb11, hk11.cell (cell_later hD x4) hnb11⟩
    clear hH11 hk11 hnb11
    refine hK _ _ hSend ?_
    clear hSend
    clear hK K hH
    try simp only [Act.put, List.setIfInBounds_toArray, List.set_cons_zero, List.set_cons_succ]
    refine ordS_done (by kernel_rfl) ?_
    go_wp2
    go_ret
    exact ⟨rfl, HEnd.out⟩
end Go.Proofs.YtofpoenehdmkpaaDoor
