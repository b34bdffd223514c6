/- A search by guess: the reference's state in memory; whether it may search. -/
import Derived.Test.YtldpajfendkhbaaDoorNy
import Derived.Test.YtldpajfendkhbaaDoorCzr
import Derived.Test.YtldpajfendkhbaaDoorOs
namespace Go.Proofs.YtldpajfendkhbaaDoor
open Go.RowKit

def mapN {α : Type} (N : Nat) (f : Nat → α) : List α := (List.range N).map f
theorem mapN_len {α : Type} (N : Nat) (f : Nat → α) : (mapN N f).length = N := by simp [mapN]
theorem mapN_at {α : Type} {N : Nat} (f : Nat → α) {i : Nat} (h : i < N) : (mapN N f)[i]? = some (f i) := by
  unfold mapN
  rw [List.getElem?_map, List.getElem?_range h]
  rfl
theorem mapN_set {α : Type} {N : Nat} (f : Nat → α) {j : Nat} (v : α) (h : j < N) : (mapN N f).set j v = mapN N (updF f j v) := by
  refine List.ext_getElem (by simp [mapN]) fun i h1 h2 => ?_
  have hi : i < N := by rw [mapN_len] at h2; exact h2
  rw [List.getElem_set]
  simp only [mapN, List.getElem_map, List.getElem_range]
  by_cases e : i = j
  · subst e; rw [if_pos rfl, updF_same]
  · rw [if_neg (fun q => e q.symm), updF_other _ _ e]
theorem mapN_const {α : Type} (N : Nat) (v : α) : mapN N (fun _ => v) = List.replicate N v := by simp [mapN, List.map_const']
theorem updF_map {α β : Type} (g : α → β) (f : Nat → α) (j : Nat) (v : α) : updF (fun i => g (f i)) j (g v) = fun i => g (updF f j v i) := by
  funext i
  by_cases e : i = j
  · subst e; rw [updF_same, updF_same]
  · rw [updF_other _ _ e, updF_other _ _ e]
/-- From where, as the reference has it: -1 of the first one, 0 of one that is new. -/
def cameF (s0 : Nat) (s : AS) (i : Nat) : Int := if i = s0 then -1 else if s.st i = 0 then 0 else (s.par i : Int)
structure RefS (W : World) (N gs gg gc s0 : Nat) (s : AS) : Prop where
  st : W.heap[gs]? = some (.cells (mapN N (fun i => Value.int .i64 (s.st i : Nat))).toArray 3 (0, 0))
  g : W.heap[gg]? = some (.cells (mapN N (fun i => Value.int .u64 (s.g i))).toArray 34 (0, 0))
  par : W.heap[gc]? = some (.cells (mapN N (fun i => Value.int .i64 (cameF s0 s i))).toArray 3 (0, 0))
section
variable {W W' : World} {N gs gg gc s0 i : Nat} {s : AS}
theorem RefS.below (h : RefS W N gs gg gc s0 s) (hb : Below W.heap.size W W') : RefS W' N gs gg gc s0 s :=
  ⟨(hb.block _ (Array.getElem?_eq_some_iff.1 h.st).1).trans h.st, (hb.block _ (Array.getElem?_eq_some_iff.1 h.g).1).trans h.g, (hb.block _ (Array.getElem?_eq_some_iff.1 h.par).1).trans h.par⟩
theorem cell_of_heap {g : Nat} {l : List Value} {t : TypeId} {v : Value} (hq : W.heap[g]? = some (.cells l.toArray t (0, 0))) (hv : l[i]? = some v) : W.cell? ⟨g, i, none⟩ = some v ∧ W.frozen? ⟨g, i, none⟩ = false := by
  constructor
  · simp [World.cell?, hq, hv]
  · simp [World.frozen?, hq]
theorem RefS.stAt (h : RefS W N gs gg gc s0 s) (hi : i < N) : W.cell? ⟨gs, i, none⟩ = some (.int .i64 (s.st i : Nat)) ∧ W.frozen? ⟨gs, i, none⟩ = false := cell_of_heap h.st (mapN_at _ hi)
theorem RefS.gAt (h : RefS W N gs gg gc s0 s) (hi : i < N) : W.cell? ⟨gg, i, none⟩ = some (.int .u64 (s.g i)) ∧ W.frozen? ⟨gg, i, none⟩ = false := cell_of_heap h.g (mapN_at _ hi)
theorem RefS.parAt (h : RefS W N gs gg gc s0 s) (hi : i < N) : W.cell? ⟨gc, i, none⟩ = some (.int .i64 (cameF s0 s i)) ∧ W.frozen? ⟨gc, i, none⟩ = false := cell_of_heap h.par (mapN_at _ hi)
theorem heap_set_list {g j : Nat} {l : List Value} {t : TypeId} (hq : W.heap[g]? = some (.cells l.toArray t (0, 0))) (v : Value) : (W.setCell ⟨g, j, none⟩ v).heap[g]? = some (.cells (l.set j v).toArray t (0, 0)) := by
  rw [hset_same W g j _ _ v hq]
  simp
theorem heap_set_other {g k j : Nat} {o : Obj} (hq : W.heap[k]? = some o) (hne : k ≠ g) (v : Value) : (W.setCell ⟨g, j, none⟩ v).heap[k]? = some o :=
  (Below.heap_setCell _ _ _ k hne).trans hq
/-- One is settled. -/
theorem RefS.settle (h : RefS W N gs gg gc s0 s) (hi : i < N) (h0 : i = s0 ∨ s.st i ≠ 0) (h1 : gs ≠ gg) (h2 : gs ≠ gc) : RefS (W.setCell ⟨gs, i, none⟩ (.int .i64 2)) N gs gg gc s0 (settleB s i) := by
  refine ⟨?_, heap_set_other h.g (fun e => h1 e.symm) _, ?_⟩
  · rw [heap_set_list h.st, mapN_set _ _ hi]
    exact congrArg (fun l : List Value => some (Obj.cells l.toArray 3 (0, 0))) (congrArg (mapN N) (updF_map (fun n : Nat => Value.int .i64 (n : Int)) s.st i 2))
  · rw [heap_set_other h.par (fun e => h2 e.symm)]
    have : ∀ j, cameF s0 (settleB s i) j = cameF s0 s j := fun j => by
      unfold cameF
      by_cases e : j = s0
      · rw [if_pos e, if_pos e]
      · rw [if_neg e, if_neg e]
        show (if updF s.st i 2 j = 0 then (0 : Int) else (s.par j : Int)) = _
        by_cases ej : j = i
        · subst ej
          rw [updF_same, if_neg (by decide), if_neg (h0.resolve_left e)]
        · rw [updF_other _ _ ej]
    simp only [this]
/-- One is reached. -/
theorem RefS.reach {b j : Nat} {x : Int} (h : RefS W N gs gg gc s0 s) (hj : j < N) (hne : j ≠ s0) (hc : s.st j = 0 ∨ s.st j = 1 ∧ x < s.g j) (h1 : gs ≠ gg) (h2 : gs ≠ gc) (h3 : gg ≠ gc) :
    RefS (((W.setCell ⟨gs, j, none⟩ (.int .i64 1)).setCell ⟨gg, j, none⟩ (.int .u64 x)).setCell ⟨gc, j, none⟩ (.int .i64 (b : Nat))) N gs gg gc s0 (reachS s b j x) := by
  have hs : reachS s b j x = ⟨updF s.st j 1, updF s.g j x, updF s.par j b⟩ := if_pos hc
  rw [hs]
  refine ⟨?_, ?_, ?_⟩
  · rw [heap_set_other (heap_set_other (heap_set_list h.st _) h1 _) h2 _, mapN_set _ _ hj]
    exact congrArg (fun l : List Value => some (Obj.cells l.toArray 3 (0, 0))) (congrArg (mapN N) (updF_map (fun n : Nat => Value.int .i64 (n : Int)) s.st j 1))
  · rw [heap_set_other (heap_set_list (heap_set_other h.g (fun e => h1 e.symm) _) _) h3 _, mapN_set _ _ hj]
    exact congrArg (fun l : List Value => some (Obj.cells l.toArray 34 (0, 0))) (congrArg (mapN N) (updF_map (fun z : Int => Value.int .u64 z) s.g j x))
  · rw [heap_set_list (heap_set_other (heap_set_other h.par (fun e => h2 e.symm) _) (fun e => h3 e.symm) _), mapN_set _ _ hj]
    have : updF (fun i => Value.int .i64 (cameF s0 s i)) j (.int .i64 (b : Nat)) = fun i => Value.int .i64 (cameF s0 ⟨updF s.st j 1, updF s.g j x, updF s.par j b⟩ i) := by
      funext i
      unfold cameF
      by_cases e : i = j
      · subst e
        rw [updF_same, if_neg hne]
        show _ = Value.int .i64 (if updF s.st i 1 i = 0 then 0 else ((updF s.par i b i : Nat) : Int))
        rw [updF_same, updF_same, if_neg (by decide)]
      · rw [updF_other _ _ e]
        show _ = Value.int .i64 (if i = s0 then -1 else if updF s.st j 1 i = 0 then 0 else ((updF s.par j b i : Nat) : Int))
        rw [updF_other _ _ e, updF_other _ _ e]
    rw [this]
end
/-- The first one stays as it is. -/
structure Src (s0 : Nat) (s : AS) : Prop where
  st : s.st s0 ≠ 0
  g : s.g s0 = 0
theorem Src.no {s0 j : Nat} {s : AS} {x : Int} (h : Src s0 s) (hx : 0 ≤ x) (hc : s.st j = 0 ∨ s.st j = 1 ∧ x < s.g j) : j ≠ s0 := fun e => by
  subst e
  rcases hc with hc | ⟨_, hc⟩
  · exact h.st hc
  · have := h.g; omega
theorem Src.reach {s0 b j : Nat} {s : AS} {x : Int} (h : Src s0 s) (hx : 0 ≤ x) : Src s0 (reachS s b j x) := by
  by_cases hc : s.st j = 0 ∨ s.st j = 1 ∧ x < s.g j
  · have hne := h.no hx hc
    have hs : reachS s b j x = ⟨updF s.st j 1, updF s.g j x, updF s.par j b⟩ := if_pos hc
    rw [hs]
    exact ⟨by show updF s.st j 1 s0 ≠ 0; rw [updF_other _ _ (fun q => hne q.symm)]; exact h.st, by show updF s.g j x s0 = 0; rw [updF_other _ _ (fun q => hne q.symm)]; exact h.g⟩
  · rw [reach_no hc]; exact h
theorem Src.settle {s0 b : Nat} {s : AS} (h : Src s0 s) : Src s0 (settleB s b) := by
  refine ⟨?_, h.g⟩
  show updF s.st b 2 s0 ≠ 0
  by_cases e : s0 = b
  · rw [e, updF_same]; decide
  · rw [updF_other _ _ e]; exact h.st

/-- An append of a row of cells, in a region that draws. -/
theorem wpIn_append_cc {F : Fence} {n : Nat} {K : Act → World → Prop} {Q : Exit → Act → World → Prop} {o : Oper} {a : Act} {w : World} (s x : Operand) (hop : o.op = .call { callee := .builtin .append, args := #[s, x], argTypes := #[33, 33] })
    (base : Nat) (v : Value) (k : Nat) (xs : List Value) (hs : a.eval s = v) (hown : w.ownsRow base 28 2 v k xs) (r : Option Addr) (c : Nat) (zs : List IC) (hx : a.eval x = .slice r zs.length c) (hr : RowC w r zs)
    (h63 : k + zs.length ≤ 1048576) (hbase : base ≤ w.heap.size)
    (h : ∀ v' w', w'.ownsRow base 28 2 v' (k + zs.length) (xs ++ flatC zs) → w.grownBy w' v.ownBlock → K (a.put o.dst v') w') : Oper.wpIn F n Tryd.prog o a w K Q := by
  obtain ⟨i0, hi, hz0, hz1, hz2⟩ := info_parts Tryd.infoCell
  have key : ∃ v' w', (Builtin.append_ #[33, 33] o.type #[v, .slice r zs.length c]).run Tryd.prog w = .ok v' w' ∧ w'.ownsRow base 28 2 v' (k + zs.length) (xs ++ flatC zs) ∧ w.grownBy w' v.ownBlock := by
    cases r with
    | none =>
      have hn : zs = [] := by
        rcases hr with h | ⟨b, o, e, _⟩
        · exact h
        · cases e
      subst hn
      exact ⟨v, w, run_append_none_c (P := Tryd.prog) (w := w) base 33 o.type 28 i0 2 c Tryd.underlying33 hi v k xs hown, by simpa [flatC] using hown, World.grownBy.refl _ _⟩
    | some ad =>
      obtain ⟨v', w', h1, h2, h3, _⟩ := run_append_own (P := Tryd.prog) w base 33 o.type 28 i0 (.agg #[.int .i64 0, .int .i64 0]) 2 16 Tryd.underlying33 hi hz0 hz1 hz2 rfl (by decide) v k xs hown ad zs.length c (flatC zs) (flatC_len2 zs) (fun j u hu => by
        rcases hr with rfl | ⟨b, o, e, hcell⟩
        · simp [flatC] at hu
        · cases e
          rw [addr_addQ]
          exact flC_cells zs hcell j u hu) (flC_one zs) (by unfold maxLen; omega) (by omega) hbase
      exact ⟨v', w', h1, h2, h3⟩
  obtain ⟨v', w', hrun, r1, r2⟩ := key
  unfold Oper.wpIn
  refine ⟨?_, ?_⟩
  · simp [Oper.about, hop, resolve, Target.leads, Sem.run_pure]
  · rw [Oper.semAt_plain F _ _ (by rw [hop]; intro c hc'; cases hc')]
    simp [execOp, hop, resolve, invoke, builtin, hs, hx, hrun, Result.andThen]
    exact h v' w' r1 r2

theorem wpIn_append_cm {F : Fence} {n : Nat} {K : Act → World → Prop} {Q : Exit → Act → World → Prop} {o : Oper} {a : Act} {w : World} (s x : Operand) (hop : o.op = .call { callee := .builtin .append, args := #[s, x], argTypes := #[33, 33] })
    (base : Nat) (v : Value) (k : Nat) (xs : List Value) (hs : a.eval s = v) (hown : w.ownsRow base 28 2 v k xs) (r : Option Addr) (m c : Nat) (zs : List IC) (hm : zs.length = m) (hx : a.eval x = .slice r m c) (hr : RowC w r zs)
    (h63 : k + m ≤ 1048576) (hbase : base ≤ w.heap.size)
    (h : ∀ v' w', w'.ownsRow base 28 2 v' (k + m) (xs ++ flatC zs) → w.grownBy w' v.ownBlock → K (a.put o.dst v') w') : Oper.wpIn F n Tryd.prog o a w K Q := by
  subst hm
  exact wpIn_append_cc s x hop base v k xs hs hown r c zs hx hr h63 hbase h

set_option maxRecDepth 100000 in
set_option maxHeartbeats 4000000 in
theorem rmayS_any (A H : Int) (a : Option Addr) (n cap : Nat) (F T : IC) (budget : Int) (w : World) :
    Calls Tryd.prog 12 #[.agg #[.int .i64 A, .int .i64 H, .slice a n cap], .agg #[.int .i64 F.1, .int .i64 F.2], .agg #[.int .i64 T.1, .int .i64 T.2], .int .i64 budget] w fun e w' => e = .returned (.int .i64 (errS A H n F T budget)) ∧ Below w.heap.size w w' := by
  have hA := bl0 w
  have HCK := Lib.hid (fun w => rcheck_any A H a n cap w)
  by_cases hc : chkF A H n = 0
  case neg =>
    have hE : errS A H n F T budget = chkF A H n := if_pos hc
    rw [hE]
    generalize chkF A H n = E at *
    have hb : (E != (0 : Int)) = true := by rw [bne_iff_ne]; exact hc
    clear hE hc
    go_enter Tryd.func12, Tryd.ntmps12
    go_wp2_with fail
    refine (HCK.out _).mono ?_
    rintro e W1 ⟨rfl, hb⟩
    have hk : Below w.heap.size w W1 := by first | exact hb | exact bl_tr (bl_al (bl0 _) _) hb | exact bl_tr (bl_dr (bl_al (bl0 _) _)) hb | exact bl_tr (bl_al (bl_al (bl0 _) _) _) hb | exact bl_tr (bl_dr (bl_al (bl_al (bl0 _) _) _)) hb | exact bl_tr (bl_al (bl_al (bl_al (bl0 _) _) _) _) hb | exact bl_tr (bl_dr (bl_al (bl_al (bl_al (bl0 _) _) _) _)) hb | exact bl_tr (bl_al (bl_al (bl_al (bl_al (bl0 _) _) _) _) _) hb | exact bl_tr (bl_dr (bl_al (bl_al (bl_al (bl_al (bl0 _) _) _) _) _)) hb | exact bl_tr (bl_al (bl_al (bl_al (bl_al (bl_al (bl0 _) _) _) _) _) _) hb | exact bl_tr (bl_dr (bl_al (bl_al (bl_al (bl_al (bl_al (bl0 _) _) _) _) _) _)) hb | exact bl_tr (bl_al (bl_al (bl_al (bl_al (bl_al (bl_al (bl0 _) _) _) _) _) _) _) hb | exact bl_tr (bl_dr (bl_al (bl_al (bl_al (bl_al (bl_al (bl_al (bl0 _) _) _) _) _) _) _)) hb | exact bl_tr (bl_dr (bl0 _)) hb
    replace hA := bl_tr hA hk
    clear hb hk
    go_wp2
    go_ret
    exact ⟨rfl, hA⟩
  case pos =>
  obtain ⟨hm, hn⟩ := chkF_may hc
  have HI1 := Lib.hid (fun w => rin10_any A H F w)
  have HI2 := Lib.hid (fun w => rin10_any A H T w)
  rw [inK10_on hm] at HI1 HI2
  rw [hc] at HCK
  by_cases hF : onB A H F = true
  case neg =>
    have hE : errS A H n F T budget = 10 := by unfold errS; rw [if_neg (fun q => q hc), if_neg (fun q => hF q.1)]
    rw [hE]
    rw [Bool.eq_false_iff.2 hF] at HI1
    clear hE hF hc hm hn
    go_enter Tryd.func12, Tryd.ntmps12
    go_wp2_with fail
    refine (HCK.out _).mono ?_
    rintro e W1 ⟨rfl, hb⟩
    have hk : Below w.heap.size w W1 := by first | exact hb | exact bl_tr (bl_al (bl0 _) _) hb | exact bl_tr (bl_dr (bl_al (bl0 _) _)) hb | exact bl_tr (bl_al (bl_al (bl0 _) _) _) hb | exact bl_tr (bl_dr (bl_al (bl_al (bl0 _) _) _)) hb | exact bl_tr (bl_al (bl_al (bl_al (bl0 _) _) _) _) hb | exact bl_tr (bl_dr (bl_al (bl_al (bl_al (bl0 _) _) _) _)) hb | exact bl_tr (bl_al (bl_al (bl_al (bl_al (bl0 _) _) _) _) _) hb | exact bl_tr (bl_dr (bl_al (bl_al (bl_al (bl_al (bl0 _) _) _) _) _)) hb | exact bl_tr (bl_al (bl_al (bl_al (bl_al (bl_al (bl0 _) _) _) _) _) _) hb | exact bl_tr (bl_dr (bl_al (bl_al (bl_al (bl_al (bl_al (bl0 _) _) _) _) _) _)) hb | exact bl_tr (bl_al (bl_al (bl_al (bl_al (bl_al (bl_al (bl0 _) _) _) _) _) _) _) hb | exact bl_tr (bl_dr (bl_al (bl_al (bl_al (bl_al (bl_al (bl_al (bl0 _) _) _) _) _) _) _)) hb | exact bl_tr (bl_dr (bl0 _)) hb
    replace hA := bl_tr hA hk
    have x0 := cell_later hb (v := .int .i64 A) (a := ⟨w.heap.size, 0, none⟩) (by simp [go_sem])
    have x1 := cell_later hb (v := .int .i64 H) (a := ⟨w.heap.size, 1, none⟩) (by simp [go_sem])
    have x2 := cell_later hb (v := .slice a n cap) (a := ⟨w.heap.size, 2, none⟩) (by simp [go_sem])
    have y0 := cell_later hb (v := .int .i64 F.1) (a := ⟨w.heap.size + 1, 0, none⟩) (by simp [go_sem])
    have y1 := cell_later hb (v := .int .i64 F.2) (a := ⟨w.heap.size + 1, 1, none⟩) (by simp [go_sem])
    have z0 := cell_later hb (v := .int .i64 T.1) (a := ⟨w.heap.size + 1 + 1, 0, none⟩) (by simp [go_sem])
    have z1 := cell_later hb (v := .int .i64 T.2) (a := ⟨w.heap.size + 1 + 1, 1, none⟩) (by simp [go_sem])
    clear hb hk
    have zx0 := blk_lt x0
    have zx1 := blk_lt x1
    have zx2 := blk_lt x2
    have zy0 := blk_lt y0
    have zy1 := blk_lt y1
    have zz0 := blk_lt z0
    have zz1 := blk_lt z1
    go_wp2_with fail
    refine (HI1.out _).mono ?_
    rintro e W2 ⟨rfl, hb⟩
    have hk : Below W1.heap.size W1 W2 := by first | exact hb | exact bl_tr (bl_al (bl0 _) _) hb | exact bl_tr (bl_dr (bl_al (bl0 _) _)) hb | exact bl_tr (bl_al (bl_al (bl0 _) _) _) hb | exact bl_tr (bl_dr (bl_al (bl_al (bl0 _) _) _)) hb | exact bl_tr (bl_al (bl_al (bl_al (bl0 _) _) _) _) hb | exact bl_tr (bl_dr (bl_al (bl_al (bl_al (bl0 _) _) _) _)) hb | exact bl_tr (bl_al (bl_al (bl_al (bl_al (bl0 _) _) _) _) _) hb | exact bl_tr (bl_dr (bl_al (bl_al (bl_al (bl_al (bl0 _) _) _) _) _)) hb | exact bl_tr (bl_al (bl_al (bl_al (bl_al (bl_al (bl0 _) _) _) _) _) _) hb | exact bl_tr (bl_dr (bl_al (bl_al (bl_al (bl_al (bl_al (bl0 _) _) _) _) _) _)) hb | exact bl_tr (bl_al (bl_al (bl_al (bl_al (bl_al (bl_al (bl0 _) _) _) _) _) _) _) hb | exact bl_tr (bl_dr (bl_al (bl_al (bl_al (bl_al (bl_al (bl_al (bl0 _) _) _) _) _) _) _)) hb | exact bl_tr (bl_dr (bl0 _)) hb
    replace hA := bl_tr hA hk
    replace x0 := cell_later hk x0
    replace x1 := cell_later hk x1
    replace y0 := cell_later hk y0
    replace y1 := cell_later hk y1
    replace z0 := cell_later hk z0
    replace z1 := cell_later hk z1
    clear hb hk
    have zx0 := blk_lt x0
    have zx1 := blk_lt x1
    have zy0 := blk_lt y0
    have zy1 := blk_lt y1
    have zz0 := blk_lt z0
    have zz1 := blk_lt z1
    go_wp2
    go_ret
    exact ⟨rfl, hA⟩
  case pos =>
  rw [hF] at HI1
  by_cases hT : onB A H T = true
  case neg =>
    have hE : errS A H n F T budget = 10 := by unfold errS; rw [if_neg (fun q => q hc), if_neg (fun q => hT q.2)]
    rw [hE]
    rw [Bool.eq_false_iff.2 hT] at HI2
    clear hE hF hT hc hm hn
    go_enter Tryd.func12, Tryd.ntmps12
    go_wp2_with fail
    refine (HCK.out _).mono ?_
    rintro e W1 ⟨rfl, hb⟩
    have hk : Below w.heap.size w W1 := by first | exact hb | exact bl_tr (bl_al (bl0 _) _) hb | exact bl_tr (bl_dr (bl_al (bl0 _) _)) hb | exact bl_tr (bl_al (bl_al (bl0 _) _) _) hb | exact bl_tr (bl_dr (bl_al (bl_al (bl0 _) _) _)) hb | exact bl_tr (bl_al (bl_al (bl_al (bl0 _) _) _) _) hb | exact bl_tr (bl_dr (bl_al (bl_al (bl_al (bl0 _) _) _) _)) hb | exact bl_tr (bl_al (bl_al (bl_al (bl_al (bl0 _) _) _) _) _) hb | exact bl_tr (bl_dr (bl_al (bl_al (bl_al (bl_al (bl0 _) _) _) _) _)) hb | exact bl_tr (bl_al (bl_al (bl_al (bl_al (bl_al (bl0 _) _) _) _) _) _) hb | exact bl_tr (bl_dr (bl_al (bl_al (bl_al (bl_al (bl_al (bl0 _) _) _) _) _) _)) hb | exact bl_tr (bl_al (bl_al (bl_al (bl_al (bl_al (bl_al (bl0 _) _) _) _) _) _) _) hb | exact bl_tr (bl_dr (bl_al (bl_al (bl_al (bl_al (bl_al (bl_al (bl0 _) _) _) _) _) _) _)) hb | exact bl_tr (bl_dr (bl0 _)) hb
    replace hA := bl_tr hA hk
    have x0 := cell_later hb (v := .int .i64 A) (a := ⟨w.heap.size, 0, none⟩) (by simp [go_sem])
    have x1 := cell_later hb (v := .int .i64 H) (a := ⟨w.heap.size, 1, none⟩) (by simp [go_sem])
    have x2 := cell_later hb (v := .slice a n cap) (a := ⟨w.heap.size, 2, none⟩) (by simp [go_sem])
    have y0 := cell_later hb (v := .int .i64 F.1) (a := ⟨w.heap.size + 1, 0, none⟩) (by simp [go_sem])
    have y1 := cell_later hb (v := .int .i64 F.2) (a := ⟨w.heap.size + 1, 1, none⟩) (by simp [go_sem])
    have z0 := cell_later hb (v := .int .i64 T.1) (a := ⟨w.heap.size + 1 + 1, 0, none⟩) (by simp [go_sem])
    have z1 := cell_later hb (v := .int .i64 T.2) (a := ⟨w.heap.size + 1 + 1, 1, none⟩) (by simp [go_sem])
    clear hb hk
    have zx0 := blk_lt x0
    have zx1 := blk_lt x1
    have zx2 := blk_lt x2
    have zy0 := blk_lt y0
    have zy1 := blk_lt y1
    have zz0 := blk_lt z0
    have zz1 := blk_lt z1
    go_wp2_with fail
    refine (HI1.out _).mono ?_
    rintro e W2 ⟨rfl, hb⟩
    have hk : Below W1.heap.size W1 W2 := by first | exact hb | exact bl_tr (bl_al (bl0 _) _) hb | exact bl_tr (bl_dr (bl_al (bl0 _) _)) hb | exact bl_tr (bl_al (bl_al (bl0 _) _) _) hb | exact bl_tr (bl_dr (bl_al (bl_al (bl0 _) _) _)) hb | exact bl_tr (bl_al (bl_al (bl_al (bl0 _) _) _) _) hb | exact bl_tr (bl_dr (bl_al (bl_al (bl_al (bl0 _) _) _) _)) hb | exact bl_tr (bl_al (bl_al (bl_al (bl_al (bl0 _) _) _) _) _) hb | exact bl_tr (bl_dr (bl_al (bl_al (bl_al (bl_al (bl0 _) _) _) _) _)) hb | exact bl_tr (bl_al (bl_al (bl_al (bl_al (bl_al (bl0 _) _) _) _) _) _) hb | exact bl_tr (bl_dr (bl_al (bl_al (bl_al (bl_al (bl_al (bl0 _) _) _) _) _) _)) hb | exact bl_tr (bl_al (bl_al (bl_al (bl_al (bl_al (bl_al (bl0 _) _) _) _) _) _) _) hb | exact bl_tr (bl_dr (bl_al (bl_al (bl_al (bl_al (bl_al (bl_al (bl0 _) _) _) _) _) _) _)) hb | exact bl_tr (bl_dr (bl0 _)) hb
    replace hA := bl_tr hA hk
    replace x0 := cell_later hk x0
    replace x1 := cell_later hk x1
    replace y0 := cell_later hk y0
    replace y1 := cell_later hk y1
    replace z0 := cell_later hk z0
    replace z1 := cell_later hk z1
    clear hb hk
    have zx0 := blk_lt x0
    have zx1 := blk_lt x1
    have zy0 := blk_lt y0
    have zy1 := blk_lt y1
    have zz0 := blk_lt z0
    have zz1 := blk_lt z1
    go_wp2_with fail
    refine (HI2.out _).mono ?_
    rintro e W3 ⟨rfl, hb⟩
    have hk : Below W2.heap.size W2 W3 := by first | exact hb | exact bl_tr (bl_al (bl0 _) _) hb | exact bl_tr (bl_dr (bl_al (bl0 _) _)) hb | exact bl_tr (bl_al (bl_al (bl0 _) _) _) hb | exact bl_tr (bl_dr (bl_al (bl_al (bl0 _) _) _)) hb | exact bl_tr (bl_al (bl_al (bl_al (bl0 _) _) _) _) hb | exact bl_tr (bl_dr (bl_al (bl_al (bl_al (bl0 _) _) _) _)) hb | exact bl_tr (bl_al (bl_al (bl_al (bl_al (bl0 _) _) _) _) _) hb | exact bl_tr (bl_dr (bl_al (bl_al (bl_al (bl_al (bl0 _) _) _) _) _)) hb | exact bl_tr (bl_al (bl_al (bl_al (bl_al (bl_al (bl0 _) _) _) _) _) _) hb | exact bl_tr (bl_dr (bl_al (bl_al (bl_al (bl_al (bl_al (bl0 _) _) _) _) _) _)) hb | exact bl_tr (bl_al (bl_al (bl_al (bl_al (bl_al (bl_al (bl0 _) _) _) _) _) _) _) hb | exact bl_tr (bl_dr (bl_al (bl_al (bl_al (bl_al (bl_al (bl_al (bl0 _) _) _) _) _) _) _)) hb | exact bl_tr (bl_dr (bl0 _)) hb
    replace hA := bl_tr hA hk
    replace x0 := cell_later hk x0
    replace x1 := cell_later hk x1
    clear hb hk
    have zx0 := blk_lt x0
    have zx1 := blk_lt x1
    go_wp2
    go_ret
    exact ⟨rfl, hA⟩
  case pos =>
  rw [hT] at HI2
  by_cases hB : budget < 0
  · have hE : errS A H n F T budget = 1 := by unfold errS; rw [if_neg (fun q => q hc), if_pos ⟨hF, hT⟩, if_pos hB]
    have hd : decide (budget < 0) = true := decide_eq_true hB
    rw [hE]
    clear hE hF hT hc hm hn hB
    go_enter Tryd.func12, Tryd.ntmps12
    go_wp2_with fail
    refine (HCK.out _).mono ?_
    rintro e W1 ⟨rfl, hb⟩
    have hk : Below w.heap.size w W1 := by first | exact hb | exact bl_tr (bl_al (bl0 _) _) hb | exact bl_tr (bl_dr (bl_al (bl0 _) _)) hb | exact bl_tr (bl_al (bl_al (bl0 _) _) _) hb | exact bl_tr (bl_dr (bl_al (bl_al (bl0 _) _) _)) hb | exact bl_tr (bl_al (bl_al (bl_al (bl0 _) _) _) _) hb | exact bl_tr (bl_dr (bl_al (bl_al (bl_al (bl0 _) _) _) _)) hb | exact bl_tr (bl_al (bl_al (bl_al (bl_al (bl0 _) _) _) _) _) hb | exact bl_tr (bl_dr (bl_al (bl_al (bl_al (bl_al (bl0 _) _) _) _) _)) hb | exact bl_tr (bl_al (bl_al (bl_al (bl_al (bl_al (bl0 _) _) _) _) _) _) hb | exact bl_tr (bl_dr (bl_al (bl_al (bl_al (bl_al (bl_al (bl0 _) _) _) _) _) _)) hb | exact bl_tr (bl_al (bl_al (bl_al (bl_al (bl_al (bl_al (bl0 _) _) _) _) _) _) _) hb | exact bl_tr (bl_dr (bl_al (bl_al (bl_al (bl_al (bl_al (bl_al (bl0 _) _) _) _) _) _) _)) hb | exact bl_tr (bl_dr (bl0 _)) hb
    replace hA := bl_tr hA hk
    have x0 := cell_later hb (v := .int .i64 A) (a := ⟨w.heap.size, 0, none⟩) (by simp [go_sem])
    have x1 := cell_later hb (v := .int .i64 H) (a := ⟨w.heap.size, 1, none⟩) (by simp [go_sem])
    have x2 := cell_later hb (v := .slice a n cap) (a := ⟨w.heap.size, 2, none⟩) (by simp [go_sem])
    have y0 := cell_later hb (v := .int .i64 F.1) (a := ⟨w.heap.size + 1, 0, none⟩) (by simp [go_sem])
    have y1 := cell_later hb (v := .int .i64 F.2) (a := ⟨w.heap.size + 1, 1, none⟩) (by simp [go_sem])
    have z0 := cell_later hb (v := .int .i64 T.1) (a := ⟨w.heap.size + 1 + 1, 0, none⟩) (by simp [go_sem])
    have z1 := cell_later hb (v := .int .i64 T.2) (a := ⟨w.heap.size + 1 + 1, 1, none⟩) (by simp [go_sem])
    clear hb hk
    have zx0 := blk_lt x0
    have zx1 := blk_lt x1
    have zx2 := blk_lt x2
    have zy0 := blk_lt y0
    have zy1 := blk_lt y1
    have zz0 := blk_lt z0
    have zz1 := blk_lt z1
    go_wp2_with fail
    refine (HI1.out _).mono ?_
    rintro e W2 ⟨rfl, hb⟩
    have hk : Below W1.heap.size W1 W2 := by first | exact hb | exact bl_tr (bl_al (bl0 _) _) hb | exact bl_tr (bl_dr (bl_al (bl0 _) _)) hb | exact bl_tr (bl_al (bl_al (bl0 _) _) _) hb | exact bl_tr (bl_dr (bl_al (bl_al (bl0 _) _) _)) hb | exact bl_tr (bl_al (bl_al (bl_al (bl0 _) _) _) _) hb | exact bl_tr (bl_dr (bl_al (bl_al (bl_al (bl0 _) _) _) _)) hb | exact bl_tr (bl_al (bl_al (bl_al (bl_al (bl0 _) _) _) _) _) hb | exact bl_tr (bl_dr (bl_al (bl_al (bl_al (bl_al (bl0 _) _) _) _) _)) hb | exact bl_tr (bl_al (bl_al (bl_al (bl_al (bl_al (bl0 _) _) _) _) _) _) hb | exact bl_tr (bl_dr (bl_al (bl_al (bl_al (bl_al (bl_al (bl0 _) _) _) _) _) _)) hb | exact bl_tr (bl_al (bl_al (bl_al (bl_al (bl_al (bl_al (bl0 _) _) _) _) _) _) _) hb | exact bl_tr (bl_dr (bl_al (bl_al (bl_al (bl_al (bl_al (bl_al (bl0 _) _) _) _) _) _) _)) hb | exact bl_tr (bl_dr (bl0 _)) hb
    replace hA := bl_tr hA hk
    replace x0 := cell_later hk x0
    replace x1 := cell_later hk x1
    replace y0 := cell_later hk y0
    replace y1 := cell_later hk y1
    replace z0 := cell_later hk z0
    replace z1 := cell_later hk z1
    clear hb hk
    have zx0 := blk_lt x0
    have zx1 := blk_lt x1
    have zy0 := blk_lt y0
    have zy1 := blk_lt y1
    have zz0 := blk_lt z0
    have zz1 := blk_lt z1
    go_wp2_with fail
    refine (HI2.out _).mono ?_
    rintro e W3 ⟨rfl, hb⟩
    have hk : Below W2.heap.size W2 W3 := by first | exact hb | exact bl_tr (bl_al (bl0 _) _) hb | exact bl_tr (bl_dr (bl_al (bl0 _) _)) hb | exact bl_tr (bl_al (bl_al (bl0 _) _) _) hb | exact bl_tr (bl_dr (bl_al (bl_al (bl0 _) _) _)) hb | exact bl_tr (bl_al (bl_al (bl_al (bl0 _) _) _) _) hb | exact bl_tr (bl_dr (bl_al (bl_al (bl_al (bl0 _) _) _) _)) hb | exact bl_tr (bl_al (bl_al (bl_al (bl_al (bl0 _) _) _) _) _) hb | exact bl_tr (bl_dr (bl_al (bl_al (bl_al (bl_al (bl0 _) _) _) _) _)) hb | exact bl_tr (bl_al (bl_al (bl_al (bl_al (bl_al (bl0 _) _) _) _) _) _) hb | exact bl_tr (bl_dr (bl_al (bl_al (bl_al (bl_al (bl_al (bl0 _) _) _) _) _) _)) hb | exact bl_tr (bl_al (bl_al (bl_al (bl_al (bl_al (bl_al (bl0 _) _) _) _) _) _) _) hb | exact bl_tr (bl_dr (bl_al (bl_al (bl_al (bl_al (bl_al (bl_al (bl0 _) _) _) _) _) _) _)) hb | exact bl_tr (bl_dr (bl0 _)) hb
    replace hA := bl_tr hA hk
    replace x0 := cell_later hk x0
    replace x1 := cell_later hk x1
    clear hb hk
    have zx0 := blk_lt x0
    have zx1 := blk_lt x1
    go_wp2
    go_ret
    exact ⟨rfl, hA⟩
  · have hE : errS A H n F T budget = 0 := by unfold errS; rw [if_neg (fun q => q hc), if_pos ⟨hF, hT⟩, if_neg hB]
    have hd : decide (budget < 0) = false := decide_eq_false hB
    rw [hE]
    clear hE hF hT hc hm hn hB
    go_enter Tryd.func12, Tryd.ntmps12
    go_wp2_with fail
    refine (HCK.out _).mono ?_
    rintro e W1 ⟨rfl, hb⟩
    have hk : Below w.heap.size w W1 := by first | exact hb | exact bl_tr (bl_al (bl0 _) _) hb | exact bl_tr (bl_dr (bl_al (bl0 _) _)) hb | exact bl_tr (bl_al (bl_al (bl0 _) _) _) hb | exact bl_tr (bl_dr (bl_al (bl_al (bl0 _) _) _)) hb | exact bl_tr (bl_al (bl_al (bl_al (bl0 _) _) _) _) hb | exact bl_tr (bl_dr (bl_al (bl_al (bl_al (bl0 _) _) _) _)) hb | exact bl_tr (bl_al (bl_al (bl_al (bl_al (bl0 _) _) _) _) _) hb | exact bl_tr (bl_dr (bl_al (bl_al (bl_al (bl_al (bl0 _) _) _) _) _)) hb | exact bl_tr (bl_al (bl_al (bl_al (bl_al (bl_al (bl0 _) _) _) _) _) _) hb | exact bl_tr (bl_dr (bl_al (bl_al (bl_al (bl_al (bl_al (bl0 _) _) _) _) _) _)) hb | exact bl_tr (bl_al (bl_al (bl_al (bl_al (bl_al (bl_al (bl0 _) _) _) _) _) _) _) hb | exact bl_tr (bl_dr (bl_al (bl_al (bl_al (bl_al (bl_al (bl_al (bl0 _) _) _) _) _) _) _)) hb | exact bl_tr (bl_dr (bl0 _)) hb
    replace hA := bl_tr hA hk
    have x0 := cell_later hb (v := .int .i64 A) (a := ⟨w.heap.size, 0, none⟩) (by simp [go_sem])
    have x1 := cell_later hb (v := .int .i64 H) (a := ⟨w.heap.size, 1, none⟩) (by simp [go_sem])
    have x2 := cell_later hb (v := .slice a n cap) (a := ⟨w.heap.size, 2, none⟩) (by simp [go_sem])
    have y0 := cell_later hb (v := .int .i64 F.1) (a := ⟨w.heap.size + 1, 0, none⟩) (by simp [go_sem])
    have y1 := cell_later hb (v := .int .i64 F.2) (a := ⟨w.heap.size + 1, 1, none⟩) (by simp [go_sem])
    have z0 := cell_later hb (v := .int .i64 T.1) (a := ⟨w.heap.size + 1 + 1, 0, none⟩) (by simp [go_sem])
    have z1 := cell_later hb (v := .int .i64 T.2) (a := ⟨w.heap.size + 1 + 1, 1, none⟩) (by simp [go_sem])
    clear hb hk
    have zx0 := blk_lt x0
    have zx1 := blk_lt x1
    have zx2 := blk_lt x2
    have zy0 := blk_lt y0
    have zy1 := blk_lt y1
    have zz0 := blk_lt z0
    have zz1 := blk_lt z1
    go_wp2_with fail
    refine (HI1.out _).mono ?_
    rintro e W2 ⟨rfl, hb⟩
    have hk : Below W1.heap.size W1 W2 := by first | exact hb | exact bl_tr (bl_al (bl0 _) _) hb | exact bl_tr (bl_dr (bl_al (bl0 _) _)) hb | exact bl_tr (bl_al (bl_al (bl0 _) _) _) hb | exact bl_tr (bl_dr (bl_al (bl_al (bl0 _) _) _)) hb | exact bl_tr (bl_al (bl_al (bl_al (bl0 _) _) _) _) hb | exact bl_tr (bl_dr (bl_al (bl_al (bl_al (bl0 _) _) _) _)) hb | exact bl_tr (bl_al (bl_al (bl_al (bl_al (bl0 _) _) _) _) _) hb | exact bl_tr (bl_dr (bl_al (bl_al (bl_al (bl_al (bl0 _) _) _) _) _)) hb | exact bl_tr (bl_al (bl_al (bl_al (bl_al (bl_al (bl0 _) _) _) _) _) _) hb | exact bl_tr (bl_dr (bl_al (bl_al (bl_al (bl_al (bl_al (bl0 _) _) _) _) _) _)) hb | exact bl_tr (bl_al (bl_al (bl_al (bl_al (bl_al (bl_al (bl0 _) _) _) _) _) _) _) hb | exact bl_tr (bl_dr (bl_al (bl_al (bl_al (bl_al (bl_al (bl_al (bl0 _) _) _) _) _) _) _)) hb | exact bl_tr (bl_dr (bl0 _)) hb
    replace hA := bl_tr hA hk
    replace x0 := cell_later hk x0
    replace x1 := cell_later hk x1
    replace y0 := cell_later hk y0
    replace y1 := cell_later hk y1
    replace z0 := cell_later hk z0
    replace z1 := cell_later hk z1
    clear hb hk
    have zx0 := blk_lt x0
    have zx1 := blk_lt x1
    have zy0 := blk_lt y0
    have zy1 := blk_lt y1
    have zz0 := blk_lt z0
    have zz1 := blk_lt z1
    go_wp2_with fail
    refine (HI2.out _).mono ?_
    rintro e W3 ⟨rfl, hb⟩
    have hk : Below W2.heap.size W2 W3 := by first | exact hb | exact bl_tr (bl_al (bl0 _) _) hb | exact bl_tr (bl_dr (bl_al (bl0 _) _)) hb | exact bl_tr (bl_al (bl_al (bl0 _) _) _) hb | exact bl_tr (bl_dr (bl_al (bl_al (bl0 _) _) _)) hb | exact bl_tr (bl_al (bl_al (bl_al (bl0 _) _) _) _) hb | exact bl_tr (bl_dr (bl_al (bl_al (bl_al (bl0 _) _) _) _)) hb | exact bl_tr (bl_al (bl_al (bl_al (bl_al (bl0 _) _) _) _) _) hb | exact bl_tr (bl_dr (bl_al (bl_al (bl_al (bl_al (bl0 _) _) _) _) _)) hb | exact bl_tr (bl_al (bl_al (bl_al (bl_al (bl_al (bl0 _) _) _) _) _) _) hb | exact bl_tr (bl_dr (bl_al (bl_al (bl_al (bl_al (bl_al (bl0 _) _) _) _) _) _)) hb | exact bl_tr (bl_al (bl_al (bl_al (bl_al (bl_al (bl_al (bl0 _) _) _) _) _) _) _) hb | exact bl_tr (bl_dr (bl_al (bl_al (bl_al (bl_al (bl_al (bl_al (bl0 _) _) _) _) _) _) _)) hb | exact bl_tr (bl_dr (bl0 _)) hb
    replace hA := bl_tr hA hk
    replace x0 := cell_later hk x0
    replace x1 := cell_later hk x1
    clear hb hk
    have zx0 := blk_lt x0
    have zx1 := blk_lt x1
    go_wp2
    go_ret
    exact ⟨rfl, hA⟩
end Go.Proofs.YtldpajfendkhbaaDoor
