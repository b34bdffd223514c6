/- A row of costs appended whole. -/
import Derived.Test.YtldpajfendkhbaaDoorCzr
import Derived.Test.YtldpajfendkhbaaDoorC1
import Derived.Test.YtldpajfendkhbaaDoorOs
namespace Go.Proofs.YtldpajfendkhbaaDoor
open Go.RowKit

theorem hh_one (zs : List Int) : ∀ u ∈ cellsHH zs, u.oneCell' = true := by
  intro u hu
  simp only [cellsHH, List.mem_map] at hu
  obtain ⟨z, _, rfl⟩ := hu
  rfl
theorem hh_len (zs : List Int) : (cellsHH zs).length = zs.length := by simp [cellsHH]
theorem wpList_append_rowHH {w : World} {ops : Array Oper} {rest : List Oper} {o : Oper} {a : Act} {Q : Exit → Act → World → Prop} (hgd : o.guard = none) (s x : Operand)
    (ho : o.op = .call { callee := .builtin .append, args := #[s, x], argTypes := #[24, 24] })
    (base : Nat) (v : Value) (n : Nat) (xs : List Value) (hs : a.eval s = v) (hown : w.ownsRow base 50 1 v n xs) (r : Option Addr) (c : Nat) (zs : List Int) (hx : a.eval x = .slice r zs.length c) (hr : RowH w r zs)
    (h63 : n + zs.length ≤ 1048576) (hbase : base ≤ w.heap.size)
    (h : ∀ v' w', w'.ownsRow base 50 1 v' (n + zs.length) (xs ++ cellsHH zs) → w.grownBy w' v.ownBlock → wpList Tryd.prog ops Q rest (a.put o.dst v') w') : wpList Tryd.prog ops Q (o :: rest) a w := by
  obtain ⟨i0, hi, hz0, hz1, hz2⟩ := info_parts Tryd.infoH
  cases r with
  | none =>
    have hn : zs = [] := by
      rcases hr with h | ⟨b, o, e, _⟩
      · exact h
      · cases e
    subst hn
    refine wpList_plain hgd fun K hK => ?_
    have hrun := run_append_none_c (P := Tryd.prog) (w := w) base 24 o.type 50 i0 1 c Tryd.underlying24 hi v n xs hown
    unfold Oper.wp
    simp only [List.length_nil] at hx
    simp [execOp, ho, resolve, invoke, builtin, hs, hx, hrun, Result.andThen]
    exact hK _ _ (h v w (by simpa [cellsHH] using hown) (World.grownBy.refl _ _))
  | some ad =>
    refine wpList_append_own w hgd s x 24 ho base 50 i0 (.int .u16 0) 1 2 Tryd.underlying24 hi hz0 hz1 hz2 rfl (by decide) v n xs hs hown ad zs.length c (cellsHH zs) hx (by simp [hh_len]) ?_ (hh_one zs) (by unfold maxLen; omega) (by omega) hbase (fun v' w' h1 h2 _ => h v' w' h1 h2)
    intro j u hu
    rcases hr with rfl | ⟨b, o, e, hcell⟩
    · simp [cellsHH] at hu
    · cases e
      rw [addr_addQ]
      simp only [cellsHH, List.getElem?_map, Option.map_eq_some_iff] at hu
      obtain ⟨z, hz, rfl⟩ := hu
      exact hcell j z hz
theorem ordS_pair {F : Fence} {n : Nat} {P : Program} {ops : Array Oper} {Q : Exit → Act → World → Prop} {md : Region.Mode} {S : World → Prop} {i j : Nat} {o o2 : Oper} {k : Nat} {l : Array Bool} {a : Act} {w : World} (hr : Region.ready md ops l = [i, j]) (ho : ops[i]? = some o) (hw : Region.wanted o (yielded ops a.tmps) = true) (ho2 : ops[j]? = some o2) (hw2 : Region.wanted o2 (yielded ops a.tmps) = true)
    (h : ∀ K : Act → World → Prop, (∀ a1 w1, S w1 → OrdS F n P md ops Q S k (l.setIfInBounds i true) a1 w1 → K a1 w1) → Oper.wpIn F n P o a w K Q)
    (h2 : ∀ K : Act → World → Prop, (∀ a1 w1, S w1 → OrdS F n P md ops Q S k (l.setIfInBounds j true) a1 w1 → K a1 w1) → Oper.wpIn F n P o2 a w K Q) : OrdS F n P md ops Q S (k + 1) l a w := by
  refine ⟨fun h0 => absurd (hr.symm.trans h0) (by simp), fun x hx => ?_⟩
  rw [hr] at hx
  rcases List.mem_cons.1 hx with rfl | hx
  · refine wpOpIn_step ho fun K' hK' => ?_
    rw [if_pos hw]
    exact h K' fun a1 w1 hs hrest => hK' a1 w1 ⟨hs, hrest⟩
  · obtain rfl := List.mem_singleton.1 hx
    refine wpOpIn_step ho2 fun K' hK' => ?_
    rw [if_pos hw2]
    exact h2 K' fun a1 w1 hs hrest => hK' a1 w1 ⟨hs, hrest⟩
/-- An append of a row of costs, in a region that draws. -/
theorem wpIn_append_hh {F : Fence} {n : Nat} {K : Act → World → Prop} {Q : Exit → Act → World → Prop} {o : Oper} {a : Act} {w : World} (s x : Operand) (hop : o.op = .call { callee := .builtin .append, args := #[s, x], argTypes := #[24, 24] })
    (base : Nat) (v : Value) (k : Nat) (xs : List Value) (hs : a.eval s = v) (hown : w.ownsRow base 50 1 v k xs) (r : Option Addr) (c : Nat) (zs : List Int) (hx : a.eval x = .slice r zs.length c) (hr : RowH w r zs)
    (h63 : k + zs.length ≤ 1048576) (hbase : base ≤ w.heap.size)
    (h : ∀ v' w', w'.ownsRow base 50 1 v' (k + zs.length) (xs ++ cellsHH zs) → w.grownBy w' v.ownBlock → K (a.put o.dst v') w') : Oper.wpIn F n Tryd.prog o a w K Q := by
  obtain ⟨i0, hi, hz0, hz1, hz2⟩ := info_parts Tryd.infoH
  have key : ∃ v' w', (Builtin.append_ #[24, 24] o.type #[v, .slice r zs.length c]).run Tryd.prog w = .ok v' w' ∧ w'.ownsRow base 50 1 v' (k + zs.length) (xs ++ cellsHH zs) ∧ w.grownBy w' v.ownBlock := by
    cases r with
    | none =>
      have hn : zs = [] := by
        rcases hr with h | ⟨b, o, e, _⟩
        · exact h
        · cases e
      subst hn
      exact ⟨v, w, run_append_none_c (P := Tryd.prog) (w := w) base 24 o.type 50 i0 1 c Tryd.underlying24 hi v k xs hown, by simpa [cellsHH] using hown, World.grownBy.refl _ _⟩
    | some ad =>
      obtain ⟨v', w', h1, h2, h3, _⟩ := run_append_own (P := Tryd.prog) w base 24 o.type 50 i0 (.int .u16 0) 1 2 Tryd.underlying24 hi hz0 hz1 hz2 rfl (by decide) v k xs hown ad zs.length c (cellsHH zs) (by simp [hh_len]) (fun j u hu => by
        rcases hr with rfl | ⟨b, o, e, hcell⟩
        · simp [cellsHH] at hu
        · cases e
          rw [addr_addQ]
          simp only [cellsHH, List.getElem?_map, Option.map_eq_some_iff] at hu
          obtain ⟨z, hz, rfl⟩ := hu
          exact hcell j z hz) (hh_one zs) (by unfold maxLen; omega) (by omega) hbase
      exact ⟨v', w', h1, h2, h3⟩
  obtain ⟨v', w', hrun, r1, r2⟩ := key
  unfold Oper.wpIn
  refine ⟨?_, ?_⟩
  · simp [Oper.about, hop, resolve, Target.leads, Sem.run_pure]
  · rw [Oper.semAt_plain F _ _ (by rw [hop]; intro c hc'; cases hc')]
    simp [execOp, hop, resolve, invoke, builtin, hs, hx, hrun, Result.andThen]
    exact h v' w' r1 r2
theorem own_setHH {W : World} {B n cap g : Nat} {zs : List Int} (h : W.ownsRow B 50 1 (.slice (some ⟨g, 0, none⟩) n cap) n (cellsHH zs)) (j : Nat) (v : Int) : (W.setCell ⟨g, j, none⟩ (.int .u16 v)).ownsRow B 50 1 (.slice (some ⟨g, 0, none⟩) n cap) n (cellsHH (zs.set j v)) := by
  have hs : cellsHH (zs.set j v) = (cellsHH zs).set j (.int .u16 v) := by simp [cellsHH, List.map_set]
  rw [hs]
  refine ⟨by simpa using h.1, ?_⟩
  rcases h.2 with ⟨e, _⟩ | ⟨g', cap', cur, e, hB, hg, l1, l2, l3, l4⟩
  · cases e
  · cases e
    refine .inr ⟨g, cap, _, rfl, hB, hset_same W g j cur _ (.int .u16 v) hg, l1, l2, by simpa using l3, ?_⟩
    simp only [Array.toList_setIfInBounds]
    rw [List.take_set, l4]
theorem own_emptyH {w : World} {B : Nat} (t : TypeId) (hB : B ≤ w.heap.size) : (w.alloc (.cells #[] t)).ownsRow B t 1 (.slice (some ⟨w.heap.size, 0, none⟩) 0 0) 0 [] :=
  ⟨rfl, .inr ⟨w.heap.size, 0, #[], rfl, hB, heap_alloc_new w _, Nat.le_refl _, Nat.zero_le _, rfl, rfl⟩⟩
theorem rowH_ownS {W : World} {B n cap : Nat} {pa : Option Addr} {xs : List Int} (h : W.ownsRow B 50 1 (.slice pa n cap) n (cellsHH xs)) : RowH W pa xs := by
  rcases h.2 with ⟨q, e⟩ | ⟨g', cap', cur, e, _⟩
  · subst e
    have hl := h.1
    rw [hh_len] at hl
    exact .inl (List.eq_nil_of_length_eq_zero (by omega))
  · cases e
    refine .inr ⟨g', 0, rfl, fun i z hz => ?_⟩
    have := h.cells (g := g') rfl i (.int .u16 z) (by simp [cellsHH, hz])
    rw [addr_addQ] at this
    exact this
end Go.Proofs.YtldpajfendkhbaaDoor
