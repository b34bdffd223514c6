/- Rows of cells appended whole. -/
import Derived.Test.YtldpajfendkhbaaDoorCl
import Derived.Test.YtldpajfendkhbaaDoorOw
namespace Go.Proofs.YtldpajfendkhbaaDoor
open Go.RowKit

theorem addr_addQ (b o k : Nat) : (⟨b, o, none⟩ : Addr).add k = ⟨b, o + k, none⟩ := by unfold Addr.add; split <;> simp_all
theorem flC_one (zs : List IC) : ∀ u ∈ flatC zs, u.oneCell' = true := by
  intro u hu
  simp only [flatC, List.mem_flatMap] at hu
  obtain ⟨z, _, hz⟩ := hu
  simp at hz
  rcases hz with rfl | rfl <;> rfl
theorem flC_cells {W : World} {b o : Nat} : ∀ (zs : List IC), (∀ (i : Nat) (z : IC), zs[i]? = some z → W.cell? ⟨b, o + i * 2, none⟩ = some (.int .i64 z.1) ∧ W.cell? ⟨b, o + i * 2 + 1, none⟩ = some (.int .i64 z.2)) → ∀ (j : Nat) u, (flatC zs)[j]? = some u → W.cell? ⟨b, o + j, none⟩ = some u := by
  intro zs h j u hu
  have hj : j < (flatC zs).length := (List.getElem?_eq_some_iff.1 hu).1
  have hl := flatC_len2 zs
  obtain ⟨z, hz⟩ : ∃ z, zs[j / 2]? = some z := ⟨_, List.getElem?_eq_getElem (by omega)⟩
  obtain ⟨h0, h1⟩ := h _ _ hz
  obtain ⟨e0, e1⟩ := flatC_at zs _ _ hz
  rcases Nat.mod_two_eq_zero_or_one j with m | m
  · rw [show j / 2 * 2 = j by omega] at h0 e0
    rw [hu] at e0; cases e0
    exact h0
  · rw [show j / 2 * 2 + 1 = j by omega] at e1
    rw [show o + j / 2 * 2 + 1 = o + j by omega] at h1
    rw [hu] at e1; cases e1
    exact h1
/-- A row of cells, nil or not, appended whole. -/
theorem wpList_append_rowQ {w : World} {ops : Array Oper} {rest : List Oper} {o : Oper} {a : Act} {Q : Exit → Act → World → Prop} (hgd : o.guard = none) (s x : Operand)
    (ho : o.op = .call { callee := .builtin .append, args := #[s, x], argTypes := #[33, 33] })
    (base : Nat) (v : Value) (n : Nat) (xs : List Value) (hs : a.eval s = v) (hown : w.ownsRow base 28 2 v n xs) (r : Option Addr) (c : Nat) (zs : List IC) (hx : a.eval x = .slice r zs.length c) (hr : RowC w r zs)
    (h63 : n + zs.length ≤ 1048576) (hbase : base ≤ w.heap.size)
    (h : ∀ v' w', w'.ownsRow base 28 2 v' (n + zs.length) (xs ++ flatC zs) → w.grownBy w' v.ownBlock → wpList Tryd.prog ops Q rest (a.put o.dst v') w') : wpList Tryd.prog ops Q (o :: rest) a w := by
  obtain ⟨i0, hi, hz0, hz1, hz2⟩ := info_parts Tryd.infoCell
  cases r with
  | none =>
    have hn : zs = [] := by
      rcases hr with h | ⟨b, o, e, _⟩
      · exact h
      · cases e
    subst hn
    refine wpList_plain hgd fun K hK => ?_
    have hrun := run_append_none_c (P := Tryd.prog) (w := w) base 33 o.type 28 i0 2 c Tryd.underlying33 hi v n xs hown
    unfold Oper.wp
    simp only [List.length_nil] at hx
    simp [execOp, ho, resolve, invoke, builtin, hs, hx, hrun, Result.andThen]
    exact hK _ _ (h v w (by simpa [flatC] using hown) (World.grownBy.refl _ _))
  | some ad =>
    refine wpList_append_own w hgd s x 33 ho base 28 i0 (.agg #[.int .i64 0, .int .i64 0]) 2 16 Tryd.underlying33 hi hz0 hz1 hz2 rfl (by decide) v n xs hs hown ad zs.length c (flatC zs) hx (flatC_len2 zs) ?_ (flC_one zs) (by unfold maxLen; omega) (by omega) hbase (fun v' w' h1 h2 _ => h v' w' h1 h2)
    intro j u hu
    rcases hr with rfl | ⟨b, o, e, hcell⟩
    · simp [flatC] at hu
    · cases e
      rw [addr_addQ]
      exact flC_cells zs hcell j u hu
theorem wpList_append_rowN {w : World} {ops : Array Oper} {rest : List Oper} {o : Oper} {a : Act} {Q : Exit → Act → World → Prop} (hgd : o.guard = none) (s x : Operand)
    (ho : o.op = .call { callee := .builtin .append, args := #[s, x], argTypes := #[33, 33] })
    (base : Nat) (v : Value) (n : Nat) (xs : List Value) (hs : a.eval s = v) (hown : w.ownsRow base 28 2 v n xs) (r : Option Addr) (m c : Nat) (zs : List IC) (hm : zs.length = m) (hx : a.eval x = .slice r m c) (hr : RowC w r zs)
    (h63 : n + m ≤ 1048576) (hbase : base ≤ w.heap.size)
    (h : ∀ v' w', w'.ownsRow base 28 2 v' (n + m) (xs ++ flatC zs) → w.grownBy w' v.ownBlock → wpList Tryd.prog ops Q rest (a.put o.dst v') w') : wpList Tryd.prog ops Q (o :: rest) a w := by
  subst hm
  exact wpList_append_rowQ hgd s x ho base v n xs hs hown r c zs hx hr h63 hbase h
theorem flatC_appQ (xs ys : List IC) : flatC xs ++ flatC ys = flatC (xs ++ ys) := by simp [flatC]
theorem own_litC {w : World} {B : Nat} {c : IC} {t : TypeId} (hB : B ≤ w.heap.size) : (w.alloc (.cells #[.int .i64 c.1, .int .i64 c.2] t)).ownsRow B t 2 (.slice (some ⟨w.heap.size, 0, none⟩) 1 1) 1 (flatC [c]) :=
  ⟨rfl, .inr ⟨w.heap.size, 1, #[.int .i64 c.1, .int .i64 c.2], rfl, hB, heap_alloc_new w _, Nat.le_refl _, by unfold maxLen; omega, rfl, rfl⟩⟩
theorem own_emptyS {w : World} {B : Nat} (t : TypeId) (hB : B ≤ w.heap.size) : (w.alloc (.cells #[] t)).ownsRow B t 2 (.slice (some ⟨w.heap.size, 0, none⟩) 0 0) 0 [] :=
  ⟨rfl, .inr ⟨w.heap.size, 0, #[], rfl, hB, heap_alloc_new w _, Nat.le_refl _, Nat.zero_le _, rfl, rfl⟩⟩
end Go.Proofs.YtldpajfendkhbaaDoor
