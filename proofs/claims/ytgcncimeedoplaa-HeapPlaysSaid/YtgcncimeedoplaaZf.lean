/- Heap's laws: what the reference's Pop wants: which thing goes first, rows cut and joined. -/
import Derived.Test.YtgcncimeedoplaaZd
namespace Go.Proofs.Ytgcncimeedoplaa
open Go.RowKit Go.Maps

theorem ahead_lessB {a b : Th} (h : lessK a b = true) : aheadT a b = true := by
  unfold aheadT
  cases hs : sameK a b
  · simpa using h
  · unfold sameK at hs
    obtain ⟨h1, h2, h3, h4⟩ := of_decide_eq_true hs
    rw [(less_same h1 h2 h3 h4).1] at h; cases h
theorem ahead_more {a b : Th} (h : lessK b a = true) : aheadT a b = false := by
  unfold aheadT
  cases hs : sameK a b
  · unfold sameK at hs
    rcases less_diff (of_decide_eq_false hs) with q | q
    · rw [q.2] at h; cases h
    · simpa using q.1
  · unfold sameK at hs
    obtain ⟨h1, h2, h3, h4⟩ := of_decide_eq_true hs
    rw [(less_same h1 h2 h3 h4).2] at h; cases h
theorem ahead_like {a b : Th} (h1 : lessK a b = false) (h2 : lessK b a = false) : aheadT a b = decide (a.id < b.id) := by
  unfold aheadT
  cases hs : sameK a b
  · unfold sameK at hs
    rcases less_diff (of_decide_eq_false hs) with q | q
    · rw [q.1] at h1; cases h1
    · rw [q.2] at h2; cases h2
  · rfl
/-- The best of the first k things. -/
def BestR (m : List Th) (k : Nat) (r : Int) : Prop := k = 0 ∧ r = -1 ∨ ∃ j : Nat, r = j ∧ j < k ∧ ∀ i, i < k → aheadT (atT m i) (atT m j) = false
theorem best_new {m : List Th} {k j : Nat} (h : ∀ i, i < k → aheadT (atT m i) (atT m j) = false) (ha : aheadT (atT m k) (atT m j) = true) : BestR m (k + 1) k := by
  refine .inr ⟨k, rfl, by omega, fun i hi => ?_⟩
  by_cases e : i = k
  · rw [e]; exact ahead_irr _
  · have h1 := h i (by omega)
    cases h2 : aheadT (atT m i) (atT m k)
    · rfl
    · rw [ahead_trans h2 ha] at h1; cases h1
theorem best_old {m : List Th} {k j : Nat} (hj : j < k) (h : ∀ i, i < k → aheadT (atT m i) (atT m j) = false) (ha : aheadT (atT m k) (atT m j) = false) : BestR m (k + 1) j := by
  refine .inr ⟨j, rfl, by omega, fun i hi => ?_⟩
  by_cases e : i = k
  · rw [e]; exact ha
  · exact h i (by omega)
theorem best_one (m : List Th) : BestR m (0 + 1) ((0 : Nat) : Int) := .inr ⟨0, rfl, by omega, fun i hi => by rw [show i = 0 by omega]; exact ahead_irr _⟩
theorem pop_at {m : List Th} (hn : (m.map Th.id).Nodup) {j : Nat} (hj : j < m.length) (hf : firstT m = atT m j) : popM m = m.take j ++ m.drop (j + 1) := by
  have ej : atT m j = m[j] := by simp [atT, List.getD_eq_getElem?_getD, hj]
  have e : m = m.take j ++ m[j] :: m.drop (j + 1) := by rw [← List.drop_eq_getElem_cons hj, List.take_append_drop]
  unfold popM
  rw [hf, ej]
  generalize m[j] = t at *
  generalize m.take j = l1 at *
  generalize m.drop (j + 1) = l2 at *
  clear hf ej hj
  subst e
  rw [List.map_append, List.map_cons, List.nodup_append] at hn
  obtain ⟨_, n2, n3⟩ := hn
  rw [List.nodup_cons] at n2
  refine filter_one (by simp) (fun x hx => decide_eq_true fun e3 => n3 x.id (List.mem_map.2 ⟨x, hx, rfl⟩) t.id (by simp) e3) (fun x hx => decide_eq_true fun e3 => n2.1 (List.mem_map.2 ⟨x, hx, e3⟩))
theorem Sep.perm {W : World} {B : Nat} {l l' : List Own} (h : Sep W B l) (hp : l.Perm l') : Sep W B l' := by
  obtain ⟨h0, Z, h1, h2, h3⟩ := h
  have hz : ∀ {x y : List Own}, x.Perm y → ∀ Z : List (Own × (Nat → Prop)), Z.map Prod.fst = x → ∃ Z' : List (Own × (Nat → Prop)), Z'.Perm Z ∧ Z'.map Prod.fst = y := by
    intro x y hxy
    induction hxy with
    | nil => intro Z h; exact ⟨Z, List.Perm.refl _, h⟩
    | cons a _ ih =>
      intro Z h
      obtain ⟨z, Z2, rfl, e1, e2⟩ := List.map_eq_cons_iff.1 h
      obtain ⟨Z', q1, q2⟩ := ih Z2 e2
      exact ⟨z :: Z', q1.cons z, by rw [List.map_cons, q2, e1]⟩
    | swap a b l =>
      intro Z h
      obtain ⟨z, Z2, rfl, e1, e2⟩ := List.map_eq_cons_iff.1 h
      obtain ⟨y, Z3, rfl, e3, e4⟩ := List.map_eq_cons_iff.1 e2
      exact ⟨y :: z :: Z3, List.Perm.swap _ _ _, by rw [List.map_cons, List.map_cons, e1, e3, e4]⟩
    | trans _ _ ih1 ih2 =>
      intro Z h
      obtain ⟨Z1, q1, q2⟩ := ih1 Z h
      obtain ⟨Z2, q3, q4⟩ := ih2 Z1 q2
      exact ⟨Z2, q3.trans q1, q4⟩
  obtain ⟨Z', q1, q2⟩ := hz hp Z h1
  exact ⟨h0, Z', q2, fun z hz => h2 z (q1.mem_iff.1 hz), h3.perm q1.symm (fun {x y} h k hk hx => h k hx hk)⟩

theorem wpList_append_manyI {w : World} {ops : Array Oper} {rest : List Oper} {o : Oper} {a : Act} {Q : Exit → Act → World → Prop} (hgd : o.guard = none) (s x : Operand)
    (ho : o.op = .call { callee := .builtin .append, args := #[s, x], argTypes := #[36, 36] })
    {B : Nat} {l1 l2 : List Own} {v : Value} {n : Nat} {xs : List Value} (h : Sep w B (l1 ++ RowO 3 1 v n xs :: l2)) (hn : n ≤ 1000) (hs : a.eval s = v)
    (ad : Addr) (q c : Nat) (news : List Value) (hx : a.eval x = .slice (some ad) q c) (hl : news.length = q * 1) (hq : q ≤ 1000) (hc : ∀ j u, news[j]? = some u → w.cell? (ad.add j) = some u) (h1 : ∀ u ∈ news, u.oneCell' = true)
    (hQ : ∀ v' w', Sep w' B (l1 ++ RowO 3 1 v' (n + q) (xs ++ news) :: l2) → Below B w w' → wpList Try.prog ops Q rest (a.put o.dst v') w') : wpList Try.prog ops Q (o :: rest) a w := by
  obtain ⟨i0, hi, hz0, hz1, hz2⟩ := info_parts Try.infoI
  refine wpList_append_own_at _ hgd s x 36 ho 0 3 i0 (.int .i64 0) 1 8 Try.underlying36 hi hz0 hz1 hz2 rfl (by decide) _ n xs hs h.own ad q c news hx hl hc h1 (by unfold maxLen; omega) (by omega) (Nat.zero_le _) (fun v' w' h3 h4 _ h6 => ?_)
  obtain ⟨q1, q2⟩ := h.grew h3 h4 h6
  exact hQ v' w' q1 q2
theorem wpList_append_manyR {w : World} {ops : Array Oper} {rest : List Oper} {o : Oper} {a : Act} {Q : Exit → Act → World → Prop} (hgd : o.guard = none) (s x : Operand)
    (ho : o.op = .call { callee := .builtin .append, args := #[s, x], argTypes := #[37, 37] })
    {B : Nat} {l1 l2 : List Own} {v : Value} {n : Nat} {xs : List Value} (h : Sep w B (l1 ++ RowO 28 4 v n xs :: l2)) (hn : n ≤ 1000) (hs : a.eval s = v)
    (ad : Addr) (q c : Nat) (news : List Value) (hx : a.eval x = .slice (some ad) q c) (hl : news.length = q * 4) (hq : q ≤ 1000) (hc : ∀ j u, news[j]? = some u → w.cell? (ad.add j) = some u) (h1 : ∀ u ∈ news, u.oneCell' = true)
    (hQ : ∀ v' w', Sep w' B (l1 ++ RowO 28 4 v' (n + q) (xs ++ news) :: l2) → Below B w w' → wpList Try.prog ops Q rest (a.put o.dst v') w') : wpList Try.prog ops Q (o :: rest) a w := by
  obtain ⟨i0, hi, hz0, hz1, hz2⟩ := info_parts Try.infoR
  refine wpList_append_own_at _ hgd s x 37 ho 0 28 i0 (.agg #[.int .u64 0, .int .u64 0, .int .i64 0, .int .i64 0]) 4 32 Try.underlying37 hi hz0 hz1 hz2 rfl (by decide) _ n xs hs h.own ad q c news hx hl hc h1 (by unfold maxLen; omega) (by omega) (Nat.zero_le _) (fun v' w' h3 h4 _ h6 => ?_)
  obtain ⟨q1, q2⟩ := h.grew h3 h4 h6
  exact hQ v' w' q1 q2
/-- An empty row of keys. -/
theorem Sep.rkeys {W : World} {B : Nat} {l : List Own} (h : Sep W B l) : Sep (W.alloc (.cells #[] 28)) B (l ++ [RowO 28 4 (.slice (some ⟨W.heap.size, 0, none⟩) 0 0) 0 (flatK [])]) :=
  h.new (S := fun k => k = W.heap.size) (bl_al (bl0 W) _) ⟨⟨rfl, .inr ⟨W.heap.size, 0, #[], rfl, Nat.zero_le _, heap_alloc_new W _, Nat.le_refl _, Nat.zero_le _, rfl, rfl⟩⟩, fun k => by simp only [Value.ownBlock, Option.some.injEq]; exact eq_comm⟩ (fun k e => by rw [e]; exact Nat.le_refl _)
theorem cellsI_one (is : List Int) : ∀ u ∈ cellsI is, u.oneCell' = true := by
  intro u hu
  obtain ⟨x, _, rfl⟩ := List.mem_map.1 hu
  rfl
theorem take_cells {xs : List Value} {W : World} {g n : Nat} (h : ∀ j u, xs[j]? = some u → W.cell? ⟨g, j, none⟩ = some u) : ∀ j u, (xs.take n)[j]? = some u → W.cell? ((⟨g, 0, none⟩ : Addr).add j) = some u := by
  intro j u hu
  rw [hadd]
  refine h j u ?_
  rw [List.getElem?_take] at hu
  split at hu
  · exact hu
  · cases hu
theorem drop_cells {xs : List Value} {W : World} {g n : Nat} (h : ∀ j u, xs[j]? = some u → W.cell? ⟨g, j, none⟩ = some u) : ∀ j u, (xs.drop n)[j]? = some u → W.cell? ((⟨g, n, none⟩ : Addr).add j) = some u := by
  intro j u hu
  have e : (⟨g, n, none⟩ : Addr).add j = ⟨g, n + j, none⟩ := by simp [Addr.add]
  rw [e]
  refine h _ u ?_
  rwa [List.getElem?_drop] at hu
theorem flatK_take' (m : List Th) (j : Nat) : (flatK m).take (j * 4) = flatK (m.take j) := by
  induction m generalizing j with
  | nil => simp [flatK]
  | cons t m ih =>
    cases j with
    | zero => simp [flatK]
    | succ j =>
      rw [show (j + 1) * 4 = j * 4 + 1 + 1 + 1 + 1 by omega, flatK_cons]
      conv => rhs; rw [List.take_succ_cons, flatK_cons]
      simp only [List.take_succ_cons, ih]
theorem flatK_drop' (m : List Th) (j : Nat) : (flatK m).drop (j * 4) = flatK (m.drop j) := by
  induction m generalizing j with
  | nil => simp [flatK]
  | cons t m ih =>
    cases j with
    | zero => simp
    | succ j =>
      rw [show (j + 1) * 4 = j * 4 + 1 + 1 + 1 + 1 by omega, flatK_cons, List.drop_succ_cons]
      simp only [List.drop_succ_cons, ih]
theorem flatK_app (m m' : List Th) : flatK m ++ flatK m' = flatK (m ++ m') := by simp [flatK]
theorem cellsI_app (m m' : List Int) : cellsI m ++ cellsI m' = cellsI (m ++ m') := by simp [cellsI]
theorem cellsI_take (m : List Int) (j : Nat) : (cellsI m).take j = cellsI (m.take j) := by simp [cellsI, List.map_take]
theorem cellsI_drop (m : List Int) (j : Nat) : (cellsI m).drop j = cellsI (m.drop j) := by simp [cellsI, List.map_drop]
end Go.Proofs.Ytgcncimeedoplaa
