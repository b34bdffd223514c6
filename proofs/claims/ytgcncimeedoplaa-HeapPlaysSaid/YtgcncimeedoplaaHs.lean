/- Heap's laws: things of one's own that are turned cell by cell; rows of keys; the mathematics of things 0, 1, 2, and so on. -/
import Derived.Test.YtgcncimeedoplaaHr
import Derived.Laws.AppendOwnNone
namespace Go.Proofs.Ytgcncimeedoplaa
open Go.RowKit Go.Maps

/-! ### Cells of one's own -/
theorem Sep.set {W : World} {B : Nat} {l1 l2 : List Own} {k : Nat} {cs : Array Value} {t : TypeId} (h : Sep W B (l1 ++ CellsO k cs t :: l2)) (j : Nat) (u : Value) :
    Sep (W.setCell ⟨k, j, none⟩ u) B (l1 ++ CellsO k (cs.setIfInBounds j u) t :: l2) := by
  obtain ⟨S, h1, h2, h3⟩ := h.turn
  have q := hgrown_set W k j u
  exact (h3 _ S (CellsO k (cs.setIfInBounds j u) t) (.of_grown q (fun x e _ => by cases e; exact (h1.2 _).2 rfl)) ⟨hset_same W k j cs t u h1.1, h1.2⟩ (fun _ h => .inl h)).1
theorem Sep.rowset {W : World} {B : Nat} {l1 l2 : List Own} {e : TypeId} {size g n cap : Nat} {xs : List Value} (h : Sep W B (l1 ++ RowO e size (.slice (some ⟨g, 0, none⟩) n cap) n xs :: l2)) (j : Nat) (u : Value) :
    Sep (W.setCell ⟨g, j, none⟩ u) B (l1 ++ RowO e size (.slice (some ⟨g, 0, none⟩) n cap) n (xs.set j u) :: l2) := by
  obtain ⟨S, h1, h2, h3⟩ := h.turn
  have q := hgrown_set W g j u
  refine (h3 _ S (RowO e size (.slice (some ⟨g, 0, none⟩) n cap) n (xs.set j u)) (.of_grown q (fun x e _ => by cases e; exact (h1.2 _).2 rfl)) ⟨⟨by simpa using h1.1.1, ?_⟩, h1.2⟩ (fun _ h => .inl h)).1
  rcases h1.1.2 with ⟨e, _⟩ | ⟨g', cap', cur, e, hB, hg, l1, l2, l3, l4⟩
  · cases e
  · cases e
    refine .inr ⟨g, cap, _, rfl, hB, hset_same W g j cur _ u hg, l1, l2, by simpa using l3, ?_⟩
    simp only [Array.toList_setIfInBounds]
    rw [List.take_set, l4]
/-- A row's cells. -/
theorem Sep.row {W : World} {B : Nat} {l1 l2 : List Own} {e : TypeId} {size g n cap : Nat} {xs : List Value} (h : Sep W B (l1 ++ RowO e size (.slice (some ⟨g, 0, none⟩) n cap) n xs :: l2)) :
    (∀ j u, xs[j]? = some u → W.cell? ⟨g, j, none⟩ = some u) ∧ (∀ j, W.frozen? ⟨g, j, none⟩ = false) ∧ B ≤ g ∧ g < W.heap.size ∧ n ≤ cap := by
  obtain ⟨S, h1, h2⟩ := h.at
  have hg := h2 g ((h1.2 g).2 rfl)
  refine ⟨fun j u hj => ?_, fun j => ?_, hg.1, hg.2, ?_⟩
  · have := h1.1.cells (g := g) rfl j u hj
    rwa [hadd] at this
  · exact h1.1.frozenAt j
  · rcases h1.1.2 with ⟨e, _⟩ | ⟨g', cap', cur, e, _, _, l1, _⟩
    · cases e
    · cases e; exact l1
/-- Two of them have no block together. -/
theorem Sep.apart {W : World} {B : Nat} {l1 l2 l3 : List Own} {o o' : Own} (h : Sep W B (l1 ++ o :: (l2 ++ o' :: l3))) : ∃ S S', o.P W S ∧ o'.P W S' ∧ ∀ k, S k → ¬ S' k := by
  obtain ⟨h0, Z, h1, h2, h3⟩ := h
  obtain ⟨Z1, Zr, rfl, e1, e2⟩ := List.map_eq_append_iff.1 h1
  obtain ⟨z, Z2, rfl, e3, e4⟩ := List.map_eq_cons_iff.1 e2
  obtain ⟨Z3, Z4, rfl, e5, e6⟩ := List.map_eq_append_iff.1 e4
  obtain ⟨y, Z5, rfl, e7, e8⟩ := List.map_eq_cons_iff.1 e6
  refine ⟨z.2, y.2, e3 ▸ (h2 z (by simp)).1, e7 ▸ (h2 y (by simp)).1, ?_⟩
  rw [List.pairwise_append, List.pairwise_cons] at h3
  exact h3.2.1.1 y (by simp)

/-! ### Rows of keys -/
def flatK (ts : List Th) : List Value := ts.flatMap (fun t => [.int .u64 t.F, .int .u64 t.H, .int .i64 t.Y, .int .i64 t.X])
theorem flatK_cons (t : Th) (ts : List Th) : flatK (t :: ts) = .int .u64 t.F :: .int .u64 t.H :: .int .i64 t.Y :: .int .i64 t.X :: flatK ts := rfl
theorem flatK_len : ∀ ts : List Th, (flatK ts).length = ts.length * 4
  | [] => rfl
  | t :: ts => by
    have := flatK_len ts
    rw [flatK_cons]
    simp
    omega
theorem flatK_at : ∀ (ts : List Th) (i : Nat), i < ts.length → (flatK ts)[i * 4]? = some (.int .u64 (atT ts i).F) ∧ (flatK ts)[i * 4 + 1]? = some (.int .u64 (atT ts i).H) ∧ (flatK ts)[i * 4 + 2]? = some (.int .i64 (atT ts i).Y) ∧ (flatK ts)[i * 4 + 3]? = some (.int .i64 (atT ts i).X)
  | [], i, h => by simp at h
  | t :: ts, 0, _ => by simp [flatK_cons, atT]
  | t :: ts, i + 1, h => by
    have := flatK_at ts i (by simpa using h)
    rw [flatK_cons, show (i + 1) * 4 = i * 4 + 1 + 1 + 1 + 1 by omega]
    simpa [atT] using this
theorem flatK_set : ∀ (ts : List Th) (n : Nat) (t : Th), n < ts.length → flatK (ts.set n t) = ((((flatK ts).set (n * 4) (.int .u64 t.F)).set (n * 4 + 1) (.int .u64 t.H)).set (n * 4 + 2) (.int .i64 t.Y)).set (n * 4 + 3) (.int .i64 t.X)
  | [], n, t, h => by simp at h
  | u :: ts, 0, t, h => by simp [flatK_cons]
  | u :: ts, n + 1, t, h => by
    have ih := flatK_set ts n t (by simpa using h)
    rw [List.set_cons_succ, flatK_cons, flatK_cons, ih, show (n + 1) * 4 = n * 4 + 1 + 1 + 1 + 1 by omega]
    simp only [List.set_cons_succ]
theorem flatK_one (ts : List Th) : ∀ u ∈ flatK ts, u.oneCell' = true := by
  intro u hu
  simp only [flatK, List.mem_flatMap] at hu
  obtain ⟨o, _, h⟩ := hu
  simp at h
  rcases h with rfl | rfl | rfl | rfl <;> rfl
theorem flatK_cells {W : World} {b o : Nat} : ∀ (ts : List Th), (∀ (i : Nat) (z : Th), ts[i]? = some z → W.cell? ⟨b, o + i * 4, none⟩ = some (.int .u64 z.F) ∧ W.cell? ⟨b, o + i * 4 + 1, none⟩ = some (.int .u64 z.H) ∧ W.cell? ⟨b, o + i * 4 + 2, none⟩ = some (.int .i64 z.Y) ∧ W.cell? ⟨b, o + i * 4 + 3, none⟩ = some (.int .i64 z.X)) → ∀ (j : Nat) u, (flatK ts)[j]? = some u → W.cell? ⟨b, o + j, none⟩ = some u := by
  intro ts h j u hu
  have hj : j < (flatK ts).length := (List.getElem?_eq_some_iff.1 hu).1
  have hl := flatK_len ts
  have hi : j / 4 < ts.length := by omega
  have hz : ts[j / 4]? = some (atT ts (j / 4)) := by simp [atT, List.getD_eq_getElem?_getD, hi]
  obtain ⟨h0, h1, h2, h3⟩ := h _ _ hz
  obtain ⟨e0, e1, e2, e3⟩ := flatK_at ts _ hi
  have hm : j % 4 = 0 ∨ j % 4 = 1 ∨ j % 4 = 2 ∨ j % 4 = 3 := by omega
  rcases hm with m | m | m | m
  · rw [show j / 4 * 4 = j by omega] at h0 e0
    rw [hu] at e0; cases e0; exact h0
  · rw [show j / 4 * 4 + 1 = j by omega] at e1
    rw [show o + j / 4 * 4 + 1 = o + j by omega] at h1
    rw [hu] at e1; cases e1; exact h1
  · rw [show j / 4 * 4 + 2 = j by omega] at e2
    rw [show o + j / 4 * 4 + 2 = o + j by omega] at h2
    rw [hu] at e2; cases e2; exact h2
  · rw [show j / 4 * 4 + 3 = j by omega] at e3
    rw [show o + j / 4 * 4 + 3 = o + j by omega] at h3
    rw [hu] at e3; cases e3; exact h3
theorem Try.infoK : (Try.prog.info? 24).map (fun i => (i.zero, i.size, i.bytes)) = some (some (.agg #[.int .u64 0, .int .u64 0, .int .i64 0, .int .i64 0]), 4, 32) := by kernel_rfl
theorem kown_empty {w : World} {B : Nat} (hB : B ≤ w.heap.size) : (w.alloc (.cells #[] 24)).ownsRow B 24 4 (.slice (some ⟨w.heap.size, 0, none⟩) 0 0) 0 [] :=
  ⟨rfl, .inr ⟨w.heap.size, 0, #[], rfl, hB, heap_alloc_new w _, Nat.le_refl _, Nat.zero_le _, rfl, rfl⟩⟩
/-- A row of keys appended whole to an empty one, nil or not. -/
theorem wpList_append_rowK {w : World} {ops : Array Oper} {rest : List Oper} {o : Oper} {a : Act} {Q : Exit → Act → World → Prop} (hgd : o.guard = none) (s x : Operand)
    (ho : o.op = .call { callee := .builtin .append, args := #[s, x], argTypes := #[55, 55] })
    (base b0 : Nat) (hs : a.eval s = .slice (some ⟨b0, 0, none⟩) 0 0) (hown : w.ownsRow base 24 4 (.slice (some ⟨b0, 0, none⟩) 0 0) 0 []) (r : Option Addr) (c : Nat) (ks : List Th) (hx : a.eval x = .slice r ks.length c) (hr : RowK w r ks) (hc : r = none → c = 0)
    (h63 : ks.length ≤ 1048576) (hbase : base ≤ w.heap.size)
    (h : ∀ g cap w', w'.ownsRow base 24 4 (.slice (some ⟨g, 0, none⟩) ks.length cap) ks.length (flatK ks) → w.grownBy w' (some b0) → wpList Try.prog ops Q rest (a.put o.dst (.slice (some ⟨g, 0, none⟩) ks.length cap)) w') : wpList Try.prog ops Q (o :: rest) a w := by
  obtain ⟨i0, hi, hz0, hz1, hz2⟩ := info_parts Try.infoK
  cases r with
  | none =>
    have hn : ks = [] := by
      rcases hr with h | ⟨b, o, e, _⟩
      · exact h
      · cases e
    subst hn
    rw [hc rfl] at hx
    exact wpList_append_own_none hgd s x 55 ho base 24 i0 4 Try.underlying55 hi _ 0 [] hs hown hx (h b0 0 w hown (World.grownBy.refl _ _))
  | some ad =>
    refine wpList_append_own w hgd s x 55 ho base 24 i0 (.agg #[.int .u64 0, .int .u64 0, .int .i64 0, .int .i64 0]) 4 32 Try.underlying55 hi hz0 hz1 hz2 rfl (by decide) _ 0 [] hs hown ad ks.length c (flatK ks) hx (flatK_len ks) ?_ (flatK_one ks) (by unfold maxLen; omega) (by omega) hbase (fun v' w' h1 h2 h3 => ?_)
    · intro j u hu
      rcases hr with rfl | ⟨b, o, e, hcell⟩
      · simp [flatK] at hu
      · cases e
        rw [add_none]
        exact flatK_cells ks hcell j u hu
    · rw [Nat.zero_add, List.nil_append] at h1
      rcases h1.2 with ⟨e, _⟩ | ⟨g, cap, cur, e, _⟩
      · exact absurd (h3.1 e).1 (by intro e2; cases e2)
      · rw [e] at h1 ⊢
        exact h g cap w' h1 h2

/-! ### Things 0, 1, 2, and so on -/
def idxM (ks : List Th) : List Th := (List.range ks.length).map (fun i => withId (i : Nat) (atT ks i))
theorem idxM_len (ks : List Th) : (idxM ks).length = ks.length := by simp [idxM]
theorem idxM_nil : idxM [] = [] := rfl
theorem mem_idx {ks : List Th} {t : Th} : t ∈ idxM ks ↔ ∃ i : Nat, i < ks.length ∧ t = withId i (atT ks i) := by
  simp only [idxM, List.mem_map, List.mem_range]
  exact ⟨fun ⟨i, h, e⟩ => ⟨i, h, e.symm⟩, fun ⟨i, h, e⟩ => ⟨i, h, e.symm⟩⟩
theorem idxM_ids (ks : List Th) : (idxM ks).map Th.id = (List.range ks.length).map (fun i : Nat => (i : Int)) := by
  simp [idxM, List.map_map, Function.comp_def, withId]
theorem idxM_nodup (ks : List Th) : ((idxM ks).map Th.id).Nodup := by
  rw [idxM_ids]
  exact List.Pairwise.map _ (fun a b (h : a ≠ b) (e : (a : Int) = b) => h (by omega)) List.nodup_range
theorem idxM_snoc {ks : List Th} {k : Nat} (h : k < ks.length) : idxM (ks.take (k + 1)) = idxM (ks.take k) ++ [withId k (atT ks k)] := by
  have l1 : (ks.take (k + 1)).length = k + 1 := by rw [List.length_take]; omega
  have l2 : (ks.take k).length = k := by rw [List.length_take]; omega
  unfold idxM
  rw [l1, l2, List.range_succ, List.map_append]
  congr 1
  · apply List.map_congr_left
    intro i hi
    have := List.mem_range.1 hi
    rw [atT_take _ (by omega), atT_take _ (by omega)]
  · simp only [List.map_cons, List.map_nil]
    rw [atT_take _ (by omega)]
theorem find_idx (ks : List Th) (x : Int) : findT (idxM ks) x = if 0 ≤ x ∧ x < ks.length then some (withId x (atT ks x.toNat)) else none := by
  split
  · rename_i h
    have e : ((x.toNat : Nat) : Int) = x := by omega
    refine findT_some (idxM_nodup ks) (mem_idx.2 ⟨x.toNat, by omega, ?_⟩) rfl
    rw [e]
  · rename_i h
    refine findT_none fun t ht e => h ?_
    obtain ⟨i, hi, rfl⟩ := mem_idx.1 ht
    simp only [withId] at e
    omega
theorem find_next {ks : List Th} {k : Nat} (h : k < ks.length) : findT (idxM (ks.take k)) k = none := by
  rw [find_idx, if_neg]
  rw [List.length_take]
  omega
theorem find_there {ks : List Th} {k : Nat} (h : k < ks.length) : (findT (idxM (ks.take (k + 1))) k).isSome = true := by
  rw [find_idx, if_pos]
  · rfl
  · rw [List.length_take]
    omega
theorem less_id (i : Int) (a b : Th) : lessK a (withId i b) = lessK a b := rfl
theorem less_id2 (i : Int) (a b : Th) : lessK (withId i a) b = lessK a b := rfl
theorem same_id (i j : Int) (a b : Th) : sameK (withId i a) (withId j b) = sameK a b := rfl
theorem atT_of_set {l : List Th} {i j : Nat} {x : Th} (h : i < l.length) : atT (l.set i x) j = if i = j then x else atT l j := atT_set l i j x h
theorem idx_set {qs : List Th} {i : Nat} (hi : i < qs.length) {t : Th} (ht : t.id = i) : (idxM qs).map (fun y => if y.id = t.id then t else y) = idxM (qs.set i t) := by
  unfold idxM
  rw [List.length_set, List.map_map]
  apply List.map_congr_left
  intro j hj
  have := List.mem_range.1 hj
  show (if (withId (j : Nat) (atT qs j)).id = t.id then t else withId (j : Nat) (atT qs j)) = withId (j : Nat) (atT (qs.set i t) j)
  rw [atT_of_set hi]
  by_cases e : i = j
  · subst e
    rw [if_pos (show (withId (i : Nat) (atT qs i)).id = t.id from ht.symm), if_pos rfl, ← ht]
    rfl
  · rw [if_neg (show ¬(withId (j : Nat) (atT qs j)).id = t.id by rw [ht]; simp only [withId]; omega), if_neg e]
end Go.Proofs.Ytgcncimeedoplaa
