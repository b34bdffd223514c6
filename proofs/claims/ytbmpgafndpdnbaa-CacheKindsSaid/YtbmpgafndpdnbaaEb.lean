/- Cache: things under keys, the one that was used last first; a cache in memory. -/
import Derived.Test.YtbmpgafndpdnbaaEg
import Derived.Laws.CopyOwn
namespace Go.Proofs.Ytbmpgafndpdnbaa
open Go.RowKit Go.Maps

/-- A key and what is under it. -/
abbrev IT := Int × Int
abbrev atI (m : List IT) (i : Nat) : IT := m.getD i (0, 0)
/-- The place of a key. -/
def findI (k : Int) (m : List IT) : Option Nat := m.findIdx? (fun x => decide (x.1 = k))
/-- The thing at a place goes, another one leads. -/
def leadL {α : Type} (i : Nat) (t : α) (l : List α) : List α := t :: l.eraseIdx i
theorem leadL_map {α β : Type} (f : α → β) (i : Nat) (t : α) (l : List α) : (leadL i t l).map f = leadL i (f t) (l.map f) := by
  unfold leadL
  rw [List.map_cons, List.eraseIdx_eq_take_drop_succ, List.eraseIdx_eq_take_drop_succ, List.map_append, List.map_take, List.map_drop]
theorem leadL_len {α : Type} {i : Nat} {t : α} {l : List α} (h : i < l.length) : (leadL i t l).length = l.length := by
  simp [leadL, List.length_eraseIdx, h]; omega
theorem findI_some {k : Int} {m : List IT} {i : Nat} (h : findI k m = some i) : i < m.length ∧ (atI m i).1 = k ∧ ∀ j, j < i → (atI m j).1 ≠ k := by
  unfold findI at h
  rw [List.findIdx?_eq_some_iff_getElem] at h
  obtain ⟨h1, h2, h3⟩ := h
  refine ⟨h1, by simpa [atI, List.getD_eq_getElem?_getD, h1] using h2, fun j hj => ?_⟩
  have := h3 j hj
  have hjl : j < m.length := by omega
  simpa [atI, List.getD_eq_getElem?_getD, hjl] using this
theorem findI_none {k : Int} {m : List IT} (h : findI k m = none) : ∀ x ∈ m, x.1 ≠ k := by
  unfold findI at h
  rw [List.findIdx?_eq_none_iff] at h
  intro x hx
  simpa using h x hx
theorem atI_of {m : List IT} {i : Nat} {x : IT} (h : m[i]? = some x) : atI m i = x := by simp [atI, List.getD_eq_getElem?_getD, h]
theorem atI_get {m : List IT} {i : Nat} (h : i < m.length) : m[i]? = some (atI m i) := by simp [atI, List.getD_eq_getElem?_getD, h]

/-- The types of a cache, of pointers to its things, of a thing; a thing's cells. -/
structure CTy where
  T : TypeId
  pT : TypeId
  hT : TypeId
  cf : IT → List Value
abbrev ptrV (b : Nat) : Value := .pointer (some ⟨b, 0, none⟩)
/-- A cache in memory: at p; its row v; its things, each with its block. -/
structure CAt (c : CTy) (W : World) (p : Nat) (v : Value) (L : List (Nat × IT)) (r : Int) : Prop where
  hp : W.heap[p]? = some (.cells #[.int .i64 r, v] c.T (0, 0))
  row : W.ownsRow 0 c.pT 1 v L.length (L.map (fun y => ptrV y.1))
  th : ∀ y ∈ L, W.heap[y.1]? = some (.cells (c.cf y.2).toArray c.hT (0, 0))
  nd : (L.map Prod.fst).Nodup
  pb : ∀ y ∈ L, y.1 ≠ p
  gp : v.ownBlock ≠ some p
  gb : ∀ y ∈ L, v.ownBlock ≠ some y.1
/-- Its blocks. -/
def CB (p : Nat) (v : Value) (L : List (Nat × IT)) (k : Nat) : Prop := k = p ∨ v.ownBlock = some k ∨ ∃ y ∈ L, y.1 = k
section
variable {c : CTy} {W W' : World} {p : Nat} {v : Value} {L : List (Nat × IT)} {r : Int}
theorem CAt.rowlt (h : CAt c W p v L r) {g : Nat} (e : v.ownBlock = some g) : g < W.heap.size := (h.row.lt g e).2
theorem CAt.lt (h : CAt c W p v L r) {k : Nat} (hk : CB p v L k) : k < W.heap.size := by
  rcases hk with rfl | e | ⟨y, hy, rfl⟩
  · exact (Array.getElem?_eq_some_iff.1 h.hp).1
  · exact h.rowlt e
  · exact (Array.getElem?_eq_some_iff.1 (h.th y hy)).1
theorem CAt.keep (h : CAt c W p v L r) (hk : ∀ k, CB p v L k → W'.heap[k]? = W.heap[k]?) : CAt c W' p v L r := by
  refine ⟨(hk p (.inl rfl)).trans h.hp, ⟨h.row.1, ?_⟩, fun y hy => (hk y.1 (.inr (.inr ⟨y, hy, rfl⟩))).trans (h.th y hy), h.nd, h.pb, h.gp, h.gb⟩
  rcases h.row.2 with q | ⟨g, cap, cur, h1, h2, h3, h4⟩
  · exact .inl q
  · exact .inr ⟨g, cap, cur, h1, h2, (hk g (.inr (.inl (by rw [h1]; rfl)))).trans h3, h4⟩
theorem CAt.below (h : CAt c W p v L r) (b : Below W.heap.size W W') : CAt c W' p v L r := h.keep (fun k hk => b.block k (h.lt hk))
theorem CAt.c0 (h : CAt c W p v L r) : W.cell? ⟨p, 0, none⟩ = some (.int .i64 r) := by simp [World.cell?, h.hp]
theorem CAt.c1 (h : CAt c W p v L r) : W.cell? ⟨p, 1, none⟩ = some v := by simp [World.cell?, h.hp]
theorem CAt.f1 (h : CAt c W p v L r) : W.frozen? ⟨p, 1, none⟩ = false := by simp [World.frozen?, h.hp]
theorem CAt.slice (h : CAt c W p v L r) (h0 : 0 < L.length) : ∃ g cap, v = .slice (some ⟨g, 0, none⟩) L.length cap ∧ L.length ≤ cap := by
  rcases h.row.2 with ⟨_, e⟩ | ⟨g, cap, cur, h1, _, _, h2, _⟩
  · omega
  · exact ⟨g, cap, h1, h2⟩
theorem CAt.any (h : CAt c W p v L r) : ∃ a cap, v = .slice a L.length cap ∧ L.length ≤ cap ∧ cap ≤ maxLen := by
  rcases h.row.2 with ⟨e, h0⟩ | ⟨g, cap, cur, h1, _, _, h2, h3, _⟩
  · exact ⟨none, 0, by rw [e, h0], by omega, by unfold maxLen; omega⟩
  · exact ⟨_, cap, h1, h2, h3⟩
theorem CAt.ptr (h : CAt c W p v L r) {g cap : Nat} (e : v = .slice (some ⟨g, 0, none⟩) L.length cap) {i : Nat} {y : Nat × IT} (hy : L[i]? = some y) : W.cell? ⟨g, i, none⟩ = some (ptrV y.1) := by
  have := h.row.cells (g := g) (by rw [e]; rfl) i (ptrV y.1) (by rw [List.getElem?_map, hy]; rfl)
  rwa [hadd] at this
theorem CAt.cell (h : CAt c W p v L r) {y : Nat × IT} (hy : y ∈ L) {j : Nat} {u : Value} (hu : (c.cf y.2)[j]? = some u) : W.cell? ⟨y.1, j, none⟩ = some u := by
  simp [World.cell?, h.th y hy, hu]
end
/-- A cache of one's own. -/
def CO (c : CTy) (p : Nat) (r : Int) (m : List IT) : Own where
  P W S := ∃ v L, CAt c W p v L r ∧ L.map Prod.snd = m ∧ ∀ k, S k ↔ CB p v L k
  lt h k hk := by
    obtain ⟨v, L, h1, _, h2⟩ := h
    exact h1.lt ((h2 k).1 hk)
  keep h _ hk := by
    obtain ⟨v, L, h1, h2, h3⟩ := h
    exact ⟨v, L, h1.keep (fun k q => hk k ((h3 k).2 q)), h2, h3⟩
/-- A call that leaves all blocks leaves the cache. -/
theorem co_there {c : CTy} {p : Nat} {r : Int} {m : List IT} {S : Nat → Prop} {w w' : World} (h : (CO c p r m).P w S) (hb : Below w.heap.size w w') : Turned S w w' (CO c p r m) :=
  ⟨.of_below hb, S, (CO c p r m).keep h (hb.mono (Nat.zero_le _)) (fun k hk => hb.block k ((CO c p r m).lt h k hk)), fun _ h => .inl h⟩

/-! ### The row, when one leads -/
theorem lead_cur {cur : List Value} {n i : Nat} {xs : List Value} {t : Value} (h1 : n ≤ cur.length) (h2 : cur.take n = xs) (hi : i < n) :
    ((cur.take 1 ++ xs.take i ++ cur.drop (1 + i)).set 0 t).take n = leadL i t xs ∧ (cur.take 1 ++ xs.take i ++ cur.drop (1 + i)).length = cur.length := by
  subst h2
  match cur, h1 with
  | [], h => simp at h; omega
  | u :: cur, h =>
    simp at h
    have e1 : (List.take n (u :: cur)).take i = (u :: cur).take i := by rw [List.take_take, Nat.min_eq_left (by omega)]
    refine ⟨?_, ?_⟩
    · unfold leadL
      rw [e1, List.eraseIdx_eq_take_drop_succ]
      have hl : ((u :: cur).take i).length = i := by simp; omega
      obtain ⟨n', rfl⟩ : ∃ n', n = n' + 1 := ⟨n - 1, by omega⟩
      simp only [List.take_succ_cons, List.take_zero, List.cons_append, List.set_cons_zero, List.nil_append]
      congr 1
      have e3 : u :: List.take n' cur = List.take (n' + 1) (u :: cur) := rfl
      rw [List.take_append, hl, e3, List.take_take, List.take_take, List.drop_take, Nat.min_eq_right (by omega), Nat.min_eq_left (by omega), Nat.add_comm 1 i, show n' + 1 - (i + 1) = n' - i by omega]
    · simp
      omega
theorem ownsRow_leads {w : World} {e : TypeId} {g n cap i : Nat} {xs : List Value} {t : Value} (h : w.ownsRow 0 e 1 (.slice (some ⟨g, 0, none⟩) n cap) n xs) (hi : i < n) :
    ∃ cur : Array Value, w.heap[g]? = some (.cells cur e (0, 0)) ∧ 1 + i ≤ cur.size ∧ n ≤ cur.size ∧ xs = cur.toList.take n ∧
      ∀ W2 : World, W2.heap[g]? = some (.cells (cur.toList.take 1 ++ xs.take i ++ cur.toList.drop (1 + i)).toArray e (0, 0)) → (W2.setCell ⟨g, 0, none⟩ t).ownsRow 0 e 1 (.slice (some ⟨g, 0, none⟩) n cap) n (leadL i t xs) := by
  obtain ⟨h0, h1⟩ := h
  rcases h1 with ⟨e1, _⟩ | ⟨g', cap', cur, e1, _, hg, l1, l2, l3, l4⟩
  · cases e1
  · cases e1
    rw [Nat.mul_one] at l3 l4 h0
    have hs : n ≤ cur.toList.length := by simp; omega
    obtain ⟨q1, q2⟩ := lead_cur (t := t) hs l4 hi
    refine ⟨cur, hg, by omega, by omega, l4.symm, fun W2 hW2 => ⟨?_, .inr ⟨g, cap, _, rfl, Nat.zero_le _, hset_same W2 g 0 _ e t hW2, l1, l2, ?_, ?_⟩⟩⟩
    · rw [leadL_len (by omega)]; omega
    · rw [Array.size_setIfInBounds, List.size_toArray, q2]
      simp; omega
    · rw [Nat.mul_one, Array.toList_setIfInBounds]
      exact q1
theorem copy_lead {P : Program} {w : World} {T e : TypeId} {g n cap i c : Nat} {xs : List Value} {cur : Array Value} (hu : P.underlying T = some (.slice e)) (hs : (P.info? e).map (·.size) = some 1)
    (hg : w.heap[g]? = some (.cells cur e (0, 0))) (h1 : 1 + i ≤ cur.size) (hx : xs = cur.toList.take n) (hi : i < n) (ho : ∀ u ∈ xs, u.oneCell' = true) (D : Option Addr) (hD : 0 < i → D = some ⟨g, 1, none⟩) :
    ∃ W2, (∀ ty, (Builtin.copy_ #[T, T] ty #[.slice D i c, .slice (some ⟨g, 0, none⟩) i cap]).run P w = .ok (goInt i) W2) ∧ W2.heap[g]? = some (.cells (cur.toList.take 1 ++ xs.take i ++ cur.toList.drop (1 + i)).toArray e (0, 0)) ∧ KeptS (fun k => k = g) w W2 := by
  by_cases h0 : i = 0
  · subst h0
    refine ⟨w, fun ty => run_copy_none w T T ty e D _ 0 c 0 cap hu hs (by simp), ?_, .refl _ _⟩
    rw [List.take_zero, List.append_nil, List.take_append_drop]
    exact hg
  · have hl : (xs.take i).length = i := by rw [hx]; simp; omega
    have hrun := fun ty => run_copy_row (P := P) w T T ty e g 1 i c ⟨g, 0, none⟩ i cap cur e (xs.take i) hu hs hg (by rw [hl]; simp) (fun j u hj => ?_) (by rw [hl]; exact h1) (fun u hu' => ho u (List.mem_of_mem_take hu'))
    · rw [hl] at hrun
      refine ⟨_, fun ty => by rw [hD (by omega)]; exact hrun ty, setRow_heap w g _ _ e _ hg, ⟨⟨rfl, rfl, rfl, by simp [World.setRow], fun k hk => absurd hk (Nat.not_lt_zero k)⟩, fun k _ hk => setRow_other w g k _ hk⟩⟩
    · rw [hadd]
      have hj' : cur.toList[j]? = some u := by
        rw [hx, List.take_take] at hj
        rw [List.getElem?_take] at hj
        split at hj
        · exact hj
        · cases hj
      have : cur[j]? = some u := by simpa using hj'
      simp [World.cell?, hg, this]
end Go.Proofs.Ytbmpgafndpdnbaa
