/- Texts of fields: what they come to, row by row; what a parse holds in memory. -/
import Derived.Test.YthnpoeobieninaaDoorVk
import Derived.Test.YthnpoeobieninaaDoorVe
import Derived.Test.YthnpoeobieninaaDoorVc
namespace Go.Proofs.YthnpoeobieninaaDoor
open Go.RowKit Go.Shelf

/-- One more cost of a row. -/
def stepP (s : List Int × Int) (l : List UInt8) : List Int × Int := if s.2 ≠ 0 then s else if (readF l).2 ≠ 0 then (s.1, (readF l).2) else (s.1 ++ [(readF l).1], 0)
def runP (cs : List Int) (ps : List (List UInt8)) : List Int × Int := ps.foldl stepP (cs, 0)
theorem runP_snoc (cs : List Int) (ps : List (List UInt8)) (l : List UInt8) : runP cs (ps ++ [l]) = stepP (runP cs ps) l := by simp [runP, List.foldl_append]
theorem runP_stop (cs : List Int) (ps qs : List (List UInt8)) (h : (runP cs ps).2 ≠ 0) : runP cs (ps ++ qs) = runP cs ps := by
  induction qs generalizing ps with
  | nil => rw [List.append_nil]
  | cons q qs ih =>
    rw [show ps ++ q :: qs = (ps ++ [q]) ++ qs by simp]
    have e : runP cs (ps ++ [q]) = runP cs ps := by rw [runP_snoc]; unfold stepP; rw [if_pos h]
    rw [ih (ps ++ [q]) (by rw [e]; exact h), e]
theorem runP_prefix {cs : List Int} {q ps : List (List UInt8)} (hq : q <+: ps) (h : (runP cs q).2 ≠ 0) : runP cs ps = runP cs q := by
  obtain ⟨t, rfl⟩ := hq
  exact runP_stop cs q t h

/-- What a parse has come to: how wide, how high, which costs, what is wrong. -/
structure PS where
  W : Int
  H : Int
  cs : List Int
  e : Int
def stepL (s : PS) (l : List UInt8) : PS :=
  if s.e ≠ 0 then s else
  if Lib.hasSuffix l [10] = false then { s with H := s.H + 1, e := 11 } else
  if (runP s.cs (piecesF (Lib.trimSuffix l [10]))).2 ≠ 0 then { s with H := s.H + 1, cs := (runP s.cs (piecesF (Lib.trimSuffix l [10]))).1, e := (runP s.cs (piecesF (Lib.trimSuffix l [10]))).2 } else
  { W := if s.H + 1 = 1 then ((piecesF (Lib.trimSuffix l [10])).length : Int) else s.W, H := s.H + 1, cs := (runP s.cs (piecesF (Lib.trimSuffix l [10]))).1,
    e := fitsF (if s.H + 1 = 1 then ((piecesF (Lib.trimSuffix l [10])).length : Int) else s.W) (s.H + 1) ((piecesF (Lib.trimSuffix l [10])).length : Int) }
def ps0 : PS := { W := 0, H := 0, cs := [], e := 0 }
def runL (ls : List (List UInt8)) : PS := ls.foldl stepL ps0
theorem runL_snoc (ls : List (List UInt8)) (l : List UInt8) : runL (ls ++ [l]) = stepL (runL ls) l := by simp [runL, List.foldl_append]
theorem runL_stop (ps qs : List (List UInt8)) (h : (runL ps).e ≠ 0) : runL (ps ++ qs) = runL ps := by
  induction qs generalizing ps with
  | nil => rw [List.append_nil]
  | cons q qs ih =>
    rw [show ps ++ q :: qs = (ps ++ [q]) ++ qs by simp]
    have e : runL (ps ++ [q]) = runL ps := by rw [runL_snoc]; unfold stepL; rw [if_pos h]
    rw [ih (ps ++ [q]) (by rw [e]; exact h), e]
theorem runL_prefix {q ps : List (List UInt8)} (hq : q <+: ps) (h : (runL q).e ≠ 0) : runL ps = runL q := by
  obtain ⟨t, rfl⟩ := hq
  exact runL_stop q t h

/-- What a block's cells are of. -/
def TypAt (W : World) (k : Nat) (t : TypeId) : Prop := ∃ cs, W.heap[k]? = some (.cells cs t (0, 0))
theorem TypAt.not_row {W : World} {k : Nat} {t e : TypeId} (h : TypAt W k t) (hte : t ≠ e) {base size n : Nat} {v : Value} {xs : List Value} (hr : W.ownsRow base e size v n xs) : v.ownBlock ≠ some k := by
  obtain ⟨cs, h⟩ := h
  intro he
  rcases hr.2 with ⟨rfl, _⟩ | ⟨g, cap, cur, rfl, _, hg, _⟩
  · cases he
  · simp [Value.ownBlock] at he
    subst he
    rw [h] at hg
    cases hg
    exact hte rfl
theorem cells_later {A B : World} {row : Option Nat} (hg : A.grownBy B row) {k : Nat} {cs : Array Value} {t : TypeId} (h : A.heap[k]? = some (.cells cs t (0, 0))) (hne : row ≠ some k) : B.heap[k]? = some (.cells cs t (0, 0)) :=
  (hg.block k (Array.getElem?_eq_some_iff.1 h).1 (fun e => hne e.symm)).trans h

/-- What a parse holds: the result's cell, the field's box, the fault's box, the field's costs; and boxes of others. -/
def PIn (w : World) (L : List (Nat × TypeId)) (a b : Int) (cs : List Int) (e : Int) (v : Value) (W : World) : Prop :=
  Below w.heap.size w W ∧ W.heap[w.heap.size]? = some (.cells #[.int .i64 0, .int .i64 0, .slice none 0 0] 26 (0, 0)) ∧ W.heap[w.heap.size + 2]? = some (.cells #[.int .i64 e] 33 (0, 0)) ∧
    (∀ x ∈ L, w.heap.size + 3 ≤ x.1 ∧ x.2 ≠ 38 ∧ TypAt W x.1 x.2) ∧
    W.heap[w.heap.size + 1]? = some (.cells #[.int .i64 a, .int .i64 b, v] 26 (0, 0)) ∧ W.ownsRow w.heap.size 38 1 v cs.length (cellsH cs)

section
variable {w W : World} {L : List (Nat × TypeId)} {a b : Int} {cs : List Int} {e : Int} {v : Value}
theorem PIn.later {B : World} {row : Option Nat} (h : PIn w L a b cs e v W) (hg : W.grownBy B row)
    (hr : ∀ r, row = some r → (w.heap.size ≤ r ∧ ∃ o : Obj, W.heap[r]? = some o ∧ o.isCells = false) ∨ (∃ t, (r, t) ∈ L ∧ SameKind W B r)) : PIn w L a b cs e v B := by
  obtain ⟨h1, h2, h3, h4, h5, h6⟩ := h
  have hne : ∀ k c t, k < w.heap.size + 3 → W.heap[k]? = some (.cells c t (0, 0)) → row ≠ some k := by
    intro k c t hk hc he
    rcases hr k he with ⟨_, o, ho, hoc⟩ | ⟨t', hm, _⟩
    · rw [hc] at ho; cases ho; cases hoc
    · have := (h4 _ hm).1
      omega
  refine ⟨h1.grown hg h1.size (fun r he => ?_), cells_later hg h2 (hne _ _ _ (by omega) h2), cells_later hg h3 (hne _ _ _ (by omega) h3), fun x hx => ⟨(h4 x hx).1, (h4 x hx).2.1, ?_⟩, cells_later hg h5 (hne _ _ _ (by omega) h5), ?_⟩
  · rcases hr r he with ⟨hh, _⟩ | ⟨t', hm, _⟩
    · exact hh
    · have := (h4 _ hm).1
      omega
  · obtain ⟨c, hc⟩ := (h4 x hx).2.2
    by_cases he : row = some x.1
    · rcases hr _ he with ⟨_, o, ho, hoc⟩ | ⟨t', _, hs⟩
      · rw [hc] at ho; cases ho; cases hoc
      · exact hs _ _ hc
    · exact ⟨c, cells_later hg hc he⟩
  · cases hv : v.ownBlock with
    | none => exact h6.kept hg (.inl hv)
    | some r =>
      refine h6.kept hg (.inr fun he => ?_)
      rw [hv] at he
      rcases hr r he.symm with ⟨_, o, ho, hoc⟩ | ⟨t', hm, _⟩
      · rcases h6.2 with ⟨rfl, _⟩ | ⟨g, cap, cur, rfl, _, hgg, _⟩
        · cases hv
        · simp [Value.ownBlock] at hv
          subst hv
          rw [hgg] at ho; cases ho; cases hoc
      · exact TypAt.not_row (h4 _ hm).2.2 (h4 _ hm).2.1 h6 hv
theorem PIn.below {B : World} (h : PIn w L a b cs e v W) (hb : Below W.heap.size W B) : PIn w L a b cs e v B := h.later (grown_of_below hb) (fun r he => by cases he)
theorem PIn.less {L' : List (Nat × TypeId)} (h : PIn w L a b cs e v W) (hl : ∀ x ∈ L', x ∈ L) : PIn w L' a b cs e v W := ⟨h.1, h.2.1, h.2.2.1, fun x hx => h.2.2.2.1 x (hl x hx), h.2.2.2.2⟩
theorem PIn.more (h : PIn w L a b cs e v W) (L' : List (Nat × TypeId)) (hl : ∀ x ∈ L', w.heap.size + 3 ≤ x.1 ∧ x.2 ≠ 38 ∧ TypAt W x.1 x.2) : PIn w (L' ++ L) a b cs e v W :=
  ⟨h.1, h.2.1, h.2.2.1, fun x hx => by rcases List.mem_append.1 hx with h' | h'; exact hl x h'; exact h.2.2.2.1 x h', h.2.2.2.2⟩
theorem PIn.r (h : PIn w L a b cs e v W) : W.heap[w.heap.size]? = some (.cells #[.int .i64 0, .int .i64 0, .slice none 0 0] 26 (0, 0)) := h.2.1
theorem PIn.f0 (h : PIn w L a b cs e v W) : W.cell? ⟨w.heap.size + 1, 0, none⟩ = some (.int .i64 a) := by simp [World.cell?, h.2.2.2.2.1]
theorem PIn.f1 (h : PIn w L a b cs e v W) : W.cell? ⟨w.heap.size + 1, 1, none⟩ = some (.int .i64 b) := by simp [World.cell?, h.2.2.2.2.1]
theorem PIn.f2 (h : PIn w L a b cs e v W) : W.cell? ⟨w.heap.size + 1, 2, none⟩ = some v := by simp [World.cell?, h.2.2.2.2.1]
theorem PIn.fe (h : PIn w L a b cs e v W) : W.cell? ⟨w.heap.size + 2, 0, none⟩ = some (.int .i64 e) := by simp [World.cell?, h.2.2.1]
theorem PIn.z1 (h : PIn w L a b cs e v W) (o : Nat) : W.frozen? ⟨w.heap.size + 1, o, none⟩ = false := by simp [World.frozen?, h.2.2.2.2.1]
theorem PIn.z2 (h : PIn w L a b cs e v W) : W.frozen? ⟨w.heap.size + 2, 0, none⟩ = false := by simp [World.frozen?, h.2.2.1]
theorem PIn.own (h : PIn w L a b cs e v W) : W.ownsRow w.heap.size 38 1 v cs.length (cellsH cs) := h.2.2.2.2.2
theorem PIn.lt (h : PIn w L a b cs e v W) : w.heap.size + 2 < W.heap.size := (Array.getElem?_eq_some_iff.1 h.2.2.1).1
theorem PIn.base (h : PIn w L a b cs e v W) : Below w.heap.size w W := h.1

theorem PIn.r0 (h : PIn w L a b cs e v W) : W.cell? ⟨w.heap.size, 0, none⟩ = some (.int .i64 0) := by simp [World.cell?, h.2.1]
theorem PIn.r1 (h : PIn w L a b cs e v W) : W.cell? ⟨w.heap.size, 1, none⟩ = some (.int .i64 0) := by simp [World.cell?, h.2.1]
theorem PIn.r2 (h : PIn w L a b cs e v W) : W.cell? ⟨w.heap.size, 2, none⟩ = some (.slice none 0 0) := by simp [World.cell?, h.2.1]
theorem PIn.zr (h : PIn w L a b cs e v W) (o : Nat) : W.frozen? ⟨w.heap.size, o, none⟩ = false := by simp [World.frozen?, h.2.1]
theorem three_set {W : World} {k : Nat} {t : TypeId} {x y z : Value} (h : W.heap[k]? = some (.cells #[x, y, z] t (0, 0))) (a b c : Value) :
    (((W.setCell ⟨k, 0, none⟩ a).setCell ⟨k, 1, none⟩ b).setCell ⟨k, 2, none⟩ c).heap[k]? = some (.cells #[a, b, c] t (0, 0)) := by
  have h1 := heap_setCell_same W k 0 _ _ a h
  have h2 := heap_setCell_same _ k 1 _ _ b h1
  have h3 := heap_setCell_same _ k 2 _ _ c h2
  simpa using h3
/-- Behind the stores of the result, and the end of the deferred calls. -/
theorem PIn.ret (h : PIn w L a b cs e v W) {D n : Nat} (hD : n ≤ D) (hn : w.heap.size + 4 ≤ n) (hK : W.heap[D]? = some (.deferred (some []))) :
    (∃ p c, v = .slice p cs.length c) ∧
    (((W.setCell ⟨w.heap.size, 0, none⟩ (.int .i64 a)).setCell ⟨w.heap.size, 1, none⟩ (.int .i64 b)).setCell ⟨w.heap.size, 2, none⟩ v).heap[D]? = some (.deferred (some [])) ∧
    Below w.heap.size w ((((W.setCell ⟨w.heap.size, 0, none⟩ (.int .i64 a)).setCell ⟨w.heap.size, 1, none⟩ (.int .i64 b)).setCell ⟨w.heap.size, 2, none⟩ v).putObj D (.deferred none)) ∧
    ((((W.setCell ⟨w.heap.size, 0, none⟩ (.int .i64 a)).setCell ⟨w.heap.size, 1, none⟩ (.int .i64 b)).setCell ⟨w.heap.size, 2, none⟩ v).putObj D (.deferred none)).ownsRow w.heap.size 38 1 v cs.length (cellsH cs) ∧
    ((((W.setCell ⟨w.heap.size, 0, none⟩ (.int .i64 a)).setCell ⟨w.heap.size, 1, none⟩ (.int .i64 b)).setCell ⟨w.heap.size, 2, none⟩ v).putObj D (.deferred none)).heap[w.heap.size]? = some (.cells #[.int .i64 a, .int .i64 b, v] 26 (0, 0)) := by
  have ht : TypAt W w.heap.size 26 := ⟨_, h.2.1⟩
  have hne := TypAt.not_row ht (by decide) h.own
  have hd := ((Below.heap_setCell ((W.setCell ⟨w.heap.size, 0, none⟩ (.int .i64 a)).setCell ⟨w.heap.size, 1, none⟩ (.int .i64 b)) ⟨w.heap.size, 2, none⟩ v D (show D ≠ w.heap.size by omega)).trans
    ((Below.heap_setCell (W.setCell ⟨w.heap.size, 0, none⟩ (.int .i64 a)) ⟨w.heap.size, 1, none⟩ (.int .i64 b) D (show D ≠ w.heap.size by omega)).trans (Below.heap_setCell W ⟨w.heap.size, 0, none⟩ (.int .i64 a) D (show D ≠ w.heap.size by omega)))).trans hK
  refine ⟨?_, hd, ?_, ?_, (World.putObj_heap_other (by omega)).trans (three_set h.2.1 _ _ _)⟩
  · rcases h.own.2 with ⟨e1, e2⟩ | ⟨g, cap, cur, e1, _⟩
    · exact ⟨none, 0, by rw [e1, e2]⟩
    · exact ⟨_, _, e1⟩
  · exact (bl_st (bl_st (bl_st h.1 (Nat.le_refl _) _) (Nat.le_refl _) _) (Nat.le_refl _) _).grown (grownBy_putObj' _ D _) (by simpa using h.1.size) (fun r e => by cases e; omega)
  · exact ownsRow_putObj (ownsRow_setCell_other (ownsRow_setCell_other (ownsRow_setCell_other h.own (a := ⟨w.heap.size, 0, none⟩) hne _) (a := ⟨w.heap.size, 1, none⟩) hne _) (a := ⟨w.heap.size, 2, none⟩) hne _) _ hd rfl
/-- The same, of what is wrong. -/
theorem PIn.noret (h : PIn w L a b cs e v W) {D n : Nat} (hD : n ≤ D) (hn : w.heap.size + 4 ≤ n) (hK : W.heap[D]? = some (.deferred (some []))) :
    (((W.setCell ⟨w.heap.size, 0, none⟩ (.int .i64 0)).setCell ⟨w.heap.size, 1, none⟩ (.int .i64 0)).setCell ⟨w.heap.size, 2, none⟩ (.slice none 0 0)).drew.heap[D]? = some (.deferred (some [])) ∧
    Below w.heap.size w ((((W.setCell ⟨w.heap.size, 0, none⟩ (.int .i64 0)).setCell ⟨w.heap.size, 1, none⟩ (.int .i64 0)).setCell ⟨w.heap.size, 2, none⟩ (.slice none 0 0)).drew.putObj D (.deferred none)) ∧
    ((((W.setCell ⟨w.heap.size, 0, none⟩ (.int .i64 0)).setCell ⟨w.heap.size, 1, none⟩ (.int .i64 0)).setCell ⟨w.heap.size, 2, none⟩ (.slice none 0 0)).drew.putObj D (.deferred none)).heap[w.heap.size]? = some (.cells #[.int .i64 0, .int .i64 0, .slice none 0 0] 26 (0, 0)) := by
  have hd := ((Below.heap_setCell ((W.setCell ⟨w.heap.size, 0, none⟩ (.int .i64 0)).setCell ⟨w.heap.size, 1, none⟩ (.int .i64 0)) ⟨w.heap.size, 2, none⟩ (.slice none 0 0) D (show D ≠ w.heap.size by omega)).trans
    ((Below.heap_setCell (W.setCell ⟨w.heap.size, 0, none⟩ (.int .i64 0)) ⟨w.heap.size, 1, none⟩ (.int .i64 0) D (show D ≠ w.heap.size by omega)).trans (Below.heap_setCell W ⟨w.heap.size, 0, none⟩ (.int .i64 0) D (show D ≠ w.heap.size by omega)))).trans hK
  exact ⟨hd, (bl_dr (bl_st (bl_st (bl_st h.1 (Nat.le_refl _) _) (Nat.le_refl _) _) (Nat.le_refl _) _)).grown (grownBy_putObj' _ D _) (by simpa using h.1.size) (fun r e => by cases e; omega), (World.putObj_heap_other (by omega)).trans (three_set h.2.1 _ _ _)⟩
theorem PIn.typs (h : PIn w L a b cs e v W) {k : Nat} (hk : k < w.heap.size + 3) (o : Nat) (u : Value) : ∀ x ∈ L, w.heap.size + 3 ≤ x.1 ∧ x.2 ≠ 38 ∧ TypAt (W.setCell ⟨k, o, none⟩ u) x.1 x.2 := by
  intro x hx
  obtain ⟨h1, h2, c, hc⟩ := h.2.2.2.1 x hx
  exact ⟨h1, h2, c, (Below.heap_setCell _ _ _ _ (show x.1 ≠ k by omega)).trans hc⟩
theorem PIn.setW (h : PIn w L a b cs e v W) (u : Int) : PIn w L u b cs e v (W.setCell ⟨w.heap.size + 1, 0, none⟩ (.int .i64 u)) := by
  have ht : TypAt W (w.heap.size + 1) 26 := ⟨_, h.2.2.2.2.1⟩
  refine ⟨bl_st h.1 (by omega) _, (Below.heap_setCell _ _ _ _ (show w.heap.size ≠ w.heap.size + 1 by omega)).trans h.2.1, (Below.heap_setCell _ _ _ _ (show w.heap.size + 2 ≠ w.heap.size + 1 by omega)).trans h.2.2.1, h.typs (by omega) _ _, ?_, ownsRow_setCell_other h.own (TypAt.not_row ht (by decide) h.own) _⟩
  rw [heap_setCell_same W _ 0 _ _ _ h.2.2.2.2.1]
  simp
theorem PIn.setH (h : PIn w L a b cs e v W) (u : Int) : PIn w L a u cs e v (W.setCell ⟨w.heap.size + 1, 1, none⟩ (.int .i64 u)) := by
  have ht : TypAt W (w.heap.size + 1) 26 := ⟨_, h.2.2.2.2.1⟩
  refine ⟨bl_st h.1 (by omega) _, (Below.heap_setCell _ _ _ _ (show w.heap.size ≠ w.heap.size + 1 by omega)).trans h.2.1, (Below.heap_setCell _ _ _ _ (show w.heap.size + 2 ≠ w.heap.size + 1 by omega)).trans h.2.2.1, h.typs (by omega) _ _, ?_, ownsRow_setCell_other h.own (TypAt.not_row ht (by decide) h.own) _⟩
  rw [heap_setCell_same W _ 1 _ _ _ h.2.2.2.2.1]
  simp
theorem PIn.setE (h : PIn w L a b cs e v W) (u : Int) : PIn w L a b cs u v (W.setCell ⟨w.heap.size + 2, 0, none⟩ (.int .i64 u)) := by
  have ht : TypAt W (w.heap.size + 2) 33 := ⟨_, h.2.2.1⟩
  refine ⟨bl_st h.1 (by omega) _, (Below.heap_setCell _ _ _ _ (show w.heap.size ≠ w.heap.size + 2 by omega)).trans h.2.1, ?_, h.typs (by omega) _ _, (Below.heap_setCell _ _ _ _ (show w.heap.size + 1 ≠ w.heap.size + 2 by omega)).trans h.2.2.2.2.1, ownsRow_setCell_other h.own (TypAt.not_row ht (by decide) h.own) _⟩
  rw [heap_setCell_same W _ 0 _ _ _ h.2.2.1]
  simp
theorem PIn.setO (h : PIn w L a b cs e v W) {k o : Nat} {t : TypeId} (hk : w.heap.size + 3 ≤ k) (ht : TypAt W k t) (hne : t ≠ 38) (u : Value) : PIn w L a b cs e v (W.setCell ⟨k, o, none⟩ u) := by
  have old : ∀ {j : Nat}, j < w.heap.size + 3 → (W.setCell ⟨k, o, none⟩ u).heap[j]? = W.heap[j]? := fun {j} hj => Below.heap_setCell _ _ _ j (show j ≠ k by omega)
  refine ⟨bl_st h.1 (by omega) _, (old (by omega)).trans h.2.1, (old (by omega)).trans h.2.2.1, ?_, (old (by omega)).trans h.2.2.2.2.1, ownsRow_setCell_other h.own (TypAt.not_row ht hne h.own) _⟩
  intro x hx
  obtain ⟨p1, p2, c, hc⟩ := h.2.2.2.1 x hx
  refine ⟨p1, p2, ?_⟩
  by_cases hx : x.1 = k
  · subst hx
    exact sameKind_set W _ o u _ _ hc
  · exact ⟨c, (Below.heap_setCell _ _ _ _ hx).trans hc⟩
theorem PIn.put (h : PIn w L a b cs e v W) {w1 : World} {v' : Value} {z : Int} {tmp : Obj} (hgrow : (W.alloc tmp).grownBy w1 v.ownBlock)
    (hown' : w1.ownsRow w.heap.size 38 1 v' (cs.length + 1) (cellsH cs ++ [.int .u16 z])) :
    PIn w L a b (cs ++ [z]) e v' (w1.setCell ⟨w.heap.size + 1, 2, none⟩ v') ∧ W.grownBy w1 v.ownBlock := by
  have hg : W.grownBy w1 v.ownBlock := ⟨hgrow.os, hgrow.tape, hgrow.output, by have := hgrow.size; rw [World.size_alloc] at this; omega, fun k hk hne => (hgrow.block k (by rw [World.size_alloc]; omega) hne).trans (Below.heap_alloc _ _ _ hk)⟩
  have typ : ∀ {k : Nat} {t : TypeId}, TypAt W k t → t ≠ 38 → v.ownBlock ≠ some k := fun h1 h2 => TypAt.not_row h1 h2 h.own
  obtain ⟨h1, h2, h3, h4, h5, h6⟩ := h
  have k2 := cells_later hg h2 (typ ⟨_, h2⟩ (by decide))
  have k3 := cells_later hg h3 (typ ⟨_, h3⟩ (by decide))
  have k5 := cells_later hg h5 (typ ⟨_, h5⟩ (by decide))
  refine ⟨⟨bl_st (h1.grown hg h1.size (fun r he => (h6.lt r he).1)) (by omega) _, (Below.heap_setCell _ _ _ _ (show w.heap.size ≠ w.heap.size + 1 by omega)).trans k2, (Below.heap_setCell _ _ _ _ (show w.heap.size + 2 ≠ w.heap.size + 1 by omega)).trans k3, ?_, ?_, ?_⟩, hg⟩
  · intro x hx
    obtain ⟨p1, p2, c, hc⟩ := h4 x hx
    exact ⟨p1, p2, c, (Below.heap_setCell _ _ _ _ (show x.1 ≠ w.heap.size + 1 by omega)).trans (cells_later hg hc (typ ⟨_, hc⟩ p2))⟩
  · rw [heap_setCell_same w1 _ 2 _ _ _ k5]
    simp
  · rw [← cellsH_snoc] at hown'
    rw [List.length_append]
    exact ownsRow_setCell_other hown' (TypAt.not_row ⟨_, k5⟩ (by decide) hown') _
end

/-- What a round lets lie: what is no cells from n on, and the blocks from p on, c of them. -/
def RIn (n p c : Nat) (A B : World) : Prop := KeepsFrom n A B ∧ KP p c A B
theorem RIn.refl (n p c : Nat) (A : World) : RIn n p c A A := ⟨KeepsFrom.refl _ _, KP.refl _ _ _⟩
theorem RIn.step {n p c : Nat} {A B C : World} {row : Option Nat} (x : RIn n p c A B) (hpc : p + c ≤ B.heap.size) (hg : B.grownBy C row) (hr : ∀ r, row = some r → (r < p ∨ p + c ≤ r) ∧ ∃ cs t, B.heap[r]? = some (.cells cs t (0, 0))) : RIn n p c A C := by
  refine ⟨⟨Nat.le_trans x.1.size hg.size, fun k o hk ho hc => ?_⟩, x.2.trans ⟨hg.size, fun k h1 h2 => hg.block k (by omega) (fun e => by have := (hr k e.symm).1; omega)⟩⟩
  have hb := x.1.same k o hk ho hc
  refine (hg.block k (Array.getElem?_eq_some_iff.1 hb).1 (fun e => ?_)).trans hb
  obtain ⟨_, cs, t, h⟩ := hr k e.symm
  rw [hb] at h; cases h; cases hc
theorem RIn.below {n p c : Nat} {A B C : World} (x : RIn n p c A B) (hpc : p + c ≤ B.heap.size) (hb : Below B.heap.size B C) : RIn n p c A C := x.step hpc (grown_of_below hb) (fun r e => by cases e)
theorem RIn.st {n p c k o : Nat} {A B : World} (x : RIn n p c A B) (hpc : p + c ≤ B.heap.size) {cs : Array Value} {t : TypeId} (h : B.heap[k]? = some (.cells cs t (0, 0))) (hk : k < p ∨ p + c ≤ k) (u : Value) : RIn n p c A (B.setCell ⟨k, o, none⟩ u) :=
  x.step hpc (row := some k) ⟨rfl, rfl, rfl, by simp, fun j _ hj => Below.heap_setCell _ _ _ j (fun e => hj (by rw [e]))⟩ (fun r e => by cases e; exact ⟨hk, _, _, h⟩)
theorem RIn.far {n p c : Nat} {A B C : World} {row : Option Nat} (x : RIn n p c A B) (hpc : p + c ≤ B.heap.size) (hg : B.grownBy C row) (hr : ∀ r, row = some r → A.heap.size ≤ r ∧ p + c ≤ r) : RIn n p c A C := by
  refine ⟨⟨Nat.le_trans x.1.size hg.size, fun k o hk ho hc => ?_⟩, x.2.trans ⟨hg.size, fun k h1 h2 => hg.block k (by omega) (fun e => by have := (hr k e.symm).2; omega)⟩⟩
  have hb := x.1.same k o hk ho hc
  refine (hg.block k (Array.getElem?_eq_some_iff.1 hb).1 (fun e => ?_)).trans hb
  have := (hr k e.symm).1
  have := (Array.getElem?_eq_some_iff.1 ho).1
  omega

/-- Between two costs of a row: what the parse holds, how many costs there were, what the row's round lets lie. -/
def JIn (w : World) (L : List (Nat × TypeId)) (n p m : Nat) (a b : Int) (cs0 : List Int) (V : World) (pre : List (List UInt8)) (W : World) : Prop :=
  (runP cs0 pre).2 = 0 ∧ (∃ v, PIn w L a b (runP cs0 pre).1 0 v W) ∧ W.heap[m]? = some (.cells #[.int .i64 pre.length] 3 (0, 0)) ∧ RIn n p 1 V W
/-- Behind a cost that is wrong. -/
def JOut (w : World) (L : List (Nat × TypeId)) (n p : Nat) (a b : Int) (cs0 : List Int) (V : World) (c : Code) (pre : List (List UInt8)) (W : World) : Prop :=
  c = .exit 0 ∧ (runP cs0 pre).2 ≠ 0 ∧ (∃ cs v, PIn w L a b cs (runP cs0 pre).2 v W) ∧ RIn n p 1 V W
theorem jIn_own {w : World} {L : List (Nat × TypeId)} {n p m : Nat} {a b : Int} {cs0 : List Int} {V : World} {N : Nat} (hN : w.heap.size ≤ N) (hV : V.heap.size ≤ N) (hp : p + 1 ≤ V.heap.size) : OwnFrom N (JIn w L n p m a b cs0 V) := by
  rintro pre A B row ⟨he, ⟨v, h⟩, hb, hR⟩ hg hr
  refine ⟨he, ⟨v, h.later hg (fun r e => .inl ⟨by have := (hr r e).1; omega, (hr r e).2⟩)⟩, cells_later hg hb (fun e => ?_), hR.far (Nat.le_trans hp hR.1.size) hg (fun r e => by have := (hr r e).1; omega)⟩
  obtain ⟨_, o, ho, hc⟩ := hr m e
  rw [hb] at ho; cases ho; cases hc
theorem jOut_own {w : World} {L : List (Nat × TypeId)} {n p : Nat} {a b : Int} {cs0 : List Int} {V : World} {N : Nat} (hN : w.heap.size ≤ N) (hV : V.heap.size ≤ N) (hp : p + 1 ≤ V.heap.size) (c : Code) : OwnFrom N (JOut w L n p a b cs0 V c) := by
  rintro pre A B row ⟨hc, he, ⟨cs, v, h⟩, hR⟩ hg hr
  exact ⟨hc, he, ⟨cs, v, h.later hg (fun r e => .inl ⟨by have := (hr r e).1; omega, (hr r e).2⟩)⟩, hR.far (Nat.le_trans hp hR.1.size) hg (fun r e => by have := (hr r e).1; omega)⟩
theorem jIn_ab {w : World} {L : List (Nat × TypeId)} {n p m : Nat} {a b : Int} {cs0 : List Int} {V : World} (hV : V.heap.size ≤ m) (hp : p + 1 ≤ V.heap.size) (hL : ∀ r, m + 1 ≤ r → r < m + 1 + 3 → ∃ t, (r, t) ∈ L) : AbP (m + 1) 3 (JIn w L n p m a b cs0 V) := by
  rintro pre A B row ⟨he, ⟨v, h⟩, hb, hR⟩ hg hr
  refine ⟨he, ⟨v, h.later hg (fun r e => .inr ?_)⟩, cells_later hg hb (fun e => by have := (hr m e).1; omega), hR.far (Nat.le_trans hp hR.1.size) hg (fun r e => by have := (hr r e).1; omega)⟩
  obtain ⟨t, ht⟩ := hL r (hr r e).1 (hr r e).2.1
  exact ⟨t, ht, (hr r e).2.2⟩
theorem jOut_ab {w : World} {L : List (Nat × TypeId)} {n p m : Nat} {a b : Int} {cs0 : List Int} {V : World} (hV : V.heap.size ≤ m) (hp : p + 1 ≤ V.heap.size) (hL : ∀ r, m + 1 ≤ r → r < m + 1 + 3 → ∃ t, (r, t) ∈ L) (c : Code) : AbP (m + 1) 3 (JOut w L n p a b cs0 V c) := by
  rintro pre A B row ⟨hc, he, ⟨cs, v, h⟩, hR⟩ hg hr
  refine ⟨hc, he, ⟨cs, v, h.later hg (fun r e => .inr ?_)⟩, hR.far (Nat.le_trans hp hR.1.size) hg (fun r e => by have := (hr r e).1; omega)⟩
  obtain ⟨t, ht⟩ := hL r (hr r e).1 (hr r e).2.1
  exact ⟨t, ht, (hr r e).2.2⟩
end Go.Proofs.YthnpoeobieninaaDoor
