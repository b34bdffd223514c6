/- A loop over the cells of a box, outermost: the law for whoever writes it, where text Va stands too. -/
import Derived.Test.YtldpajfendkhbaaDoorIn
namespace Go.Proofs.YtldpajfendkhbaaDoor
open Go.RowKit Go.Shelf
attribute [local go_sem] Oper.semAt_some

/-- How the body of a round may be left: at its end, or by a return. -/
def bodyC (b n₁ : Nat) (I Ix : List (Int × Int) → World → Prop) (xs : List (Int × Int)) (W : World) : Exit → Act → World → Prop
  | .normal, _, W' => KeptB b n₁ W W' ∧ I xs W'
  | .ret, _, W' => KeptB b n₁ W W' ∧ Ix xs W'
  | _, _, _ => False

set_option maxHeartbeats 1000000 in
theorem range_cells {ps : Array Tmp} {assign body : Code} {g : Operand} {Q : Exit → Act → World → Prop} {a : Act} {w : World} (b : Nat) (X Y U V : Int) (N : Nat) (hN : N = rowsOf X Y U V * U.toNat)
    (hg : a.eval g = .func (.func 72) #[] #[.pointer (some ⟨b, 0, none⟩)]) (hps : ps.size = 1) (hB : BoxAt w b X Y U V)
    (I Ix : List (Int × Int) → World → Prop) (hI : OwnFrom w.heap.size I) (hIx : OwnFrom w.heap.size Ix) (h0 : I [] w)
    (Ax : Int × Int → Act → World → Prop) (hAx : ∀ p a', OwnFrom w.heap.size (fun (_ : Unit) W => Ax p a' W))
    (hassign : ∀ (l : Nat) (pre : List (Int × Int)) (p : Int × Int) (W : World) (K : Act → World → Prop), I pre W → (∀ a' W', KeptB b w.heap.size W W' → I pre W' → Ax p a' W' → K a' W') →
      assign.wpIn (Fence.wide.inRound l) 7 Tryd.prog (Exit.then K (fun _ _ _ => False)) { tmps := (ps.zip #[.agg #[.int .i64 p.1, .int .i64 p.2]]).foldl (fun t (p, v) => t.setIfInBounds p v) a.tmps, defers := [] } W)
    (hbody : ∀ (l : Nat) (pre : List (Int × Int)) (p : Int × Int) (a' : Act) (W : World), I pre W → Ax p a' W → pre.length < N → body.wpIn (Fence.wide.inRound l) 7 Tryd.prog (bodyC b w.heap.size I Ix (pre ++ [p]) W) a' W)
    (hdone : ∀ (D : Nat) (W : World), w.heap.size ≤ D → I (cellsOf X U.toNat (upto (fun j => Y + (j : Int)) (rowsOf X Y U V))) W → W.heap[D]? = some (.deferred (some [])) → Q .normal { a with defers := { target := .collected D, args := #[] } :: a.defers } W)
    (hstop : ∀ (D : Nat) (q : List (Int × Int)) (W : World), w.heap.size ≤ D → q <+: cellsOf X U.toNat (upto (fun j => Y + (j : Int)) (rowsOf X Y U V)) → Ix q W → W.heap[D]? = some (.deferred (some [])) → Code.ret.wpIn Fence.wide 11 Tryd.prog Q { a with defers := { target := .collected D, args := #[] } :: a.defers } W) :
    (Code.rangeFunc g ps assign body).wpIn Fence.wide 11 Tryd.prog Q a w := by
  have hbl := blk_lt hB.1
  refine wpIn_rangeFunc fun fn hfn => ?_
  obtain ⟨R, hR⟩ : ∃ R : LoopState → Option Code → Loop, R = fun st pe => { state := st, pending := pe, fn, tmps := a.tmps, params := ps, assign, body, defers := w.heap.size } := ⟨_, rfl⟩
  obtain ⟨W1, hW1⟩ : ∃ W1, (w.alloc (.deferred (some []))).alloc (.loop (R .ready none)) = W1 := ⟨_, rfl⟩
  have hz : W1.heap.size = w.heap.size + 2 := by rw [← hW1]; simp
  have hk1 : Below w.heap.size w W1 := by rw [← hW1]; exact bl_al (bl_al (bl0 _) _) _
  have hL1 : W1.heap[w.heap.size + 1]? = some (.loop (R .ready none)) := by
    have h := World.alloc_heap_new (w.alloc (.deferred (some []))) (.loop (R .ready none))
    rw [World.size_alloc] at h
    rw [← hW1]; exact h
  have hD1 : W1.heap[w.heap.size]? = some (.deferred (some [])) := by
    rw [← hW1]; exact (Below.heap_alloc _ _ _ (by simp)).trans (World.alloc_heap_new w _)
  have hB1 : BoxAt W1 b X Y U V := hB.kept (hk1.block b hbl)
  have hI1 : I [] W1 := hI [] w W1 none h0 (grown_of_below hk1) (fun r e => by cases e)
  refine ⟨w.heap.size + 1, [{ target := .collected w.heap.size, args := #[] }], W1, { target := .fn (.func 72) #[.pointer (some ⟨b, 0, none⟩)], args := #[.func (.yield (w.heap.size + 1)) #[] #[]] }, W1, 72,
    #[.func (.yield (w.heap.size + 1)) #[] #[], .pointer (some ⟨b, 0, none⟩)], W1, ?_, ?_, ?_, ?_, (fun h => by cases h), ?_⟩
  · rw [← hW1, hR]; exact run_enterLoop_outer _ _ _ _ _
  · simp only [resolve, hg]
    simp [go_sem]
  · intro f' _; exact trivial
  · simp [invoke, go_sem]
  refine (cells1_in (w.heap.size + 1) b X Y U V N hN
    (fun pre W => I pre W ∧ W.heap[w.heap.size + 1]? = some (.loop (R .ready none)) ∧ W.heap[w.heap.size]? = some (.deferred (some [])))
    (fun pre W => Ix pre W ∧ W.heap[w.heap.size + 1]? = some (.loop (R .done (some .ret))) ∧ W.heap[w.heap.size]? = some (.deferred (some [])))
    W1 ?oJ ?oJx ?round hB1 ⟨hI1, hL1, hD1⟩).mono ?behind
  case oJ =>
    intro s A B row hs hg' hr
    refine ⟨hI s A B row hs.1 hg' (fun r e => ⟨by have := (hr r e).1; omega, (hr r e).2⟩), (hg'.block _ (Array.getElem?_eq_some_iff.1 hs.2.1).1 (fun e => by have := (hr _ e.symm).1; omega)).trans hs.2.1, (hg'.block _ (Array.getElem?_eq_some_iff.1 hs.2.2).1 (fun e => by have := (hr _ e.symm).1; omega)).trans hs.2.2⟩
  case oJx =>
    intro s A B row hs hg' hr
    refine ⟨hIx s A B row hs.1 hg' (fun r e => ⟨by have := (hr r e).1; omega, (hr r e).2⟩), (hg'.block _ (Array.getElem?_eq_some_iff.1 hs.2.1).1 (fun e => by have := (hr _ e.symm).1; omega)).trans hs.2.1, (hg'.block _ (Array.getElem?_eq_some_iff.1 hs.2.2).1 (fun e => by have := (hr _ e.symm).1; omega)).trans hs.2.2⟩
  case behind =>
    rintro e W2 ⟨⟨v, rfl⟩, (⟨hi, hl, hk⟩ | ⟨q, hq, hi, hl, hk⟩)⟩
    · have he := run_endLoop (P := Tryd.prog) hl (by rw [hR]; simp)
      rw [hR] at he
      exact ⟨none, _, he, hdone _ _ (Nat.le_refl _) (hI _ W2 _ _ hi (grownBy_putObj' W2 _ _) (fun r e => by cases e; exact ⟨by omega, _, hl, rfl⟩)) ((World.putObj_heap_other (by omega)).trans hk)⟩
    · have he := run_endLoop (P := Tryd.prog) hl (by rw [hR]; simp)
      rw [hR] at he
      exact ⟨some .ret, _, he, hstop _ q _ (Nat.le_refl _) hq (hIx _ W2 _ _ hi (grownBy_putObj' W2 _ _) (fun r e => by cases e; exact ⟨by omega, _, hl, rfl⟩)) ((World.putObj_heap_other (by omega)).trans hk)⟩
  case round =>
    rintro pre p W ⟨hi, hl, hk⟩ hlen
    rw [hz]
    have hy := run_yield (P := Tryd.prog) (args := #[.agg #[.int .i64 p.1, .int .i64 p.2]]) hl (by rw [hR]; simp [hps])
    rw [hR] at hy
    refine yieldAt_any (m := 7) 0 ⟨fn, _, assign, body, hy, roundIn_of_wpIn hfn (hassign _ pre p W _ hi ?_)⟩
    intro a' Wa hka hia hax
    have hl2 := hka.heap (k := w.heap.size + 1) (by omega) hl
    have hk2 := hka.heap (k := w.heap.size) (by omega) hk
    refine ⟨_, run_beginRound hl2 (by rw [hR]), ?_⟩
    obtain ⟨W3, hW3⟩ : ∃ W3, Wa.putObj (w.heap.size + 1) (.loop { R .ready none with state := .busy }) = W3 := ⟨_, rfl⟩
    rw [hW3]
    have hl3 : W3.heap[w.heap.size + 1]? = some (.loop { R .ready none with state := .busy }) := by rw [← hW3]; exact World.putObj_heap_same (Array.getElem?_eq_some_iff.1 hl2).1
    have hk3 : W3.heap[w.heap.size]? = some (.deferred (some [])) := by rw [← hW3]; exact (World.putObj_heap_other (by omega)).trans hk2
    have hp3 : KeptB b (w.heap.size + 2) Wa W3 := by rw [← hW3]; exact KeptB.put _ (by omega) (by omega)
    have hg3 : Wa.grownBy W3 (some (w.heap.size + 1)) := by rw [← hW3]; exact grownBy_putObj' _ _ _
    have hr3 : ∀ r, some (w.heap.size + 1) = some r → w.heap.size ≤ r ∧ ∃ o : Obj, Wa.heap[r]? = some o ∧ o.isCells = false := fun r e => by cases e; exact ⟨by omega, _, hl2, rfl⟩
    refine wpIn_mono (hbody _ pre p a' W3 (hI _ Wa W3 _ hia hg3 hr3) (hAx p a' () Wa W3 _ hax hg3 hr3) hlen) ?_
    rintro e a3 W4 hp
    cases e with
    | normal =>
      obtain ⟨hb4, hi4⟩ := hp
      have hl4 := hb4.heap (k := w.heap.size + 1) (by omega) hl3
      have hk4 := hb4.heap (k := w.heap.size) (by omega) hk3
      have he := run_endRound (P := Tryd.prog) none hl4
      refine ⟨_, _, he, .inl ⟨rfl, ⟨hI _ W4 _ _ hi4 (grownBy_putObj' W4 _ _) (fun r e => by cases e; exact ⟨by omega, _, hl4, rfl⟩), ?_, (World.putObj_heap_other (by omega)).trans hk4⟩, ?_⟩⟩
      · rw [World.putObj_heap_same (Array.getElem?_eq_some_iff.1 hl4).1, hR]; rfl
      · exact ((((hka.up (by omega)).trans hp3).trans (hb4.up (by omega))).trans (KeptB.put _ (by omega) (by omega)))
    | ret =>
      obtain ⟨hb4, hi4⟩ := hp
      have hl4 := hb4.heap (k := w.heap.size + 1) (by omega) hl3
      have hk4 := hb4.heap (k := w.heap.size) (by omega) hk3
      have he := run_endRound (P := Tryd.prog) (some .ret) hl4
      refine ⟨_, _, he, .inr ⟨rfl, ⟨hIx _ W4 _ _ hi4 (grownBy_putObj' W4 _ _) (fun r e => by cases e; exact ⟨by omega, _, hl4, rfl⟩), ?_, (World.putObj_heap_other (by omega)).trans hk4⟩, ?_⟩⟩
      · rw [World.putObj_heap_same (Array.getElem?_eq_some_iff.1 hl4).1, hR]; rfl
      · exact ((((hka.up (by omega)).trans hp3).trans (hb4.up (by omega))).trans (KeptB.put _ (by omega) (by omega)))
    | exit id => exact hp.elim
    | goto t => exact hp.elim
    | panic ch => exact hp.elim
    | outgrown => exact hp.elim

/-- The frame of a round, the cell handed in. -/
def roundTmps (ps : Array Tmp) (T : Array Value) (p : Int × Int) : Array Value := (ps.zip #[.agg #[.int .i64 p.1, .int .i64 p.2]]).foldl (fun t (p, v) => t.setIfInBounds p v) T

/-- .. where the loop's variable is boxed, in slot sl. -/
theorem range_cells_box {ps : Array Tmp} {assign body : Code} {g : Operand} {Q : Exit → Act → World → Prop} {a : Act} {w : World} (b : Nat) (X Y U V : Int) (N : Nat) (hN : N = rowsOf X Y U V * U.toNat) (sl : Nat)
    (hg : a.eval g = .func (.func 72) #[] #[.pointer (some ⟨b, 0, none⟩)]) (hps : ps.size = 1) (hB : BoxAt w b X Y U V)
    (I Ix : List (Int × Int) → World → Prop) (hI : OwnFrom w.heap.size I) (hIx : OwnFrom w.heap.size Ix) (h0 : I [] w) (hsz : ∀ pre W, I pre W → w.heap.size ≤ W.heap.size)
    (hassign : ∀ (l : Nat) (p : Int × Int) (W : World) (K : Act → World → Prop), K { tmps := (roundTmps ps a.tmps p).setIfInBounds sl (.pointer (some ⟨W.heap.size, 0, none⟩)), defers := [] } (W.alloc (.cells #[.int .i64 p.1, .int .i64 p.2] 28)) →
      assign.wpIn (Fence.wide.inRound l) 7 Tryd.prog (Exit.then K (fun _ _ _ => False)) { tmps := roundTmps ps a.tmps p, defers := [] } W)
    (hbody : ∀ (l : Nat) (pre : List (Int × Int)) (p : Int × Int) (Bx : Nat) (W : World), I pre W → w.heap.size ≤ Bx → W.cell? ⟨Bx, 0, none⟩ = some (.int .i64 p.1) → W.cell? ⟨Bx, 1, none⟩ = some (.int .i64 p.2) → pre.length < N →
      body.wpIn (Fence.wide.inRound l) 7 Tryd.prog (bodyC b w.heap.size I Ix (pre ++ [p]) W) { tmps := (roundTmps ps a.tmps p).setIfInBounds sl (.pointer (some ⟨Bx, 0, none⟩)), defers := [] } W)
    (hdone : ∀ (D : Nat) (W : World), w.heap.size ≤ D → I (cellsOf X U.toNat (upto (fun j => Y + (j : Int)) (rowsOf X Y U V))) W → W.heap[D]? = some (.deferred (some [])) → Q .normal { a with defers := { target := .collected D, args := #[] } :: a.defers } W)
    (hstop : ∀ (D : Nat) (q : List (Int × Int)) (W : World), w.heap.size ≤ D → q <+: cellsOf X U.toNat (upto (fun j => Y + (j : Int)) (rowsOf X Y U V)) → Ix q W → W.heap[D]? = some (.deferred (some [])) → Code.ret.wpIn Fence.wide 11 Tryd.prog Q { a with defers := { target := .collected D, args := #[] } :: a.defers } W) :
    (Code.rangeFunc g ps assign body).wpIn Fence.wide 11 Tryd.prog Q a w := by
  refine range_cells b X Y U V N hN hg hps hB I Ix hI hIx h0
    (fun p a' W => ∃ Bx, w.heap.size ≤ Bx ∧ W.cell? ⟨Bx, 0, none⟩ = some (.int .i64 p.1) ∧ W.cell? ⟨Bx, 1, none⟩ = some (.int .i64 p.2) ∧ a' = { tmps := (roundTmps ps a.tmps p).setIfInBounds sl (.pointer (some ⟨Bx, 0, none⟩)), defers := [] })
    ?_ ?_ ?_ hdone hstop
  · rintro p a' _ A B row ⟨Bx, h1, h2, h3, h4⟩ hg' hr
    exact ⟨Bx, h1, cell_kept h2 hg' (fun r e => (hr r e).2), cell_kept h3 hg' (fun r e => (hr r e).2), h4⟩
  · intro l pre p W K hi hK
    have hsw := hsz pre W hi
    refine hassign l p W K (hK _ _ ?_ ?_ ⟨W.heap.size, hsw, by simp [go_sem], by simp [go_sem], rfl⟩)
    · exact ⟨by simp, fun k _ hl => Below.heap_alloc W _ k hl⟩
    · exact hI pre W _ none hi (World.grownBy_alloc W _ none) (fun r e => by cases e)
  · rintro l pre p a' W hi ⟨Bx, h1, h2, h3, rfl⟩ hlen
    exact hbody l pre p Bx W hi h1 h2 h3 hlen
end Go.Proofs.YtldpajfendkhbaaDoor
