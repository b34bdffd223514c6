/- A loop over the cells of a box within a round of another one: the law. -/
import Derived.Test.YtldpajfendkhbaaDoorIb
import Derived.Test.YtldpajfendkhbaaDoorVa
namespace Go.Proofs.YtldpajfendkhbaaDoor
open Go.RowKit Go.Shelf
attribute [local go_sem] Oper.semAt_some

/-- How the body of a round is left: at its end. -/
def bodyB (b n₁ : Nat) (I : List (Int × Int) → World → Prop) (xs : List (Int × Int)) (W : World) : Exit → Act → World → Prop
  | .normal, _, W' => KeptB b n₁ W W' ∧ I xs W'
  | _, _, _ => False

theorem KeptB.put {b n₁ l : Nat} {A : World} (o : Obj) (hl : l < n₁) (hb : l ≠ b) : KeptB b n₁ A (A.putObj l o) :=
  ⟨by simp, fun k hk _ => World.putObj_heap_other (by rcases hk with h | h <;> omega)⟩
theorem KeptB.up {b n₁ n₂ : Nat} {A B : World} (h : KeptB b n₁ A B) (hn : n₁ ≤ n₂) : KeptB b n₂ A B := ⟨h.1, fun k hk hl => h.2 k (by omega) hl⟩
theorem KeptB.heap {b n₁ k : Nat} {A B : World} {o : Obj} (h : KeptB b n₁ A B) (hk : n₁ ≤ k) (ho : A.heap[k]? = some o) : B.heap[k]? = some o := (h.2 k (.inr hk) (Array.getElem?_eq_some_iff.1 ho).1).trans ho

set_option maxHeartbeats 1000000 in
theorem range_cells_n {ps : Array Tmp} {assign body : Code} {g : Operand} {Q : Exit → Act → World → Prop} {a : Act} {w : World} {l₀ : Nat} {r₀ : Loop} (hl₀ : w.heap[l₀]? = some (.loop r₀)) (b : Nat) (X Y U V : Int) (N : Nat) (hN : N = rowsOf X Y U V * U.toNat)
    (hg : a.eval g = .func (.func 72) #[] #[.pointer (some ⟨b, 0, none⟩)]) (hps : ps.size = 1) (hB : BoxAt w b X Y U V)
    (I : List (Int × Int) → World → Prop) (hI : OwnFrom w.heap.size I) (h0 : I [] w)
    (Ax : Int × Int → Act → World → Prop) (hAx : ∀ p a', OwnFrom w.heap.size (fun (_ : Unit) W => Ax p a' W))
    (hassign : ∀ (l : Nat) (pre : List (Int × Int)) (p : Int × Int) (W : World) (K : Act → World → Prop), I pre W → (∀ a' W', KeptB b w.heap.size W W' → I pre W' → Ax p a' W' → K a' W') →
      assign.wpIn (Fence.wide.inRound l) 7 Tryd.prog (Exit.then K (fun _ _ _ => False)) { tmps := (ps.zip #[.agg #[.int .i64 p.1, .int .i64 p.2]]).foldl (fun t (p, v) => t.setIfInBounds p v) a.tmps, defers := [] } W)
    (hbody : ∀ (l : Nat) (pre : List (Int × Int)) (p : Int × Int) (a' : Act) (W : World), I pre W → Ax p a' W → pre.length < N → body.wpIn (Fence.wide.inRound l) 7 Tryd.prog (bodyB b w.heap.size I (pre ++ [p]) W) a' W)
    (hdone : ∀ (W : World), I (cellsOf X U.toNat (upto (fun j => Y + (j : Int)) (rowsOf X Y U V))) W → Q .normal a W) :
    (Code.rangeFunc g ps assign body).wpIn (Fence.wide.inRound l₀) 7 Tryd.prog Q a w := by
  have hbl := blk_lt hB.1
  refine wpIn_rangeFunc fun fn hfn => ?_
  obtain ⟨R, hR⟩ : ∃ R : LoopState → Option Code → Loop, R = fun st pe => { state := st, pending := pe, fn, tmps := a.tmps, params := ps, assign, body, defers := r₀.defers } := ⟨_, rfl⟩
  obtain ⟨W1, hW1⟩ : ∃ W1, w.alloc (.loop (R .ready none)) = W1 := ⟨_, rfl⟩
  have hz : W1.heap.size = w.heap.size + 1 := by rw [← hW1]; simp
  have hk1 : Below w.heap.size w W1 := by rw [← hW1]; exact bl_al (bl0 _) _
  have hL1 : W1.heap[w.heap.size]? = some (.loop (R .ready none)) := by rw [← hW1]; exact World.alloc_heap_new w _
  have hB1 : BoxAt W1 b X Y U V := hB.kept (hk1.block b hbl)
  have hI1 : I [] W1 := hI [] w W1 none h0 (grown_of_below hk1) (fun r e => by cases e)
  refine ⟨w.heap.size, [], W1, { target := .fn (.func 72) #[.pointer (some ⟨b, 0, none⟩)], args := #[.func (.yield w.heap.size) #[] #[]] }, W1, 72,
    #[.func (.yield w.heap.size) #[] #[], .pointer (some ⟨b, 0, none⟩)], W1, ?_, ?_, ?_, ?_, (fun h => by cases h), ?_⟩
  · rw [← hW1, hR]; exact run_enterLoop_inner hl₀ _ _ _ _ _
  · simp only [resolve, hg]
    simp [go_sem]
  · intro f' _; exact trivial
  · simp [invoke, go_sem]
  refine CallsIn.inRound l₀ (callsIn_deep _ ((cells1_in w.heap.size b X Y U V N hN
    (fun pre W => I pre W ∧ W.heap[w.heap.size]? = some (.loop (R .ready none)))
    (fun _ _ => False)
    W1 ?oJ ?oJx ?round hB1 ⟨hI1, hL1⟩).mono ?behind))
  case oJ =>
    intro s A B row hs hg' hr
    exact ⟨hI s A B row hs.1 hg' (fun r e => ⟨by have := (hr r e).1; omega, (hr r e).2⟩), (hg'.block _ (Array.getElem?_eq_some_iff.1 hs.2).1 (fun e => by have := (hr _ e.symm).1; omega)).trans hs.2⟩
  case oJx => exact fun _ _ _ _ h _ _ => h
  case behind =>
    rintro e W2 ⟨⟨v, rfl⟩, (⟨hi, hl⟩ | ⟨q, hq, hi⟩)⟩
    · have he := run_endLoop (P := Tryd.prog) hl (by rw [hR]; simp)
      rw [hR] at he
      exact ⟨none, _, he, hdone _ (hI _ W2 _ _ hi (grownBy_putObj' W2 _ _) (fun r e => by cases e; exact ⟨by omega, _, hl, rfl⟩))⟩
    · exact hi.elim
  case round =>
    rintro pre p W ⟨hi, hl⟩ hlen
    rw [hz]
    have hy := run_yield (P := Tryd.prog) (args := #[.agg #[.int .i64 p.1, .int .i64 p.2]]) hl (by rw [hR]; simp [hps])
    rw [hR] at hy
    refine yieldAt_any (m := 7) 0 ⟨fn, _, assign, body, hy, roundIn_of_wpIn hfn (hassign _ pre p W _ hi ?_)⟩
    intro a' Wa hka hia hax
    have hl2 := hka.heap (k := w.heap.size) (by omega) hl
    refine ⟨_, run_beginRound hl2 (by rw [hR]), ?_⟩
    obtain ⟨W3, hW3⟩ : ∃ W3, Wa.putObj w.heap.size (.loop { R .ready none with state := .busy }) = W3 := ⟨_, rfl⟩
    rw [hW3]
    have hl3 : W3.heap[w.heap.size]? = some (.loop { R .ready none with state := .busy }) := by rw [← hW3]; exact World.putObj_heap_same (Array.getElem?_eq_some_iff.1 hl2).1
    have hp3 : KeptB b (w.heap.size + 1) Wa W3 := by rw [← hW3]; exact KeptB.put _ (by omega) (by omega)
    have hg3 : Wa.grownBy W3 (some w.heap.size) := by rw [← hW3]; exact grownBy_putObj' _ _ _
    have hr3 : ∀ r, some w.heap.size = some r → w.heap.size ≤ r ∧ ∃ o : Obj, Wa.heap[r]? = some o ∧ o.isCells = false := fun r e => by cases e; exact ⟨by omega, _, hl2, rfl⟩
    refine wpIn_mono (hbody _ pre p a' W3 (hI _ Wa W3 _ hia hg3 hr3) (hAx p a' () Wa W3 _ hax hg3 hr3) hlen) ?_
    rintro e a3 W4 hp
    cases e with
    | normal =>
      obtain ⟨hb4, hi4⟩ := hp
      have hl4 := hb4.heap (k := w.heap.size) (by omega) hl3
      have he := run_endRound (P := Tryd.prog) none hl4
      refine ⟨_, _, he, .inl ⟨rfl, ⟨hI _ W4 _ _ hi4 (grownBy_putObj' W4 _ _) (fun r e => by cases e; exact ⟨by omega, _, hl4, rfl⟩), ?_⟩, ?_⟩⟩
      · rw [World.putObj_heap_same (Array.getElem?_eq_some_iff.1 hl4).1, hR]; rfl
      · exact ((((hka.up (by omega)).trans hp3).trans (hb4.up (by omega))).trans (KeptB.put _ (by omega) (by omega)))
    | ret => exact hp.elim
    | exit id => exact hp.elim
    | goto t => exact hp.elim
    | panic ch => exact hp.elim
    | outgrown => exact hp.elim

end Go.Proofs.YtldpajfendkhbaaDoor
