/- The law for a loop over an iterator that reads memory which the loop's body lets lie (R), and whose own blocks lie as they lay. -/
import Derived.Test.YtldpajfendkhbaaDoorWb
namespace Go.Proofs.YtldpajfendkhbaaDoor
open Go.RowKit Go.Shelf
attribute [local go_sem] Oper.semAt_some

/-- An iterator by its contract: it hands in xs, as long as R holds; what it turns, are the blocks from p on, c of them. -/
def IterR {α : Type} (p c gf : Nat) (lb : Array Value) (encs : α → Array Value) (xs : List α) (R : World → Prop) (w : World) : Prop :=
  ∀ (l : Nat) (J Jx : List α → World → Prop) (W : World), Below w.heap.size w W → AbP p c J → AbP p c Jx → (∀ pre W1, J pre W1 → R W1) → (∀ pre W1, Jx pre W1 → R W1) →
    (∀ pre x W1, J pre W1 → pre ++ [x] <+: xs → YieldAt Fence.wide 0 Tryd.prog l (encs x) W1 fun e W' =>
      (e = .returned (.bool true) ∧ J (pre ++ [x]) W' ∧ KP p c W1 W') ∨ (e = .returned (.bool false) ∧ Jx (pre ++ [x]) W' ∧ KP p c W1 W')) →
    J [] W →
    CallsIn Fence.wide 10 Tryd.prog gf (#[.func (.yield l) #[] #[]] ++ lb) W fun e W' => (∃ v, e = .returned v) ∧ (J xs W' ∨ ∃ q, q <+: xs ∧ Jx q W')

set_option maxHeartbeats 1000000 in
theorem range_r {α : Type} {encs : α → Array Value} {ps : Array Tmp} {assign body : Code} {g : Operand} {Q : Exit → Act → World → Prop} {a : Act} {w : World} (p c gf : Nat) (lb : Array Value) (xs : List α) (R₀ : World → Prop) (hit : IterR p c gf lb encs xs R₀ w)
    (hg : a.eval g = .func (.func gf) #[] lb) (hps : ∀ x, (encs x).size = ps.size) (hp : p + c ≤ w.heap.size)
    (hen : ∀ args w', (callFunc gf args).run Tryd.prog w' = .ok (.enter gf args) w')
    (I : List α → World → Prop) (Ix : Code → List α → World → Prop) (hI : OwnFrom w.heap.size I) (hIx : ∀ c, OwnFrom w.heap.size (Ix c)) (hIp : AbP p c I) (hIxp : ∀ cc, AbP p c (Ix cc)) (hIR : ∀ pre W, I pre W → R₀ W) (hIxR : ∀ cc pre W, Ix cc pre W → R₀ W) (h0 : I [] w)
    (Ax : α → Act → World → Prop) (hAx : ∀ x a', OwnFrom w.heap.size (fun (_ : Unit) W => Ax x a' W))
    (hassign : ∀ (l : Nat) (pre : List α) (x : α) (W : World) (K : Act → World → Prop), I pre W → (∀ a' W', KeepsFrom w.heap.size W W' → KP p c W W' → I pre W' → Ax x a' W' → K a' W') →
      assign.wpIn (Fence.wide.inRound l) 7 Tryd.prog (Exit.then K (fun _ _ _ => False)) { tmps := (ps.zip (encs x)).foldl (fun t (p, v) => t.setIfInBounds p v) a.tmps, defers := [] } W)
    (hbody : ∀ (l : Nat) (pre : List α) (x : α) (a' : Act) (W : World), w.heap.size ≤ l → (∃ r, W.heap[l]? = some (.loop r)) → I pre W → Ax x a' W → pre ++ [x] <+: xs → body.wpIn (Fence.wide.inRound l) 7 Tryd.prog (bodyQ p c w.heap.size I Ix (pre ++ [x]) W) a' W)
    (hdone : ∀ (D : Nat) (W : World), w.heap.size ≤ D → I xs W → W.heap[D]? = some (.deferred (some [])) → Q .normal { a with defers := { target := .collected D, args := #[] } :: a.defers } W)
    (hstop : ∀ (D : Nat) (cc : Code) (q : List α) (W : World), w.heap.size ≤ D → q <+: xs → Ix cc q W → W.heap[D]? = some (.deferred (some [])) → cc.wpIn Fence.wide 11 Tryd.prog Q { a with defers := { target := .collected D, args := #[] } :: a.defers } W) :
    (Code.rangeFunc g ps assign body).wpIn Fence.wide 11 Tryd.prog Q a w := by
  refine wpIn_rangeFunc fun fn hfn => ?_
  obtain ⟨R, hR⟩ : ∃ R : LoopState → Option Code → Loop, R = fun st pe => { state := st, pending := pe, fn, tmps := a.tmps, params := ps, assign, body, defers := w.heap.size } := ⟨_, rfl⟩
  obtain ⟨W1, hW1⟩ : ∃ W1, (w.alloc (.deferred (some []))).alloc (.loop (R .ready none)) = W1 := ⟨_, rfl⟩
  have hk1 : Below w.heap.size w W1 := by rw [← hW1]; exact bl_al (bl_al (bl0 _) _) _
  have hL1 : W1.heap[w.heap.size + 1]? = some (.loop (R .ready none)) := by
    have h := World.alloc_heap_new (w.alloc (.deferred (some []))) (.loop (R .ready none))
    rw [World.size_alloc] at h
    rw [← hW1]; exact h
  have hD1 : W1.heap[w.heap.size]? = some (.deferred (some [])) := by
    rw [← hW1]; exact (Below.heap_alloc _ _ _ (by simp)).trans (World.alloc_heap_new w _)
  have hI1 : I [] W1 := hI [] w W1 none h0 (grown_of_below hk1) (fun r e => by cases e)
  refine ⟨w.heap.size + 1, [{ target := .collected w.heap.size, args := #[] }], W1, { target := .fn (.func gf) lb, args := #[.func (.yield (w.heap.size + 1)) #[] #[]] }, W1, gf,
    #[.func (.yield (w.heap.size + 1)) #[] #[]] ++ lb, W1, ?_, ?_, ?_, ?_, (fun h => by cases h), ?_⟩
  · rw [← hW1, hR]; exact run_enterLoop_outer _ _ _ _ _
  · simp only [resolve, hg]
    simp [go_sem]
  · intro f' _; exact trivial
  · simpa [invoke, go_sem] using hen _ _
  refine (hit (w.heap.size + 1)
    (fun pre W => I pre W ∧ W.heap[w.heap.size + 1]? = some (.loop (R .ready none)) ∧ W.heap[w.heap.size]? = some (.deferred (some [])))
    (fun pre W => ∃ c, Ix c pre W ∧ W.heap[w.heap.size + 1]? = some (.loop (R .done (some c))) ∧ W.heap[w.heap.size]? = some (.deferred (some [])))
    W1 hk1 ?oJ ?oJx (fun _ _ h => hIR _ _ h.1) (fun _ _ ⟨_, h⟩ => hIxR _ _ _ h.1) ?round ⟨hI1, hL1, hD1⟩).mono ?behind
  case oJ =>
    intro s A B row hs hg' hr
    refine ⟨hIp s A B row hs.1 hg' hr, (hg'.block _ (Array.getElem?_eq_some_iff.1 hs.2.1).1 (fun e => by have := (hr _ e.symm).2.1; omega)).trans hs.2.1, (hg'.block _ (Array.getElem?_eq_some_iff.1 hs.2.2).1 (fun e => by have := (hr _ e.symm).2.1; omega)).trans hs.2.2⟩
  case oJx =>
    rintro s A B row ⟨cc, hs⟩ hg' hr
    refine ⟨cc, hIxp cc s A B row hs.1 hg' hr, (hg'.block _ (Array.getElem?_eq_some_iff.1 hs.2.1).1 (fun e => by have := (hr _ e.symm).2.1; omega)).trans hs.2.1, (hg'.block _ (Array.getElem?_eq_some_iff.1 hs.2.2).1 (fun e => by have := (hr _ e.symm).2.1; omega)).trans hs.2.2⟩
  case behind =>
    rintro e W2 ⟨⟨v, rfl⟩, (⟨hi, hl, hk⟩ | ⟨q, hq, cc, hi, hl, hk⟩)⟩
    · have he := run_endLoop (P := Tryd.prog) hl (by rw [hR]; simp)
      rw [hR] at he
      exact ⟨none, _, he, hdone _ _ (Nat.le_refl _) (hI _ W2 _ _ hi (grownBy_putObj' W2 _ _) (fun r e => by cases e; exact ⟨by omega, _, hl, rfl⟩)) ((World.putObj_heap_other (by omega)).trans hk)⟩
    · have he := run_endLoop (P := Tryd.prog) hl (by rw [hR]; simp)
      rw [hR] at he
      exact ⟨some cc, _, he, hstop _ cc q _ (Nat.le_refl _) hq (hIx cc _ W2 _ _ hi (grownBy_putObj' W2 _ _) (fun r e => by cases e; exact ⟨by omega, _, hl, rfl⟩)) ((World.putObj_heap_other (by omega)).trans hk)⟩
  case round =>
    rintro pre x W ⟨hi, hl, hk⟩ hlen
    rw [hR] at hl
    obtain ⟨fn', t', as', bo', hy, hRd⟩ := round_q (encs := encs) (p := p) (c := c) (n := w.heap.size) (L := w.heap.size + 1) hfn (by omega) hp I Ix hI hIx Ax hAx pre x W (hps x) hl (fun K hK => hassign _ pre x W K hi hK) (fun a' W' hl' hi' hax => hbody _ pre x a' W' (by omega) hl' hi' hax hlen)
    refine ⟨fn', t', as', bo', hy, hRd.mono ?_⟩
    rintro e W' ⟨hb, (⟨he, hi', hl', hkp⟩ | ⟨he, hkp, cc, hi', hl'⟩)⟩
    · exact .inl ⟨he, ⟨hi', by rw [hR]; exact hl', hb _ _ (Nat.le_refl _) (by omega) hk rfl⟩, hkp⟩
    · exact .inr ⟨he, ⟨cc, hi', by rw [hR]; exact hl', hb _ _ (Nat.le_refl _) (by omega) hk rfl⟩, hkp⟩

set_option maxHeartbeats 1000000 in
/-- The same, within a round of the loop l₀. -/
theorem range_rn {α : Type} {encs : α → Array Value} {ps : Array Tmp} {assign body : Code} {g : Operand} {Q : Exit → Act → World → Prop} {a : Act} {w : World} {l₀ : Nat} {r₀ : Loop} (hl₀ : w.heap[l₀]? = some (.loop r₀)) (p c gf : Nat) (lb : Array Value) (xs : List α) (R₀ : World → Prop) (hit : IterR p c gf lb encs xs R₀ w)
    (hg : a.eval g = .func (.func gf) #[] lb) (hps : ∀ x, (encs x).size = ps.size) (hp : p + c ≤ w.heap.size)
    (hen : ∀ args w', (callFunc gf args).run Tryd.prog w' = .ok (.enter gf args) w')
    (I : List α → World → Prop) (Ix : Code → List α → World → Prop) (hI : OwnFrom w.heap.size I) (hIx : ∀ c, OwnFrom w.heap.size (Ix c)) (hIp : AbP p c I) (hIxp : ∀ cc, AbP p c (Ix cc)) (hIR : ∀ pre W, I pre W → R₀ W) (hIxR : ∀ cc pre W, Ix cc pre W → R₀ W) (h0 : I [] w)
    (Ax : α → Act → World → Prop) (hAx : ∀ x a', OwnFrom w.heap.size (fun (_ : Unit) W => Ax x a' W))
    (hassign : ∀ (l : Nat) (pre : List α) (x : α) (W : World) (K : Act → World → Prop), I pre W → (∀ a' W', KeepsFrom w.heap.size W W' → KP p c W W' → I pre W' → Ax x a' W' → K a' W') →
      assign.wpIn (Fence.wide.inRound l) 7 Tryd.prog (Exit.then K (fun _ _ _ => False)) { tmps := (ps.zip (encs x)).foldl (fun t (p, v) => t.setIfInBounds p v) a.tmps, defers := [] } W)
    (hbody : ∀ (l : Nat) (pre : List α) (x : α) (a' : Act) (W : World), w.heap.size ≤ l → (∃ r, W.heap[l]? = some (.loop r)) → I pre W → Ax x a' W → pre ++ [x] <+: xs → body.wpIn (Fence.wide.inRound l) 7 Tryd.prog (bodyQ p c w.heap.size I Ix (pre ++ [x]) W) a' W)
    (hdone : ∀ (W : World), I xs W → Q .normal a W)
    (hstop : ∀ (cc : Code) (q : List α) (W : World), q <+: xs → Ix cc q W → cc.wpIn (Fence.wide.inRound l₀) 7 Tryd.prog Q a W) :
    (Code.rangeFunc g ps assign body).wpIn (Fence.wide.inRound l₀) 7 Tryd.prog Q a w := by
  refine wpIn_rangeFunc fun fn hfn => ?_
  obtain ⟨R, hR⟩ : ∃ R : LoopState → Option Code → Loop, R = fun st pe => { state := st, pending := pe, fn, tmps := a.tmps, params := ps, assign, body, defers := r₀.defers } := ⟨_, rfl⟩
  obtain ⟨W1, hW1⟩ : ∃ W1, w.alloc (.loop (R .ready none)) = W1 := ⟨_, rfl⟩
  have hk1 : Below w.heap.size w W1 := by rw [← hW1]; exact bl_al (bl0 _) _
  have hL1 : W1.heap[w.heap.size]? = some (.loop (R .ready none)) := by rw [← hW1]; exact World.alloc_heap_new w _
  have hI1 : I [] W1 := hI [] w W1 none h0 (grown_of_below hk1) (fun r e => by cases e)
  refine ⟨w.heap.size, [], W1, { target := .fn (.func gf) lb, args := #[.func (.yield w.heap.size) #[] #[]] }, W1, gf,
    #[.func (.yield w.heap.size) #[] #[]] ++ lb, W1, ?_, ?_, ?_, ?_, (fun h => by cases h), ?_⟩
  · rw [← hW1, hR]; exact run_enterLoop_inner hl₀ _ _ _ _ _
  · simp only [resolve, hg]
    simp [go_sem]
  · intro f' _; exact trivial
  · simpa [invoke, go_sem] using hen _ _
  refine CallsIn.inRound l₀ (callsIn_deep _ ((hit w.heap.size
    (fun pre W => I pre W ∧ W.heap[w.heap.size]? = some (.loop (R .ready none)))
    (fun pre W => ∃ c, Ix c pre W ∧ W.heap[w.heap.size]? = some (.loop (R .done (some c))))
    W1 hk1 ?oJ ?oJx (fun _ _ h => hIR _ _ h.1) (fun _ _ ⟨_, h⟩ => hIxR _ _ _ h.1) ?round ⟨hI1, hL1⟩).mono ?behind))
  case oJ =>
    intro s A B row hs hg' hr
    exact ⟨hIp s A B row hs.1 hg' hr, (hg'.block _ (Array.getElem?_eq_some_iff.1 hs.2).1 (fun e => by have := (hr _ e.symm).2.1; omega)).trans hs.2⟩
  case oJx =>
    rintro s A B row ⟨cc, hs⟩ hg' hr
    exact ⟨cc, hIxp cc s A B row hs.1 hg' hr, (hg'.block _ (Array.getElem?_eq_some_iff.1 hs.2).1 (fun e => by have := (hr _ e.symm).2.1; omega)).trans hs.2⟩
  case behind =>
    rintro e W2 ⟨⟨v, rfl⟩, (⟨hi, hl⟩ | ⟨q, hq, cc, hi, hl⟩)⟩
    · have he := run_endLoop (P := Tryd.prog) hl (by rw [hR]; simp)
      rw [hR] at he
      exact ⟨none, _, he, hdone _ (hI _ W2 _ _ hi (grownBy_putObj' W2 _ _) (fun r e => by cases e; exact ⟨by omega, _, hl, rfl⟩))⟩
    · have he := run_endLoop (P := Tryd.prog) hl (by rw [hR]; simp)
      rw [hR] at he
      exact ⟨some cc, _, he, hstop cc q _ hq (hIx cc _ W2 _ _ hi (grownBy_putObj' W2 _ _) (fun r e => by cases e; exact ⟨by omega, _, hl, rfl⟩))⟩
  case round =>
    rintro pre x W ⟨hi, hl⟩ hlen
    rw [hR] at hl
    obtain ⟨fn', t', as', bo', hy, hRd⟩ := round_q (encs := encs) (p := p) (c := c) (n := w.heap.size) (L := w.heap.size) hfn (by omega) hp I Ix hI hIx Ax hAx pre x W (hps x) hl (fun K hK => hassign _ pre x W K hi hK) (fun a' W' hl' hi' hax => hbody _ pre x a' W' (by omega) hl' hi' hax hlen)
    refine ⟨fn', t', as', bo', hy, hRd.mono ?_⟩
    rintro e W' ⟨hb, (⟨he, hi', hl', hkp⟩ | ⟨he, hkp, cc, hi', hl'⟩)⟩
    · exact .inl ⟨he, ⟨hi', by rw [hR]; exact hl'⟩, hkp⟩
    · exact .inr ⟨he, ⟨cc, hi', by rw [hR]; exact hl'⟩, hkp⟩
end Go.Proofs.YtldpajfendkhbaaDoor
