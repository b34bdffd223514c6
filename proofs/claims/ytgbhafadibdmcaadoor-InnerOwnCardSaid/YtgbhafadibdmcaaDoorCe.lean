/- The law for a loop over an iterator that reads memory, where the loop's body turns things of one's own: it lets the loop's own two blocks lie, the iterator's, and one block C that the iterator lays as it begins. -/
import Derived.Test.YtgbhafadibdmcaaDoorAa
namespace Go.Proofs.YtgbhafadibdmcaaDoor
open Go.RowKit Go.Shelf
attribute [local go_sem] Oper.semAt_some

/-- An iterator by its contract: it hands in xs, as long as R holds; the blocks from p on, c of them, and the block C that it lays first, must lie. -/
def IterC {α : Type} (p c gf : Nat) (lb : Array Value) (encs : α → Array Value) (xs : List α) (R : World → Prop) (w : World) : Prop :=
  ∀ (l : Nat) (J Jx : Nat → List α → World → Prop) (W : World), Below w.heap.size w W → (∀ C, AbP p c (J C)) → (∀ C pre W1, J C pre W1 → R W1) → (∀ C pre W1, Jx C pre W1 → R W1) →
    (∀ C pre x W1, J C pre W1 → pre ++ [x] <+: xs → YieldAt Fence.wide 0 Tryd.prog l (encs x) W1 fun e W' =>
      (e = .returned (.bool true) ∧ J C (pre ++ [x]) W' ∧ KP p c W1 W' ∧ KP C 1 W1 W') ∨ (e = .returned (.bool false) ∧ Jx C (pre ++ [x]) W' ∧ KP p c W1 W' ∧ KP C 1 W1 W')) →
    (∀ W' C, Below W.heap.size W W' → W.heap.size ≤ C → C < W'.heap.size → J C [] W') →
    CallsIn Fence.wide 10 Tryd.prog gf (#[.func (.yield l) #[] #[]] ++ lb) W fun e W' => (∃ v, e = .returned v) ∧ ((∃ C, J C xs W') ∨ ∃ C q, q <+: xs ∧ Jx C q W')

/-- It abides turns of the loop's own two blocks, and new blocks. -/
def AbH {β : Type} (n : Nat) (J : β → World → Prop) : Prop := ∀ s A B row, J s A → A.grownBy B row → (∀ r, row = some r → n ≤ r ∧ r < n + 2) → J s B
/-- How the body of a round may be left: at its end, by a return, or out of a loop. -/
def bodyS {α : Type} (p c n C : Nat) (I : List α → World → Prop) (Ix : Code → List α → World → Prop) (xs : List α) (W : World) : Exit → Act → World → Prop
  | .normal, _, W' => KP n 2 W W' ∧ KP p c W W' ∧ KP C 1 W W' ∧ I xs W'
  | .ret, _, W' => KP n 2 W W' ∧ KP p c W W' ∧ KP C 1 W W' ∧ Ix .ret xs W'
  | .exit id, _, W' => KP n 2 W W' ∧ KP p c W W' ∧ KP C 1 W W' ∧ Ix (.exit id) xs W'
  | _, _, _ => False

set_option maxHeartbeats 1000000 in
/-- One round. -/
theorem round_s {α : Type} {encs : α → Array Value} {p c n C : Nat} {fn : FuncId} {tm : Array Value} {ps : Array Tmp} {assign body : Code} {df : Nat}
    (hfn : Fence.wide.fn fn) (hpn : p + c ≤ n) (hC : n + 2 ≤ C)
    (I : List α → World → Prop) (Ix : Code → List α → World → Prop) (hI : AbH n I) (hIx : ∀ c, AbH n (Ix c)) (Ax : α → Act → World → Prop) (hAx : ∀ x a', AbH n (fun (_ : Unit) W => Ax x a' W))
    (pre : List α) (x : α) (W : World) (hps : (encs x).size = ps.size)
    (hl : W.heap[n + 1]? = some (.loop { state := .ready, pending := none, fn := fn, tmps := tm, params := ps, assign := assign, body := body, defers := df }))
    (hD : W.heap[n]? = some (.deferred (some [])))
    (hassign : ∀ (K : Act → World → Prop), (∀ a' W', KP n 2 W W' → KP p c W W' → KP C 1 W W' → I pre W' → Ax x a' W' → K a' W') →
      assign.wpIn (Fence.wide.inRound (n + 1)) 7 Tryd.prog (Exit.then K (fun _ _ _ => False)) { tmps := (ps.zip (encs x)).foldl (fun t (p, v) => t.setIfInBounds p v) tm, defers := [] } W)
    (hbody : ∀ (a' : Act) (W : World), (∃ r, W.heap[n + 1]? = some (.loop r)) → I pre W → Ax x a' W → body.wpIn (Fence.wide.inRound (n + 1)) 7 Tryd.prog (bodyS p c n C I Ix (pre ++ [x]) W) a' W) :
    YieldAt Fence.wide 0 Tryd.prog (n + 1) (encs x) W fun e W' => W'.heap[n]? = some (.deferred (some [])) ∧
      ((e = .returned (.bool true) ∧ I (pre ++ [x]) W' ∧ W'.heap[n + 1]? = some (.loop { state := .ready, pending := none, fn := fn, tmps := tm, params := ps, assign := assign, body := body, defers := df }) ∧ KP p c W W' ∧ KP C 1 W W') ∨
       (e = .returned (.bool false) ∧ KP p c W W' ∧ KP C 1 W W' ∧ ∃ cc, Ix cc (pre ++ [x]) W' ∧ W'.heap[n + 1]? = some (.loop { state := .done, pending := some cc, fn := fn, tmps := tm, params := ps, assign := assign, body := body, defers := df }))) := by
  have hy := run_yield (P := Tryd.prog) (args := encs x) hl hps
  refine yieldAt_wide (m := 7) 0 ⟨fn, _, assign, body, hy, roundIn_of_wpIn hfn (hassign _ ?_)⟩
  intro a' Wa hka hkp hkc hia hax
  have hl2 := (hka.2 (n + 1) (by omega) (by omega)).trans hl
  have hD2 := (hka.2 n (by omega) (by omega)).trans hD
  refine ⟨_, run_beginRound hl2 rfl, ?_⟩
  obtain ⟨W3, hW3⟩ : ∃ W3, Wa.putObj (n + 1) (.loop { state := .busy, pending := none, fn := fn, tmps := tm, params := ps, assign := assign, body := body, defers := df }) = W3 := ⟨_, rfl⟩
  have hl3 : W3.heap[n + 1]? = some (.loop { state := .busy, pending := none, fn := fn, tmps := tm, params := ps, assign := assign, body := body, defers := df }) := by rw [← hW3]; exact World.putObj_heap_same (Array.getElem?_eq_some_iff.1 hl2).1
  have hg3 : Wa.grownBy W3 (some (n + 1)) := by rw [← hW3]; exact grownBy_putObj' _ _ _
  have hr3 : ∀ r, some (n + 1) = some r → n ≤ r ∧ r < n + 2 := fun r e => by cases e; omega
  have hD3 : W3.heap[n]? = some (.deferred (some [])) := by rw [← hW3]; exact (World.putObj_heap_other (by omega)).trans hD2
  have hp3 : KP p c W W3 := hkp.trans (by rw [← hW3]; exact KP.put _ (by omega))
  have putC : ∀ (A : World) (o : Obj), KP C 1 A (A.putObj (n + 1) o) := fun A o => ⟨by simp, fun k _ _ => World.putObj_heap_other (by omega)⟩
  have hc3 : KP C 1 W W3 := hkc.trans (by rw [← hW3]; exact putC _ _)
  rw [hW3]
  refine wpIn_mono (hbody a' W3 ⟨_, hl3⟩ (hI _ Wa W3 _ hia hg3 hr3) (hAx x a' () Wa W3 _ hax hg3 hr3)) ?_
  have stop : ∀ (cc : Code) (W4 : World), KP n 2 W3 W4 → KP p c W3 W4 → KP C 1 W3 W4 → Ix cc (pre ++ [x]) W4 → ∀ o, o = Obj.loop { state := .done, pending := some cc, fn := fn, tmps := tm, params := ps, assign := assign, body := body, defers := df } → (W4.putObj (n + 1) o).heap[n]? = some (.deferred (some [])) ∧ (W4.putObj (n + 1) o).heap[n + 1]? = some o ∧ Ix cc (pre ++ [x]) (W4.putObj (n + 1) o) ∧ KP p c W (W4.putObj (n + 1) o) ∧ KP C 1 W (W4.putObj (n + 1) o) := by
    intro cc W4 hb4 hk4 hc4 hi4 o ho
    have hl4 := (hb4.2 (n + 1) (by omega) (by omega)).trans hl3
    have hD4 := (hb4.2 n (by omega) (by omega)).trans hD3
    exact ⟨(World.putObj_heap_other (by omega)).trans hD4, World.putObj_heap_same (Array.getElem?_eq_some_iff.1 hl4).1, hIx cc _ W4 _ _ hi4 (grownBy_putObj' W4 _ _) (fun r e => by cases e; omega), (hp3.trans hk4).trans (KP.put _ (by omega)), (hc3.trans hc4).trans (putC _ _)⟩
  rintro e a3 W4 hp'
  cases e with
  | normal =>
    obtain ⟨hb4, hk4, hc4, hi4⟩ := hp'
    have hl4 := (hb4.2 (n + 1) (by omega) (by omega)).trans hl3
    have hD4 := (hb4.2 n (by omega) (by omega)).trans hD3
    have he := run_endRound (P := Tryd.prog) none hl4
    refine ⟨_, _, he, (World.putObj_heap_other (by omega)).trans hD4, .inl ⟨rfl, hI _ W4 _ _ hi4 (grownBy_putObj' W4 _ _) (fun r e => by cases e; omega), ?_, (hp3.trans hk4).trans (KP.put _ (by omega)), (hc3.trans hc4).trans (putC _ _)⟩⟩
    rw [World.putObj_heap_same (Array.getElem?_eq_some_iff.1 hl4).1]; rfl
  | ret =>
    obtain ⟨hb4, hk4, hc4, hi4⟩ := hp'
    have he := run_endRound (P := Tryd.prog) (some .ret) ((hb4.2 (n + 1) (by omega) (by omega)).trans hl3)
    obtain ⟨q1, q2, q3, q4, q5⟩ := stop .ret W4 hb4 hk4 hc4 hi4 _ rfl
    exact ⟨_, _, he, q1, .inr ⟨rfl, q4, q5, _, q3, q2⟩⟩
  | exit id =>
    obtain ⟨hb4, hk4, hc4, hi4⟩ := hp'
    have he := run_endRound (P := Tryd.prog) (some (.exit id)) ((hb4.2 (n + 1) (by omega) (by omega)).trans hl3)
    obtain ⟨q1, q2, q3, q4, q5⟩ := stop (.exit id) W4 hb4 hk4 hc4 hi4 _ rfl
    exact ⟨_, _, he, q1, .inr ⟨rfl, q4, q5, _, q3, q2⟩⟩
  | goto t => exact hp'.elim
  | panic ch => exact hp'.elim
  | outgrown => exact hp'.elim

set_option maxHeartbeats 1000000 in
theorem range_s {α : Type} {encs : α → Array Value} {ps : Array Tmp} {assign body : Code} {g : Operand} {Q : Exit → Act → World → Prop} {a : Act} {w : World} (p c gf : Nat) (lb : Array Value) (xs : List α) (R₀ : World → Prop) (hit : IterC p c gf lb encs xs R₀ w)
    (hg : a.eval g = .func (.func gf) #[] lb) (hps : ∀ x, (encs x).size = ps.size) (hp : p + c ≤ w.heap.size)
    (hen : ∀ args w', (callFunc gf args).run Tryd.prog w' = .ok (.enter gf args) w')
    (I : Nat → List α → World → Prop) (Ix : Nat → Code → List α → World → Prop) (hI : ∀ C, AbH w.heap.size (I C)) (hIx : ∀ C c, AbH w.heap.size (Ix C c)) (hIp : ∀ C, AbP p c (I C)) (hIR : ∀ C pre W, I C pre W → R₀ W) (hIxR : ∀ C cc pre W, Ix C cc pre W → R₀ W)
    (h0 : ∀ W1 C, Below w.heap.size w W1 → w.heap.size + 2 ≤ C → C < W1.heap.size → I C [] W1)
    (Ax : α → Act → World → Prop) (hAx : ∀ x a', AbH w.heap.size (fun (_ : Unit) W => Ax x a' W))
    (hassign : ∀ (C : Nat) (pre : List α) (x : α) (W : World) (K : Act → World → Prop), w.heap.size + 2 ≤ C → I C pre W → (∀ a' W', KP w.heap.size 2 W W' → KP p c W W' → KP C 1 W W' → I C pre W' → Ax x a' W' → K a' W') →
      assign.wpIn (Fence.wide.inRound (w.heap.size + 1)) 7 Tryd.prog (Exit.then K (fun _ _ _ => False)) { tmps := (ps.zip (encs x)).foldl (fun t (p, v) => t.setIfInBounds p v) a.tmps, defers := [] } W)
    (hbody : ∀ (C : Nat) (pre : List α) (x : α) (a' : Act) (W : World), w.heap.size + 2 ≤ C → (∃ r, W.heap[w.heap.size + 1]? = some (.loop r)) → I C pre W → Ax x a' W → pre ++ [x] <+: xs → body.wpIn (Fence.wide.inRound (w.heap.size + 1)) 7 Tryd.prog (bodyS p c w.heap.size C (I C) (Ix C) (pre ++ [x]) W) a' W)
    (hdone : ∀ (C : Nat) (W : World), I C xs W → W.heap[w.heap.size]? = some (.deferred (some [])) → Q .normal { a with defers := { target := .collected w.heap.size, args := #[] } :: a.defers } W)
    (hstop : ∀ (C : Nat) (cc : Code) (q : List α) (W : World), q <+: xs → Ix C cc q W → W.heap[w.heap.size]? = some (.deferred (some [])) → cc.wpIn Fence.wide 11 Tryd.prog Q { a with defers := { target := .collected w.heap.size, args := #[] } :: a.defers } W) :
    (Code.rangeFunc g ps assign body).wpIn Fence.wide 11 Tryd.prog Q a w := by
  refine wpIn_rangeFunc fun fn hfn => ?_
  obtain ⟨R, hR⟩ : ∃ R : LoopState → Option Code → Loop, R = fun st pe => { state := st, pending := pe, fn, tmps := a.tmps, params := ps, assign, body, defers := w.heap.size } := ⟨_, rfl⟩
  obtain ⟨W1, hW1⟩ : ∃ W1, (w.alloc (.deferred (some []))).alloc (.loop (R .ready none)) = W1 := ⟨_, rfl⟩
  have hk1 : Below w.heap.size w W1 := by rw [← hW1]; exact bl_al (bl_al (bl0 _) _) _
  have hz1 : W1.heap.size = w.heap.size + 2 := by rw [← hW1]; simp
  have hL1 : W1.heap[w.heap.size + 1]? = some (.loop (R .ready none)) := by
    have h := World.alloc_heap_new (w.alloc (.deferred (some []))) (.loop (R .ready none))
    rw [World.size_alloc] at h
    rw [← hW1]; exact h
  have hD1 : W1.heap[w.heap.size]? = some (.deferred (some [])) := by
    rw [← hW1]; exact (Below.heap_alloc _ _ _ (by simp)).trans (World.alloc_heap_new w _)
  refine ⟨w.heap.size + 1, [{ target := .collected w.heap.size, args := #[] }], W1, { target := .fn (.func gf) lb, args := #[.func (.yield (w.heap.size + 1)) #[] #[]] }, W1, gf,
    #[.func (.yield (w.heap.size + 1)) #[] #[]] ++ lb, W1, ?_, ?_, ?_, ?_, (fun h => by cases h), ?_⟩
  · rw [← hW1, hR]; exact run_enterLoop_outer _ _ _ _ _
  · simp only [resolve, hg]
    simp [go_sem]
  · intro f' _; exact trivial
  · simpa [invoke, go_sem] using hen _ _
  refine (hit (w.heap.size + 1)
    (fun C pre W => w.heap.size + 2 ≤ C ∧ I C pre W ∧ W.heap[w.heap.size + 1]? = some (.loop (R .ready none)) ∧ W.heap[w.heap.size]? = some (.deferred (some [])))
    (fun C pre W => ∃ c, Ix C c pre W ∧ W.heap[w.heap.size + 1]? = some (.loop (R .done (some c))) ∧ W.heap[w.heap.size]? = some (.deferred (some [])))
    W1 hk1 ?oJ (fun _ _ _ h => hIR _ _ _ h.2.1) (fun _ _ _ ⟨_, h⟩ => hIxR _ _ _ _ h.1) ?round ?begin).mono ?behind
  case oJ =>
    intro C s A B row hs hg' hr
    refine ⟨hs.1, hIp C s A B row hs.2.1 hg' hr, (hg'.block _ (Array.getElem?_eq_some_iff.1 hs.2.2.1).1 (fun e => by have := (hr _ e.symm).2.1; omega)).trans hs.2.2.1, (hg'.block _ (Array.getElem?_eq_some_iff.1 hs.2.2.2).1 (fun e => by have := (hr _ e.symm).2.1; omega)).trans hs.2.2.2⟩
  case begin =>
    intro W' C hb h1 h2
    rw [hz1] at h1
    refine ⟨h1, h0 W' C (hk1.trans (hb.mono (by omega))) h1 h2, (hb.block _ (by omega)).trans hL1, (hb.block _ (by omega)).trans hD1⟩
  case behind =>
    rintro e W2 ⟨⟨v, rfl⟩, (⟨C, _, hi, hl, hk⟩ | ⟨C, q, hq, cc, hi, hl, hk⟩)⟩
    · have he := run_endLoop (P := Tryd.prog) hl (by rw [hR]; simp)
      rw [hR] at he
      exact ⟨none, _, he, hdone C _ (hI C _ W2 _ _ hi (grownBy_putObj' W2 _ _) (fun r e => by cases e; omega)) ((World.putObj_heap_other (by omega)).trans hk)⟩
    · have he := run_endLoop (P := Tryd.prog) hl (by rw [hR]; simp)
      rw [hR] at he
      exact ⟨some cc, _, he, hstop C cc q _ hq (hIx C cc _ W2 _ _ hi (grownBy_putObj' W2 _ _) (fun r e => by cases e; omega)) ((World.putObj_heap_other (by omega)).trans hk)⟩
  case round =>
    rintro C pre x W ⟨hC, hi, hl, hk⟩ hlen
    rw [hR] at hl
    obtain ⟨fn', t', as', bo', hy, hRd⟩ := round_s (encs := encs) (p := p) (c := c) (n := w.heap.size) (C := C) hfn hp hC (I C) (Ix C) (hI C) (hIx C) Ax hAx pre x W (hps x) hl hk (fun K hK => hassign C pre x W K hC hi hK) (fun a' W' hl' hi' hax => hbody C pre x a' W' hC hl' hi' hax hlen)
    refine ⟨fn', t', as', bo', hy, hRd.mono ?_⟩
    rintro e W' ⟨hb, (⟨he, hi', hl', hkp⟩ | ⟨he, hkp, hkc, cc, hi', hl'⟩)⟩
    · exact .inl ⟨he, ⟨hC, hi', by rw [hR]; exact hl', hb⟩, hkp⟩
    · exact .inr ⟨he, ⟨cc, hi', by rw [hR]; exact hl', hb⟩, hkp, hkc⟩

/-- The marks of loops that ended. -/
def marksOf (Ds : List Nat) : List Deferred := Ds.map fun D => { target := .collected D, args := #[] }
theorem leaves_marks {F : Fence} {m : Nat} {fn : Func} {tmps : Array Value} {R : Ending → World → Prop} :
    ∀ (Ds : List Nat) (W : World), Ds.Nodup → (∀ D ∈ Ds, W.heap[D]? = some (.deferred (some []))) →
      (∀ W', W'.heap.size = W.heap.size → W.os = W'.os ∧ W.tape = W'.tape ∧ W.output = W'.output → (∀ k, k ∉ Ds → W'.heap[k]? = W.heap[k]?) → LeavesIn F m Tryd.prog fn tmps R [] .returning W') →
      LeavesInM F m Tryd.prog fn tmps R (marksOf Ds) .returning W
  | [], W, _, _, hR => hR W rfl ⟨rfl, rfl, rfl⟩ (fun _ _ => rfl)
  | D :: Ds, W, hn, hD, hR => by
    have hd := hD D (by simp)
    rw [List.nodup_cons] at hn
    refine ⟨by simp, .inl ⟨D, _, rfl, run_takeDeferred hd, ?_⟩⟩
    refine leaves_marks Ds _ hn.2 (fun D' h' => ?_) (fun W' h1 h2 h3 => hR W' (h1.trans (by simp)) ?_ (fun k hk => ?_))
    · exact (World.putObj_heap_other (fun e => hn.1 (by rw [← e]; exact h'))).trans (hD D' (by simp [h']))
    · exact h2
    · have hk1 : k ≠ D := fun e => hk (by simp [e])
      have hk2 : k ∉ Ds := fun e => hk (by simp [e])
      exact (h3 k hk2).trans (World.putObj_heap_other hk1)
end Go.Proofs.YtgbhafadibdmcaaDoor
