/- A loop over an iterator that keeps state of its own in some blocks of its own: the law for whoever writes it, also within a round of another loop. -/
import Derived.RangeFuncNested
import Derived.RangeFuncBound
import Derived.RangeFuncBox
import Derived.RangeFuncCalls
import Derived.RangeFuncLeaves
import Derived.Shelf.Abstract
import Derived.Shelf.RegionOpen
import Derived.WalkKit
import Derived.OwnWalkIn
import Derived.TacticsInMore
import Derived.LoopNIn
import Derived.LoopIn
import Derived.Lib.Hide
import Derived.Test.YtldpajfendkhbaaDoorGb
namespace Go.Proofs.YtldpajfendkhbaaDoor
open Go.RowKit Go.Shelf
attribute [local go_sem] Oper.semAt_some

theorem yieldAt_wide {m : Nat} (m' : Nat) {P : Program} {l : Nat} {args : Array Value} {W : World} {R : Ending → World → Prop} (x : YieldAt Fence.wide m P l args W R) : YieldAt Fence.wide m' P l args W R := by
  obtain ⟨fn, tmps, assign, body, hy, hR⟩ := x
  exact ⟨fn, tmps, assign, body, hy, ⟨hR.1, fun c cs _ => hR.2 c cs (room_wide _)⟩⟩
theorem roundIn_any {F : Fence} (l' : Nat) {m : Nat} {P : Program} {l : Nat} {f : FuncId} {tmps : Array Value} {assign body : Code} {w : World} {R : Ending → World → Prop}
    (x : RoundIn F m P l f tmps assign body w R) : RoundIn (F.inRound l') m P l f tmps assign body w R := x
theorem grown_of_below {W W' : World} (h : Below W.heap.size W W') : W.grownBy W' none := ⟨h.os, h.tape, h.output, h.size, fun k hk _ => h.block k hk⟩
theorem callsIn_deep {P : Program} {f : FuncId} {args : Array Value} {w : World} {R : Ending → World → Prop} {n : Nat} (m : Nat) (h : CallsIn Fence.wide n P f args w R) : CallsIn Fence.wide m P f args w R :=
  callsIn_wide.2 (callsIn_wide.1 h)

/-- The blocks from p on, c of them, lie as they lay. -/
def KP (p c : Nat) (A B : World) : Prop := A.heap.size ≤ B.heap.size ∧ ∀ k, p ≤ k → k < p + c → B.heap[k]? = A.heap[k]?
theorem KP.refl (p c : Nat) (A : World) : KP p c A A := ⟨Nat.le_refl _, fun _ _ _ => rfl⟩
theorem KP.trans {p c : Nat} {A B C : World} (x : KP p c A B) (y : KP p c B C) : KP p c A C := ⟨Nat.le_trans x.1 y.1, fun k h1 h2 => (y.2 k h1 h2).trans (x.2 k h1 h2)⟩
theorem KP.of_below {p c : Nat} {A B : World} (h : Below A.heap.size A B) (hp : p + c ≤ A.heap.size) : KP p c A B := ⟨h.size, fun k _ h2 => h.block k (by omega)⟩
theorem KP.of_below' {p c n : Nat} {A B : World} (h : Below n A B) (hp : p + c ≤ n) (hs : A.heap.size ≤ B.heap.size) : KP p c A B := ⟨hs, fun k _ h2 => h.block k (by omega)⟩
theorem KP.put {p c l : Nat} {A : World} (o : Obj) (hl : p + c ≤ l) : KP p c A (A.putObj l o) := ⟨by simp, fun k _ h2 => World.putObj_heap_other (by omega)⟩
theorem KP.st {p c l o : Nat} {A : World} (u : Value) (hl : p + c ≤ l) : KP p c A (A.setCell ⟨l, o, none⟩ u) := ⟨by simp, fun k _ h2 => Below.heap_setCell _ _ _ k (show k ≠ l by omega)⟩
theorem KP.cell {p c k o : Nat} {A B : World} {v : Value} (x : KP p c A B) (h1 : p ≤ k) (h2 : k < p + c) (q : A.cell? ⟨k, o, none⟩ = some v) : B.cell? ⟨k, o, none⟩ = some v :=
  (World.cell?_of_block (a := ⟨k, o, none⟩) (x.2 k h1 h2)).trans q
theorem KP.boxed {p c k : Nat} {t : TypeId} {A B : World} {v : Value} (x : KP p c A B) (h1 : p ≤ k) (h2 : k < p + c) (q : Boxed A k t v) : Boxed B k t v := (x.2 k h1 h2).trans q

/-- What is cells in a block is cells of that type afterwards. -/
def SameKind (A B : World) (r : Nat) : Prop := ∀ cs t, A.heap[r]? = some (.cells cs t (0, 0)) → ∃ cs', B.heap[r]? = some (.cells cs' t (0, 0))
theorem sameKind_set (A : World) (r o : Nat) (u : Value) : SameKind A (A.setCell ⟨r, o, none⟩ u) r := fun cs t h => ⟨_, heap_setCell_same A r o cs t u h⟩
/-- It abides turns of those blocks. -/
def AbP {β : Type} (p c : Nat) (J : β → World → Prop) : Prop := ∀ s A B row, J s A → A.grownBy B row → (∀ r, row = some r → p ≤ r ∧ r < p + c ∧ SameKind A B r) → J s B

/-- An iterator by its contract: it hands in xs; what it turns, are the blocks from p on, c of them. -/
def IterP {α : Type} (p c gf : Nat) (lb : Array Value) (encs : α → Array Value) (xs : List α) (w : World) : Prop :=
  ∀ (l : Nat) (J Jx : List α → World → Prop) (W : World), Below w.heap.size w W → AbP p c J → AbP p c Jx →
    (∀ pre x W1, J pre W1 → pre ++ [x] <+: xs → YieldAt Fence.wide 0 Tryd.prog l (encs x) W1 fun e W' =>
      (e = .returned (.bool true) ∧ J (pre ++ [x]) W' ∧ KP p c W1 W') ∨ (e = .returned (.bool false) ∧ Jx (pre ++ [x]) W')) →
    J [] W →
    CallsIn Fence.wide 10 Tryd.prog gf (#[.func (.yield l) #[] #[]] ++ lb) W fun e W' => (∃ v, e = .returned v) ∧ (J xs W' ∨ ∃ q, q <+: xs ∧ Jx q W')

/-- How the body of a round may be left: at its end, by a return, or out of a loop. -/
def bodyP {α : Type} (p c n₁ : Nat) (I : List α → World → Prop) (Ix : Code → List α → World → Prop) (xs : List α) (W : World) : Exit → Act → World → Prop
  | .normal, _, W' => KeepsFrom n₁ W W' ∧ KP p c W W' ∧ I xs W'
  | .ret, _, W' => KeepsFrom n₁ W W' ∧ Ix .ret xs W'
  | .exit id, _, W' => KeepsFrom n₁ W W' ∧ Ix (.exit id) xs W'
  | _, _, _ => False

/-- What is no cells, but one block, lies as it lay. -/
def KeepsBut (n L : Nat) (A B : World) : Prop := ∀ (k : Nat) (o : Obj), n ≤ k → k ≠ L → A.heap[k]? = some o → o.isCells = false → B.heap[k]? = some o
theorem KeepsBut.trans {n L : Nat} {A B C : World} (x : KeepsBut n L A B) (y : KeepsBut n L B C) : KeepsBut n L A C := fun k o h1 h2 h3 h4 => y k o h1 h2 (x k o h1 h2 h3 h4) h4
theorem KeepsFrom.but {n L : Nat} {A B : World} (x : KeepsFrom n A B) : KeepsBut n L A B := fun k o h1 _ h3 h4 => x.same k o h1 h3 h4
theorem KeepsBut.put {n L : Nat} {A : World} (o : Obj) : KeepsBut n L A (A.putObj L o) := fun _ _ _ h2 h3 _ => (World.putObj_heap_other h2).trans h3

set_option maxHeartbeats 1000000 in
/-- One round. -/
theorem round_p {α : Type} {encs : α → Array Value} {p c n L : Nat} {fn : FuncId} {tm : Array Value} {ps : Array Tmp} {assign body : Code} {df : Nat}
    (hfn : Fence.wide.fn fn) (hnL : n ≤ L) (hpn : p + c ≤ n)
    (I : List α → World → Prop) (Ix : Code → List α → World → Prop) (hI : OwnFrom n I) (hIx : ∀ c, OwnFrom n (Ix c)) (Ax : α → Act → World → Prop) (hAx : ∀ x a', OwnFrom n (fun (_ : Unit) W => Ax x a' W))
    (pre : List α) (x : α) (W : World) (hps : (encs x).size = ps.size)
    (hl : W.heap[L]? = some (.loop { state := .ready, pending := none, fn := fn, tmps := tm, params := ps, assign := assign, body := body, defers := df }))
    (hassign : ∀ (K : Act → World → Prop), (∀ a' W', KeepsFrom n W W' → KP p c W W' → I pre W' → Ax x a' W' → K a' W') →
      assign.wpIn (Fence.wide.inRound L) 7 Tryd.prog (Exit.then K (fun _ _ _ => False)) { tmps := (ps.zip (encs x)).foldl (fun t (p, v) => t.setIfInBounds p v) tm, defers := [] } W)
    (hbody : ∀ (a' : Act) (W : World), (∃ r, W.heap[L]? = some (.loop r)) → I pre W → Ax x a' W → body.wpIn (Fence.wide.inRound L) 7 Tryd.prog (bodyP p c n I Ix (pre ++ [x]) W) a' W) :
    YieldAt Fence.wide 0 Tryd.prog L (encs x) W fun e W' => KeepsBut n L W W' ∧
      ((e = .returned (.bool true) ∧ I (pre ++ [x]) W' ∧ W'.heap[L]? = some (.loop { state := .ready, pending := none, fn := fn, tmps := tm, params := ps, assign := assign, body := body, defers := df }) ∧ KP p c W W') ∨
       (e = .returned (.bool false) ∧ ∃ cc, Ix cc (pre ++ [x]) W' ∧ W'.heap[L]? = some (.loop { state := .done, pending := some cc, fn := fn, tmps := tm, params := ps, assign := assign, body := body, defers := df }))) := by
  have hy := run_yield (P := Tryd.prog) (args := encs x) hl hps
  refine yieldAt_wide (m := 7) 0 ⟨fn, _, assign, body, hy, roundIn_of_wpIn hfn (hassign _ ?_)⟩
  intro a' Wa hka hkp hia hax
  have hl2 := hka.same L _ hnL hl rfl
  refine ⟨_, run_beginRound hl2 rfl, ?_⟩
  obtain ⟨W3, hW3⟩ : ∃ W3, Wa.putObj L (.loop { state := .busy, pending := none, fn := fn, tmps := tm, params := ps, assign := assign, body := body, defers := df }) = W3 := ⟨_, rfl⟩
  have hl3 : W3.heap[L]? = some (.loop { state := .busy, pending := none, fn := fn, tmps := tm, params := ps, assign := assign, body := body, defers := df }) := by rw [← hW3]; exact World.putObj_heap_same (Array.getElem?_eq_some_iff.1 hl2).1
  have hg3 : Wa.grownBy W3 (some L) := by rw [← hW3]; exact grownBy_putObj' _ _ _
  have hr3 : ∀ r, some L = some r → n ≤ r ∧ ∃ o : Obj, Wa.heap[r]? = some o ∧ o.isCells = false := fun r e => by cases e; exact ⟨hnL, _, hl2, rfl⟩
  have hb3 : KeepsBut n L W W3 := (KeepsFrom.but hka).trans (by rw [← hW3]; exact KeepsBut.put _)
  have hp3 : KP p c W W3 := hkp.trans (by rw [← hW3]; exact KP.put _ (by omega))
  rw [hW3]
  refine wpIn_mono (hbody a' W3 ⟨_, hl3⟩ (hI _ Wa W3 _ hia hg3 hr3) (hAx x a' () Wa W3 _ hax hg3 hr3)) ?_
  have stop : ∀ (cc : Code) (W4 : World), KeepsFrom n W3 W4 → Ix cc (pre ++ [x]) W4 → ∀ o, o = Obj.loop { state := .done, pending := some cc, fn := fn, tmps := tm, params := ps, assign := assign, body := body, defers := df } → KeepsBut n L W (W4.putObj L o) ∧ (W4.putObj L o).heap[L]? = some o ∧ Ix cc (pre ++ [x]) (W4.putObj L o) := by
    intro cc W4 hb4 hi4 o ho
    have hl4 := hb4.same L _ hnL hl3 rfl
    exact ⟨(hb3.trans (KeepsFrom.but hb4)).trans (KeepsBut.put _), World.putObj_heap_same (Array.getElem?_eq_some_iff.1 hl4).1, hIx cc _ W4 _ _ hi4 (grownBy_putObj' W4 _ _) (fun r e => by cases e; exact ⟨hnL, _, hl4, rfl⟩)⟩
  rintro e a3 W4 hp'
  cases e with
  | normal =>
    obtain ⟨hb4, hk4, hi4⟩ := hp'
    have hl4 := hb4.same L _ hnL hl3 rfl
    have he := run_endRound (P := Tryd.prog) none hl4
    refine ⟨_, _, he, (hb3.trans (KeepsFrom.but hb4)).trans (KeepsBut.put _), .inl ⟨rfl, hI _ W4 _ _ hi4 (grownBy_putObj' W4 _ _) (fun r e => by cases e; exact ⟨hnL, _, hl4, rfl⟩), ?_, (hp3.trans hk4).trans (KP.put _ (by omega))⟩⟩
    rw [World.putObj_heap_same (Array.getElem?_eq_some_iff.1 hl4).1]; rfl
  | ret =>
    obtain ⟨hb4, hi4⟩ := hp'
    have he := run_endRound (P := Tryd.prog) (some .ret) (hb4.same L _ hnL hl3 rfl)
    obtain ⟨q1, q2, q3⟩ := stop .ret W4 hb4 hi4 _ rfl
    exact ⟨_, _, he, q1, .inr ⟨rfl, _, q3, q2⟩⟩
  | exit id =>
    obtain ⟨hb4, hi4⟩ := hp'
    have he := run_endRound (P := Tryd.prog) (some (.exit id)) (hb4.same L _ hnL hl3 rfl)
    obtain ⟨q1, q2, q3⟩ := stop (.exit id) W4 hb4 hi4 _ rfl
    exact ⟨_, _, he, q1, .inr ⟨rfl, _, q3, q2⟩⟩
  | goto t => exact hp'.elim
  | panic ch => exact hp'.elim
  | outgrown => exact hp'.elim

set_option maxHeartbeats 1000000 in
theorem range_p {α : Type} {encs : α → Array Value} {ps : Array Tmp} {assign body : Code} {g : Operand} {Q : Exit → Act → World → Prop} {a : Act} {w : World} (p c gf : Nat) (lb : Array Value) (xs : List α) (hit : IterP p c gf lb encs xs w)
    (hg : a.eval g = .func (.func gf) #[] lb) (hps : ∀ x, (encs x).size = ps.size) (hp : p + c ≤ w.heap.size)
    (hen : ∀ args w', (callFunc gf args).run Tryd.prog w' = .ok (.enter gf args) w')
    (I : List α → World → Prop) (Ix : Code → List α → World → Prop) (hI : OwnFrom w.heap.size I) (hIx : ∀ c, OwnFrom w.heap.size (Ix c)) (hIp : AbP p c I) (hIxp : ∀ cc, AbP p c (Ix cc)) (h0 : I [] w)
    (Ax : α → Act → World → Prop) (hAx : ∀ x a', OwnFrom w.heap.size (fun (_ : Unit) W => Ax x a' W))
    (hassign : ∀ (l : Nat) (pre : List α) (x : α) (W : World) (K : Act → World → Prop), I pre W → (∀ a' W', KeepsFrom w.heap.size W W' → KP p c W W' → I pre W' → Ax x a' W' → K a' W') →
      assign.wpIn (Fence.wide.inRound l) 7 Tryd.prog (Exit.then K (fun _ _ _ => False)) { tmps := (ps.zip (encs x)).foldl (fun t (p, v) => t.setIfInBounds p v) a.tmps, defers := [] } W)
    (hbody : ∀ (l : Nat) (pre : List α) (x : α) (a' : Act) (W : World), w.heap.size ≤ l → (∃ r, W.heap[l]? = some (.loop r)) → I pre W → Ax x a' W → pre ++ [x] <+: xs → body.wpIn (Fence.wide.inRound l) 7 Tryd.prog (bodyP p c w.heap.size I Ix (pre ++ [x]) W) a' W)
    (hdone : ∀ (D : Nat) (W : World), w.heap.size ≤ D → I xs W → W.heap[D]? = some (.deferred (some [])) → Q .normal { a with defers := { target := .collected D, args := #[] } :: a.defers } W)
    (hstop : ∀ (D : Nat) (cc : Code) (q : List α) (W : World), w.heap.size ≤ D → q <+: xs → Ix cc q W → W.heap[D]? = some (.deferred (some [])) → cc.wpIn Fence.wide 11 Tryd.prog Q { a with defers := { target := .collected D, args := #[] } :: a.defers } W) :
    (Code.rangeFunc g ps assign body).wpIn Fence.wide 11 Tryd.prog Q a w := by
  refine wpIn_rangeFunc fun fn hfn => ?_
  obtain ⟨R, hR⟩ : ∃ R : LoopState → Option Code → Loop, R = fun st pe => { state := st, pending := pe, fn, tmps := a.tmps, params := ps, assign, body, defers := w.heap.size } := ⟨_, rfl⟩
  obtain ⟨W1, hW1⟩ : ∃ W1, (w.alloc (.deferred (some []))).alloc (.loop (R .ready none)) = W1 := ⟨_, rfl⟩
  have hk1 : Below w.heap.size w W1 := by rw [← hW1]; exact bl_al (bl_al (bl0 _) _) _
  have hL1 : W1.heap[w.heap.size + 1]? = some (.loop (R .ready none)) := by
    have h := World.alloc_heap_new (w.alloc (.deferred (some []))) (.loop (R .ready none))
    rw [World.size_alloc] at h
    rw [← hW1]; exact h
  have hD1 : W1.heap[w.heap.size]? = some (.deferred (some [])) := by
    rw [← hW1]; exact (Below.heap_alloc _ _ _ (by simp)).trans (World.alloc_heap_new w _)
  have hI1 : I [] W1 := hI [] w W1 none h0 (grown_of_below hk1) (fun r e => by cases e)
  refine ⟨w.heap.size + 1, [{ target := .collected w.heap.size, args := #[] }], W1, { target := .fn (.func gf) lb, args := #[.func (.yield (w.heap.size + 1)) #[] #[]] }, W1, gf,
    #[.func (.yield (w.heap.size + 1)) #[] #[]] ++ lb, W1, ?_, ?_, ?_, ?_, (fun h => by cases h), ?_⟩
  · rw [← hW1, hR]; exact run_enterLoop_outer _ _ _ _ _
  · simp only [resolve, hg]
    simp [go_sem]
  · intro f' _; exact trivial
  · simpa [invoke, go_sem] using hen _ _
  refine (hit (w.heap.size + 1)
    (fun pre W => I pre W ∧ W.heap[w.heap.size + 1]? = some (.loop (R .ready none)) ∧ W.heap[w.heap.size]? = some (.deferred (some [])))
    (fun pre W => ∃ c, Ix c pre W ∧ W.heap[w.heap.size + 1]? = some (.loop (R .done (some c))) ∧ W.heap[w.heap.size]? = some (.deferred (some [])))
    W1 hk1 ?oJ ?oJx ?round ⟨hI1, hL1, hD1⟩).mono ?behind
  case oJ =>
    intro s A B row hs hg' hr
    refine ⟨hIp s A B row hs.1 hg' hr, (hg'.block _ (Array.getElem?_eq_some_iff.1 hs.2.1).1 (fun e => by have := (hr _ e.symm).2.1; omega)).trans hs.2.1, (hg'.block _ (Array.getElem?_eq_some_iff.1 hs.2.2).1 (fun e => by have := (hr _ e.symm).2.1; omega)).trans hs.2.2⟩
  case oJx =>
    rintro s A B row ⟨cc, hs⟩ hg' hr
    refine ⟨cc, hIxp cc s A B row hs.1 hg' hr, (hg'.block _ (Array.getElem?_eq_some_iff.1 hs.2.1).1 (fun e => by have := (hr _ e.symm).2.1; omega)).trans hs.2.1, (hg'.block _ (Array.getElem?_eq_some_iff.1 hs.2.2).1 (fun e => by have := (hr _ e.symm).2.1; omega)).trans hs.2.2⟩
  case behind =>
    rintro e W2 ⟨⟨v, rfl⟩, (⟨hi, hl, hk⟩ | ⟨q, hq, cc, hi, hl, hk⟩)⟩
    · have he := run_endLoop (P := Tryd.prog) hl (by rw [hR]; simp)
      rw [hR] at he
      exact ⟨none, _, he, hdone _ _ (Nat.le_refl _) (hI _ W2 _ _ hi (grownBy_putObj' W2 _ _) (fun r e => by cases e; exact ⟨by omega, _, hl, rfl⟩)) ((World.putObj_heap_other (by omega)).trans hk)⟩
    · have he := run_endLoop (P := Tryd.prog) hl (by rw [hR]; simp)
      rw [hR] at he
      exact ⟨some cc, _, he, hstop _ cc q _ (Nat.le_refl _) hq (hIx cc _ W2 _ _ hi (grownBy_putObj' W2 _ _) (fun r e => by cases e; exact ⟨by omega, _, hl, rfl⟩)) ((World.putObj_heap_other (by omega)).trans hk)⟩
  case round =>
    rintro pre x W ⟨hi, hl, hk⟩ hlen
    rw [hR] at hl
    obtain ⟨fn', t', as', bo', hy, hRd⟩ := round_p (encs := encs) (p := p) (c := c) (n := w.heap.size) (L := w.heap.size + 1) hfn (by omega) hp I Ix hI hIx Ax hAx pre x W (hps x) hl (fun K hK => hassign _ pre x W K hi hK) (fun a' W' hl' hi' hax => hbody _ pre x a' W' (by omega) hl' hi' hax hlen)
    refine ⟨fn', t', as', bo', hy, hRd.mono ?_⟩
    rintro e W' ⟨hb, (⟨he, hi', hl', hkp⟩ | ⟨he, cc, hi', hl'⟩)⟩
    · exact .inl ⟨he, ⟨hi', by rw [hR]; exact hl', hb _ _ (Nat.le_refl _) (by omega) hk rfl⟩, hkp⟩
    · exact .inr ⟨he, cc, hi', by rw [hR]; exact hl', hb _ _ (Nat.le_refl _) (by omega) hk rfl⟩

set_option maxHeartbeats 1000000 in
/-- The same, within a round of the loop l₀. -/
theorem range_pn {α : Type} {encs : α → Array Value} {ps : Array Tmp} {assign body : Code} {g : Operand} {Q : Exit → Act → World → Prop} {a : Act} {w : World} {l₀ : Nat} {r₀ : Loop} (hl₀ : w.heap[l₀]? = some (.loop r₀)) (p c gf : Nat) (lb : Array Value) (xs : List α) (hit : IterP p c gf lb encs xs w)
    (hg : a.eval g = .func (.func gf) #[] lb) (hps : ∀ x, (encs x).size = ps.size) (hp : p + c ≤ w.heap.size)
    (hen : ∀ args w', (callFunc gf args).run Tryd.prog w' = .ok (.enter gf args) w')
    (I : List α → World → Prop) (Ix : Code → List α → World → Prop) (hI : OwnFrom w.heap.size I) (hIx : ∀ c, OwnFrom w.heap.size (Ix c)) (hIp : AbP p c I) (hIxp : ∀ cc, AbP p c (Ix cc)) (h0 : I [] w)
    (Ax : α → Act → World → Prop) (hAx : ∀ x a', OwnFrom w.heap.size (fun (_ : Unit) W => Ax x a' W))
    (hassign : ∀ (l : Nat) (pre : List α) (x : α) (W : World) (K : Act → World → Prop), I pre W → (∀ a' W', KeepsFrom w.heap.size W W' → KP p c W W' → I pre W' → Ax x a' W' → K a' W') →
      assign.wpIn (Fence.wide.inRound l) 7 Tryd.prog (Exit.then K (fun _ _ _ => False)) { tmps := (ps.zip (encs x)).foldl (fun t (p, v) => t.setIfInBounds p v) a.tmps, defers := [] } W)
    (hbody : ∀ (l : Nat) (pre : List α) (x : α) (a' : Act) (W : World), w.heap.size ≤ l → (∃ r, W.heap[l]? = some (.loop r)) → I pre W → Ax x a' W → pre ++ [x] <+: xs → body.wpIn (Fence.wide.inRound l) 7 Tryd.prog (bodyP p c w.heap.size I Ix (pre ++ [x]) W) a' W)
    (hdone : ∀ (W : World), I xs W → Q .normal a W)
    (hstop : ∀ (cc : Code) (q : List α) (W : World), q <+: xs → Ix cc q W → cc.wpIn (Fence.wide.inRound l₀) 7 Tryd.prog Q a W) :
    (Code.rangeFunc g ps assign body).wpIn (Fence.wide.inRound l₀) 7 Tryd.prog Q a w := by
  refine wpIn_rangeFunc fun fn hfn => ?_
  obtain ⟨R, hR⟩ : ∃ R : LoopState → Option Code → Loop, R = fun st pe => { state := st, pending := pe, fn, tmps := a.tmps, params := ps, assign, body, defers := r₀.defers } := ⟨_, rfl⟩
  obtain ⟨W1, hW1⟩ : ∃ W1, w.alloc (.loop (R .ready none)) = W1 := ⟨_, rfl⟩
  have hk1 : Below w.heap.size w W1 := by rw [← hW1]; exact bl_al (bl0 _) _
  have hL1 : W1.heap[w.heap.size]? = some (.loop (R .ready none)) := by rw [← hW1]; exact World.alloc_heap_new w _
  have hI1 : I [] W1 := hI [] w W1 none h0 (grown_of_below hk1) (fun r e => by cases e)
  refine ⟨w.heap.size, [], W1, { target := .fn (.func gf) lb, args := #[.func (.yield w.heap.size) #[] #[]] }, W1, gf,
    #[.func (.yield w.heap.size) #[] #[]] ++ lb, W1, ?_, ?_, ?_, ?_, (fun h => by cases h), ?_⟩
  · rw [← hW1, hR]; exact run_enterLoop_inner hl₀ _ _ _ _ _
  · simp only [resolve, hg]
    simp [go_sem]
  · intro f' _; exact trivial
  · simpa [invoke, go_sem] using hen _ _
  refine CallsIn.inRound l₀ (callsIn_deep _ ((hit w.heap.size
    (fun pre W => I pre W ∧ W.heap[w.heap.size]? = some (.loop (R .ready none)))
    (fun pre W => ∃ c, Ix c pre W ∧ W.heap[w.heap.size]? = some (.loop (R .done (some c))))
    W1 hk1 ?oJ ?oJx ?round ⟨hI1, hL1⟩).mono ?behind))
  case oJ =>
    intro s A B row hs hg' hr
    exact ⟨hIp s A B row hs.1 hg' hr, (hg'.block _ (Array.getElem?_eq_some_iff.1 hs.2).1 (fun e => by have := (hr _ e.symm).2.1; omega)).trans hs.2⟩
  case oJx =>
    rintro s A B row ⟨cc, hs⟩ hg' hr
    exact ⟨cc, hIxp cc s A B row hs.1 hg' hr, (hg'.block _ (Array.getElem?_eq_some_iff.1 hs.2).1 (fun e => by have := (hr _ e.symm).2.1; omega)).trans hs.2⟩
  case behind =>
    rintro e W2 ⟨⟨v, rfl⟩, (⟨hi, hl⟩ | ⟨q, hq, cc, hi, hl⟩)⟩
    · have he := run_endLoop (P := Tryd.prog) hl (by rw [hR]; simp)
      rw [hR] at he
      exact ⟨none, _, he, hdone _ (hI _ W2 _ _ hi (grownBy_putObj' W2 _ _) (fun r e => by cases e; exact ⟨by omega, _, hl, rfl⟩))⟩
    · have he := run_endLoop (P := Tryd.prog) hl (by rw [hR]; simp)
      rw [hR] at he
      exact ⟨some cc, _, he, hstop cc q _ hq (hIx cc _ W2 _ _ hi (grownBy_putObj' W2 _ _) (fun r e => by cases e; exact ⟨by omega, _, hl, rfl⟩))⟩
  case round =>
    rintro pre x W ⟨hi, hl⟩ hlen
    rw [hR] at hl
    obtain ⟨fn', t', as', bo', hy, hRd⟩ := round_p (encs := encs) (p := p) (c := c) (n := w.heap.size) (L := w.heap.size) hfn (by omega) hp I Ix hI hIx Ax hAx pre x W (hps x) hl (fun K hK => hassign _ pre x W K hi hK) (fun a' W' hl' hi' hax => hbody _ pre x a' W' (by omega) hl' hi' hax hlen)
    refine ⟨fn', t', as', bo', hy, hRd.mono ?_⟩
    rintro e W' ⟨hb, (⟨he, hi', hl', hkp⟩ | ⟨he, cc, hi', hl'⟩)⟩
    · exact .inl ⟨he, ⟨hi', by rw [hR]; exact hl'⟩, hkp⟩
    · exact .inr ⟨he, cc, hi', by rw [hR]; exact hl'⟩
end Go.Proofs.YtldpajfendkhbaaDoor
