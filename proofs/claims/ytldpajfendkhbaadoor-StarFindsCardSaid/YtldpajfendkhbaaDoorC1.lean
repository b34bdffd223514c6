/- Texts joined: Ce, Cf, Cg, Ch, Ci, Cj. -/
import Derived.Test.YtldpajfendkhbaaDoorAa
import Derived.Test.YtldpajfendkhbaaDoorCd
import Derived.Test.YtldpajfendkhbaaDoorShelf
import Derived.Test.YtldpajfendkhbaaDoorOh
import Derived.Laws.CopyOwn
import Derived.Deep.OwnRows
import Derived.Test.YtldpajfendkhbaaDoorIo
import Derived.Test.YtldpajfendkhbaaDoorOz
import Derived.Deep.CutRange
import Derived.LoopTactic
import Derived.WalkMore
import Derived.Scope
import Derived.Deep.LoopGhost
/- The law for a loop over an iterator that reads memory, where the loop's body turns things of one's own: it lets the loop's own two blocks lie, the iterator's, and one block C that the iterator lays as it begins. -/
namespace Go.Proofs.YtldpajfendkhbaaDoor
open Go.RowKit Go.Shelf
attribute [local go_sem] Oper.semAt_some

/-- An iterator by its contract: it hands in xs, as long as R holds; the blocks from p on, c of them, and the block C that it lays first, must lie. -/
def IterC {α : Type} (p c gf : Nat) (lb : Array Value) (encs : α → Array Value) (xs : List α) (R : World → Prop) (w : World) : Prop :=
  ∀ (l : Nat) (J Jx : Nat → List α → World → Prop) (W : World), Below w.heap.size w W → (∀ C, AbP p c (J C)) → (∀ C pre W1, J C pre W1 → R W1) → (∀ C pre W1, Jx C pre W1 → R W1) →
    (∀ C pre x W1, J C pre W1 → pre ++ [x] <+: xs → YieldAt Fence.wide 0 Tryd.prog l (encs x) W1 fun e W' =>
      (e = .returned (.bool true) ∧ J C (pre ++ [x]) W' ∧ KP p c W1 W' ∧ KP C 1 W1 W') ∨ (e = .returned (.bool false) ∧ Jx C (pre ++ [x]) W' ∧ KP p c W1 W' ∧ KP C 1 W1 W')) →
    (∀ W' C, Below W.heap.size W W' → W.heap.size ≤ C → C < W'.heap.size → J C [] W') →
    CallsIn Fence.wide 10 Tryd.prog gf (#[.func (.yield l) #[] #[]] ++ lb) W fun e W' => (∃ v, e = .returned v) ∧ ((∃ C, J C xs W') ∨ ∃ C q, q <+: xs ∧ Jx C q W')

/-- It abides turns of the loop's own two blocks, and new blocks. -/
def AbH {β : Type} (n : Nat) (J : β → World → Prop) : Prop := ∀ s A B row, J s A → A.grownBy B row → (∀ r, row = some r → n ≤ r ∧ r < n + 2) → J s B
/-- How the body of a round may be left: at its end, by a return, or out of a loop. -/
def bodyS {α : Type} (p c n C : Nat) (I : List α → World → Prop) (Ix : Code → List α → World → Prop) (xs : List α) (W : World) : Exit → Act → World → Prop
  | .normal, _, W' => KP n 2 W W' ∧ KP p c W W' ∧ KP C 1 W W' ∧ I xs W'
  | .ret, _, W' => KP n 2 W W' ∧ KP p c W W' ∧ KP C 1 W W' ∧ Ix .ret xs W'
  | .exit id, _, W' => KP n 2 W W' ∧ KP p c W W' ∧ KP C 1 W W' ∧ Ix (.exit id) xs W'
  | _, _, _ => False

set_option maxHeartbeats 1000000 in
/-- One round. -/
theorem round_s {α : Type} {encs : α → Array Value} {p c n C : Nat} {fn : FuncId} {tm : Array Value} {ps : Array Tmp} {assign body : Code} {df : Nat}
    (hfn : Fence.wide.fn fn) (hpn : p + c ≤ n) (hC : n + 2 ≤ C)
    (I : List α → World → Prop) (Ix : Code → List α → World → Prop) (hI : AbH n I) (hIx : ∀ c, AbH n (Ix c)) (Ax : α → Act → World → Prop) (hAx : ∀ x a', AbH n (fun (_ : Unit) W => Ax x a' W))
    (pre : List α) (x : α) (W : World) (hps : (encs x).size = ps.size)
    (hl : W.heap[n + 1]? = some (.loop { state := .ready, pending := none, fn := fn, tmps := tm, params := ps, assign := assign, body := body, defers := df }))
    (hD : W.heap[n]? = some (.deferred (some [])))
    (hassign : ∀ (K : Act → World → Prop), (∀ a' W', KP n 2 W W' → KP p c W W' → KP C 1 W W' → I pre W' → Ax x a' W' → K a' W') →
      assign.wpIn (Fence.wide.inRound (n + 1)) 7 Tryd.prog (Exit.then K (fun _ _ _ => False)) { tmps := (ps.zip (encs x)).foldl (fun t (p, v) => t.setIfInBounds p v) tm, defers := [] } W)
    (hbody : ∀ (a' : Act) (W : World), (∃ r, W.heap[n + 1]? = some (.loop r)) → I pre W → Ax x a' W → body.wpIn (Fence.wide.inRound (n + 1)) 7 Tryd.prog (bodyS p c n C I Ix (pre ++ [x]) W) a' W) :
    YieldAt Fence.wide 0 Tryd.prog (n + 1) (encs x) W fun e W' => W'.heap[n]? = some (.deferred (some [])) ∧
      ((e = .returned (.bool true) ∧ I (pre ++ [x]) W' ∧ W'.heap[n + 1]? = some (.loop { state := .ready, pending := none, fn := fn, tmps := tm, params := ps, assign := assign, body := body, defers := df }) ∧ KP p c W W' ∧ KP C 1 W W') ∨
       (e = .returned (.bool false) ∧ KP p c W W' ∧ KP C 1 W W' ∧ ∃ cc, Ix cc (pre ++ [x]) W' ∧ W'.heap[n + 1]? = some (.loop { state := .done, pending := some cc, fn := fn, tmps := tm, params := ps, assign := assign, body := body, defers := df }))) := by
  have hy := run_yield (P := Tryd.prog) (args := encs x) hl hps
  refine yieldAt_wide (m := 7) 0 ⟨fn, _, assign, body, hy, roundIn_of_wpIn hfn (hassign _ ?_)⟩
  intro a' Wa hka hkp hkc hia hax
  have hl2 := (hka.2 (n + 1) (by omega) (by omega)).trans hl
  have hD2 := (hka.2 n (by omega) (by omega)).trans hD
  refine ⟨_, run_beginRound hl2 rfl, ?_⟩
  obtain ⟨W3, hW3⟩ : ∃ W3, Wa.putObj (n + 1) (.loop { state := .busy, pending := none, fn := fn, tmps := tm, params := ps, assign := assign, body := body, defers := df }) = W3 := ⟨_, rfl⟩
  have hl3 : W3.heap[n + 1]? = some (.loop { state := .busy, pending := none, fn := fn, tmps := tm, params := ps, assign := assign, body := body, defers := df }) := by rw [← hW3]; exact World.putObj_heap_same (Array.getElem?_eq_some_iff.1 hl2).1
  have hg3 : Wa.grownBy W3 (some (n + 1)) := by rw [← hW3]; exact grownBy_putObj' _ _ _
  have hr3 : ∀ r, some (n + 1) = some r → n ≤ r ∧ r < n + 2 := fun r e => by cases e; omega
  have hD3 : W3.heap[n]? = some (.deferred (some [])) := by rw [← hW3]; exact (World.putObj_heap_other (by omega)).trans hD2
  have hp3 : KP p c W W3 := hkp.trans (by rw [← hW3]; exact KP.put _ (by omega))
  have putC : ∀ (A : World) (o : Obj), KP C 1 A (A.putObj (n + 1) o) := fun A o => ⟨by simp, fun k _ _ => World.putObj_heap_other (by omega)⟩
  have hc3 : KP C 1 W W3 := hkc.trans (by rw [← hW3]; exact putC _ _)
  rw [hW3]
  refine wpIn_mono (hbody a' W3 ⟨_, hl3⟩ (hI _ Wa W3 _ hia hg3 hr3) (hAx x a' () Wa W3 _ hax hg3 hr3)) ?_
  have stop : ∀ (cc : Code) (W4 : World), KP n 2 W3 W4 → KP p c W3 W4 → KP C 1 W3 W4 → Ix cc (pre ++ [x]) W4 → ∀ o, o = Obj.loop { state := .done, pending := some cc, fn := fn, tmps := tm, params := ps, assign := assign, body := body, defers := df } → (W4.putObj (n + 1) o).heap[n]? = some (.deferred (some [])) ∧ (W4.putObj (n + 1) o).heap[n + 1]? = some o ∧ Ix cc (pre ++ [x]) (W4.putObj (n + 1) o) ∧ KP p c W (W4.putObj (n + 1) o) ∧ KP C 1 W (W4.putObj (n + 1) o) := by
    intro cc W4 hb4 hk4 hc4 hi4 o ho
    have hl4 := (hb4.2 (n + 1) (by omega) (by omega)).trans hl3
    have hD4 := (hb4.2 n (by omega) (by omega)).trans hD3
    exact ⟨(World.putObj_heap_other (by omega)).trans hD4, World.putObj_heap_same (Array.getElem?_eq_some_iff.1 hl4).1, hIx cc _ W4 _ _ hi4 (grownBy_putObj' W4 _ _) (fun r e => by cases e; omega), (hp3.trans hk4).trans (KP.put _ (by omega)), (hc3.trans hc4).trans (putC _ _)⟩
  rintro e a3 W4 hp'
  cases e with
  | normal =>
    obtain ⟨hb4, hk4, hc4, hi4⟩ := hp'
    have hl4 := (hb4.2 (n + 1) (by omega) (by omega)).trans hl3
    have hD4 := (hb4.2 n (by omega) (by omega)).trans hD3
    have he := run_endRound (P := Tryd.prog) none hl4
    refine ⟨_, _, he, (World.putObj_heap_other (by omega)).trans hD4, .inl ⟨rfl, hI _ W4 _ _ hi4 (grownBy_putObj' W4 _ _) (fun r e => by cases e; omega), ?_, (hp3.trans hk4).trans (KP.put _ (by omega)), (hc3.trans hc4).trans (putC _ _)⟩⟩
    rw [World.putObj_heap_same (Array.getElem?_eq_some_iff.1 hl4).1]; rfl
  | ret =>
    obtain ⟨hb4, hk4, hc4, hi4⟩ := hp'
    have he := run_endRound (P := Tryd.prog) (some .ret) ((hb4.2 (n + 1) (by omega) (by omega)).trans hl3)
    obtain ⟨q1, q2, q3, q4, q5⟩ := stop .ret W4 hb4 hk4 hc4 hi4 _ rfl
    exact ⟨_, _, he, q1, .inr ⟨rfl, q4, q5, _, q3, q2⟩⟩
  | exit id =>
    obtain ⟨hb4, hk4, hc4, hi4⟩ := hp'
    have he := run_endRound (P := Tryd.prog) (some (.exit id)) ((hb4.2 (n + 1) (by omega) (by omega)).trans hl3)
    obtain ⟨q1, q2, q3, q4, q5⟩ := stop (.exit id) W4 hb4 hk4 hc4 hi4 _ rfl
    exact ⟨_, _, he, q1, .inr ⟨rfl, q4, q5, _, q3, q2⟩⟩
  | goto t => exact hp'.elim
  | panic ch => exact hp'.elim
  | outgrown => exact hp'.elim

set_option maxHeartbeats 1000000 in
theorem range_s {α : Type} {encs : α → Array Value} {ps : Array Tmp} {assign body : Code} {g : Operand} {Q : Exit → Act → World → Prop} {a : Act} {w : World} (p c gf : Nat) (lb : Array Value) (xs : List α) (R₀ : World → Prop) (hit : IterC p c gf lb encs xs R₀ w)
    (hg : a.eval g = .func (.func gf) #[] lb) (hps : ∀ x, (encs x).size = ps.size) (hp : p + c ≤ w.heap.size)
    (hen : ∀ args w', (callFunc gf args).run Tryd.prog w' = .ok (.enter gf args) w')
    (I : Nat → List α → World → Prop) (Ix : Nat → Code → List α → World → Prop) (hI : ∀ C, AbH w.heap.size (I C)) (hIx : ∀ C c, AbH w.heap.size (Ix C c)) (hIp : ∀ C, AbP p c (I C)) (hIR : ∀ C pre W, I C pre W → R₀ W) (hIxR : ∀ C cc pre W, Ix C cc pre W → R₀ W)
    (h0 : ∀ W1 C, Below w.heap.size w W1 → w.heap.size + 2 ≤ C → C < W1.heap.size → I C [] W1)
    (Ax : α → Act → World → Prop) (hAx : ∀ x a', AbH w.heap.size (fun (_ : Unit) W => Ax x a' W))
    (hassign : ∀ (C : Nat) (pre : List α) (x : α) (W : World) (K : Act → World → Prop), w.heap.size + 2 ≤ C → I C pre W → (∀ a' W', KP w.heap.size 2 W W' → KP p c W W' → KP C 1 W W' → I C pre W' → Ax x a' W' → K a' W') →
      assign.wpIn (Fence.wide.inRound (w.heap.size + 1)) 7 Tryd.prog (Exit.then K (fun _ _ _ => False)) { tmps := (ps.zip (encs x)).foldl (fun t (p, v) => t.setIfInBounds p v) a.tmps, defers := [] } W)
    (hbody : ∀ (C : Nat) (pre : List α) (x : α) (a' : Act) (W : World), w.heap.size + 2 ≤ C → (∃ r, W.heap[w.heap.size + 1]? = some (.loop r)) → I C pre W → Ax x a' W → pre ++ [x] <+: xs → body.wpIn (Fence.wide.inRound (w.heap.size + 1)) 7 Tryd.prog (bodyS p c w.heap.size C (I C) (Ix C) (pre ++ [x]) W) a' W)
    (hdone : ∀ (C : Nat) (W : World), I C xs W → W.heap[w.heap.size]? = some (.deferred (some [])) → Q .normal { a with defers := { target := .collected w.heap.size, args := #[] } :: a.defers } W)
    (hstop : ∀ (C : Nat) (cc : Code) (q : List α) (W : World), q <+: xs → Ix C cc q W → W.heap[w.heap.size]? = some (.deferred (some [])) → cc.wpIn Fence.wide 11 Tryd.prog Q { a with defers := { target := .collected w.heap.size, args := #[] } :: a.defers } W) :
    (Code.rangeFunc g ps assign body).wpIn Fence.wide 11 Tryd.prog Q a w := by
  refine wpIn_rangeFunc fun fn hfn => ?_
  obtain ⟨R, hR⟩ : ∃ R : LoopState → Option Code → Loop, R = fun st pe => { state := st, pending := pe, fn, tmps := a.tmps, params := ps, assign, body, defers := w.heap.size } := ⟨_, rfl⟩
  obtain ⟨W1, hW1⟩ : ∃ W1, (w.alloc (.deferred (some []))).alloc (.loop (R .ready none)) = W1 := ⟨_, rfl⟩
  have hk1 : Below w.heap.size w W1 := by rw [← hW1]; exact bl_al (bl_al (bl0 _) _) _
  have hz1 : W1.heap.size = w.heap.size + 2 := by rw [← hW1]; simp
  have hL1 : W1.heap[w.heap.size + 1]? = some (.loop (R .ready none)) := by
    have h := World.alloc_heap_new (w.alloc (.deferred (some []))) (.loop (R .ready none))
    rw [World.size_alloc] at h
    rw [← hW1]; exact h
  have hD1 : W1.heap[w.heap.size]? = some (.deferred (some [])) := by
    rw [← hW1]; exact (Below.heap_alloc _ _ _ (by simp)).trans (World.alloc_heap_new w _)
  refine ⟨w.heap.size + 1, [{ target := .collected w.heap.size, args := #[] }], W1, { target := .fn (.func gf) lb, args := #[.func (.yield (w.heap.size + 1)) #[] #[]] }, W1, gf,
    #[.func (.yield (w.heap.size + 1)) #[] #[]] ++ lb, W1, ?_, ?_, ?_, ?_, (fun h => by cases h), ?_⟩
  · rw [← hW1, hR]; exact run_enterLoop_outer _ _ _ _ _
  · simp only [resolve, hg]
    simp [go_sem]
  · intro f' _; exact trivial
  · simpa [invoke, go_sem] using hen _ _
  refine (hit (w.heap.size + 1)
    (fun C pre W => w.heap.size + 2 ≤ C ∧ I C pre W ∧ W.heap[w.heap.size + 1]? = some (.loop (R .ready none)) ∧ W.heap[w.heap.size]? = some (.deferred (some [])))
    (fun C pre W => ∃ c, Ix C c pre W ∧ W.heap[w.heap.size + 1]? = some (.loop (R .done (some c))) ∧ W.heap[w.heap.size]? = some (.deferred (some [])))
    W1 hk1 ?oJ (fun _ _ _ h => hIR _ _ _ h.2.1) (fun _ _ _ ⟨_, h⟩ => hIxR _ _ _ _ h.1) ?round ?begin).mono ?behind
  case oJ =>
    intro C s A B row hs hg' hr
    refine ⟨hs.1, hIp C s A B row hs.2.1 hg' hr, (hg'.block _ (Array.getElem?_eq_some_iff.1 hs.2.2.1).1 (fun e => by have := (hr _ e.symm).2.1; omega)).trans hs.2.2.1, (hg'.block _ (Array.getElem?_eq_some_iff.1 hs.2.2.2).1 (fun e => by have := (hr _ e.symm).2.1; omega)).trans hs.2.2.2⟩
  case begin =>
    intro W' C hb h1 h2
    rw [hz1] at h1
    refine ⟨h1, h0 W' C (hk1.trans (hb.mono (by omega))) h1 h2, (hb.block _ (by omega)).trans hL1, (hb.block _ (by omega)).trans hD1⟩
  case behind =>
    rintro e W2 ⟨⟨v, rfl⟩, (⟨C, _, hi, hl, hk⟩ | ⟨C, q, hq, cc, hi, hl, hk⟩)⟩
    · have he := run_endLoop (P := Tryd.prog) hl (by rw [hR]; simp)
      rw [hR] at he
      exact ⟨none, _, he, hdone C _ (hI C _ W2 _ _ hi (grownBy_putObj' W2 _ _) (fun r e => by cases e; omega)) ((World.putObj_heap_other (by omega)).trans hk)⟩
    · have he := run_endLoop (P := Tryd.prog) hl (by rw [hR]; simp)
      rw [hR] at he
      exact ⟨some cc, _, he, hstop C cc q _ hq (hIx C cc _ W2 _ _ hi (grownBy_putObj' W2 _ _) (fun r e => by cases e; omega)) ((World.putObj_heap_other (by omega)).trans hk)⟩
  case round =>
    rintro C pre x W ⟨hC, hi, hl, hk⟩ hlen
    rw [hR] at hl
    obtain ⟨fn', t', as', bo', hy, hRd⟩ := round_s (encs := encs) (p := p) (c := c) (n := w.heap.size) (C := C) hfn hp hC (I C) (Ix C) (hI C) (hIx C) Ax hAx pre x W (hps x) hl hk (fun K hK => hassign C pre x W K hC hi hK) (fun a' W' hl' hi' hax => hbody C pre x a' W' hC hl' hi' hax hlen)
    refine ⟨fn', t', as', bo', hy, hRd.mono ?_⟩
    rintro e W' ⟨hb, (⟨he, hi', hl', hkp⟩ | ⟨he, hkp, hkc, cc, hi', hl'⟩)⟩
    · exact .inl ⟨he, ⟨hC, hi', by rw [hR]; exact hl', hb⟩, hkp⟩
    · exact .inr ⟨he, ⟨cc, hi', by rw [hR]; exact hl', hb⟩, hkp, hkc⟩

/-- The marks of loops that ended. -/
def marksOf (Ds : List Nat) : List Deferred := Ds.map fun D => { target := .collected D, args := #[] }
theorem leaves_marks {F : Fence} {m : Nat} {fn : Func} {tmps : Array Value} {R : Ending → World → Prop} :
    ∀ (Ds : List Nat) (W : World), Ds.Nodup → (∀ D ∈ Ds, W.heap[D]? = some (.deferred (some []))) →
      (∀ W', W'.heap.size = W.heap.size → W.os = W'.os ∧ W.tape = W'.tape ∧ W.output = W'.output → (∀ k, k ∉ Ds → W'.heap[k]? = W.heap[k]?) → LeavesIn F m Tryd.prog fn tmps R [] .returning W') →
      LeavesInM F m Tryd.prog fn tmps R (marksOf Ds) .returning W
  | [], W, _, _, hR => hR W rfl ⟨rfl, rfl, rfl⟩ (fun _ _ => rfl)
  | D :: Ds, W, hn, hD, hR => by
    have hd := hD D (by simp)
    rw [List.nodup_cons] at hn
    refine ⟨by simp, .inl ⟨D, _, rfl, run_takeDeferred hd, ?_⟩⟩
    refine leaves_marks Ds _ hn.2 (fun D' h' => ?_) (fun W' h1 h2 h3 => hR W' (h1.trans (by simp)) ?_ (fun k hk => ?_))
    · exact (World.putObj_heap_other (fun e => hn.1 (by rw [← e]; exact h'))).trans (hD D' (by simp [h']))
    · exact h2
    · have hk1 : k ≠ D := fun e => hk (by simp [e])
      have hk2 : k ∉ Ds := fun e => hk (by simp [e])
      exact (h3 k hk2).trans (World.putObj_heap_other hk1)
end Go.Proofs.YtldpajfendkhbaaDoor

/- Least costs: the numbers of the cells beside one that are no walls, as an iterator. -/
namespace Go.Proofs.YtldpajfendkhbaaDoor
open Go.RowKit Go.Shelf
attribute [local go_sem] Oper.semAt_some

def encI (j : Nat) : Array Value := #[.int .i64 (j : Int)]
/-- What the iterator holds: a field, and a number. -/
structure BesAt (W : World) (p : Nat) (A B : Int) (a : Option Addr) (n cap : Nat) (i : Nat) : Prop where
  c0 : W.cell? ⟨p, 0, none⟩ = some (.int .i64 A)
  c1 : W.cell? ⟨p, 1, none⟩ = some (.int .i64 B)
  c2 : W.cell? ⟨p, 2, none⟩ = some (.slice a n cap)
  c3 : W.cell? ⟨p + 1, 0, none⟩ = some (.int .i64 (i : Int))
theorem BesAt.below {W W' : World} {p : Nat} {A B : Int} {a : Option Addr} {n cap i : Nat} (h : BesAt W p A B a n cap i) (b : Below W.heap.size W W') : BesAt W' p A B a n cap i :=
  ⟨cell_later b h.c0, cell_later b h.c1, cell_later b h.c2, cell_later b h.c3⟩
theorem BesAt.kp {W W' : World} {p : Nat} {A B : Int} {a : Option Addr} {n cap i : Nat} (h : BesAt W p A B a n cap i) (b : KP p 2 W W') : BesAt W' p A B a n cap i :=
  ⟨b.cell (by omega) (by omega) h.c0, b.cell (by omega) (by omega) h.c1, b.cell (by omega) (by omega) h.c2, b.cell (by omega) (by omega) h.c3⟩

set_option maxHeartbeats 1000000 in
theorem beside_mk (A B : Int) (a : Option Addr) (n cap i : Nat) (w : World) :
    Calls Tryd.prog 62 #[.agg #[.int .i64 A, .int .i64 B, .slice a n cap], .int .i64 (i : Int)] w fun e w' => e = .returned (.func (.func 70) #[] #[.pointer (some ⟨w.heap.size, 0, none⟩), .pointer (some ⟨w.heap.size + 1, 0, none⟩)]) ∧
      BesAt w' w.heap.size A B a n cap i ∧ w'.heap.size = w.heap.size + 2 ∧ Below w.heap.size w w' := by
  go_enter Tryd.func62, Tryd.ntmps62
  go_wp2
  go_ret
  refine ⟨rfl, ⟨?_, ?_, ?_, ?_⟩, by simp, bl_al (bl_al (bl0 _) _) _⟩ <;> simp [go_sem]

/-- Those in the first k directions. -/
def nbK (A B : Int) (zs : List Int) (i k : Nat) : List Nat := (([(0 : Int), 1, 2, 3].take k).filterMap (nbD A B i)).filter (fun j => decide (zs.getD j 0 ≠ 0))
theorem nbK_all (A B : Int) (zs : List Int) (i : Nat) : nbK A B zs i 4 = nbO A B zs i := rfl
theorem dirs_take (k : Nat) (h : k < 4) : [(0 : Int), 1, 2, 3].take (k + 1) = [(0 : Int), 1, 2, 3].take k ++ [(k : Int)] := by
  have : k = 0 ∨ k = 1 ∨ k = 2 ∨ k = 3 := by omega
  rcases this with rfl | rfl | rfl | rfl <;> rfl
theorem nbK_none {A B : Int} {zs : List Int} {i k : Nat} (h : k < 4) (ho : onB A B (stepI (cellN A i) k) = false) : nbK A B zs i (k + 1) = nbK A B zs i k := by
  unfold nbK
  rw [dirs_take k h, List.filterMap_append]
  simp [nbD, ho]
theorem nbK_wall {A B : Int} {zs : List Int} {i k : Nat} (h : k < 4) (ho : onB A B (stepI (cellN A i) k) = true) (hz : zs.getD (numN A (stepI (cellN A i) k)) 0 = 0) : nbK A B zs i (k + 1) = nbK A B zs i k := by
  unfold nbK
  rw [dirs_take k h, List.filterMap_append, List.filter_append]
  rw [List.getD_eq_getElem?_getD] at hz
  simp [nbD, ho, hz]
theorem nbK_one {A B : Int} {zs : List Int} {i k : Nat} (h : k < 4) (ho : onB A B (stepI (cellN A i) k) = true) (hz : zs.getD (numN A (stepI (cellN A i) k)) 0 ≠ 0) : nbK A B zs i (k + 1) = nbK A B zs i k ++ [numN A (stepI (cellN A i) k)] := by
  unfold nbK
  rw [dirs_take k h, List.filterMap_append, List.filter_append]
  rw [List.getD_eq_getElem?_getD] at hz
  simp [nbD, ho, hz]
theorem nbK_prefix {A B : Int} {zs : List Int} {i k m : Nat} (h : k ≤ m) : nbK A B zs i k <+: nbK A B zs i m := by
  unfold nbK
  refine List.IsPrefix.filter _ (List.IsPrefix.filterMap _ ?_)
  exact List.take_prefix_take_left h

theorem at_cell (A B : Int) (i : Nat) (w : World) (hm : mayB A B = true) (hi : (i : Int) < A * B) :
    Calls Tryd.prog 56 #[.agg #[.int .i64 A, .int .i64 B], .int .i64 (i : Int)] w fun e w' => e = .returned (.tuple #[.agg #[.int .i64 (cellN A i).1, .int .i64 (cellN A i).2], .int .i64 0]) ∧ Below w.heap.size w w' :=
  at_yes A B i w (by obtain ⟨h1, h2, h3, h4⟩ := mayB_iff.1 hm; exact atB_iff.2 ⟨h1, h2, h3, h4, by omega, by omega⟩)
theorem numN_at {A B : Int} {zs : List Int} {c : IC} (hi : onB A B c = true) (hn : (zs.length : Int) = A * B) : numN A c < zs.length := by
  obtain ⟨h1, h2⟩ := numN_int hi
  omega
theorem getD_get {zs : List Int} {i : Nat} (h : i < zs.length) : zs[i] = zs.getD i 0 := by
  rw [List.getD_eq_getElem?_getD, List.getElem?_eq_getElem h]; rfl
set_option maxRecDepth 100000 in
set_option maxHeartbeats 2000000 in
theorem beside1_in (l p : Nat) (A B : Int) (a : Option Addr) (cap : Nat) (zs : List Int) (i : Nat) (hm : mayB A B = true) (hn : (zs.length : Int) = A * B) (hi : i < zs.length) (J Jx : Nat → List Nat → World → Prop) (W : World) (hJ : ∀ C, AbP p 2 (J C)) (hJR : ∀ C pre W1, J C pre W1 → RowH W1 a zs ∧ Stp W1) (hJxR : ∀ C pre W1, Jx C pre W1 → RowH W1 a zs ∧ Stp W1)
    (hY : ∀ C pre x W1, J C pre W1 → pre ++ [x] <+: nbO A B zs i → YieldAt Fence.wide 0 Tryd.prog l (encI x) W1 fun e W' =>
      (e = .returned (.bool true) ∧ J C (pre ++ [x]) W' ∧ KP p 2 W1 W' ∧ KP C 1 W1 W') ∨ (e = .returned (.bool false) ∧ Jx C (pre ++ [x]) W' ∧ KP p 2 W1 W' ∧ KP C 1 W1 W'))
    (hs : BesAt W p A B a zs.length cap i) (h0 : ∀ W' C, Below W.heap.size W W' → W.heap.size ≤ C → C < W'.heap.size → J C [] W') :
    CallsIn Fence.wide 10 Tryd.prog 70 #[.func (.yield l) #[] #[], .pointer (some ⟨p, 0, none⟩), .pointer (some ⟨p + 1, 0, none⟩)] W fun e W' => (∃ v, e = .returned v) ∧
      ((∃ C, J C (nbO A B zs i) W') ∨ ∃ C q, q <+: nbO A B zs i ∧ Jx C q W') := by
  have hon : onB A B (cellN A i) = true := cellN_on hm (by omega)
  have hcall := fun w => at_cell A B i w hm (by omega)
  have hnb : ∀ k : Nat, k < 4 → (onB A B (stepI (cellN A i) k) = true → zs.getD (numN A (stepI (cellN A i) k)) 0 ≠ 0 → nbK A B zs i (k + 1) = nbK A B zs i k ++ [numN A (stepI (cellN A i) k)]) ∧ ((onB A B (stepI (cellN A i) k) = true → zs.getD (numN A (stepI (cellN A i) k)) 0 = 0) → nbK A B zs i (k + 1) = nbK A B zs i k) := fun k hk => by
    refine ⟨nbK_one hk, fun h => ?_⟩
    cases ho : onB A B (stepI (cellN A i) k)
    · exact nbK_none hk ho
    · exact nbK_wall hk ho (h ho)
  have HNB := Lib.hid hnb
  clear hnb
  generalize cellN A i = c at *
  refine callsIn_of_wp Tryd.func70 rfl trivial ?_ rfl
  simp only [Tryd.ntmps70, List.size_toArray, List.length_cons, List.length_nil, Nat.reduceAdd, Nat.reduceSub, Array.replicate_succ, Array.replicate_zero, List.push_toArray, List.append_toArray, List.nil_append, List.cons_append]
  obtain ⟨s0, s1, s2, s3⟩ := hs
  gi_wp2_with fail
  refine ⟨trivial, (callsIn_wide.2 (hcall _)).mono ?_⟩
  rintro e W1 ⟨rfl, hb1⟩
  have hs1 : BesAt W1 p A B a zs.length cap i := BesAt.below ⟨s0, s1, s2, s3⟩ hb1
  clear s0 s1 s2 s3 hcall
  gi_wp2_with fail
  gi_loopw [6] (fun d wr => ∃ k : Nat, k ≤ 4 ∧ d = .int .i64 k ∧ J W1.heap.size (nbK A B zs i k) wr ∧ BesAt wr p A B a zs.length cap i ∧ wr.cell? ⟨W1.heap.size, 0, none⟩ = some (.int .i64 c.1) ∧ wr.cell? ⟨W1.heap.size, 1, none⟩ = some (.int .i64 c.2)) (fun d _ => 5 - (intOf d).toNat)
  case atStart =>
    have hbb := bl_al hb1 (.cells #[.int .i64 c.1, .int .i64 c.2] 28)
    refine ⟨0, by omega, rfl, h0 _ _ hbb hb1.size (by simp), hs1.below (bl_al (bl0 _) _), ?_, ?_⟩ <;> simp [go_sem]
  case round =>
    obtain ⟨k, hk, rfl, hJr, hs, y0, y1⟩ := hrel
    by_cases hk4 : k = 4
    · subst hk4
      rw [nbK_all] at hJr
      gi_wp2_with fail
      go_end0
      exact ⟨⟨_, rfl⟩, .inl ⟨_, hJr⟩⟩
    · have hlt : k < 4 := by omega
      have hlt2 : ((k : Int) ≤ 3) := by omega
      obtain ⟨hN1, hN2⟩ := HNB.out k hlt
      obtain ⟨hrow, hstp⟩ := hJR _ _ _ hJr
      have hstep := step_any A B c (k : Int) wr hstp
      have hx : stpX A B c k = if onB A B (stepI c k) = true then 0 else 10 := by
        unfold stpX
        rw [if_pos ⟨by omega, by omega⟩, hon, Bool.true_and]
      have hv : stpX A B c k = 0 → stpV A B c k = stepI c k := fun h => by unfold stpV; rw [if_pos h]
      obtain ⟨s0, s1, s2, s3⟩ := hs
      generalize stepI c (k : Int) = c2 at *
      cases ho : onB A B c2
      · rw [if_neg (by rw [ho]; decide)] at hx
        have hN := Lib.hid (hN2 (fun h => by rw [ho] at h; cases h))
        rw [hx] at hstep
        generalize stpV A B c k = v2 at *
        clear hN1 hN2 hx hv ho
        gi_wp2_with fail
        refine ⟨trivial, (callsIn_wide.2 hstep).mono ?_⟩
        rintro e W2 ⟨rfl, hb2⟩
        have hbb := bl_al hb2 (.cells #[.int .i64 v2.1, .int .i64 v2.2] 28)
        gi_wp2
        go_roundw
        case rel => exact ⟨k + 1, by omega, by go_num, by rw [hN.out]; exact hJ _ _ _ _ none hJr (grown_of_below hbb) (fun r e => by cases e), BesAt.below ⟨s0, s1, s2, s3⟩ hbb, cell_later hbb y0, cell_later hbb y1⟩
        case measure => simp [intOf]; omega
      · rw [if_pos ho] at hx
        have hv2 := hv hx
        rw [hx, hv2] at hstep
        have hnum := fun w => number_any A B a zs.length cap c2 w ho
        have hjl := numN_at ho hn
        generalize numN A c2 = j at *
        have hz := getD_get hjl
        obtain ⟨gb, go, rfl, q⟩ := hrow.cell hjl
        have hj0 : (0 : Int) ≤ (j : Int) := by omega
        have hj1 : (j : Int) < (zs.length : Int) := by omega
        rw [hz] at q
        by_cases h0z : zs.getD j 0 = 0
        · have hN := Lib.hid (hN2 (fun _ => h0z))
          rw [h0z] at q
          clear hN1 hN2 hx hv hv2 ho hz h0z
          gi_wp2_with fail
          refine ⟨trivial, (callsIn_wide.2 hstep).mono ?_⟩
          rintro e W2 ⟨rfl, hb2⟩
          have hbb := bl_al hb2 (.cells #[.int .i64 c2.1, .int .i64 c2.2] 28)
          replace s0 := cell_later hb2 s0; replace s1 := cell_later hb2 s1; replace s2 := cell_later hb2 s2
          have zs0 := blk_lt s0
          gi_wp2_with fail
          refine ⟨trivial, (callsIn_wide.2 (hnum _)).mono ?_⟩
          rintro e W3 ⟨rfl, hb3⟩
          have hb4 := bl_tr hbb hb3
          replace s0 := cell_later (bl_tr (bl_al (bl0 _) _) hb3) s0; replace s1 := cell_later (bl_tr (bl_al (bl0 _) _) hb3) s1; replace s2 := cell_later (bl_tr (bl_al (bl0 _) _) hb3) s2
          replace s3 := cell_later hb4 s3; replace y0 := cell_later hb4 y0; replace y1 := cell_later hb4 y1; replace q := cell_later hb4 q
          gi_wp2_with fail
          refine ⟨(fun f h => by cases h), ?_⟩
          gi_wp2_with fail
          go_roundw
          case rel => exact ⟨k + 1, by omega, by go_num, by rw [hN.out]; exact hJ _ _ _ _ none hJr (grown_of_below hb4) (fun r e => by cases e), ⟨s0, s1, s2, s3⟩, y0, y1⟩
          case measure => simp [intOf]; omega
        · have hN := Lib.hid (hN1 ho h0z)
          have hnz : (zs.getD j 0 != 0) = true := by rw [bne_iff_ne]; exact h0z
          generalize zs.getD j 0 = z at *
          have hpre : nbK A B zs i k ++ [j] <+: nbO A B zs i := by rw [← hN.out, ← nbK_all]; exact nbK_prefix (by omega)
          clear hN1 hN2 hx hv hv2 ho hz h0z
          gi_wp2_with fail
          refine ⟨trivial, (callsIn_wide.2 hstep).mono ?_⟩
          rintro e W2 ⟨rfl, hb2⟩
          have hbb := bl_al hb2 (.cells #[.int .i64 c2.1, .int .i64 c2.2] 28)
          replace s0 := cell_later hb2 s0; replace s1 := cell_later hb2 s1; replace s2 := cell_later hb2 s2
          have zs0 := blk_lt s0
          gi_wp2_with fail
          refine ⟨trivial, (callsIn_wide.2 (hnum _)).mono ?_⟩
          rintro e W3 ⟨rfl, hb3⟩
          have hb4 := bl_tr hbb hb3
          replace s0 := cell_later (bl_tr (bl_al (bl0 _) _) hb3) s0; replace s1 := cell_later (bl_tr (bl_al (bl0 _) _) hb3) s1; replace s2 := cell_later (bl_tr (bl_al (bl0 _) _) hb3) s2
          replace s3 := cell_later hb4 s3; replace y0 := cell_later hb4 y0; replace y1 := cell_later hb4 y1; replace q := cell_later hb4 q
          have hJ4 := hJ _ _ _ _ none hJr (grown_of_below hb4) (fun r e => by cases e)
          obtain ⟨fn, tmps, assign, body, hy, hR⟩ := yieldAt_wide 9 (hY _ _ _ W3 hJ4 hpre)
          simp only [encI] at hy
          gi_wp2_with fail
          refine hR.mono ?_
          rintro e W4 (⟨rfl, hJ5, hkp, hkc⟩ | ⟨rfl, hJx, _, _⟩)
          · have hs5 : BesAt W4 p A B (some ⟨gb, go, none⟩) zs.length cap i := BesAt.kp ⟨s0, s1, s2, s3⟩ hkp
            replace y0 := hkc.cell (Nat.le_refl _) (by omega) y0
            replace y1 := hkc.cell (Nat.le_refl _) (by omega) y1
            clear hJ4 hy hR
            gi_wp2_with fail
            go_roundw
            case rel => exact ⟨k + 1, by omega, by go_num, by rw [hN.out]; exact hJ5, hs5, y0, y1⟩
            case measure => simp [intOf]; omega
          · clear hJ4 hy hR
            gi_wp2_with fail
            refine bodyPost_ret (results_none rfl _ _ _) rfl ?_
            exact ⟨⟨_, rfl⟩, .inr ⟨_, _, hpre, hJx⟩⟩
theorem iter_beside (p : Nat) (A B : Int) (a : Option Addr) (cap : Nat) (zs : List Int) (i : Nat) (hm : mayB A B = true) (hn : (zs.length : Int) = A * B) (hi : i < zs.length) (w : World) (hs : BesAt w p A B a zs.length cap i) :
    IterC p 2 70 #[.pointer (some ⟨p, 0, none⟩), .pointer (some ⟨p + 1, 0, none⟩)] encI (nbO A B zs i) (fun W => RowH W a zs ∧ Stp W) w :=
  fun l J Jx W hW hJ hJR hJxR hY h0 => beside1_in l p A B a cap zs i hm hn hi J Jx W hJ hJR hJxR hY (hs.below hW) h0
end Go.Proofs.YtldpajfendkhbaaDoor

/- Least costs: a row of so many costs that are none; what is reached. -/
namespace Go.Proofs.YtldpajfendkhbaaDoor
open Go.RowKit

/-- A row as it is filled. -/
def repL (n b : Nat) : List Value := List.replicate b (Value.int .u64 18446744073709551615) ++ List.replicate (n - b) (Value.int .u64 0)
theorem repL_len {n b : Nat} (h : b ≤ n) : (repL n b).length = n := by simp [repL]; omega
theorem repL_at {n b j : Nat} (h : j < b) : (repL n b)[j]? = some (Value.int .u64 18446744073709551615) := by
  unfold repL
  rw [List.getElem?_append_left (by simpa using h), List.getElem?_replicate, if_pos h]
theorem repL_step {n b m : Nat} (h : b + m ≤ n) : (repL n b).take b ++ List.replicate m (Value.int .u64 18446744073709551615) ++ (repL n b).drop (b + m) = repL n (b + m) := by
  unfold repL
  rw [List.take_append_of_le_length (by simp), List.take_of_length_le (by simp), List.drop_append, List.drop_of_length_le (by simp), List.nil_append, List.length_replicate, List.drop_replicate, List.replicate_append_replicate]
  congr 2
  omega
theorem copy_u (V : World) (g n b m : Nat) (o : Nat) (a : Addr) (cd cs : Nat) (hb : o = b) (hm : b + m ≤ n) (sl dl : Nat) (hmin : m = Nat.min sl dl) (hg : V.heap[g]? = some (.cells (repL n b).toArray 34 (0, 0))) (hh : ∀ j, j < m → V.cell? (a.add j) = some (.int .u64 18446744073709551615)) :
    (Builtin.copy_ #[46, 46] 3 #[.slice (some ⟨g, o, none⟩) dl cd, .slice (some a) sl cs]).run Tryd.prog V = .ok (.int .i64 (m : Nat)) (V.setRow g (repL n (b + m)).toArray) := by
  have hs : (Tryd.prog.info? 34).map (·.size) = some 1 := by kernel_rfl
  subst hb
  have := run_copy_row (P := Tryd.prog) V 46 46 3 34 g o dl cd a sl cs (repL n o).toArray 34 (List.replicate m (Value.int .u64 18446744073709551615)) Tryd.underlying46 hs hg (by simpa using hmin)
    (fun j u hu => by
      rw [List.getElem?_replicate] at hu
      split at hu
      · cases hu; exact hh j (by assumption)
      · cases hu) (by simp [repL_len (show o ≤ n by omega)]; omega) (fun v hv => by rw [List.mem_replicate] at hv; rw [hv.2]; rfl)
  rw [this]
  simp only [List.length_replicate, repL_step hm]
  rfl

set_option maxRecDepth 100000 in
set_option maxHeartbeats 2000000 in
theorem repeat_any (g0 n : Nat) (w : World) (h1 : 1 ≤ n) (hn : n ≤ 65536) (hc : w.cell? ⟨g0, 0, none⟩ = some (.int .u64 18446744073709551615)) :
    Calls Tryd.prog 60 #[.slice (some ⟨g0, 0, none⟩) 1 1, .int .i64 (n : Int)] w fun e w' => ∃ g, w.heap.size ≤ g ∧ e = .returned (.slice (some ⟨g, 0, none⟩) n n) ∧ w'.heap[g]? = some (.cells (repL n n).toArray 34 (0, 0)) ∧ Below w.heap.size w w' := by
  have hn0 : ¬ ((n : Int) < 0) := by omega
  have e1 : IntKind.u64.wrap (1 : Int) = ((1 : Nat) : Int) := rfl
  have e2 : IntKind.u64.wrap (n : Int) = (n : Int) := IntWalk.u64_in _ (by omega)
  have hmul := fun w => Tryd.bits_Mul 1 n (by decide) (by omega) w
  rw [show ((1 * n / 18446744073709551616 : Nat) : Int) = 0 by omega, show ((1 * n % 18446744073709551616 : Nat) : Int) = (n : Int) by omega] at hmul
  have e3 : IntKind.i64.wrap (n : Int) = (n : Int) := IntWalk.i64_in _ (by omega)
  have hmk := fun w => make_u64 n (by omega) w
  have hnew : (w.alloc (.cells (Array.replicate n (Value.int .u64 0)) 34)).heap[w.heap.size]? = some (.cells (repL n 0).toArray 34 (0, 0)) := by
    rw [heap_alloc_new]
    simp [repL]
  have hb0 := bl_al (bl0 w) (.cells (Array.replicate n (Value.int .u64 0)) 34)
  have hc2 : ∀ j, j < 1 → (w.alloc (.cells (Array.replicate n (Value.int .u64 0)) 34)).cell? ((⟨g0, 0, none⟩ : Addr).add j) = some (.int .u64 18446744073709551615) := fun j hj => by
    obtain rfl : j = 0 := by omega
    rw [hadd]
    exact cell_later hb0 hc
  have hcp := copy_u _ w.heap.size n 0 1 0 ⟨g0, 0, none⟩ n 1 rfl (by omega) 1 n (Nat.min_eq_left h1).symm hnew hc2
  have hr1 := setRow_heap _ _ _ (repL n (0 + 1)).toArray _ _ hnew
  have hbr := below_setRow hb0 (Nat.le_refl _) (repL n (0 + 1)).toArray
  have HR1 := Lib.hid hr1
  have HBR := Lib.hid hbr
  have hn9 : decide ((9223372036854775807 : Int) < (n : Int)) = false := by rw [decide_eq_false_iff_not]; omega
  clear hr1 hbr hnew hb0 hc2 hc
  go_enter Tryd.func60, Tryd.ntmps60
  go_wp2_with (go_at_call 69; refine (hmul _).mono ?_; rintro e w' ⟨rfl, hww⟩; subst hww)
  go_loopw [8] (fun s wr => ∃ b : Nat, 1 ≤ b ∧ b ≤ n ∧ s = .int .i64 b ∧ wr.heap[w'.heap.size]? = some (.cells (repL n b).toArray 34 (0, 0)) ∧ Below w'.heap.size w' wr) (fun s _ => n - (intOf s).toNat)
  case atStart => exact ⟨1, by omega, by omega, rfl, HR1.out, HBR.out⟩
  case round =>
    obtain ⟨b, hb1, hb2, rfl, hg, hB⟩ := hrel
    clear hcp HR1 HBR
    by_cases hlt : b < n
    · have hlt2 : (b : Int) < (n : Int) := by omega
      have hb0 : (0 : Int) ≤ (b : Int) := by omega
      have hbn : (b : Int) ≤ (n : Int) := by omega
      obtain ⟨m, hm⟩ : ∃ m, m = Nat.min b (n - b) := ⟨_, rfl⟩
      have hm1 : b + m ≤ n ∧ 1 ≤ m := by have := Nat.min_le_right b (n - b); have h3 : Nat.min b (n - b) = min b (n - b) := rfl; omega
      have hcp : ∀ V : World, V.heap[w'.heap.size]? = some (.cells (repL n b).toArray 34 (0, 0)) → (Builtin.copy_ #[46, 46] 3 #[.slice (some ⟨w'.heap.size, b, none⟩) (n - b) (n - b), .slice (some ⟨w'.heap.size, 0, none⟩) b n]).run Tryd.prog V = .ok (.int .i64 (m : Nat)) (V.setRow w'.heap.size (repL n (b + m)).toArray) := fun V hV =>
        copy_u V w'.heap.size n b m b ⟨w'.heap.size, 0, none⟩ (n - b) n rfl hm1.1 b (n - b) hm hV (fun j hj => by
          rw [hadd]
          simp only [World.cell?, hV]
          have hjb : j < b := Nat.lt_of_lt_of_le hj (hm ▸ Nat.min_le_left b (n - b))
          simpa using repL_at (n := n) hjb)
      have hcp2 := hcp wr.drew hg
      have hnb : ¬ (n = b) := by omega
      rw [← show (if n = b then (some ⟨w'.heap.size, 0, none⟩ : Option Addr) else some ⟨w'.heap.size, b, none⟩) = some ⟨w'.heap.size, b, none⟩ from if_neg hnb] at hcp2
      have hr2 := setRow_heap _ _ _ (repL n (b + m)).toArray _ _ hg
      have HR := Lib.hid hr2
      have e4 : IntKind.i64.wrap ((b : Int) + (m : Int)) = ((b + m : Nat) : Int) := by rw [IntWalk.i64_in _ (by omega)]; omega
      have HB := Lib.hid (below_setRow (bl_dr hB) (Nat.le_refl _) (repL n (b + m)).toArray)
      clear hcp hr2 hm
      go_wp2
      refine (wpIn_wide (n := 11)).1 ?_
      refine ordS_begin (S := (fun _ => True)) (by kernel_rfl) trivial (fun hH => ?_)
      first
        | (refine' ordS_take (i := 0) (oi := { dst := some 38, op := Op.move (Operand.tmp 8), type := 3, pos := _, after := #[], guard := none }) (v := _) rfl (by kernel_rfl) (by kernel_rfl) (by kernel_rfl) (by kernel_rfl) (fun _ _ _ h => h) (by assumption) (Or.inl ⟨by rfl, ?hy79⟩) (fun _ => rfl) ?rest79
           case hy79 => (intro w hSw; (try dsimp only at hSw); go_simp; try with_reducible rfl))
        | (refine ordS_take (i := 0) (oi := { dst := some 38, op := Op.move (Operand.tmp 8), type := 3, pos := _, after := #[], guard := none }) (v := undef) rfl (by kernel_rfl) (by kernel_rfl) (by kernel_rfl) (by kernel_rfl) (fun _ _ _ h => h) (by assumption) (Or.inr ⟨by rfl, rfl⟩) (fun _ => rfl) ?_)
      try simp only [Act.put, List.setIfInBounds_toArray, List.set_cons_zero, List.set_cons_succ]
      first
        | (refine' ordS_take (i := 1) (oi := { dst := some 39, op := Op.move (Operand.tmp 7), type := 46, pos := _, after := #[], guard := none }) (v := _) rfl (by kernel_rfl) (by kernel_rfl) (by kernel_rfl) (by kernel_rfl) (fun _ _ _ h => h) (by assumption) (Or.inl ⟨by rfl, ?hy80⟩) (fun _ => rfl) ?rest80
           case hy80 => (intro w hSw; (try dsimp only at hSw); go_simp; try with_reducible rfl))
        | (refine ordS_take (i := 1) (oi := { dst := some 39, op := Op.move (Operand.tmp 7), type := 46, pos := _, after := #[], guard := none }) (v := undef) rfl (by kernel_rfl) (by kernel_rfl) (by kernel_rfl) (by kernel_rfl) (fun _ _ _ h => h) (by assumption) (Or.inr ⟨by rfl, rfl⟩) (fun _ => rfl) ?_)
      try simp only [Act.put, List.setIfInBounds_toArray, List.set_cons_zero, List.set_cons_succ]
      first
        | (refine' ordS_take (i := 2) (oi := { dst := some 40, op := Op.move (Operand.tmp 8), type := 3, pos := _, after := #[], guard := none }) (v := _) rfl (by kernel_rfl) (by kernel_rfl) (by kernel_rfl) (by kernel_rfl) (fun _ _ _ h => h) (by assumption) (Or.inl ⟨by rfl, ?hy81⟩) (fun _ => rfl) ?rest81
           case hy81 => (intro w hSw; (try dsimp only at hSw); go_simp; try with_reducible rfl))
        | (refine ordS_take (i := 2) (oi := { dst := some 40, op := Op.move (Operand.tmp 8), type := 3, pos := _, after := #[], guard := none }) (v := undef) rfl (by kernel_rfl) (by kernel_rfl) (by kernel_rfl) (by kernel_rfl) (fun _ _ _ h => h) (by assumption) (Or.inr ⟨by rfl, rfl⟩) (fun _ => rfl) ?_)
      try simp only [Act.put, List.setIfInBounds_toArray, List.set_cons_zero, List.set_cons_succ]
      first
        | (refine' ordS_take (i := 3) (oi := { dst := some 41, op := Op.slice 46 (Operand.tmp 39) (some (Operand.tmp 40)) none none, type := 46, pos := _, after := #[{ on := 1, ground := Ground.data }, { on := 2, ground := Ground.data }], guard := none }) (v := _) rfl (by kernel_rfl) (by kernel_rfl) (by kernel_rfl) (by kernel_rfl) (fun _ _ _ h => h) (by assumption) (Or.inl ⟨by rfl, ?hy82⟩) (fun _ => rfl) ?rest82
           case hy82 => (intro w hSw; (try dsimp only at hSw); go_simp; try with_reducible rfl))
        | (refine ordS_take (i := 3) (oi := { dst := some 41, op := Op.slice 46 (Operand.tmp 39) (some (Operand.tmp 40)) none none, type := 46, pos := _, after := #[{ on := 1, ground := Ground.data }, { on := 2, ground := Ground.data }], guard := none }) (v := undef) rfl (by kernel_rfl) (by kernel_rfl) (by kernel_rfl) (by kernel_rfl) (fun _ _ _ h => h) (by assumption) (Or.inr ⟨by rfl, rfl⟩) (fun _ => rfl) ?_)
      try simp only [Act.put, List.setIfInBounds_toArray, List.set_cons_zero, List.set_cons_succ]
      first
        | (refine' ordS_take (i := 4) (oi := { dst := some 42, op := Op.move (Operand.tmp 7), type := 46, pos := _, after := #[], guard := none }) (v := _) rfl (by kernel_rfl) (by kernel_rfl) (by kernel_rfl) (by kernel_rfl) (fun _ _ _ h => h) (by assumption) (Or.inl ⟨by rfl, ?hy83⟩) (fun _ => rfl) ?rest83
           case hy83 => (intro w hSw; (try dsimp only at hSw); go_simp; try with_reducible rfl))
        | (refine ordS_take (i := 4) (oi := { dst := some 42, op := Op.move (Operand.tmp 7), type := 46, pos := _, after := #[], guard := none }) (v := undef) rfl (by kernel_rfl) (by kernel_rfl) (by kernel_rfl) (by kernel_rfl) (fun _ _ _ h => h) (by assumption) (Or.inr ⟨by rfl, rfl⟩) (fun _ => rfl) ?_)
      try simp only [Act.put, List.setIfInBounds_toArray, List.set_cons_zero, List.set_cons_succ]
      first
        | (refine' ordS_take (i := 5) (oi := { dst := some 43, op := Op.move (Operand.tmp 8), type := 3, pos := _, after := #[], guard := none }) (v := _) rfl (by kernel_rfl) (by kernel_rfl) (by kernel_rfl) (by kernel_rfl) (fun _ _ _ h => h) (by assumption) (Or.inl ⟨by rfl, ?hy84⟩) (fun _ => rfl) ?rest84
           case hy84 => (intro w hSw; (try dsimp only at hSw); go_simp; try with_reducible rfl))
        | (refine ordS_take (i := 5) (oi := { dst := some 43, op := Op.move (Operand.tmp 8), type := 3, pos := _, after := #[], guard := none }) (v := undef) rfl (by kernel_rfl) (by kernel_rfl) (by kernel_rfl) (by kernel_rfl) (fun _ _ _ h => h) (by assumption) (Or.inr ⟨by rfl, rfl⟩) (fun _ => rfl) ?_)
      try simp only [Act.put, List.setIfInBounds_toArray, List.set_cons_zero, List.set_cons_succ]
      first
        | (refine' ordS_take (i := 6) (oi := { dst := some 44, op := Op.slice 46 (Operand.tmp 42) none (some (Operand.tmp 43)) none, type := 46, pos := _, after := #[{ on := 4, ground := Ground.data }, { on := 5, ground := Ground.data }], guard := none }) (v := _) rfl (by kernel_rfl) (by kernel_rfl) (by kernel_rfl) (by kernel_rfl) (fun _ _ _ h => h) (by assumption) (Or.inl ⟨by rfl, ?hy85⟩) (fun _ => rfl) ?rest85
           case hy85 => (intro w hSw; (try dsimp only at hSw); go_simp; try with_reducible rfl))
        | (refine ordS_take (i := 6) (oi := { dst := some 44, op := Op.slice 46 (Operand.tmp 42) none (some (Operand.tmp 43)) none, type := 46, pos := _, after := #[{ on := 4, ground := Ground.data }, { on := 5, ground := Ground.data }], guard := none }) (v := undef) rfl (by kernel_rfl) (by kernel_rfl) (by kernel_rfl) (by kernel_rfl) (fun _ _ _ h => h) (by assumption) (Or.inr ⟨by rfl, rfl⟩) (fun _ => rfl) ?_)
      try simp only [Act.put, List.setIfInBounds_toArray, List.set_cons_zero, List.set_cons_succ]
      refine ordS_one (i := 7) (o := { dst := some 45, op := Op.call { callee := Callee.builtin Builtin.copy, args := #[Operand.tmp 41, Operand.tmp 44], argTypes := #[46, 46] }, type := 3, pos := _, after := #[{ on := 3, ground := Ground.data }, { on := 6, ground := Ground.data }], guard := none }) (by kernel_rfl) rfl (by rfl) (fun K hK => ?_)
      try simp only [if_neg hnb] at hcp2
      try simp only [if_neg hnb]
      go_simp
      refine hK _ _ trivial ?_
      clear hK K
      try simp only [Act.put, List.setIfInBounds_toArray, List.set_cons_zero, List.set_cons_succ]
      first
        | (refine' ordS_take (i := 8) (oi := { dst := some 46, op := Op.binOp BinOp.add 3 (Operand.tmp 38) (Operand.tmp 45) 3, type := 3, pos := _, after := #[{ on := 0, ground := Ground.data }, { on := 7, ground := Ground.data }], guard := none }) (v := _) rfl (by kernel_rfl) (by kernel_rfl) (by kernel_rfl) (by kernel_rfl) (fun _ _ _ h => h) (by assumption) (Or.inl ⟨by rfl, ?hy86⟩) (fun _ => rfl) ?rest86
           case hy86 => (intro w hSw; (try dsimp only at hSw); go_simp; try with_reducible rfl))
        | (refine ordS_take (i := 8) (oi := { dst := some 46, op := Op.binOp BinOp.add 3 (Operand.tmp 38) (Operand.tmp 45) 3, type := 3, pos := _, after := #[{ on := 0, ground := Ground.data }, { on := 7, ground := Ground.data }], guard := none }) (v := undef) rfl (by kernel_rfl) (by kernel_rfl) (by kernel_rfl) (by kernel_rfl) (fun _ _ _ h => h) (by assumption) (Or.inr ⟨by rfl, rfl⟩) (fun _ => rfl) ?_)
      try simp only [Act.put, List.setIfInBounds_toArray, List.set_cons_zero, List.set_cons_succ]
      first
        | (refine' ordS_take (i := 9) (oi := { dst := some 8, op := Op.assign (Operand.tmp 46), type := 3, pos := _, after := #[{ on := 8, ground := Ground.data }, { on := 7, ground := Ground.chain }, { on := 0, ground := Ground.phase }, { on := 1, ground := Ground.phase }, { on := 2, ground := Ground.phase }, { on := 3, ground := Ground.phase }, { on := 4, ground := Ground.phase }, { on := 5, ground := Ground.phase }, { on := 6, ground := Ground.phase }, { on := 7, ground := Ground.phase }, { on := 8, ground := Ground.phase }], guard := none }) (v := _) rfl (by kernel_rfl) (by kernel_rfl) (by kernel_rfl) (by kernel_rfl) (fun _ _ _ h => h) (by assumption) (Or.inl ⟨by rfl, ?hy87⟩) (fun _ => rfl) ?rest87
           case hy87 => (intro w hSw; (try dsimp only at hSw); go_simp; try with_reducible rfl))
        | (refine ordS_take (i := 9) (oi := { dst := some 8, op := Op.assign (Operand.tmp 46), type := 3, pos := _, after := #[{ on := 8, ground := Ground.data }, { on := 7, ground := Ground.chain }, { on := 0, ground := Ground.phase }, { on := 1, ground := Ground.phase }, { on := 2, ground := Ground.phase }, { on := 3, ground := Ground.phase }, { on := 4, ground := Ground.phase }, { on := 5, ground := Ground.phase }, { on := 6, ground := Ground.phase }, { on := 7, ground := Ground.phase }, { on := 8, ground := Ground.phase }], guard := none }) (v := undef) rfl (by kernel_rfl) (by kernel_rfl) (by kernel_rfl) (by kernel_rfl) (fun _ _ _ h => h) (by assumption) (Or.inr ⟨by rfl, rfl⟩) (fun _ => rfl) ?_)
      try simp only [Act.put, List.setIfInBounds_toArray, List.set_cons_zero, List.set_cons_succ]
      refine ordS_done (by kernel_rfl) ?_
      go_wp2
      go_roundw
      case rel => exact ⟨b + m, by omega, by omega, rfl, HR.out, HB.out⟩
      case measure => simp [intOf]; omega
    · obtain rfl : b = n := by omega
      have hge : ¬ ((b : Int) < (b : Int)) := by omega
      go_wp2
      go_ret
      exact ⟨w'.heap.size, Nat.le_refl _, rfl, hg, hB⟩

set_option maxRecDepth 100000 in
set_option maxHeartbeats 2000000 in
/-- What is told, and what waits, behind a reach. -/
theorem reach_sep (p g cap i : Nat) (cost : Int) (ds : List Int) (m : List Th) (w : World) (B : Nat) (l : List Own) (h : Sep w B (RowO 34 1 (.slice (some ⟨g, 0, none⟩) ds.length cap) ds.length (cellsU ds) :: HeapO p m :: l)) (hi : i < ds.length) (hl : ds.length ≤ 65536) (hm : m.length ≤ 1000000) :
    Calls Tryd.prog 61 #[.slice (some ⟨g, 0, none⟩) ds.length cap, .pointer (some ⟨p, 0, none⟩), .int .i64 (i : Int), .int .u64 cost] w fun e w' => e = .returned (.tuple #[]) ∧
      Sep w' B (RowO 34 1 (.slice (some ⟨g, 0, none⟩) ds.length cap) ds.length (cellsU (if atD ds i = 18446744073709551615 then ds.set i cost else ds)) :: HeapO p (if atD ds i = 18446744073709551615 then pushM m ⟨(i : Int), cost, 0, 0, 0⟩ else m) :: l) ∧ Below B w w' := by
  obtain ⟨hcell, hfr, hB, hlt, hcap⟩ := Sep.row (l1 := []) h
  have q := hcell i _ (cellsU_at hi)
  have fq := hfr i
  have hi0 : (0 : Int) ≤ (i : Int) := by omega
  have hi1 : (i : Int) < (ds.length : Int) := by omega
  have zq := blk_lt q
  by_cases hd : atD ds i = 18446744073709551615
  · rw [if_pos hd, if_pos hd]
    rw [hd] at q
    have h2 := Sep.rowset (l1 := []) h i (.int .u64 cost)
    rw [cellsU_set] at h2
    have hcall := push_sep (l1 := [RowO 34 1 (.slice (some ⟨g, 0, none⟩) ds.length cap) ds.length (cellsU (ds.set i cost))]) ⟨(i : Int), cost, 0, 0, 0⟩ h2 (WalkArith.wf_i64 (show -9223372036854775808 ≤ (i : Int) ∧ (i : Int) ≤ 9223372036854775807 by omega)) hm
    have hb0 : Below B w (w.setCell ⟨g, i, none⟩ (.int .u64 cost)) := (Below.refl _ _).setCell (p := ⟨g, i, none⟩) hB _
    have HB0 := Lib.hid hb0
    clear hb0 h h2 hd hcell hfr
    go_enter Tryd.func61, Tryd.ntmps61
    go_wp2_with fail
    refine hcall.mono ?_
    rintro e w2 ⟨rfl, h3, hb⟩
    go_wp2
    go_end0
    exact ⟨rfl, h3, HB0.out.trans hb⟩
  · rw [if_neg hd, if_neg hd]
    have hd2 : (atD ds i == 18446744073709551615) = false := by rw [beq_eq_false_iff_ne]; exact hd
    clear hcell hfr
    generalize atD ds i = v at *
    go_enter Tryd.func61, Tryd.ntmps61
    go_wp2
    go_end0
    exact ⟨rfl, h, Below.refl _ _⟩
end Go.Proofs.YtldpajfendkhbaaDoor

/- Least costs: a field within a box. -/
namespace Go.Proofs.YtldpajfendkhbaaDoor
open Go.RowKit Go.Shelf
attribute [local go_sem] Oper.semAt_some

/-- A cell's number, 0 of one that is not on the map. -/
def numZ (A B : Int) (c : IC) : Nat := if onB A B c = true then numN A c else 0
theorem number_all (A B : Int) (a : Option Addr) (n cap : Nat) (c : IC) (w : World) :
    Calls Tryd.prog 46 #[.agg #[.int .i64 A, .int .i64 B, .slice a n cap], .agg #[.int .i64 c.1, .int .i64 c.2]] w fun e w' => e = .returned (.int .i64 (numZ A B c : Nat)) ∧ Below w.heap.size w w' := by
  cases h : onB A B c
  · have e : numZ A B c = 0 := by unfold numZ; rw [if_neg (by rw [h]; decide)]
    rw [e]
    have hA := bl0 w
    go_enter Tryd.func46, Tryd.ntmps46
    go_wp2_with fail
    refine (index_no _ _ _ _ _ h).mono ?_
    rintro e w1 ⟨rfl, hb⟩
    have hk : Below w.heap.size w w1 := by first | exact hb | exact bl_tr (bl_al (bl0 _) _) hb | exact bl_tr (bl_dr (bl_al (bl0 _) _)) hb | exact bl_tr (bl_al (bl_al (bl0 _) _) _) hb | exact bl_tr (bl_dr (bl_al (bl_al (bl0 _) _) _)) hb | exact bl_tr (bl_al (bl_al (bl_al (bl0 _) _) _) _) hb | exact bl_tr (bl_dr (bl_al (bl_al (bl_al (bl0 _) _) _) _)) hb | exact bl_tr (bl_al (bl_al (bl_al (bl_al (bl0 _) _) _) _) _) hb | exact bl_tr (bl_dr (bl_al (bl_al (bl_al (bl_al (bl0 _) _) _) _) _)) hb | exact bl_tr (bl_al (bl_al (bl_al (bl_al (bl_al (bl0 _) _) _) _) _) _) hb | exact bl_tr (bl_dr (bl_al (bl_al (bl_al (bl_al (bl_al (bl0 _) _) _) _) _) _)) hb | exact bl_tr (bl_al (bl_al (bl_al (bl_al (bl_al (bl_al (bl0 _) _) _) _) _) _) _) hb | exact bl_tr (bl_dr (bl_al (bl_al (bl_al (bl_al (bl_al (bl_al (bl0 _) _) _) _) _) _) _)) hb | exact bl_tr (bl_dr (bl0 _)) hb
    replace hA := bl_tr hA hk
    clear hb hk
    go_wp2
    go_ret
    exact ⟨rfl, hA⟩
  · have e : numZ A B c = numN A c := by unfold numZ; rw [if_pos h]
    rw [e]
    exact number_any A B a n cap c w h
theorem numZ_lt {A B : Int} {zs : List Int} (hm : mayB A B = true) (hn : (zs.length : Int) = A * B) (c : IC) : numZ A B c < zs.length := by
  unfold numZ
  split
  · exact numN_at (by assumption) hn
  · have := area_bd hm
    omega
/-- What was copied so far. -/
def cutTo (A B : Int) (zs : List Int) (l : List IC) : List Int := l.foldl (fun q c => q.set (numZ A B c) (zs.getD (numZ A B c) 0)) (List.replicate zs.length 0)
theorem cutTo_snoc (A B : Int) (zs : List Int) (l : List IC) (c : IC) : cutTo A B zs (l ++ [c]) = (cutTo A B zs l).set (numZ A B c) (zs.getD (numZ A B c) 0) := by simp [cutTo, List.foldl_append]
theorem cutTo_len (A B : Int) (zs : List Int) (l : List IC) : (cutTo A B zs l).length = zs.length := by
  unfold cutTo
  have : ∀ (l : List IC) (q : List Int), (l.foldl (fun q c => q.set (numZ A B c) (zs.getD (numZ A B c) 0)) q).length = q.length := by
    intro l
    induction l with
    | nil => intro q; rfl
    | cons c l ih => intro q; rw [List.foldl_cons, ih, List.length_set]
  rw [this]; simp
theorem cutTo_at (A B : Int) (zs : List Int) (i : Nat) (hi : i < zs.length) : ∀ l : List IC, (cutTo A B zs l).getD i 0 = if l.any (fun c => decide (numZ A B c = i)) = true then zs.getD i 0 else 0 := by
  have key : ∀ (n : Nat) (l : List IC), l.length = n → (cutTo A B zs l).getD i 0 = if l.any (fun c => decide (numZ A B c = i)) = true then zs.getD i 0 else 0 := by
    intro n
    induction n with
    | zero =>
      intro l hl
      rw [List.length_eq_zero_iff.1 hl]
      simp [cutTo, List.getD_eq_getElem?_getD, hi]
    | succ n ih =>
      intro l hl
      obtain ⟨l', c, rfl⟩ : ∃ l' c, l = l' ++ [c] := ⟨l.dropLast, l.getLast (fun e => by rw [e] at hl; cases hl), (List.dropLast_concat_getLast _).symm⟩
      rw [cutTo_snoc, List.getD_eq_getElem?_getD, List.getElem?_set, List.any_append]
      by_cases e : numZ A B c = i
      · rw [if_pos e]
        subst e
        simp [cutTo_len, hi]
      · have e' : decide (numZ A B c = i) = false := decide_eq_false e
        rw [if_neg e, ← List.getD_eq_getElem?_getD, ih l' (by simpa using hl)]
        simp only [List.any_cons, List.any_nil, e', Bool.or_false]
  exact fun l => key _ l rfl
theorem cutTo_box {A B : Int} {b : BX} {zs : List Int} (hm : mayB A B = true) (hn : (zs.length : Int) = A * B) (hf : fitsB A B b.1 b.2.1 b.2.2.1 b.2.2.2 = true) : cutTo A B zs (boxCells b.1 b.2.1 b.2.2.1 b.2.2.2) = cutL A b zs := by
  refine List.ext_getElem (by rw [cutTo_len, cutL_len]) fun i h1 h2 => ?_
  rw [cutTo_len] at h1
  have e1 := cutTo_at A B zs i h1 (boxCells b.1 b.2.1 b.2.2.1 b.2.2.2)
  have e2 := cutL_at A b zs i
  rw [← getD_get (by rw [cutTo_len]; exact h1)] at e1
  rw [← getD_get (by rw [cutL_len]; exact h1)] at e2
  rw [e1, e2]
  have hon := cellN_on hm (show (i : Int) < A * B by omega)
  obtain ⟨f1, f2, f3, f4, f5, f6, f7, f8⟩ := fitsB_iff.1 hf
  have hiff : ((boxCells b.1 b.2.1 b.2.2.1 b.2.2.2).any (fun c => decide (numZ A B c = i)) = true) ↔ inBx b (cellN A i) = true := ?_
  · simp only [hiff]
  rw [List.any_eq_true]
  constructor
  · rintro ⟨c, hc, he⟩
    have hh := mem_boxCells.1 hc
    obtain ⟨g1, g2, g3, g4, g5⟩ := hasB_iff.1 hh
    obtain ⟨m1, m2, m3, m4⟩ := mayB_iff.1 hm
    have hoc : onB A B c = true := inB_iff.2 ⟨m1, m2, m3, m4, by omega, by omega, by omega, by omega⟩
    have he' := of_decide_eq_true he
    unfold numZ at he'
    rw [if_pos hoc] at he'
    rw [← he', cellN_num hoc]
    exact hh
  · intro hh
    refine ⟨cellN A i, mem_boxCells.2 hh, decide_eq_true ?_⟩
    unfold numZ
    rw [if_pos hon, numN_cell hm (by omega)]

def cellsHH (zs : List Int) : List Value := zs.map (Value.int .u16)
theorem two_allocs (W : World) (A B : Obj) : ((W.alloc A).alloc B).heap[W.heap.size]? = some A ∧ ((W.alloc A).alloc B).heap[W.heap.size + 1]? = some B := by
  refine ⟨?_, ?_⟩
  · rw [Below.heap_alloc _ _ _ (by simp), heap_alloc_new]
  · have h := heap_alloc_new (W.alloc A) B
    rw [World.size_alloc] at h
    exact h
theorem zeros_hh (n : Nat) : (cellsHH (List.replicate n 0)).toArray = Array.replicate n (Value.int .u16 0) := by simp [cellsHH]
theorem row_hh {W : World} {hv j : Nat} {l : List Int} {z : Int} (hq : W.heap[hv]? = some (.cells (cellsHH l).toArray 50 (0, 0))) : (W.setCell ⟨hv, j, none⟩ (.int .u16 z)).heap[hv]? = some (.cells (cellsHH (l.set j z)).toArray 50 (0, 0)) := by
  rw [hset_same _ _ _ _ _ _ hq]
  simp [cellsHH, List.map_set]
theorem cell_hh {W : World} {hv j : Nat} {l : List Int} (hq : W.heap[hv]? = some (.cells (cellsHH l).toArray 50 (0, 0))) (hj : j < l.length) : W.cell? ⟨hv, j, none⟩ = some (.int .u16 l[j]) ∧ W.frozen? ⟨hv, j, none⟩ = false := by
  constructor
  · simp [World.cell?, hq, cellsHH, hj]
  · simp [World.frozen?, hq]
theorem rowH_hh {W : World} {hv : Nat} {l : List Int} (hq : W.heap[hv]? = some (.cells (cellsHH l).toArray 50 (0, 0))) : RowH W (some ⟨hv, 0, none⟩) l := by
  refine .inr ⟨hv, 0, rfl, fun i z hz => ?_⟩
  have hi := (List.getElem?_eq_some_iff.1 hz).1
  have := (cell_hh hq hi).1
  rw [Nat.zero_add, this]
  rw [List.getElem?_eq_getElem hi] at hz
  rw [Option.some.inj hz]
/-- What the loop holds: a row, turned alone. -/
def CutI (W0 : World) (g : Nat) (A B : Int) (zs : List Int) (pre : List IC) (W : World) : Prop := W0.grownBy W (some g) ∧ W.heap[g]? = some (.cells (cellsHH (cutTo A B zs pre)).toArray 50 (0, 0))

theorem gq_trans {q : Nat} {A B C : World} (x : A.grownBy B (some q)) (y : B.grownBy C (some q)) : A.grownBy C (some q) :=
  ⟨y.os.trans x.os, y.tape.trans x.tape, y.output.trans x.output, Nat.le_trans x.size y.size, fun k hk hne => (y.block k (Nat.lt_of_lt_of_le hk x.size) hne).trans (x.block k hk hne)⟩
theorem gq_below {q : Nat} {A B : World} (h : Below A.heap.size A B) : A.grownBy B (some q) := ⟨h.os, h.tape, h.output, h.size, fun k hk _ => h.block k hk⟩
set_option maxHeartbeats 1000000 in
theorem gcells_in (n : Nat) (X Y U V : Int) (w : World) :
    CallsIn Fence.wide n Tryd.prog 64 #[.agg #[.int .i64 X, .int .i64 Y, .int .i64 U, .int .i64 V]] w fun e w' => e = .returned (.func (.func 72) #[] #[.pointer (some ⟨w.heap.size, 0, none⟩)]) ∧ w' = w.alloc (.cells #[.int .i64 X, .int .i64 Y, .int .i64 U, .int .i64 V] 65) := by
  refine callsIn_of_wp Tryd.func64 rfl trivial ?_ rfl
  simp only [Tryd.ntmps64, List.size_toArray, List.length_cons, List.length_nil, Nat.reduceAdd, Nat.reduceSub, Array.replicate_succ, Array.replicate_zero, List.push_toArray, List.append_toArray, List.nil_append, List.cons_append]
  gi_wp2
  go_ret
  exact ⟨rfl, rfl⟩
set_option maxRecDepth 100000 in
set_option maxHeartbeats 4000000 in
theorem cut_any (A B : Int) (a : Option Addr) (cap : Nat) (zs : List Int) (b : BX) (w : World) (hm : mayB A B = true) (hn : (zs.length : Int) = A * B) (hf : fitsB A B b.1 b.2.1 b.2.2.1 b.2.2.2 = true) (hr : RowH w a zs) :
    Calls Tryd.prog 45 #[.agg #[.int .i64 A, .int .i64 B, .slice a zs.length cap], .agg #[.int .i64 b.1, .int .i64 b.2.1, .int .i64 b.2.2.1, .int .i64 b.2.2.2]] w fun e w' => ∃ g, e = .returned (.agg #[.int .i64 A, .int .i64 B, .slice (some ⟨g, 0, none⟩) zs.length zs.length]) ∧
      RowH w' (some ⟨g, 0, none⟩) (cutL A b zs) ∧ Below w.heap.size w w' := by
  obtain ⟨ar1, ar2⟩ := area_bd hm
  have hmk := fun w => make_u16 zs.length (by omega) w
  have hzl : (zs.length : Int) ≤ 65536 := by omega
  have HN := Lib.hid hn
  have HNZ := Lib.hid (numZ_lt hm hn)
  have HRW := Lib.hid hr
  obtain ⟨X, Y, U, V⟩ := b
  have HCUT := Lib.hid (cutTo_box (b := (X, Y, U, V)) hm hn hf)
  clear hn
  dsimp only at hf ⊢
  have hA0 := bl_al (bl_al (bl_al (bl0 w) (.cells #[.int .i64 A, .int .i64 B, .slice a zs.length cap] 26)) (.cells #[.int .i64 X, .int .i64 Y, .int .i64 U, .int .i64 V] 65)) (.cells #[.int .i64 0, .int .i64 0, .slice none 0 0] 26)
  refine (callsIn_wide (n := 11)).1 (callsIn_of_wp_marks Tryd.func45 rfl trivial ?_ rfl)
  simp only [Tryd.ntmps45, List.size_toArray, List.length_cons, List.length_nil, Nat.reduceAdd, Nat.reduceSub, Array.replicate_succ, Array.replicate_zero, List.push_toArray, List.append_toArray, List.nil_append, List.cons_append]
  refine wpIn_wide.2 ?_
  go_wp2
  obtain ⟨w0, hw0⟩ : ∃ w0, ((w.alloc (.cells #[.int .i64 A, .int .i64 B, .slice a zs.length cap] 26)).alloc (.cells #[.int .i64 X, .int .i64 Y, .int .i64 U, .int .i64 V] 65)).alloc (.cells #[.int .i64 0, .int .i64 0, .slice none 0 0] 26) = w0 := ⟨_, rfl⟩
  rw [hw0] at hA0 ⊢
  have c0 : w0.cell? ⟨w.heap.size, 0, none⟩ = some (.int .i64 A) := by rw [← hw0]; simp [go_sem]
  have c1 : w0.cell? ⟨w.heap.size, 1, none⟩ = some (.int .i64 B) := by rw [← hw0]; simp [go_sem]
  have c2 : w0.cell? ⟨w.heap.size, 2, none⟩ = some (.slice a zs.length cap) := by rw [← hw0]; simp [go_sem]
  have b0 : w0.cell? ⟨w.heap.size + 1, 0, none⟩ = some (.int .i64 X) := by rw [← hw0]; simp [go_sem]
  have b1 : w0.cell? ⟨w.heap.size + 1, 1, none⟩ = some (.int .i64 Y) := by rw [← hw0]; simp [go_sem]
  have b2 : w0.cell? ⟨w.heap.size + 1, 2, none⟩ = some (.int .i64 U) := by rw [← hw0]; simp [go_sem]
  have b3 : w0.cell? ⟨w.heap.size + 1, 3, none⟩ = some (.int .i64 V) := by rw [← hw0]; simp [go_sem]
  have r0 : w0.heap[w.heap.size + 1 + 1]? = some (.cells #[.int .i64 0, .int .i64 0, .slice none 0 0] 26 (0, 0)) := by
    rw [← hw0]
    have h := heap_alloc_new ((w.alloc (.cells #[.int .i64 A, .int .i64 B, .slice a zs.length cap] 26)).alloc (.cells #[.int .i64 X, .int .i64 Y, .int .i64 U, .int .i64 V] 65)) (.cells #[.int .i64 0, .int .i64 0, .slice none 0 0] 26)
    rw [World.size_alloc, World.size_alloc] at h
    exact h
  have z0 : w.heap.size + 3 ≤ w0.heap.size := by rw [← hw0]; simp
  clear hw0
  have hA := bl_dr (bl0 w0)
  go_cut [5] from 8 to 14 (fun s wx => ∃ hv fv, s = .pointer (some ⟨fv, 0, none⟩) ∧ hv ≠ fv ∧ w0.heap.size ≤ hv ∧ w0.heap.size ≤ fv ∧ wx.heap[hv]? = some (.cells (cellsHH (List.replicate zs.length 0)).toArray 50 (0, 0)) ∧ wx.heap[fv]? = some (.cells #[.int .i64 A, .int .i64 B, .slice (some ⟨hv, 0, none⟩) zs.length zs.length] 26 (0, 0)) ∧ Below w0.heap.size w0 wx)
  case first =>
    go_region_held3 (fun w2 => w2.cell? ⟨w.heap.size, 0, none⟩ = some (.int .i64 A) ∧ w2.cell? ⟨w.heap.size, 1, none⟩ = some (.int .i64 B) ∧ w2.cell? ⟨w.heap.size, 2, none⟩ = some (.slice a zs.length cap))
      (first | exact ⟨cell_later hA c0, cell_later hA c1, cell_later hA c2⟩ | exact ⟨cell_later (bl_al hA _) c0, cell_later (bl_al hA _) c1, cell_later (bl_al hA _) c2⟩ | exact ⟨cell_later (bl_al (bl_al hA _) _) c0, cell_later (bl_al (bl_al hA _) _) c1, cell_later (bl_al (bl_al hA _) _) c2⟩)
      (fail)
    all_goals
      go_wp2_with fail
      go_meet
      rw [zeros_hh]
      first
        | exact ⟨w0.heap.size, w0.heap.size + 1, rfl, by omega, by omega, by omega, (two_allocs _ _ _).1, (two_allocs _ _ _).2, bl_tr (bl_al (bl_al (bl0 _) _) _) (bl_dr (bl0 _))⟩
        | exact ⟨w0.heap.size + 1, w0.heap.size, rfl, by omega, by omega, by omega, (two_allocs _ _ _).2, (two_allocs _ _ _).1, bl_tr (bl_al (bl_al (bl0 _) _) _) (bl_dr (bl0 _))⟩
  case rest =>
    obtain ⟨hv, fv, rfl, hne, hv1, fv1, hv2, fv2, hB⟩ := hcut
    have lv := (Array.getElem?_eq_some_iff.1 hv2).1
    have lf := (Array.getElem?_eq_some_iff.1 fv2).1
    have zc := hB.size
    have hAc := bl_tr hA0 hB
    replace r0 := (hB.block _ (by omega)).trans r0
    replace hr := hr.below hAc
    replace c0 := cell_later hB c0; replace c1 := cell_later hB c1; replace c2 := cell_later hB c2
    replace b0 := cell_later hB b0; replace b1 := cell_later hB b1; replace b2 := cell_later hB b2; replace b3 := cell_later hB b3
    clear hA hmk hA0 hB
    go_wp2_with fail
    refine ((callsIn_wide (n := 11)).1 (gcells_in _ _ _ _ _ _)).mono ?_
    rintro e w7 ⟨rfl, rfl⟩
    go_wp2_with fail
    obtain ⟨W0, hW0⟩ : ∃ W0, wc.alloc (.cells #[.int .i64 X, .int .i64 Y, .int .i64 U, .int .i64 V] 65) = W0 := ⟨_, rfl⟩
    have hb0 : Below wc.heap.size wc W0 := by rw [← hW0]; exact bl_al (bl0 _) _
    have hz0 : wc.heap.size < W0.heap.size := by rw [← hW0]; simp
    have hBx : BoxAt W0 wc.heap.size X Y U V := by rw [← hW0]; refine ⟨?_, ?_, ?_, ?_⟩ <;> simp [go_sem]
    rw [hW0]
    have F2 := (hb0.block _ lf).trans fv2
    have H2 := (hb0.block _ lv).trans hv2
    have R0 := Lib.hid ((hb0.block _ (by omega)).trans r0)
    replace hr := hr.below hb0
    replace c0 := cell_later hb0 c0; replace c1 := cell_later hb0 c1; replace c2 := cell_later hb0 c2
    have hAW := bl_tr hAc hb0
    have hInv : CutI W0 hv A B zs [] W0 := ⟨World.grownBy.refl _ _, H2⟩
    clear hW0 hb0 b0 b1 b2 b3 r0 fv2 hv2 hAc
    refine wpIn_wide.1 (range_cells_box wc.heap.size X Y U V _ rfl 6 rfl rfl hBx (CutI W0 hv A B zs) (fun _ _ => False) ?oI (fun _ _ _ _ h _ _ => h) hInv (fun _ _ h => h.1.size) ?assign ?body ?done (fun _ _ _ _ _ h _ => h.elim))
    case oI =>
      rintro pre C D row ⟨h1, h2⟩ hg hr
      have hne' : ∀ r, row = some r → r ≠ hv := fun r e => by have := (hr r e).1; omega
      refine ⟨⟨hg.os.trans h1.os, hg.tape.trans h1.tape, hg.output.trans h1.output, Nat.le_trans h1.size hg.size, fun k hk hne2 => (hg.block k (Nat.lt_of_lt_of_le hk h1.size) (fun e => by have := (hr k e.symm).1; omega)).trans (h1.block k hk hne2)⟩, (hg.block _ (Array.getElem?_eq_some_iff.1 h2).1 (fun e => hne' _ e.symm rfl)).trans h2⟩
    case assign =>
      intro l p W K hK
      simp [roundTmps] at hK
      simp only [roundTmps]
      gi_wp2
      exact hK
    case body =>
      rintro l pre p Bx W ⟨hgr, hmk⟩ hBl d0 d1 hlen
      simp only [roundTmps]
      have hBW : Below w.heap.size w W := hAW.grown hgr hAW.size (fun j e => by cases e; omega)
      obtain ⟨j, hj⟩ : ∃ j, numZ A B p = j := ⟨_, rfl⟩
      have hjl : j < zs.length := by rw [← hj]; exact HNZ.out p
      have hj0 : (0 : Int) ≤ (j : Int) := by omega
      have hj1 : (j : Int) < (zs.length : Int) := by omega
      obtain ⟨gb, go, rfl, q⟩ := (HRW.out.below hBW).cell hjl
      rw [getD_get hjl] at q
      have hsn := cutTo_snoc A B zs pre p
      rw [hj] at hsn
      have HSN := Lib.hid hsn
      obtain ⟨z, hz⟩ : ∃ z, zs.getD j 0 = z := ⟨_, rfl⟩
      rw [hz] at q hsn HSN
      obtain ⟨t0, t1⟩ := cell_hh hmk (show j < _ by rw [cutTo_len]; exact hjl)
      obtain ⟨t, ht⟩ : ∃ t, (cutTo A B zs pre)[j]'(by rw [cutTo_len]; exact hjl) = t := ⟨_, rfl⟩
      rw [ht] at t0
      have e0 := hgr.cell c0 (by simp; omega)
      have e1 := hgr.cell c1 (by simp; omega)
      have e2 := hgr.cell c2 (by simp; omega)
      have f2 := (hgr.block fv (by omega) (by simp; omega)).trans F2
      have y2 : W.cell? ⟨fv, 2, none⟩ = some (.slice (some ⟨hv, 0, none⟩) zs.length zs.length) := by simp [World.cell?, f2]
      have ze := blk_lt e0
      have HM := Lib.hid hmk
      have HG := Lib.hid hgr
      have hcall := fun w => number_all A B (some ⟨gb, go, none⟩) zs.length cap p w
      rw [hj] at hcall
      clear hsn hz ht hBx hInv f2 F2 H2 c0 c1 c2 hmk hgr hBW hr hj
      simp
      gi_wp2_with fail
      refine ⟨trivial, (CallsIn.inRound l (callsIn_wide.2 (hcall _))).mono ?_⟩
      rintro e W2 ⟨rfl, hb2⟩
      gi_wp2
      have hD := bl_tr hb2 (bl_dr (bl0 W2))
      have hS : (fun w' : World => w'.cell? ⟨fv, 2, none⟩ = some (.slice (some ⟨hv, 0, none⟩) zs.length zs.length) ∧ w'.cell? ⟨w.heap.size, 2, none⟩ = some (.slice (some ⟨gb, go, none⟩) zs.length cap) ∧ w'.cell? ⟨gb, go + j, none⟩ = some (.int .u16 z)) W2.drew := ⟨cell_later hD y2, cell_later hD e2, cell_later hD q⟩
      refine ordZ_begin (z := 9) (S := (fun w' : World => w'.cell? ⟨fv, 2, none⟩ = some (.slice (some ⟨hv, 0, none⟩) zs.length zs.length) ∧ w'.cell? ⟨w.heap.size, 2, none⟩ = some (.slice (some ⟨gb, go, none⟩) zs.length cap) ∧ w'.cell? ⟨gb, go + j, none⟩ = some (.int .u16 z))) (by kernel_rfl) hS (fun hH => ?_)
      first
        | (refine' ordZ_take (i := 0) (oi := { dst := some 21, op := Op.fieldAddr 26 (Operand.tmp 5) 1, type := 0, pos := _, after := #[], guard := none }) (v := _) rfl (by kernel_rfl) (by kernel_rfl) (by kernel_rfl) (by kernel_rfl) (fun _ _ _ h => h) (by assumption) (by kernel_rfl) (by decide) (by rfl) (Or.inl ⟨by rfl, ?hy88⟩) (fun _ => rfl) ?rest88
           case hy88 => (intro w hSw; (try dsimp only at hSw); go_simp; try with_reducible rfl))
        | (refine ordZ_take (i := 0) (oi := { dst := some 21, op := Op.fieldAddr 26 (Operand.tmp 5) 1, type := 0, pos := _, after := #[], guard := none }) (v := undef) rfl (by kernel_rfl) (by kernel_rfl) (by kernel_rfl) (by kernel_rfl) (fun _ _ _ h => h) (by assumption) (by kernel_rfl) (by decide) (by rfl) (Or.inr ⟨by rfl, rfl⟩) (fun _ => rfl) ?_)
      try simp only [Act.put, List.setIfInBounds_toArray, List.set_cons_zero, List.set_cons_succ]
      first
        | (refine' ordZ_take (i := 1) (oi := { dst := some 22, op := Op.load 24 (Operand.tmp 21), type := 24, pos := _, after := #[{ on := 0, ground := Ground.data }], guard := none }) (v := _) rfl (by kernel_rfl) (by kernel_rfl) (by kernel_rfl) (by kernel_rfl) (fun _ _ _ h => h) (by assumption) (by kernel_rfl) (by decide) (by rfl) (Or.inl ⟨by rfl, ?hy89⟩) (fun _ => rfl) ?rest89
           case hy89 => (intro w hSw; (try dsimp only at hSw); go_simp; try with_reducible rfl))
        | (refine ordZ_take (i := 1) (oi := { dst := some 22, op := Op.load 24 (Operand.tmp 21), type := 24, pos := _, after := #[{ on := 0, ground := Ground.data }], guard := none }) (v := undef) rfl (by kernel_rfl) (by kernel_rfl) (by kernel_rfl) (by kernel_rfl) (fun _ _ _ h => h) (by assumption) (by kernel_rfl) (by decide) (by rfl) (Or.inr ⟨by rfl, rfl⟩) (fun _ => rfl) ?_)
      try simp only [Act.put, List.setIfInBounds_toArray, List.set_cons_zero, List.set_cons_succ]
      first
        | (refine' ordZ_take (i := 2) (oi := { dst := some 23, op := Op.move (Operand.tmp 7), type := 3, pos := _, after := #[], guard := none }) (v := _) rfl (by kernel_rfl) (by kernel_rfl) (by kernel_rfl) (by kernel_rfl) (fun _ _ _ h => h) (by assumption) (by kernel_rfl) (by decide) (by rfl) (Or.inl ⟨by rfl, ?hy90⟩) (fun _ => rfl) ?rest90
           case hy90 => (intro w hSw; (try dsimp only at hSw); go_simp; try with_reducible rfl))
        | (refine ordZ_take (i := 2) (oi := { dst := some 23, op := Op.move (Operand.tmp 7), type := 3, pos := _, after := #[], guard := none }) (v := undef) rfl (by kernel_rfl) (by kernel_rfl) (by kernel_rfl) (by kernel_rfl) (fun _ _ _ h => h) (by assumption) (by kernel_rfl) (by decide) (by rfl) (Or.inr ⟨by rfl, rfl⟩) (fun _ => rfl) ?_)
      try simp only [Act.put, List.setIfInBounds_toArray, List.set_cons_zero, List.set_cons_succ]
      first
        | (refine' ordZ_take (i := 3) (oi := { dst := some 24, op := Op.fieldAddr 26 (Operand.tmp 2) 1, type := 0, pos := _, after := #[], guard := none }) (v := _) rfl (by kernel_rfl) (by kernel_rfl) (by kernel_rfl) (by kernel_rfl) (fun _ _ _ h => h) (by assumption) (by kernel_rfl) (by decide) (by rfl) (Or.inl ⟨by rfl, ?hy91⟩) (fun _ => rfl) ?rest91
           case hy91 => (intro w hSw; (try dsimp only at hSw); go_simp; try with_reducible rfl))
        | (refine ordZ_take (i := 3) (oi := { dst := some 24, op := Op.fieldAddr 26 (Operand.tmp 2) 1, type := 0, pos := _, after := #[], guard := none }) (v := undef) rfl (by kernel_rfl) (by kernel_rfl) (by kernel_rfl) (by kernel_rfl) (fun _ _ _ h => h) (by assumption) (by kernel_rfl) (by decide) (by rfl) (Or.inr ⟨by rfl, rfl⟩) (fun _ => rfl) ?_)
      try simp only [Act.put, List.setIfInBounds_toArray, List.set_cons_zero, List.set_cons_succ]
      first
        | (refine' ordZ_take (i := 4) (oi := { dst := some 25, op := Op.load 24 (Operand.tmp 24), type := 24, pos := _, after := #[{ on := 3, ground := Ground.data }], guard := none }) (v := _) rfl (by kernel_rfl) (by kernel_rfl) (by kernel_rfl) (by kernel_rfl) (fun _ _ _ h => h) (by assumption) (by kernel_rfl) (by decide) (by rfl) (Or.inl ⟨by rfl, ?hy92⟩) (fun _ => rfl) ?rest92
           case hy92 => (intro w hSw; (try dsimp only at hSw); go_simp; try with_reducible rfl))
        | (refine ordZ_take (i := 4) (oi := { dst := some 25, op := Op.load 24 (Operand.tmp 24), type := 24, pos := _, after := #[{ on := 3, ground := Ground.data }], guard := none }) (v := undef) rfl (by kernel_rfl) (by kernel_rfl) (by kernel_rfl) (by kernel_rfl) (fun _ _ _ h => h) (by assumption) (by kernel_rfl) (by decide) (by rfl) (Or.inr ⟨by rfl, rfl⟩) (fun _ => rfl) ?_)
      try simp only [Act.put, List.setIfInBounds_toArray, List.set_cons_zero, List.set_cons_succ]
      first
        | (refine' ordZ_take (i := 5) (oi := { dst := some 26, op := Op.move (Operand.tmp 7), type := 3, pos := _, after := #[], guard := none }) (v := _) rfl (by kernel_rfl) (by kernel_rfl) (by kernel_rfl) (by kernel_rfl) (fun _ _ _ h => h) (by assumption) (by kernel_rfl) (by decide) (by rfl) (Or.inl ⟨by rfl, ?hy93⟩) (fun _ => rfl) ?rest93
           case hy93 => (intro w hSw; (try dsimp only at hSw); go_simp; try with_reducible rfl))
        | (refine ordZ_take (i := 5) (oi := { dst := some 26, op := Op.move (Operand.tmp 7), type := 3, pos := _, after := #[], guard := none }) (v := undef) rfl (by kernel_rfl) (by kernel_rfl) (by kernel_rfl) (by kernel_rfl) (fun _ _ _ h => h) (by assumption) (by kernel_rfl) (by decide) (by rfl) (Or.inr ⟨by rfl, rfl⟩) (fun _ => rfl) ?_)
      try simp only [Act.put, List.setIfInBounds_toArray, List.set_cons_zero, List.set_cons_succ]
      first
        | (refine' ordZ_take (i := 6) (oi := { dst := some 27, op := Op.indexAddr 24 (Operand.tmp 25) (Operand.tmp 26), type := 0, pos := _, after := #[{ on := 4, ground := Ground.data }, { on := 5, ground := Ground.data }], guard := none }) (v := _) rfl (by kernel_rfl) (by kernel_rfl) (by kernel_rfl) (by kernel_rfl) (fun _ _ _ h => h) (by assumption) (by kernel_rfl) (by decide) (by rfl) (Or.inl ⟨by rfl, ?hy94⟩) (fun _ => rfl) ?rest94
           case hy94 => (intro w hSw; (try dsimp only at hSw); go_simp; try with_reducible rfl))
        | (refine ordZ_take (i := 6) (oi := { dst := some 27, op := Op.indexAddr 24 (Operand.tmp 25) (Operand.tmp 26), type := 0, pos := _, after := #[{ on := 4, ground := Ground.data }, { on := 5, ground := Ground.data }], guard := none }) (v := undef) rfl (by kernel_rfl) (by kernel_rfl) (by kernel_rfl) (by kernel_rfl) (fun _ _ _ h => h) (by assumption) (by kernel_rfl) (by decide) (by rfl) (Or.inr ⟨by rfl, rfl⟩) (fun _ => rfl) ?_)
      try simp only [Act.put, List.setIfInBounds_toArray, List.set_cons_zero, List.set_cons_succ]
      first
        | (refine' ordZ_take (i := 7) (oi := { dst := some 28, op := Op.load 50 (Operand.tmp 27), type := 50, pos := _, after := #[{ on := 6, ground := Ground.data }], guard := none }) (v := _) rfl (by kernel_rfl) (by kernel_rfl) (by kernel_rfl) (by kernel_rfl) (fun _ _ _ h => h) (by assumption) (by kernel_rfl) (by decide) (by rfl) (Or.inl ⟨by rfl, ?hy95⟩) (fun _ => rfl) ?rest95
           case hy95 => (intro w hSw; (try dsimp only at hSw); go_simp; try with_reducible rfl))
        | (refine ordZ_take (i := 7) (oi := { dst := some 28, op := Op.load 50 (Operand.tmp 27), type := 50, pos := _, after := #[{ on := 6, ground := Ground.data }], guard := none }) (v := undef) rfl (by kernel_rfl) (by kernel_rfl) (by kernel_rfl) (by kernel_rfl) (fun _ _ _ h => h) (by assumption) (by kernel_rfl) (by decide) (by rfl) (Or.inr ⟨by rfl, rfl⟩) (fun _ => rfl) ?_)
      try simp only [Act.put, List.setIfInBounds_toArray, List.set_cons_zero, List.set_cons_succ]
      first
        | (refine' ordZ_take (i := 8) (oi := { dst := some 29, op := Op.indexAddr 24 (Operand.tmp 22) (Operand.tmp 23), type := 0, pos := _, after := #[{ on := 1, ground := Ground.data }, { on := 2, ground := Ground.data }, { on := 0, ground := Ground.phase }, { on := 1, ground := Ground.phase }, { on := 2, ground := Ground.phase }, { on := 3, ground := Ground.phase }, { on := 4, ground := Ground.phase }, { on := 5, ground := Ground.phase }, { on := 6, ground := Ground.phase }, { on := 7, ground := Ground.phase }], guard := none }) (v := _) rfl (by kernel_rfl) (by kernel_rfl) (by kernel_rfl) (by kernel_rfl) (fun _ _ _ h => h) (by assumption) (by kernel_rfl) (by decide) (by rfl) (Or.inl ⟨by rfl, ?hy96⟩) (fun _ => rfl) ?rest96
           case hy96 => (intro w hSw; (try dsimp only at hSw); go_simp; try with_reducible rfl))
        | (refine ordZ_take (i := 8) (oi := { dst := some 29, op := Op.indexAddr 24 (Operand.tmp 22) (Operand.tmp 23), type := 0, pos := _, after := #[{ on := 1, ground := Ground.data }, { on := 2, ground := Ground.data }, { on := 0, ground := Ground.phase }, { on := 1, ground := Ground.phase }, { on := 2, ground := Ground.phase }, { on := 3, ground := Ground.phase }, { on := 4, ground := Ground.phase }, { on := 5, ground := Ground.phase }, { on := 6, ground := Ground.phase }, { on := 7, ground := Ground.phase }], guard := none }) (v := undef) rfl (by kernel_rfl) (by kernel_rfl) (by kernel_rfl) (by kernel_rfl) (fun _ _ _ h => h) (by assumption) (by kernel_rfl) (by decide) (by rfl) (Or.inr ⟨by rfl, rfl⟩) (fun _ => rfl) ?_)
      try simp only [Act.put, List.setIfInBounds_toArray, List.set_cons_zero, List.set_cons_succ]
      have t2 := cell_later hD t0
      have f9 := frozen_later hD t0 t1
      have zh := blk_lt t2
      have hm2 := (hD.block _ (blk_lt t0)).trans HM.out
      refine ordZ_one (i := 9) (o := { dst := none, op := Op.store 50 (Operand.tmp 29) (Operand.tmp 28), type := 0, pos := _, after := #[{ on := 8, ground := Ground.data }, { on := 7, ground := Ground.data }, { on := 0, ground := Ground.phase }, { on := 1, ground := Ground.phase }, { on := 2, ground := Ground.phase }, { on := 3, ground := Ground.phase }, { on := 4, ground := Ground.phase }, { on := 5, ground := Ground.phase }, { on := 6, ground := Ground.phase }, { on := 7, ground := Ground.phase }], guard := none }) (by kernel_rfl) rfl (by rfl) (fun K hK => ?_)
      go_simp
      refine hK _ _ (fun h => by cases h) ?_
      clear hK K hH
      try simp only [Act.put, List.setIfInBounds_toArray, List.set_cons_zero, List.set_cons_succ]
      refine ordZ_done (by kernel_rfl) ?_
      have hg2 := (grown_of_below hD)
      have hrow := row_hh (z := z) (j := j) hm2
      rw [← HSN.out] at hrow
      gi_wp2
      have hgr2 := gq_trans HG.out (gq_trans (gq_below hb2) (gq_trans (hgrown_set W2 hv j (.int .u16 z)) (gq_below (bl_dr (bl0 _)))))
      have hgr1 := gq_trans (gq_below hb2) (gq_trans (hgrown_set W2 hv j (.int .u16 z)) (gq_below (q := hv) (bl_dr (bl0 _))))
      exact ⟨⟨hgr1.size, fun k hk hl => hgr1.block k hl (fun e => by cases e; omega)⟩, hgr2, hrow⟩
    case done =>
      rintro D W hD ⟨hgr, hmk⟩ hdf
      rw [show cellsOf X U.toNat (upto (fun j => Y + (j : Int)) (rowsOf X Y U V)) = boxCells X Y U V from rfl, HCUT.out] at hmk
      have f2 := (hgr.block fv (by omega) (by simp; omega)).trans F2
      have r2 := (hgr.block (w.heap.size + 1 + 1) (by omega) (by simp; omega)).trans R0.out
      have y0 : W.cell? ⟨fv, 0, none⟩ = some (.int .i64 A) := by simp [World.cell?, f2]
      have y1 : W.cell? ⟨fv, 1, none⟩ = some (.int .i64 B) := by simp [World.cell?, f2]
      have y2 : W.cell? ⟨fv, 2, none⟩ = some (.slice (some ⟨hv, 0, none⟩) zs.length zs.length) := by simp [World.cell?, f2]
      have x0 : W.cell? ⟨w.heap.size + 1 + 1, 0, none⟩ = some (.int .i64 0) := by simp [World.cell?, r2]
      have x1 : W.cell? ⟨w.heap.size + 1 + 1, 1, none⟩ = some (.int .i64 0) := by simp [World.cell?, r2]
      have x2 : W.cell? ⟨w.heap.size + 1 + 1, 2, none⟩ = some (.slice none 0 0) := by simp [World.cell?, r2]
      have g0 : ∀ k, W.frozen? ⟨w.heap.size + 1 + 1, k, none⟩ = false := fun k => by simp [World.frozen?, r2]
      have g00 := g0 0
      have g01 := g0 1
      have g02 := g0 2
      have zx := blk_lt x0
      have zy := blk_lt y0
      have HM := Lib.hid hmk
      have hBW : Below w.heap.size w W := hAW.grown hgr hAW.size (fun j e => by cases e; omega)
      have HB := Lib.hid hBW
      clear hmk hgr hBW hInv F2 H2 f2 r2 g0 hr c0 c1 c2 hBx
      go_wp2_with fail
      have hg3 := gq_trans (hgrown_set W (w.heap.size + 1 + 1) 0 (.int .i64 A)) (gq_trans (hgrown_set (W.setCell ⟨w.heap.size + 1 + 1, 0, none⟩ (.int .i64 A)) (w.heap.size + 1 + 1) 1 (.int .i64 B)) (hgrown_set _ (w.heap.size + 1 + 1) 2 (.slice (some ⟨hv, 0, none⟩) zs.length zs.length)))
      obtain ⟨W9, hW9⟩ : ∃ W9, ((W.setCell ⟨w.heap.size + 1 + 1, 0, none⟩ (.int .i64 A)).setCell ⟨w.heap.size + 1 + 1, 1, none⟩ (.int .i64 B)).setCell ⟨w.heap.size + 1 + 1, 2, none⟩ (.slice (some ⟨hv, 0, none⟩) zs.length zs.length) = W9 := ⟨_, rfl⟩
      have v0 : W9.cell? ⟨w.heap.size + 1 + 1, 0, none⟩ = some (.int .i64 A) := by rw [← hW9]; simp [go_sem, x0]
      have v1 : W9.cell? ⟨w.heap.size + 1 + 1, 1, none⟩ = some (.int .i64 B) := by rw [← hW9]; simp [go_sem, x1]
      have v2 : W9.cell? ⟨w.heap.size + 1 + 1, 2, none⟩ = some (.slice (some ⟨hv, 0, none⟩) zs.length zs.length) := by rw [← hW9]; simp [go_sem, x2]
      rw [hW9] at hg3 ⊢
      have hdf9 := (hg3.block D (Array.getElem?_eq_some_iff.1 hdf).1 (fun e => by cases e; omega)).trans hdf
      have hm9 := (hg3.block hv (Array.getElem?_eq_some_iff.1 HM.out).1 (fun e => by cases e; omega)).trans HM.out
      have hB9 : Below w.heap.size w W9 := HB.out.grown hg3 HB.out.size (fun j e => by cases e; omega)
      refine ⟨by simp, .inl ⟨_, _, rfl, run_takeDeferred hdf9, ?_⟩⟩
      have hg4 := grownBy_putObj' W9 D (.deferred none)
      obtain ⟨WA, hWA⟩ : ∃ WA, W9.putObj D (.deferred none) = WA := ⟨_, rfl⟩
      rw [hWA] at hg4 ⊢
      have q4 := hg4.block (w.heap.size + 1 + 1) (blk_lt v0) (fun e => by cases e; omega)
      have u0 : WA.cell? ⟨w.heap.size + 1 + 1, 0, none⟩ = some (.int .i64 A) := (World.cell?_of_block (a := ⟨w.heap.size + 1 + 1, 0, none⟩) q4).trans v0
      have u1 : WA.cell? ⟨w.heap.size + 1 + 1, 1, none⟩ = some (.int .i64 B) := (World.cell?_of_block (a := ⟨w.heap.size + 1 + 1, 1, none⟩) q4).trans v1
      have u2 : WA.cell? ⟨w.heap.size + 1 + 1, 2, none⟩ = some (.slice (some ⟨hv, 0, none⟩) zs.length zs.length) := (World.cell?_of_block (a := ⟨w.heap.size + 1 + 1, 2, none⟩) q4).trans v2
      have hmA := (hg4.block hv (Array.getElem?_eq_some_iff.1 hm9).1 (fun e => by cases e; omega)).trans hm9
      have hBA : Below w.heap.size w WA := hB9.grown hg4 hB9.size (fun j e => by cases e; omega)
      exact ⟨.agg #[.int .i64 A, .int .i64 B, .slice (some ⟨hv, 0, none⟩) zs.length zs.length], by simp [results, Tryd.results45, go_sem, u0, u1, u2], hv, rfl, rowH_hh hmA, hBA⟩
end Go.Proofs.YtldpajfendkhbaaDoor

/- Least costs: what is told of all numbers. -/
namespace Go.Proofs.YtldpajfendkhbaaDoor
open Go.RowKit Go.Shelf
attribute [local go_sem] Oper.semAt_some

/-- Some blocks that stay, whatever stands in them. -/
def HolesT (T : List Nat) : Own where
  P W S := (∀ k ∈ T, k < W.heap.size) ∧ ∀ k, S k ↔ k ∈ T
  lt h k hk := h.1 k ((h.2 k).1 hk)
  keep h b _ := ⟨fun k hk => Nat.lt_of_lt_of_le (h.1 k hk) b.size, h.2⟩
/-- .. as they lay. -/
def FixT (T : List Nat) (W0 : World) : Own where
  P W S := (∀ k ∈ T, k < W.heap.size ∧ W.heap[k]? = W0.heap[k]?) ∧ W0.heap.size ≤ W.heap.size ∧ ∀ k, S k ↔ k ∈ T
  lt h k hk := (h.1 k ((h.2.2 k).1 hk)).1
  keep h b hk := ⟨fun k hkT => ⟨Nat.lt_of_lt_of_le (h.1 k hkT).1 b.size, (hk k ((h.2.2 k).2 hkT)).trans (h.1 k hkT).2⟩, Nat.le_trans h.2.1 b.size, h.2.2⟩
/-- The mark of a loop that ended. -/
def MarkO (D : Nat) : Own where
  P W S := W.heap[D]? = some (.deferred (some [])) ∧ ∀ k, S k ↔ k = D
  lt h k hk := by
    obtain rfl := (h.2 k).1 hk
    exact (Array.getElem?_eq_some_iff.1 h.1).1
  keep h _ hk := ⟨(hk _ ((h.2 _).2 rfl)).trans h.1, h.2⟩
theorem Sep.swap2 {W : World} {B : Nat} {l1 l2 : List Own} {o o' : Own} (h : Sep W B (l1 ++ o :: l2)) (ho : ∀ S, o.P W S → ∃ S', o'.P W S' ∧ ∀ k, S' k → S k) : Sep W B (l1 ++ o' :: l2) := by
  obtain ⟨S, h1, h2, h3⟩ := h.turn
  obtain ⟨S', h4, h5⟩ := ho S h1
  exact (h3 W S' o' (KeptS.refl _ _) h4 (fun k hk => .inl (h5 k hk))).1
theorem Sep.fixT {W : World} {B : Nat} {l1 l2 : List Own} {T : List Nat} (h : Sep W B (l1 ++ HolesT T :: l2)) : Sep W B (l1 ++ FixT T W :: l2) :=
  h.swap fun _ hs => ⟨fun k hk => ⟨hs.1 k hk, rfl⟩, Nat.le_refl _, hs.2⟩
theorem Sep.unfixT {W W0 : World} {B : Nat} {l1 l2 : List Own} {T : List Nat} (h : Sep W B (l1 ++ FixT T W0 :: l2)) : Sep W B (l1 ++ HolesT T :: l2) ∧ ∀ k ∈ T, W.heap[k]? = W0.heap[k]? := by
  obtain ⟨S, h1, _⟩ := h.at
  exact ⟨h.swap fun _ hs => ⟨fun k hk => (hs.1 k hk).1, hs.2.2⟩, fun k hk => (h1.1 k hk).2⟩
theorem Sep.holeT {W W' : World} {B : Nat} {l : List Own} (h : Sep W B l) (b : Below W.heap.size W W') {T : List Nat} (hT : ∀ k ∈ T, W.heap.size ≤ k ∧ k < W'.heap.size) : Sep W' B (l ++ [HolesT T]) :=
  h.new (S := fun k => k ∈ T) b ⟨fun k hk => (hT k hk).2, fun _ => Iff.rfl⟩ (fun k hk => (hT k hk).1)
theorem Sep.turnT {W W' : World} {B : Nat} {l1 l2 : List Own} {T : List Nat} (h : Sep W B (l1 ++ HolesT T :: l2)) {row : Option Nat} (hg : W.grownBy W' row) (hr : ∀ r, row = some r → r ∈ T) : Sep W' B (l1 ++ HolesT T :: l2) ∧ Below B W W' := by
  obtain ⟨S, h1, h2, h3⟩ := h.turn
  refine h3 W' S (HolesT T) (.of_grown hg (fun k e _ => (h1.2 k).2 (hr k e))) ⟨fun k hk => Nat.lt_of_lt_of_le (h1.1 k hk) hg.size, h1.2⟩ (fun _ h => .inl h)
theorem Sep.marks {W : World} {B : Nat} : ∀ {Ds : List Nat} {l : List Own}, Sep W B (l ++ Ds.map MarkO) → Ds.Nodup ∧ ∀ D ∈ Ds, W.heap[D]? = some (.deferred (some [])) ∧ B ≤ D
  | [], _, _ => ⟨List.nodup_nil, fun D h => by cases h⟩
  | D :: Ds, l, h => by
    have h' : Sep W B ((l ++ [MarkO D]) ++ Ds.map MarkO) := by simpa using h
    obtain ⟨q1, q2⟩ := Sep.marks h'
    obtain ⟨S, h1, h2⟩ := Sep.at (l1 := l) (l2 := Ds.map MarkO) h
    refine ⟨List.nodup_cons.2 ⟨fun hD => ?_, q1⟩, fun D' hD' => ?_⟩
    · obtain ⟨l1, l2, e⟩ := List.append_of_mem hD
      rw [List.map_cons, e, List.map_append, List.map_cons] at h
      obtain ⟨S1, S2, p1, p2, p3⟩ := Sep.apart h
      exact p3 D ((p1.2 D).2 rfl) ((p2.2 D).2 rfl)
    · rcases List.mem_cons.1 hD' with rfl | hD'
      · exact ⟨h1.1, (h2 _ ((h1.2 _).2 rfl)).1⟩
      · exact q2 D' hD'

/-- All that is held. -/
def spL (fb rb wb g p cap : Nat) (a : Option Addr) (A B : Int) (n : Nat) (ds : List Int) (m : List Th) (l : List Own) : List Own :=
  RowO 34 1 (.slice (some ⟨g, 0, none⟩) n n) n (cellsU ds) :: HeapO p m :: CellsO fb #[.int .i64 A, .int .i64 B, .slice a n cap] 26 :: CellsO rb #[.slice (some ⟨g, 0, none⟩) n n] 46 :: CellsO wb #[.pointer (some ⟨p, 0, none⟩)] 76 :: l
/-- What the loop holds. -/
def SprF (w : World) (fb rb wb g p cap : Nat) (a : Option Addr) (A B : Int) (zs : List Int) (s : Nat) (k : Nat) (ac : Act) (W : World) : Prop :=
  ∃ (Ds : List Nat) (ds : List Int) (m : List Th) (L : Int), k = untold ds + m.length ∧ Spr (gph A B zs) s ds m L (fun _ _ => False) ∧ Sep W w.heap.size (spL fb rb wb g p cap a A B zs.length ds m (Ds.reverse.map MarkO)) ∧ Below w.heap.size w W ∧
    ∃ x0 x1 x3 x4 x7 x8 x9 x10 x11 x12 x13 x14 x15 x16 x17 x18 x19 x20 x21 x22 x23 x24 x25 x26 x27 x28 x29 x30 x31 x32 x33 x34 x35 x36 x37 x38 x39 x40 x41 x42 x43 x44 x45 x46 x47 x48 x49 x50 x51 x52 x53 : Value, ac = { tmps := #[x0, x1, .pointer (some ⟨fb, 0, none⟩), x3, x4, .pointer (some ⟨rb, 0, none⟩), .pointer (some ⟨wb, 0, none⟩), x7, x8, x9, x10, x11, x12, x13, x14, x15, x16, x17, x18, x19, x20, x21, x22, x23, x24, x25, x26, x27, x28, x29, x30, x31, x32, x33, x34, x35, x36, x37, x38, x39, x40, x41, x42, x43, x44, x45, x46, x47, x48, x49, x50, x51, x52, x53], defers := marksOf Ds }
/-- What the loop over those beside one holds. -/
structure BesI (w : World) (fb rb wb g p cap : Nat) (a : Option Addr) (A B : Int) (zs : List Int) (s : Nat) (Ds : List Nat) (kb b : Nat) (M : Nat) (T1 T2 : List Nat) (pre : List Nat) (W : World) (dQ : Int) (ds : List Int) (m : List Th) : Prop where
  spr : Spr (gph A B zs) s ds m (atD ds b) (fun j i => j = b ∧ i ∉ pre)
  tk : taken ds m b
  dF : atD ds b = dQ
  M : untold ds + m.length = M
  sep : Sep W w.heap.size (spL fb rb wb g p cap a A B zs.length ds m (Ds.reverse.map MarkO ++ [CellsO kb #[.int .u64 dQ, .int .u64 0, .int .i64 0, .int .i64 0] 100, HolesT T1, HolesT T2]))
  bel : Below w.heap.size w W

section
variable {w W W' : World} {fb rb wb g p cap : Nat} {a : Option Addr} {A B : Int} {zs : List Int} {s : Nat} {Ds : List Nat} {kb b M : Nat} {T1 T2 pre : List Nat} {dQ : Int} {ds : List Int} {m : List Th}
theorem BesI.turn2 (h : BesI w fb rb wb g p cap a A B zs s Ds kb b M T1 T2 pre W dQ ds m) {row : Option Nat} (hg : W.grownBy W' row) (hr : ∀ r, row = some r → r ∈ T2) : BesI w fb rb wb g p cap a A B zs s Ds kb b M T1 T2 pre W' dQ ds m := by
  have h2 := Sep.turnT (W := W) (B := w.heap.size) (l1 := spL fb rb wb g p cap a A B zs.length ds m (Ds.reverse.map MarkO ++ [CellsO kb #[.int .u64 dQ, .int .u64 0, .int .i64 0, .int .i64 0] 100, HolesT T1])) (l2 := []) (T := T2) (by
    have h1 := h.sep
    simpa only [spL, List.cons_append, List.append_assoc, List.nil_append] using h1) hg hr
  refine ⟨h.spr, h.tk, h.dF, h.M, ?_, h.bel.trans h2.2⟩
  have h3 := h2.1
  simpa only [spL, List.cons_append, List.append_assoc, List.nil_append] using h3
theorem BesI.turn1 (h : BesI w fb rb wb g p cap a A B zs s Ds kb b M T1 T2 pre W dQ ds m) {row : Option Nat} (hg : W.grownBy W' row) (hr : ∀ r, row = some r → r ∈ T1) : BesI w fb rb wb g p cap a A B zs s Ds kb b M T1 T2 pre W' dQ ds m := by
  have h2 := Sep.turnT (W := W) (B := w.heap.size) (l1 := spL fb rb wb g p cap a A B zs.length ds m (Ds.reverse.map MarkO ++ [CellsO kb #[.int .u64 dQ, .int .u64 0, .int .i64 0, .int .i64 0] 100])) (l2 := [HolesT T2]) (T := T1) (by
    have h1 := h.sep
    simpa only [spL, List.cons_append, List.append_assoc, List.nil_append] using h1) hg hr
  refine ⟨h.spr, h.tk, h.dF, h.M, ?_, h.bel.trans h2.2⟩
  have h3 := h2.1
  simpa only [spL, List.cons_append, List.append_assoc, List.nil_append] using h3
theorem BesI.fix (h : BesI w fb rb wb g p cap a A B zs s Ds kb b M T1 T2 pre W dQ ds m) : Sep W w.heap.size (spL fb rb wb g p cap a A B zs.length ds m (Ds.reverse.map MarkO ++ [CellsO kb #[.int .u64 dQ, .int .u64 0, .int .i64 0, .int .i64 0] 100, FixT T1 W, FixT T2 W])) := by
  have h2 := Sep.fixT (W := W) (B := w.heap.size) (l1 := spL fb rb wb g p cap a A B zs.length ds m (Ds.reverse.map MarkO ++ [CellsO kb #[.int .u64 dQ, .int .u64 0, .int .i64 0, .int .i64 0] 100])) (l2 := [HolesT T2]) (T := T1) (by
    have h1 := h.sep
    simpa only [spL, List.cons_append, List.append_assoc, List.nil_append] using h1)
  have h3 := Sep.fixT (W := W) (B := w.heap.size) (l1 := spL fb rb wb g p cap a A B zs.length ds m (Ds.reverse.map MarkO ++ [CellsO kb #[.int .u64 dQ, .int .u64 0, .int .i64 0, .int .i64 0] 100, FixT T1 W])) (l2 := []) (T := T2) (by
    simpa only [spL, List.cons_append, List.append_assoc, List.nil_append] using h2)
  simpa only [spL, List.cons_append, List.append_assoc, List.nil_append] using h3
theorem sep_unfix {Bq n : Nat} (h : Sep W' Bq (spL fb rb wb g p cap a A B n ds m (Ds.reverse.map MarkO ++ [CellsO kb #[.int .u64 dQ, .int .u64 0, .int .i64 0, .int .i64 0] 100, FixT T1 W, FixT T2 W]))) :
    Sep W' Bq (spL fb rb wb g p cap a A B n ds m (Ds.reverse.map MarkO ++ [CellsO kb #[.int .u64 dQ, .int .u64 0, .int .i64 0, .int .i64 0] 100, HolesT T1, HolesT T2])) ∧ (∀ k ∈ T1, W'.heap[k]? = W.heap[k]?) ∧ (∀ k ∈ T2, W'.heap[k]? = W.heap[k]?) ∧ W'.cell? ⟨kb, 0, none⟩ = some (.int .u64 dQ) := by
  obtain ⟨h2, k2⟩ := Sep.unfixT (W := W') (B := Bq) (l1 := spL fb rb wb g p cap a A B n ds m (Ds.reverse.map MarkO ++ [CellsO kb #[.int .u64 dQ, .int .u64 0, .int .i64 0, .int .i64 0] 100, FixT T1 W])) (l2 := []) (T := T2) (by
    simpa only [spL, List.cons_append, List.append_assoc, List.nil_append] using h)
  obtain ⟨h3, k3⟩ := Sep.unfixT (W := W') (B := Bq) (l1 := spL fb rb wb g p cap a A B n ds m (Ds.reverse.map MarkO ++ [CellsO kb #[.int .u64 dQ, .int .u64 0, .int .i64 0, .int .i64 0] 100])) (l2 := [HolesT T2]) (T := T1) (by
    simpa only [spL, List.cons_append, List.append_assoc, List.nil_append] using h2)
  have h4 := (Sep.cells (W := W') (B := Bq) (l1 := spL fb rb wb g p cap a A B n ds m (Ds.reverse.map MarkO)) (l2 := [HolesT T1, HolesT T2]) (k := kb) (by
    simpa only [spL, List.cons_append, List.append_assoc, List.nil_append] using h3)).1
  exact ⟨by simpa only [spL, List.cons_append, List.append_assoc, List.nil_append] using h3, k3, k2, by simp [World.cell?, h4]⟩
end
theorem spL_cells {W : World} {Bq fb rb wb g p cap n : Nat} {a : Option Addr} {A B : Int} {ds : List Int} {m : List Th} {l : List Own} (h : Sep W Bq (spL fb rb wb g p cap a A B n ds m l)) :
    (W.cell? ⟨fb, 0, none⟩ = some (.int .i64 A) ∧ W.cell? ⟨fb, 1, none⟩ = some (.int .i64 B) ∧ W.cell? ⟨fb, 2, none⟩ = some (.slice a n cap)) ∧ W.cell? ⟨rb, 0, none⟩ = some (.slice (some ⟨g, 0, none⟩) n n) ∧ W.cell? ⟨wb, 0, none⟩ = some (.pointer (some ⟨p, 0, none⟩)) := by
  have h1 := (Sep.cells (l1 := [_, _]) h).1
  have h2 := (Sep.cells (l1 := [_, _, _]) h).1
  have h3 := (Sep.cells (l1 := [_, _, _, _]) h).1
  refine ⟨⟨?_, ?_, ?_⟩, ?_, ?_⟩ <;> simp [World.cell?, h1, h2, h3]
theorem rep_row {W : World} {g n : Nat} (hn : n ≤ 65536) (h : W.heap[g]? = some (.cells (repL n n).toArray 34 (0, 0))) :
    W.ownsRow 0 34 1 (.slice (some ⟨g, 0, none⟩) n n) n (cellsU (List.replicate n 18446744073709551615)) := by
  refine ⟨by simp [cellsU], .inr ⟨g, n, _, rfl, Nat.zero_le _, h, Nat.le_refl _, by unfold maxLen; omega, by simp [repL_len], by simp [repL, cellsU]⟩⟩
set_option maxRecDepth 100000 in
set_option maxHeartbeats 4000000 in
theorem spread_any (A B : Int) (a : Option Addr) (cap : Nat) (zs : List Int) (s : Nat) (w : World) (hm : mayB A B = true) (hn : (zs.length : Int) = A * B) (hz : AllH zs) (hr : RowH w a zs) (hst : Stp w) (hs : s < zs.length) :
    Calls Tryd.prog 44 #[.agg #[.int .i64 A, .int .i64 B, .slice a zs.length cap], .int .i64 (s : Int)] w fun e w' => ∃ g ds, e = .returned (.slice (some ⟨g, 0, none⟩) zs.length zs.length) ∧ ds.length = zs.length ∧
      RowU w' (some ⟨g, 0, none⟩) ds ∧ Far (gph A B zs) s (atD ds) ∧ Below w.heap.size w w' := by
  obtain ⟨ar1, ar2⟩ := area_bd hm
  have hzl : (zs.length : Int) ≤ 65536 := by omega
  have hz1 : 1 ≤ zs.length := by omega
  have HN := Lib.hid hn
  have HG := Lib.hid (gph_ok hm hn hz)
  have HRW := Lib.hid hr
  obtain ⟨gb, go, rfl, q⟩ := hr.cell hs
  rw [getD_get hs] at q
  have hs0 : (0 : Int) ≤ (s : Int) := by omega
  have hs1 : (s : Int) < (zs.length : Int) := by omega
  clear hn
  have hA0 := bl_al (bl_al (bl0 w) (.cells #[.int .i64 A, .int .i64 B, .slice (some ⟨gb, go, none⟩) zs.length cap] 26)) (.cells #[.int .u64 18446744073709551615] 34)
  have hS0 : Sep w w.heap.size [] := Sep.nil (Nat.le_refl _)
  have hS1 := hS0.box #[.int .i64 A, .int .i64 B, .slice (some ⟨gb, go, none⟩) zs.length cap] 26
  have hS2 := hS1.below (bl_al (bl0 _) (.cells #[.int .u64 18446744073709551615] 34))
  refine (callsIn_wide (n := 11)).1 (callsIn_of_wp_marks Tryd.func44 rfl trivial ?_ rfl)
  simp only [Tryd.ntmps44, List.size_toArray, List.length_cons, List.length_nil, Nat.reduceAdd, Nat.reduceSub, Array.replicate_succ, Array.replicate_zero, List.push_toArray, List.append_toArray, List.nil_append, List.cons_append]
  refine wpIn_wide.2 ?_
  go_wp2
  go_step3
  go_wp2_with fail
  have hq0 : ((w.alloc (.cells #[.int .i64 A, .int .i64 B, .slice (some ⟨gb, go, none⟩) zs.length cap] 26)).alloc (.cells #[.int .u64 18446744073709551615] 34)).cell? ⟨w.heap.size + 1, 0, none⟩ = some (.int .u64 18446744073709551615) := by simp [go_sem]
  refine (repeat_any _ _ _ hz1 (by omega) hq0).mono ?_
  rintro e w1 ⟨g, hgl, rfl, hrow, hb1⟩
  have hS3 := (hS2.new (o := RowO 34 1 (.slice (some ⟨g, 0, none⟩) zs.length zs.length) zs.length (cellsU (List.replicate zs.length 18446744073709551615))) (S := fun k => k = g) hb1 ⟨rep_row (by omega) hrow, fun k => by simp only [Value.ownBlock, Option.some.injEq]; exact eq_comm⟩ (fun k e => by rw [e]; exact hgl)).box #[.slice (some ⟨g, 0, none⟩) zs.length zs.length] 46
  have hA1 := bl_al (bl_tr hA0 hb1) (.cells #[.slice (some ⟨g, 0, none⟩) zs.length zs.length] 46)
  clear hb1 hrow hq0 hS2 hS1 hA0 hgl hS0
  go_wp2_with fail
  refine (new_sep hS3).mono ?_
  rintro e w3 ⟨p, rfl, hS4, hb3⟩
  have hS5 := hS4.box #[.pointer (some ⟨p, 0, none⟩)] 76
  have hA3 := bl_al (bl_tr hA1 hb3) (.cells #[.pointer (some ⟨p, 0, none⟩)] 76)
  obtain ⟨rb, hrb⟩ : ∃ rb, w1.heap.size = rb := ⟨_, rfl⟩
  obtain ⟨fb, hfb⟩ : ∃ fb, w.heap.size = fb := ⟨_, rfl⟩
  obtain ⟨wb, hwb⟩ : ∃ wb, w3.heap.size = wb := ⟨_, rfl⟩
  obtain ⟨w4, hw4⟩ : ∃ w4, w3.alloc (.cells #[.pointer (some ⟨p, 0, none⟩)] 76) = w4 := ⟨_, rfl⟩
  rw [hw4] at hS5 hA3
  have hsep : Sep w4 w.heap.size (spL fb rb wb g p cap (some ⟨gb, go, none⟩) A B zs.length (List.replicate zs.length 18446744073709551615) [] []) := by
    rw [hrb, hwb] at hS5
    rw [← hfb]
    refine hS5.perm ?_
    simp only [spL, List.nil_append, List.cons_append]
    refine (List.Perm.swap _ _ _).trans (List.Perm.cons _ ?_)
    refine (List.Perm.cons _ (List.Perm.swap _ _ _)).trans ?_
    exact List.Perm.swap _ _ _
  obtain ⟨⟨-, -, hf0⟩, hrc, hwc⟩ := spL_cells hsep
  replace q := cell_later hA3 q
  clear hS3 hS4 hS5 hb3 hA1
  have hz2 : (gph A B zs).opn s ↔ zs.getD s 0 ≠ 0 := ⟨fun h => h.2, fun h => ⟨hs, h⟩⟩
  obtain ⟨z, hzz⟩ : ∃ z, zs.getD s 0 = z := ⟨_, rfl⟩
  rw [hzz] at q hz2
  have hru := hr.below hA3
  clear hzz hr
  by_cases h0 : z = 0
  · have hspr := Lib.hid (spr_none (G := gph A B zs) (fun h => hz2.1 h h0))
    subst h0
    have HSEP := Lib.hid hsep
    have HBEL := Lib.hid hA3
    clear hsep hA3 hrc hwc hru hz2
    go_wp2_with fail
    go_step3
    go_wp2_with fail
    refine wp_loop_ghost_k (SprF w fb rb wb g p cap (some ⟨gb, go, none⟩) A B zs s) _ ⟨[], _, _, 0, rfl, hspr.out, HSEP.out, HBEL.out, _, _, _, _, _, _, _, _, _, _, _, _, _, _, _, _, _, _, _, _, _, _, _, _, _, _, _, _, _, _, _, _, _, _, _, _, _, _, _, _, _, _, _, _, _, _, _, _, _, _, _, rfl⟩ ?_
    clear hspr HSEP HBEL
    rintro k ac W hI J K2 hJ hK2
    obtain ⟨Ds, ds, m, L, hkk, hspr, hsep, hbel, x0, x1, x3, x4, x7, x8, x9, x10, x11, x12, x13, x14, x15, x16, x17, x18, x19, x20, x21, x22, x23, x24, x25, x26, x27, x28, x29, x30, x31, x32, x33, x34, x35, x36, x37, x38, x39, x40, x41, x42, x43, x44, x45, x46, x47, x48, x49, x50, x51, x52, x53, rfl⟩ := hI
    obtain ⟨⟨-, -, hf0⟩, hrc, hwc⟩ := spL_cells hsep
    have hfew := hspr.few
    have hlen : ds.length = zs.length := hspr.len
    have hml : m.length ≤ 1000000 := by have : (gph A B zs).N = zs.length := rfl; omega
    have hcall := pop_sep (l1 := [RowO 34 1 (.slice (some ⟨g, 0, none⟩) zs.length zs.length) zs.length (cellsU ds)]) hsep hml
    have hzf := blk_lt hf0
    cases m with
    | nil =>
      go_wp2_with fail
      refine hcall.mono ?_
      rintro e W1 ⟨rfl, hsep1, hb1⟩
      have hfar := Lib.hid (hspr.far HG.out)
      have hbel1 := Lib.hid (hbel.trans hb1)
      obtain ⟨-, hrc1, -⟩ := spL_cells hsep1
      have zr1 := blk_lt hrc1
      have HS1 := Lib.hid hsep1
      clear hcall hspr hsep hbel hsep1 hb1 hf0 hrc hwc hzf hfew
      have hsz := bl_al (bl0 W1) (.cells #[.int .u64 (firstT []).F, .int .u64 (firstT []).H, .int .i64 (firstT []).Y, .int .i64 (firstT []).X] 100)
      have hsep9 := Lib.hid (HS1.out.below hsz)
      have hbel9 := Lib.hid (bl_tr hbel1.out hsz)
      clear hsz
      go_wp2_with fail
      rw [Exit.noGoto_ret]
      generalize W1.alloc _ = W9 at *
      obtain ⟨hnd, hdm⟩ := Sep.marks (l := [_, _, _, _, _]) hsep9.out
      obtain ⟨hrow9, -, -, -, -⟩ := Sep.row (l1 := []) hsep9.out
      refine leaves_marks Ds W9 ((List.reverse_perm Ds).nodup_iff.1 hnd) (fun D hD => (hdm D (by simpa using hD)).1) (fun W' q1 q2 q3 => ?_)
      have hgD : g ∉ Ds := fun hD => by
        have e1 := (hdm g (by simpa using hD)).1
        have e2 := hrow9 0 _ (cellsU_at (by omega))
        simp [World.cell?, e1] at e2
      refine ⟨.slice (some ⟨g, 0, none⟩) zs.length zs.length, by simp [results, Tryd.results44, go_sem], g, ds, rfl, hlen, .inr ⟨g, 0, rfl, fun i v hv => ?_⟩, hfar.out, ?_⟩
      · have hc := hrow9 i (.int .u64 v) (by simp [cellsU, hv])
        rw [Nat.zero_add]
        exact (World.cell?_of_block (a := ⟨g, i, none⟩) (q3 g hgD)).trans hc
      · have h9 := hbel9.out
        exact ⟨q2.1.symm.trans h9.os, q2.2.1.symm.trans h9.tape, q2.2.2.symm.trans h9.output, by rw [q1]; exact h9.size, fun k hk => (q3 k (fun hD => by have := (hdm k (by simpa using hD)).2; omega)).trans (h9.block k hk)⟩
    | cons t0 m0 =>
      obtain ⟨b, hft, hbN, hspr2, htk, hcnt⟩ := hspr.pop (by simp)
      rw [hft] at hcall
      obtain ⟨m2, hm2⟩ : ∃ m2, popM (t0 :: m0) = m2 := ⟨_, rfl⟩
      rw [hm2] at hcall hspr2 htk hcnt
      obtain ⟨dF, hdF⟩ : ∃ dF, atD ds b = dF := ⟨_, rfl⟩
      rw [hdF] at hcall
      try simp only [List.isEmpty_cons, Bool.not_false] at hcall
      have HX := Lib.hid (show untold ds + m2.length < k by omega)
      have HSP := Lib.hid hspr2
      have HTK := Lib.hid htk
      have HDF := Lib.hid hdF
      clear hspr hspr2 htk hdF hft hm2 hcnt hkk hfew
      go_wp2_with fail
      refine hcall.mono ?_
      rintro e W1 ⟨rfl, hsep1, hb1⟩
      obtain ⟨⟨hf00, hf01, hf02⟩, hrc1, hwc1⟩ := spL_cells hsep1
      have hbel1 := hbel.trans hb1
      have hsep2 : Sep (W1.alloc (.cells #[.int .u64 dF, .int .u64 0, .int .i64 0, .int .i64 0] 100)) w.heap.size (spL fb rb wb g p cap (some ⟨gb, go, none⟩) A B zs.length ds m2 (Ds.reverse.map MarkO ++ [CellsO W1.heap.size #[.int .u64 dF, .int .u64 0, .int .i64 0, .int .i64 0] 100])) := hsep1.box _ _
      have hzf1 := blk_lt hf00
      clear hcall hsep hb1 hf0 hrc hwc hzf hsep1 hbel
      have hbel2 := bl_al hbel1 (.cells #[.int .u64 dF, .int .u64 0, .int .i64 0, .int .i64 0] 100)
      go_wp2_with fail
      obtain ⟨W2, hW2⟩ : ∃ W2, W1.alloc (.cells #[.int .u64 dF, .int .u64 0, .int .i64 0, .int .i64 0] 100) = W2 := ⟨_, rfl⟩
      obtain ⟨kb, hkb⟩ : ∃ kb, W1.heap.size = kb := ⟨_, rfl⟩
      rw [hW2] at hsep2 hbel2 ⊢
      rw [hkb] at hsep2 ⊢
      clear hW2 hkb hf00 hf01 hf02 hrc1 hwc1 hbel1 hzf1
      refine (beside_mk _ _ _ _ _ _ _).mono ?_
      rintro e W3 ⟨rfl, hbes, hz3, hb3⟩
      have hsep3 : Sep W3 w.heap.size (spL fb rb wb g p cap (some ⟨gb, go, none⟩) A B zs.length ds m2 (Ds.reverse.map MarkO ++ [CellsO kb #[.int .u64 dF, .int .u64 0, .int .i64 0, .int .i64 0] 100, HolesT [W2.heap.size, W2.heap.size + 1]])) := by
        have h := hsep2.holeT hb3 (T := [W2.heap.size, W2.heap.size + 1]) (fun k hk => by simp at hk; omega)
        simpa only [spL, List.cons_append, List.append_assoc, List.nil_append] using h
      have hbel3 := bl_tr hbel2 hb3
      obtain ⟨pI, hpI⟩ : ∃ pI, W2.heap.size = pI := ⟨_, rfl⟩
      rw [hpI] at hbes hz3 hsep3 ⊢
      have hz4 : pI + 2 ≤ W3.heap.size := by omega
      clear hb3 hsep2 hbel2 hpI hz3
      go_wp2_with fail
      refine wpIn_wide.1 (range_s pI 2 70 #[.pointer (some ⟨pI, 0, none⟩), .pointer (some ⟨pI + 1, 0, none⟩)] (nbO A B zs b) (fun W => RowH W (some ⟨gb, go, none⟩) zs ∧ Stp W) (iter_beside pI A B _ cap zs b hm HN.out hbN W3 hbes) rfl (fun _ => rfl) hz4 (enters_of Tryd.func70 (by kernel_rfl) rfl)
        (fun C pre W => ∃ ds' m', BesI w fb rb wb g p cap (some ⟨gb, go, none⟩) A B zs s Ds kb b (untold ds + m2.length) [pI, pI + 1] [W3.heap.size, W3.heap.size + 1, C] pre W dF ds' m')
        (fun _ _ _ _ => False) ?hI (fun _ _ _ _ _ _ h => h.elim) ?hIp ?hIR (fun _ _ _ _ h => h.elim) ?h0
        (fun x a' W => ∃ y0 y1 y3 y4 y7 y9 y11 y12 y13 y14 y15 y16 y17 y18 y19 y20 y21 y22 y23 y24 y25 y26 y27 y28 y29 y30 y31 y32 y33 y34 y35 y36 y37 y38 y39 y40 y41 y42 y43 y44 y45 y46 y47 y48 y49 y50 y51 y52 y53 : Value, a' = { tmps := #[y0, y1, .pointer (some ⟨fb, 0, none⟩), y3, y4, .pointer (some ⟨rb, 0, none⟩), .pointer (some ⟨wb, 0, none⟩), y7, .pointer (some ⟨kb, 0, none⟩), y9, .int .i64 (x : Int), y11, y12, y13, y14, y15, y16, y17, y18, y19, y20, y21, y22, y23, y24, y25, y26, y27, y28, y29, y30, y31, y32, y33, y34, y35, y36, y37, y38, y39, y40, y41, y42, y43, y44, y45, y46, y47, y48, y49, y50, y51, y52, y53], defers := [] }) ?ax ?assign ?body ?done (fun _ _ _ _ _ h => h.elim))
      case hI =>
        rintro C pre A' B' row ⟨ds', m', h⟩ hg hr
        exact ⟨ds', m', h.turn2 hg (fun r e => by have := hr r e; simp; omega)⟩
      case hIp =>
        rintro C pre A' B' row ⟨ds', m', h⟩ hg hr
        exact ⟨ds', m', h.turn1 hg (fun r e => by have := hr r e; simp; omega)⟩
      case hIR =>
        rintro C pre W ⟨ds', m', h⟩
        exact ⟨HRW.out.below h.bel, hst.below h.bel⟩
      case h0 =>
        intro W' C hb hC1 hC2
        refine ⟨ds, m2, HSP.out.weak (fun j i _ _ _ e => ⟨e, by simp⟩), HTK.out, HDF.out, rfl, ?_, bl_tr hbel3 hb⟩
        have h := hsep3.holeT hb (T := [W3.heap.size, W3.heap.size + 1, C]) (fun k hk => by simp at hk; omega)
        simpa only [spL, List.cons_append, List.append_assoc, List.nil_append] using h
      case ax =>
        rintro x a' _ A' B' row ⟨y0, y1, y3, y4, y7, y9, y11, y12, y13, y14, y15, y16, y17, y18, y19, y20, y21, y22, y23, y24, y25, y26, y27, y28, y29, y30, y31, y32, y33, y34, y35, y36, y37, y38, y39, y40, y41, y42, y43, y44, y45, y46, y47, y48, y49, y50, y51, y52, y53, h⟩ hg hr
        exact ⟨_, _, _, _, _, _, _, _, _, _, _, _, _, _, _, _, _, _, _, _, _, _, _, _, _, _, _, _, _, _, _, _, _, _, _, _, _, _, _, _, _, _, _, _, _, _, _, _, _, h⟩
      case assign =>
        rintro C pre x W K hC hI hK
        have HK := Lib.hid hK
        have HI := Lib.hid hI
        clear hK hI
        simp [encI]
        gi_wp2
        exact HK.out _ W (KP.refl _ _ _) (KP.refl _ _ _) (KP.refl _ _ _) HI.out ⟨_, _, _, _, _, _, _, _, _, _, _, _, _, _, _, _, _, _, _, _, _, _, _, _, _, _, _, _, _, _, _, _, _, _, _, _, _, _, _, _, _, _, _, _, _, _, _, _, _, rfl⟩
      case body =>
        rintro C pre x a' W hC ⟨lr, hlr⟩ ⟨ds', m', hI⟩ ⟨y0, y1, y3, y4, y7, y9, y11, y12, y13, y14, y15, y16, y17, y18, y19, y20, y21, y22, y23, y24, y25, y26, y27, y28, y29, y30, y31, y32, y33, y34, y35, y36, y37, y38, y39, y40, y41, y42, y43, y44, y45, y46, y47, y48, y49, y50, y51, y52, y53, rfl⟩ hpre
        obtain ⟨hxn, hxo⟩ := (mem_nbO HN.out).1 (hpre.subset (List.mem_append_right _ (List.mem_singleton.2 rfl)))
        have hxl : x < zs.length := hxo.1
        have hR := hI.spr.reach HG.out hI.tk hxo hxn
        have hval := hI.spr.val b
        have hkx := HG.out.pos x
        have hfewI := hI.spr.few
        have hlenI : ds'.length = zs.length := hI.spr.len
        have hNN : (gph A B zs).N = zs.length := rfl
        have hkk2 : (gph A B zs).k x = zs.getD x 0 := rfl
        have hta := hI.tk.1
        rw [hI.dF] at hR hval hta
        rw [hkk2] at hR hkx
        rw [hNN] at hval hfewI
        obtain ⟨z, hzz⟩ : ∃ z, zs.getD x 0 = z := ⟨_, rfl⟩
        rw [hzz] at hR hkx
        have hun := untold_le ds'
        have hdb : 0 ≤ dF ∧ dF ≤ 4294901760 := by omega
        have hadd : addC dF z = dF + z := by unfold addC; rw [if_pos (by omega)]
        have hDr := bl_dr (bl0 W)
        have hsF := hI.fix.below hDr
        obtain ⟨⟨-, -, f2⟩, r0, w0⟩ := spL_cells hsF
        have kb0 := (sep_unfix hsF).2.2.2
        obtain ⟨gb', go', e, q⟩ := (HRW.out.below (hI.bel.trans (hDr.mono hI.bel.size))).cell hxl
        cases e
        rw [getD_get hxl, hzz] at q
        have hml : m'.length ≤ 1000000 := by omega
        have hcall := reach_sep p g zs.length x (dF + z) ds' m' W.drew w.heap.size _ (by rw [hlenI]; exact hsF) (by omega) (by omega) hml
        rw [hlenI] at hcall
        have hx0 : (0 : Int) ≤ (x : Int) := by omega
        have hx1 : (x : Int) < (zs.length : Int) := by omega
        have hu1 : inU dF := ⟨by omega, by omega⟩
        have hu2 : inU z := ⟨by omega, by omega⟩
        have hwz : IntKind.u64.wrap z = z := IntWalk.u64_in _ (by omega)
        have hac := fun W => add_any dF z W hu1 hu2
        rw [hadd] at hac
        have HR := Lib.hid hR
        have HI := Lib.hid hI
        have HZ := Lib.hid hzz
        have hsz0 := hI.bel.size
        clear hR hval hta hun hzz hkk2 hNN hfewI hlenI hxn hI hsF hadd hml hu1 hu2
        gi_wp2
        refine ordS_begin (S := (fun w' : World => w'.cell? ⟨rb, 0, none⟩ = some (.slice (some ⟨g, 0, none⟩) zs.length zs.length) ∧ w'.cell? ⟨wb, 0, none⟩ = some (.pointer (some ⟨p, 0, none⟩)) ∧ w'.cell? ⟨kb, 0, none⟩ = some (.int .u64 dF) ∧ w'.cell? ⟨fb, 2, none⟩ = some (.slice (some ⟨gb, go, none⟩) zs.length cap) ∧ w'.cell? ⟨gb, go + x, none⟩ = some (.int .u16 z))) (by kernel_rfl) ⟨r0, w0, kb0, f2, q⟩ (fun hH => ?_)
        first
          | (refine' ordS_take (i := 0) (oi := { dst := some 37, op := Op.load 46 (Operand.tmp 5), type := 46, pos := _, after := #[], guard := none }) (v := _) rfl (by kernel_rfl) (by kernel_rfl) (by kernel_rfl) (by kernel_rfl) (fun _ _ _ h => h) (by assumption) (Or.inl ⟨by rfl, ?hy97⟩) (fun _ => rfl) ?rest97
             case hy97 => (intro w hSw; (try dsimp only at hSw); go_simp; try with_reducible rfl))
          | (refine ordS_take (i := 0) (oi := { dst := some 37, op := Op.load 46 (Operand.tmp 5), type := 46, pos := _, after := #[], guard := none }) (v := undef) rfl (by kernel_rfl) (by kernel_rfl) (by kernel_rfl) (by kernel_rfl) (fun _ _ _ h => h) (by assumption) (Or.inr ⟨by rfl, rfl⟩) (fun _ => rfl) ?_)
        try simp only [Act.put, List.setIfInBounds_toArray, List.set_cons_zero, List.set_cons_succ]
        first
          | (refine' ordS_take (i := 1) (oi := { dst := some 38, op := Op.load 76 (Operand.tmp 6), type := 76, pos := _, after := #[], guard := none }) (v := _) rfl (by kernel_rfl) (by kernel_rfl) (by kernel_rfl) (by kernel_rfl) (fun _ _ _ h => h) (by assumption) (Or.inl ⟨by rfl, ?hy98⟩) (fun _ => rfl) ?rest98
             case hy98 => (intro w hSw; (try dsimp only at hSw); go_simp; try with_reducible rfl))
          | (refine ordS_take (i := 1) (oi := { dst := some 38, op := Op.load 76 (Operand.tmp 6), type := 76, pos := _, after := #[], guard := none }) (v := undef) rfl (by kernel_rfl) (by kernel_rfl) (by kernel_rfl) (by kernel_rfl) (fun _ _ _ h => h) (by assumption) (Or.inr ⟨by rfl, rfl⟩) (fun _ => rfl) ?_)
        try simp only [Act.put, List.setIfInBounds_toArray, List.set_cons_zero, List.set_cons_succ]
        first
          | (refine' ordS_take (i := 2) (oi := { dst := some 39, op := Op.move (Operand.tmp 10), type := 3, pos := _, after := #[], guard := none }) (v := _) rfl (by kernel_rfl) (by kernel_rfl) (by kernel_rfl) (by kernel_rfl) (fun _ _ _ h => h) (by assumption) (Or.inl ⟨by rfl, ?hy99⟩) (fun _ => rfl) ?rest99
             case hy99 => (intro w hSw; (try dsimp only at hSw); go_simp; try with_reducible rfl))
          | (refine ordS_take (i := 2) (oi := { dst := some 39, op := Op.move (Operand.tmp 10), type := 3, pos := _, after := #[], guard := none }) (v := undef) rfl (by kernel_rfl) (by kernel_rfl) (by kernel_rfl) (by kernel_rfl) (fun _ _ _ h => h) (by assumption) (Or.inr ⟨by rfl, rfl⟩) (fun _ => rfl) ?_)
        try simp only [Act.put, List.setIfInBounds_toArray, List.set_cons_zero, List.set_cons_succ]
        first
          | (refine' ordS_take (i := 3) (oi := { dst := some 40, op := Op.fieldAddr 100 (Operand.tmp 8) 0, type := 0, pos := _, after := #[], guard := none }) (v := _) rfl (by kernel_rfl) (by kernel_rfl) (by kernel_rfl) (by kernel_rfl) (fun _ _ _ h => h) (by assumption) (Or.inl ⟨by rfl, ?hy100⟩) (fun _ => rfl) ?rest100
             case hy100 => (intro w hSw; (try dsimp only at hSw); go_simp; try with_reducible rfl))
          | (refine ordS_take (i := 3) (oi := { dst := some 40, op := Op.fieldAddr 100 (Operand.tmp 8) 0, type := 0, pos := _, after := #[], guard := none }) (v := undef) rfl (by kernel_rfl) (by kernel_rfl) (by kernel_rfl) (by kernel_rfl) (fun _ _ _ h => h) (by assumption) (Or.inr ⟨by rfl, rfl⟩) (fun _ => rfl) ?_)
        try simp only [Act.put, List.setIfInBounds_toArray, List.set_cons_zero, List.set_cons_succ]
        first
          | (refine' ordS_take (i := 4) (oi := { dst := some 41, op := Op.load 34 (Operand.tmp 40), type := 34, pos := _, after := #[{ on := 3, ground := Ground.data }], guard := none }) (v := _) rfl (by kernel_rfl) (by kernel_rfl) (by kernel_rfl) (by kernel_rfl) (fun _ _ _ h => h) (by assumption) (Or.inl ⟨by rfl, ?hy101⟩) (fun _ => rfl) ?rest101
             case hy101 => (intro w hSw; (try dsimp only at hSw); go_simp; try with_reducible rfl))
          | (refine ordS_take (i := 4) (oi := { dst := some 41, op := Op.load 34 (Operand.tmp 40), type := 34, pos := _, after := #[{ on := 3, ground := Ground.data }], guard := none }) (v := undef) rfl (by kernel_rfl) (by kernel_rfl) (by kernel_rfl) (by kernel_rfl) (fun _ _ _ h => h) (by assumption) (Or.inr ⟨by rfl, rfl⟩) (fun _ => rfl) ?_)
        try simp only [Act.put, List.setIfInBounds_toArray, List.set_cons_zero, List.set_cons_succ]
        first
          | (refine' ordS_take (i := 5) (oi := { dst := some 42, op := Op.fieldAddr 26 (Operand.tmp 2) 1, type := 0, pos := _, after := #[], guard := none }) (v := _) rfl (by kernel_rfl) (by kernel_rfl) (by kernel_rfl) (by kernel_rfl) (fun _ _ _ h => h) (by assumption) (Or.inl ⟨by rfl, ?hy102⟩) (fun _ => rfl) ?rest102
             case hy102 => (intro w hSw; (try dsimp only at hSw); go_simp; try with_reducible rfl))
          | (refine ordS_take (i := 5) (oi := { dst := some 42, op := Op.fieldAddr 26 (Operand.tmp 2) 1, type := 0, pos := _, after := #[], guard := none }) (v := undef) rfl (by kernel_rfl) (by kernel_rfl) (by kernel_rfl) (by kernel_rfl) (fun _ _ _ h => h) (by assumption) (Or.inr ⟨by rfl, rfl⟩) (fun _ => rfl) ?_)
        try simp only [Act.put, List.setIfInBounds_toArray, List.set_cons_zero, List.set_cons_succ]
        first
          | (refine' ordS_take (i := 6) (oi := { dst := some 43, op := Op.load 24 (Operand.tmp 42), type := 24, pos := _, after := #[{ on := 5, ground := Ground.data }], guard := none }) (v := _) rfl (by kernel_rfl) (by kernel_rfl) (by kernel_rfl) (by kernel_rfl) (fun _ _ _ h => h) (by assumption) (Or.inl ⟨by rfl, ?hy103⟩) (fun _ => rfl) ?rest103
             case hy103 => (intro w hSw; (try dsimp only at hSw); go_simp; try with_reducible rfl))
          | (refine ordS_take (i := 6) (oi := { dst := some 43, op := Op.load 24 (Operand.tmp 42), type := 24, pos := _, after := #[{ on := 5, ground := Ground.data }], guard := none }) (v := undef) rfl (by kernel_rfl) (by kernel_rfl) (by kernel_rfl) (by kernel_rfl) (fun _ _ _ h => h) (by assumption) (Or.inr ⟨by rfl, rfl⟩) (fun _ => rfl) ?_)
        try simp only [Act.put, List.setIfInBounds_toArray, List.set_cons_zero, List.set_cons_succ]
        first
          | (refine' ordS_take (i := 7) (oi := { dst := some 44, op := Op.move (Operand.tmp 10), type := 3, pos := _, after := #[], guard := none }) (v := _) rfl (by kernel_rfl) (by kernel_rfl) (by kernel_rfl) (by kernel_rfl) (fun _ _ _ h => h) (by assumption) (Or.inl ⟨by rfl, ?hy104⟩) (fun _ => rfl) ?rest104
             case hy104 => (intro w hSw; (try dsimp only at hSw); go_simp; try with_reducible rfl))
          | (refine ordS_take (i := 7) (oi := { dst := some 44, op := Op.move (Operand.tmp 10), type := 3, pos := _, after := #[], guard := none }) (v := undef) rfl (by kernel_rfl) (by kernel_rfl) (by kernel_rfl) (by kernel_rfl) (fun _ _ _ h => h) (by assumption) (Or.inr ⟨by rfl, rfl⟩) (fun _ => rfl) ?_)
        try simp only [Act.put, List.setIfInBounds_toArray, List.set_cons_zero, List.set_cons_succ]
        first
          | (refine' ordS_take (i := 8) (oi := { dst := some 45, op := Op.indexAddr 24 (Operand.tmp 43) (Operand.tmp 44), type := 0, pos := _, after := #[{ on := 6, ground := Ground.data }, { on := 7, ground := Ground.data }], guard := none }) (v := _) rfl (by kernel_rfl) (by kernel_rfl) (by kernel_rfl) (by kernel_rfl) (fun _ _ _ h => h) (by assumption) (Or.inl ⟨by rfl, ?hy105⟩) (fun _ => rfl) ?rest105
             case hy105 => (intro w hSw; (try dsimp only at hSw); go_simp; try with_reducible rfl))
          | (refine ordS_take (i := 8) (oi := { dst := some 45, op := Op.indexAddr 24 (Operand.tmp 43) (Operand.tmp 44), type := 0, pos := _, after := #[{ on := 6, ground := Ground.data }, { on := 7, ground := Ground.data }], guard := none }) (v := undef) rfl (by kernel_rfl) (by kernel_rfl) (by kernel_rfl) (by kernel_rfl) (fun _ _ _ h => h) (by assumption) (Or.inr ⟨by rfl, rfl⟩) (fun _ => rfl) ?_)
        try simp only [Act.put, List.setIfInBounds_toArray, List.set_cons_zero, List.set_cons_succ]
        first
          | (refine' ordS_take (i := 9) (oi := { dst := some 46, op := Op.load 50 (Operand.tmp 45), type := 50, pos := _, after := #[{ on := 8, ground := Ground.data }], guard := none }) (v := _) rfl (by kernel_rfl) (by kernel_rfl) (by kernel_rfl) (by kernel_rfl) (fun _ _ _ h => h) (by assumption) (Or.inl ⟨by rfl, ?hy106⟩) (fun _ => rfl) ?rest106
             case hy106 => (intro w hSw; (try dsimp only at hSw); go_simp; try with_reducible rfl))
          | (refine ordS_take (i := 9) (oi := { dst := some 46, op := Op.load 50 (Operand.tmp 45), type := 50, pos := _, after := #[{ on := 8, ground := Ground.data }], guard := none }) (v := undef) rfl (by kernel_rfl) (by kernel_rfl) (by kernel_rfl) (by kernel_rfl) (fun _ _ _ h => h) (by assumption) (Or.inr ⟨by rfl, rfl⟩) (fun _ => rfl) ?_)
        try simp only [Act.put, List.setIfInBounds_toArray, List.set_cons_zero, List.set_cons_succ]
        first
          | (refine' ordS_take (i := 10) (oi := { dst := some 47, op := Op.convert 50 34 (Operand.tmp 46), type := 34, pos := _, after := #[{ on := 9, ground := Ground.data }], guard := none }) (v := _) rfl (by kernel_rfl) (by kernel_rfl) (by kernel_rfl) (by kernel_rfl) (fun _ _ _ h => h) (by assumption) (Or.inl ⟨by rfl, ?hy107⟩) (fun _ => rfl) ?rest107
             case hy107 => (intro w hSw; (try dsimp only at hSw); go_simp; try with_reducible rfl))
          | (refine ordS_take (i := 10) (oi := { dst := some 47, op := Op.convert 50 34 (Operand.tmp 46), type := 34, pos := _, after := #[{ on := 9, ground := Ground.data }], guard := none }) (v := undef) rfl (by kernel_rfl) (by kernel_rfl) (by kernel_rfl) (by kernel_rfl) (fun _ _ _ h => h) (by assumption) (Or.inr ⟨by rfl, rfl⟩) (fun _ => rfl) ?_)
        try simp only [Act.put, List.setIfInBounds_toArray, List.set_cons_zero, List.set_cons_succ]
        refine ordS_one (i := 11) (o := { dst := some 48, op := Op.call { callee := Callee.value (Operand.func 63), args := #[Operand.tmp 41, Operand.tmp 47], argTypes := #[34, 34] }, type := 34, pos := _, after := #[{ on := 4, ground := Ground.data }, { on := 10, ground := Ground.data }], guard := none }) (by kernel_rfl) rfl (by rfl) (fun K hK => ?_)
        go_simp
        refine ⟨trivial, ?_⟩
        with_reducible refine (CallsIn.inRound _ (callsIn_wide.2 (hac _))).mono ?_
        rintro e W6 ⟨rfl, rfl⟩
        refine hK _ _ hH ?_
        clear hK K
        try simp only [Act.put, List.setIfInBounds_toArray, List.set_cons_zero, List.set_cons_succ]
        refine ordS_one (i := 12) (o := { dst := some 49, op := Op.call { callee := Callee.value (Operand.func 61), args := #[Operand.tmp 37, Operand.tmp 38, Operand.tmp 39, Operand.tmp 48], argTypes := #[46, 76, 3, 34] }, type := 0, pos := _, after := #[{ on := 0, ground := Ground.data }, { on := 1, ground := Ground.data }, { on := 2, ground := Ground.data }, { on := 11, ground := Ground.data }, { on := 11, ground := Ground.chain }], guard := none }) (by kernel_rfl) rfl (by rfl) (fun K hK => ?_)
        go_simp
        refine ⟨trivial, ?_⟩
        with_reducible refine (CallsIn.inRound _ (callsIn_wide.2 hcall)).mono ?_
        rintro e W6 ⟨rfl, hsF6, hb6⟩
        obtain ⟨hs6, k1, k2, kb6⟩ := sep_unfix (ds := if atD ds' x = 18446744073709551615 then ds'.set x (dF + z) else ds') (m := if atD ds' x = 18446744073709551615 then pushM m' ⟨(x : Int), dF + z, 0, 0, 0⟩ else m') hsF6
        obtain ⟨⟨-, -, f26⟩, r06, w06⟩ := spL_cells hs6
        have hbel6 : Below w.heap.size w W6 := (HI.out.bel.trans ((bl_dr (bl0 W)).mono hsz0)).trans hb6
        obtain ⟨gb', go', e, q6⟩ := (HRW.out.below hbel6).cell hxl
        cases e
        rw [getD_get hxl, HZ.out] at q6
        have HS6 := Lib.hid hs6
        have HB6 := Lib.hid hbel6
        have HK1 := Lib.hid k1
        have HK2 := Lib.hid k2
        have hz6 : W.heap.size ≤ W6.heap.size := hb6.size
        refine hK _ _ ⟨r06, w06, kb6, f26, q6⟩ ?_
        clear hK K hH hsF6 hs6 k1 k2 hbel6 hb6 hcall hac r0 w0 f2 kb0 q r06 w06 f26 kb6 q6 hDr
        try simp only [Act.put, List.setIfInBounds_toArray, List.set_cons_zero, List.set_cons_succ]
        refine ordS_done (by kernel_rfl) ?_
        gi_wp2
        refine ⟨⟨hz6, fun j h1 h2 => HK2.out j (by simp; omega)⟩, ⟨hz6, fun j h1 h2 => HK1.out j (by simp; omega)⟩, ⟨hz6, fun j h1 h2 => HK2.out j (by simp; omega)⟩, ?_⟩
        have hs6 := HS6.out
        by_cases hd : atD ds' x = 18446744073709551615
        · obtain ⟨p1, p2, p3, p4, p5⟩ := HR.out.2 hd
          rw [if_pos hd, if_pos hd, show pushM m' ⟨(x : Int), dF + z, 0, 0, 0⟩ = m' ++ [⟨(x : Int), dF + z, 0, 0, 0⟩] by unfold pushM; rw [p5]; rfl] at hs6
          refine ⟨_, _, p1.weak (fun j i _ _ _ h => ⟨h.1.1, fun hm => ?_⟩), p2, p3, ?_, hs6, HB6.out⟩
          · rcases List.mem_append.1 hm with hm | hm
            · exact h.1.2 hm
            · exact h.2 ⟨h.1.1, List.mem_singleton.1 hm⟩
          · have := HI.out.M
            rw [List.length_append]
            simp
            omega
        · rw [if_neg hd, if_neg hd] at hs6
          refine ⟨_, _, (show Spr (gph A B zs) s ds' m' (atD ds' b) (fun j i => (j = b ∧ i ∉ pre) ∧ ¬ (j = b ∧ i = x)) by rw [HI.out.dF]; exact HR.out.1 hd).weak (fun j i _ _ _ h => ⟨h.1.1, fun hm => ?_⟩), HI.out.tk, HI.out.dF, HI.out.M, hs6, HB6.out⟩
          rcases List.mem_append.1 hm with hm | hm
          · exact h.1.2 hm
          · exact h.2 ⟨h.1.1, List.mem_singleton.1 hm⟩
      case done =>
        rintro C W ⟨ds', m', hI⟩ hdef
        have hsp9 := hI.spr.weak (E' := fun _ _ => False) (fun j i _ ho hi h => h.2 ((mem_nbO HN.out).2 ⟨h.1 ▸ hi, ho⟩))
        have hs9 := Sep.swap2 (W := W) (B := w.heap.size) (o' := MarkO W3.heap.size) (l1 := spL fb rb wb g p cap (some ⟨gb, go, none⟩) A B zs.length ds' m' (Ds.reverse.map MarkO ++ [CellsO kb #[.int .u64 dF, .int .u64 0, .int .i64 0, .int .i64 0] 100, HolesT [pI, pI + 1]])) (l2 := []) (o := HolesT [W3.heap.size, W3.heap.size + 1, C]) (by
          have h1 := hI.sep
          simpa only [spL, List.cons_append, List.append_assoc, List.nil_append] using h1) (fun S hS => ⟨fun k => k = W3.heap.size, ⟨hdef, fun _ => Iff.rfl⟩, fun k hk => (hS.2 k).2 (by simp [hk])⟩)
        have hs8 := Sep.drop (W := W) (B := w.heap.size) (l1 := spL fb rb wb g p cap (some ⟨gb, go, none⟩) A B zs.length ds' m' (Ds.reverse.map MarkO)) (l2 := [HolesT [pI, pI + 1], MarkO W3.heap.size]) (o := CellsO kb #[.int .u64 dF, .int .u64 0, .int .i64 0, .int .i64 0] 100) (by
          simpa only [spL, List.cons_append, List.append_assoc, List.nil_append] using hs9)
        have hs7 := Sep.drop (W := W) (B := w.heap.size) (l1 := spL fb rb wb g p cap (some ⟨gb, go, none⟩) A B zs.length ds' m' (Ds.reverse.map MarkO)) (l2 := [MarkO W3.heap.size]) (o := HolesT [pI, pI + 1]) (by
          simpa only [spL, List.cons_append, List.append_assoc, List.nil_append] using hs8)
        have hs6 : Sep W w.heap.size (spL fb rb wb g p cap (some ⟨gb, go, none⟩) A B zs.length ds' m' ((W3.heap.size :: Ds).reverse.map MarkO)) := by
          rw [List.reverse_cons, List.map_append]
          simpa only [spL, List.cons_append, List.append_assoc, List.nil_append, List.map_cons, List.map_nil] using hs7
        have HM := Lib.hid hI.M
        have HB := Lib.hid hI.bel
        have HS := Lib.hid hs6
        have HP := Lib.hid hsp9
        clear hI hsp9 hs9 hs8 hs7 hs6
        go_wp2
        refine Handed.intro (untold ds' + m'.length) (by rw [HM.out]; exact HX.out) ?_
        refine hJ _ _ _ ?_
        exact ⟨W3.heap.size :: Ds, ds', m', _, rfl, HP.out, HS.out, HB.out, _, _, _, _, _, _, _, _, _, _, _, _, _, _, _, _, _, _, _, _, _, _, _, _, _, _, _, _, _, _, _, _, _, _, _, _, _, _, _, _, _, _, _, _, _, _, _, _, _, _, _, rfl⟩
  · have hspr := Lib.hid (spr_one (hz2.2 h0))
    have hz3 : (z != 0) = true := by rw [bne_iff_ne]; exact h0
    have hcall := reach_sep p g zs.length s 0 (List.replicate zs.length 18446744073709551615) [] w4 w.heap.size _ (by rw [List.length_replicate]; exact hsep) (by simpa using hs) (by simp; omega) (by simp)
    rw [List.length_replicate, atD_rep, if_pos rfl, if_pos rfl, show pushM [] ⟨(s : Int), 0, 0, 0, 0⟩ = [⟨(s : Int), 0, 0, 0, 0⟩] from rfl] at hcall
    clear h0 hz2
    go_wp2_with fail
    refine hcall.mono ?_
    rintro e w5 ⟨rfl, hsep5, hb5⟩
    have hA5 := hA3.trans hb5
    clear hcall hsep hA3 q hf0 hrc hwc hru
    have HSEP := Lib.hid hsep5
    have HBEL := Lib.hid hA5
    clear hsep5 hA5 hb5
    go_wp2_with fail
    go_step3
    go_wp2_with fail
    refine wp_loop_ghost_k (SprF w fb rb wb g p cap (some ⟨gb, go, none⟩) A B zs s) _ ⟨[], _, _, 0, rfl, hspr.out, HSEP.out, HBEL.out, _, _, _, _, _, _, _, _, _, _, _, _, _, _, _, _, _, _, _, _, _, _, _, _, _, _, _, _, _, _, _, _, _, _, _, _, _, _, _, _, _, _, _, _, _, _, _, _, _, _, _, rfl⟩ ?_
    clear hspr HSEP HBEL
    rintro k ac W hI J K2 hJ hK2
    obtain ⟨Ds, ds, m, L, hkk, hspr, hsep, hbel, x0, x1, x3, x4, x7, x8, x9, x10, x11, x12, x13, x14, x15, x16, x17, x18, x19, x20, x21, x22, x23, x24, x25, x26, x27, x28, x29, x30, x31, x32, x33, x34, x35, x36, x37, x38, x39, x40, x41, x42, x43, x44, x45, x46, x47, x48, x49, x50, x51, x52, x53, rfl⟩ := hI
    obtain ⟨⟨-, -, hf0⟩, hrc, hwc⟩ := spL_cells hsep
    have hfew := hspr.few
    have hlen : ds.length = zs.length := hspr.len
    have hml : m.length ≤ 1000000 := by have : (gph A B zs).N = zs.length := rfl; omega
    have hcall := pop_sep (l1 := [RowO 34 1 (.slice (some ⟨g, 0, none⟩) zs.length zs.length) zs.length (cellsU ds)]) hsep hml
    have hzf := blk_lt hf0
    cases m with
    | nil =>
      go_wp2_with fail
      refine hcall.mono ?_
      rintro e W1 ⟨rfl, hsep1, hb1⟩
      have hfar := Lib.hid (hspr.far HG.out)
      have hbel1 := Lib.hid (hbel.trans hb1)
      obtain ⟨-, hrc1, -⟩ := spL_cells hsep1
      have zr1 := blk_lt hrc1
      have HS1 := Lib.hid hsep1
      clear hcall hspr hsep hbel hsep1 hb1 hf0 hrc hwc hzf hfew
      have hsz := bl_al (bl0 W1) (.cells #[.int .u64 (firstT []).F, .int .u64 (firstT []).H, .int .i64 (firstT []).Y, .int .i64 (firstT []).X] 100)
      have hsep9 := Lib.hid (HS1.out.below hsz)
      have hbel9 := Lib.hid (bl_tr hbel1.out hsz)
      clear hsz
      go_wp2_with fail
      rw [Exit.noGoto_ret]
      generalize W1.alloc _ = W9 at *
      obtain ⟨hnd, hdm⟩ := Sep.marks (l := [_, _, _, _, _]) hsep9.out
      obtain ⟨hrow9, -, -, -, -⟩ := Sep.row (l1 := []) hsep9.out
      refine leaves_marks Ds W9 ((List.reverse_perm Ds).nodup_iff.1 hnd) (fun D hD => (hdm D (by simpa using hD)).1) (fun W' q1 q2 q3 => ?_)
      have hgD : g ∉ Ds := fun hD => by
        have e1 := (hdm g (by simpa using hD)).1
        have e2 := hrow9 0 _ (cellsU_at (by omega))
        simp [World.cell?, e1] at e2
      refine ⟨.slice (some ⟨g, 0, none⟩) zs.length zs.length, by simp [results, Tryd.results44, go_sem], g, ds, rfl, hlen, .inr ⟨g, 0, rfl, fun i v hv => ?_⟩, hfar.out, ?_⟩
      · have hc := hrow9 i (.int .u64 v) (by simp [cellsU, hv])
        rw [Nat.zero_add]
        exact (World.cell?_of_block (a := ⟨g, i, none⟩) (q3 g hgD)).trans hc
      · have h9 := hbel9.out
        exact ⟨q2.1.symm.trans h9.os, q2.2.1.symm.trans h9.tape, q2.2.2.symm.trans h9.output, by rw [q1]; exact h9.size, fun k hk => (q3 k (fun hD => by have := (hdm k (by simpa using hD)).2; omega)).trans (h9.block k hk)⟩
    | cons t0 m0 =>
      obtain ⟨b, hft, hbN, hspr2, htk, hcnt⟩ := hspr.pop (by simp)
      rw [hft] at hcall
      obtain ⟨m2, hm2⟩ : ∃ m2, popM (t0 :: m0) = m2 := ⟨_, rfl⟩
      rw [hm2] at hcall hspr2 htk hcnt
      obtain ⟨dF, hdF⟩ : ∃ dF, atD ds b = dF := ⟨_, rfl⟩
      rw [hdF] at hcall
      try simp only [List.isEmpty_cons, Bool.not_false] at hcall
      have HX := Lib.hid (show untold ds + m2.length < k by omega)
      have HSP := Lib.hid hspr2
      have HTK := Lib.hid htk
      have HDF := Lib.hid hdF
      clear hspr hspr2 htk hdF hft hm2 hcnt hkk hfew
      go_wp2_with fail
      refine hcall.mono ?_
      rintro e W1 ⟨rfl, hsep1, hb1⟩
      obtain ⟨⟨hf00, hf01, hf02⟩, hrc1, hwc1⟩ := spL_cells hsep1
      have hbel1 := hbel.trans hb1
      have hsep2 : Sep (W1.alloc (.cells #[.int .u64 dF, .int .u64 0, .int .i64 0, .int .i64 0] 100)) w.heap.size (spL fb rb wb g p cap (some ⟨gb, go, none⟩) A B zs.length ds m2 (Ds.reverse.map MarkO ++ [CellsO W1.heap.size #[.int .u64 dF, .int .u64 0, .int .i64 0, .int .i64 0] 100])) := hsep1.box _ _
      have hzf1 := blk_lt hf00
      clear hcall hsep hb1 hf0 hrc hwc hzf hsep1 hbel
      have hbel2 := bl_al hbel1 (.cells #[.int .u64 dF, .int .u64 0, .int .i64 0, .int .i64 0] 100)
      go_wp2_with fail
      obtain ⟨W2, hW2⟩ : ∃ W2, W1.alloc (.cells #[.int .u64 dF, .int .u64 0, .int .i64 0, .int .i64 0] 100) = W2 := ⟨_, rfl⟩
      obtain ⟨kb, hkb⟩ : ∃ kb, W1.heap.size = kb := ⟨_, rfl⟩
      rw [hW2] at hsep2 hbel2 ⊢
      rw [hkb] at hsep2 ⊢
      clear hW2 hkb hf00 hf01 hf02 hrc1 hwc1 hbel1 hzf1
      refine (beside_mk _ _ _ _ _ _ _).mono ?_
      rintro e W3 ⟨rfl, hbes, hz3, hb3⟩
      have hsep3 : Sep W3 w.heap.size (spL fb rb wb g p cap (some ⟨gb, go, none⟩) A B zs.length ds m2 (Ds.reverse.map MarkO ++ [CellsO kb #[.int .u64 dF, .int .u64 0, .int .i64 0, .int .i64 0] 100, HolesT [W2.heap.size, W2.heap.size + 1]])) := by
        have h := hsep2.holeT hb3 (T := [W2.heap.size, W2.heap.size + 1]) (fun k hk => by simp at hk; omega)
        simpa only [spL, List.cons_append, List.append_assoc, List.nil_append] using h
      have hbel3 := bl_tr hbel2 hb3
      obtain ⟨pI, hpI⟩ : ∃ pI, W2.heap.size = pI := ⟨_, rfl⟩
      rw [hpI] at hbes hz3 hsep3 ⊢
      have hz4 : pI + 2 ≤ W3.heap.size := by omega
      clear hb3 hsep2 hbel2 hpI hz3
      go_wp2_with fail
      refine wpIn_wide.1 (range_s pI 2 70 #[.pointer (some ⟨pI, 0, none⟩), .pointer (some ⟨pI + 1, 0, none⟩)] (nbO A B zs b) (fun W => RowH W (some ⟨gb, go, none⟩) zs ∧ Stp W) (iter_beside pI A B _ cap zs b hm HN.out hbN W3 hbes) rfl (fun _ => rfl) hz4 (enters_of Tryd.func70 (by kernel_rfl) rfl)
        (fun C pre W => ∃ ds' m', BesI w fb rb wb g p cap (some ⟨gb, go, none⟩) A B zs s Ds kb b (untold ds + m2.length) [pI, pI + 1] [W3.heap.size, W3.heap.size + 1, C] pre W dF ds' m')
        (fun _ _ _ _ => False) ?hI (fun _ _ _ _ _ _ h => h.elim) ?hIp ?hIR (fun _ _ _ _ h => h.elim) ?h0
        (fun x a' W => ∃ y0 y1 y3 y4 y7 y9 y11 y12 y13 y14 y15 y16 y17 y18 y19 y20 y21 y22 y23 y24 y25 y26 y27 y28 y29 y30 y31 y32 y33 y34 y35 y36 y37 y38 y39 y40 y41 y42 y43 y44 y45 y46 y47 y48 y49 y50 y51 y52 y53 : Value, a' = { tmps := #[y0, y1, .pointer (some ⟨fb, 0, none⟩), y3, y4, .pointer (some ⟨rb, 0, none⟩), .pointer (some ⟨wb, 0, none⟩), y7, .pointer (some ⟨kb, 0, none⟩), y9, .int .i64 (x : Int), y11, y12, y13, y14, y15, y16, y17, y18, y19, y20, y21, y22, y23, y24, y25, y26, y27, y28, y29, y30, y31, y32, y33, y34, y35, y36, y37, y38, y39, y40, y41, y42, y43, y44, y45, y46, y47, y48, y49, y50, y51, y52, y53], defers := [] }) ?ax ?assign ?body ?done (fun _ _ _ _ _ h => h.elim))
      case hI =>
        rintro C pre A' B' row ⟨ds', m', h⟩ hg hr
        exact ⟨ds', m', h.turn2 hg (fun r e => by have := hr r e; simp; omega)⟩
      case hIp =>
        rintro C pre A' B' row ⟨ds', m', h⟩ hg hr
        exact ⟨ds', m', h.turn1 hg (fun r e => by have := hr r e; simp; omega)⟩
      case hIR =>
        rintro C pre W ⟨ds', m', h⟩
        exact ⟨HRW.out.below h.bel, hst.below h.bel⟩
      case h0 =>
        intro W' C hb hC1 hC2
        refine ⟨ds, m2, HSP.out.weak (fun j i _ _ _ e => ⟨e, by simp⟩), HTK.out, HDF.out, rfl, ?_, bl_tr hbel3 hb⟩
        have h := hsep3.holeT hb (T := [W3.heap.size, W3.heap.size + 1, C]) (fun k hk => by simp at hk; omega)
        simpa only [spL, List.cons_append, List.append_assoc, List.nil_append] using h
      case ax =>
        rintro x a' _ A' B' row ⟨y0, y1, y3, y4, y7, y9, y11, y12, y13, y14, y15, y16, y17, y18, y19, y20, y21, y22, y23, y24, y25, y26, y27, y28, y29, y30, y31, y32, y33, y34, y35, y36, y37, y38, y39, y40, y41, y42, y43, y44, y45, y46, y47, y48, y49, y50, y51, y52, y53, h⟩ hg hr
        exact ⟨_, _, _, _, _, _, _, _, _, _, _, _, _, _, _, _, _, _, _, _, _, _, _, _, _, _, _, _, _, _, _, _, _, _, _, _, _, _, _, _, _, _, _, _, _, _, _, _, _, h⟩
      case assign =>
        rintro C pre x W K hC hI hK
        have HK := Lib.hid hK
        have HI := Lib.hid hI
        clear hK hI
        simp [encI]
        gi_wp2
        exact HK.out _ W (KP.refl _ _ _) (KP.refl _ _ _) (KP.refl _ _ _) HI.out ⟨_, _, _, _, _, _, _, _, _, _, _, _, _, _, _, _, _, _, _, _, _, _, _, _, _, _, _, _, _, _, _, _, _, _, _, _, _, _, _, _, _, _, _, _, _, _, _, _, _, rfl⟩
      case body =>
        rintro C pre x a' W hC ⟨lr, hlr⟩ ⟨ds', m', hI⟩ ⟨y0, y1, y3, y4, y7, y9, y11, y12, y13, y14, y15, y16, y17, y18, y19, y20, y21, y22, y23, y24, y25, y26, y27, y28, y29, y30, y31, y32, y33, y34, y35, y36, y37, y38, y39, y40, y41, y42, y43, y44, y45, y46, y47, y48, y49, y50, y51, y52, y53, rfl⟩ hpre
        obtain ⟨hxn, hxo⟩ := (mem_nbO HN.out).1 (hpre.subset (List.mem_append_right _ (List.mem_singleton.2 rfl)))
        have hxl : x < zs.length := hxo.1
        have hR := hI.spr.reach HG.out hI.tk hxo hxn
        have hval := hI.spr.val b
        have hkx := HG.out.pos x
        have hfewI := hI.spr.few
        have hlenI : ds'.length = zs.length := hI.spr.len
        have hNN : (gph A B zs).N = zs.length := rfl
        have hkk2 : (gph A B zs).k x = zs.getD x 0 := rfl
        have hta := hI.tk.1
        rw [hI.dF] at hR hval hta
        rw [hkk2] at hR hkx
        rw [hNN] at hval hfewI
        obtain ⟨z, hzz⟩ : ∃ z, zs.getD x 0 = z := ⟨_, rfl⟩
        rw [hzz] at hR hkx
        have hun := untold_le ds'
        have hdb : 0 ≤ dF ∧ dF ≤ 4294901760 := by omega
        have hadd : addC dF z = dF + z := by unfold addC; rw [if_pos (by omega)]
        have hDr := bl_dr (bl0 W)
        have hsF := hI.fix.below hDr
        obtain ⟨⟨-, -, f2⟩, r0, w0⟩ := spL_cells hsF
        have kb0 := (sep_unfix hsF).2.2.2
        obtain ⟨gb', go', e, q⟩ := (HRW.out.below (hI.bel.trans (hDr.mono hI.bel.size))).cell hxl
        cases e
        rw [getD_get hxl, hzz] at q
        have hml : m'.length ≤ 1000000 := by omega
        have hcall := reach_sep p g zs.length x (dF + z) ds' m' W.drew w.heap.size _ (by rw [hlenI]; exact hsF) (by omega) (by omega) hml
        rw [hlenI] at hcall
        have hx0 : (0 : Int) ≤ (x : Int) := by omega
        have hx1 : (x : Int) < (zs.length : Int) := by omega
        have hu1 : inU dF := ⟨by omega, by omega⟩
        have hu2 : inU z := ⟨by omega, by omega⟩
        have hwz : IntKind.u64.wrap z = z := IntWalk.u64_in _ (by omega)
        have hac := fun W => add_any dF z W hu1 hu2
        rw [hadd] at hac
        have HR := Lib.hid hR
        have HI := Lib.hid hI
        have HZ := Lib.hid hzz
        have hsz0 := hI.bel.size
        clear hR hval hta hun hzz hkk2 hNN hfewI hlenI hxn hI hsF hadd hml hu1 hu2
        gi_wp2
        refine ordS_begin (S := (fun w' : World => w'.cell? ⟨rb, 0, none⟩ = some (.slice (some ⟨g, 0, none⟩) zs.length zs.length) ∧ w'.cell? ⟨wb, 0, none⟩ = some (.pointer (some ⟨p, 0, none⟩)) ∧ w'.cell? ⟨kb, 0, none⟩ = some (.int .u64 dF) ∧ w'.cell? ⟨fb, 2, none⟩ = some (.slice (some ⟨gb, go, none⟩) zs.length cap) ∧ w'.cell? ⟨gb, go + x, none⟩ = some (.int .u16 z))) (by kernel_rfl) ⟨r0, w0, kb0, f2, q⟩ (fun hH => ?_)
        first
          | (refine' ordS_take (i := 0) (oi := { dst := some 37, op := Op.load 46 (Operand.tmp 5), type := 46, pos := _, after := #[], guard := none }) (v := _) rfl (by kernel_rfl) (by kernel_rfl) (by kernel_rfl) (by kernel_rfl) (fun _ _ _ h => h) (by assumption) (Or.inl ⟨by rfl, ?hy108⟩) (fun _ => rfl) ?rest108
             case hy108 => (intro w hSw; (try dsimp only at hSw); go_simp; try with_reducible rfl))
          | (refine ordS_take (i := 0) (oi := { dst := some 37, op := Op.load 46 (Operand.tmp 5), type := 46, pos := _, after := #[], guard := none }) (v := undef) rfl (by kernel_rfl) (by kernel_rfl) (by kernel_rfl) (by kernel_rfl) (fun _ _ _ h => h) (by assumption) (Or.inr ⟨by rfl, rfl⟩) (fun _ => rfl) ?_)
        try simp only [Act.put, List.setIfInBounds_toArray, List.set_cons_zero, List.set_cons_succ]
        first
          | (refine' ordS_take (i := 1) (oi := { dst := some 38, op := Op.load 76 (Operand.tmp 6), type := 76, pos := _, after := #[], guard := none }) (v := _) rfl (by kernel_rfl) (by kernel_rfl) (by kernel_rfl) (by kernel_rfl) (fun _ _ _ h => h) (by assumption) (Or.inl ⟨by rfl, ?hy109⟩) (fun _ => rfl) ?rest109
             case hy109 => (intro w hSw; (try dsimp only at hSw); go_simp; try with_reducible rfl))
          | (refine ordS_take (i := 1) (oi := { dst := some 38, op := Op.load 76 (Operand.tmp 6), type := 76, pos := _, after := #[], guard := none }) (v := undef) rfl (by kernel_rfl) (by kernel_rfl) (by kernel_rfl) (by kernel_rfl) (fun _ _ _ h => h) (by assumption) (Or.inr ⟨by rfl, rfl⟩) (fun _ => rfl) ?_)
        try simp only [Act.put, List.setIfInBounds_toArray, List.set_cons_zero, List.set_cons_succ]
        first
          | (refine' ordS_take (i := 2) (oi := { dst := some 39, op := Op.move (Operand.tmp 10), type := 3, pos := _, after := #[], guard := none }) (v := _) rfl (by kernel_rfl) (by kernel_rfl) (by kernel_rfl) (by kernel_rfl) (fun _ _ _ h => h) (by assumption) (Or.inl ⟨by rfl, ?hy110⟩) (fun _ => rfl) ?rest110
             case hy110 => (intro w hSw; (try dsimp only at hSw); go_simp; try with_reducible rfl))
          | (refine ordS_take (i := 2) (oi := { dst := some 39, op := Op.move (Operand.tmp 10), type := 3, pos := _, after := #[], guard := none }) (v := undef) rfl (by kernel_rfl) (by kernel_rfl) (by kernel_rfl) (by kernel_rfl) (fun _ _ _ h => h) (by assumption) (Or.inr ⟨by rfl, rfl⟩) (fun _ => rfl) ?_)
        try simp only [Act.put, List.setIfInBounds_toArray, List.set_cons_zero, List.set_cons_succ]
        first
          | (refine' ordS_take (i := 3) (oi := { dst := some 40, op := Op.fieldAddr 100 (Operand.tmp 8) 0, type := 0, pos := _, after := #[], guard := none }) (v := _) rfl (by kernel_rfl) (by kernel_rfl) (by kernel_rfl) (by kernel_rfl) (fun _ _ _ h => h) (by assumption) (Or.inl ⟨by rfl, ?hy111⟩) (fun _ => rfl) ?rest111
             case hy111 => (intro w hSw; (try dsimp only at hSw); go_simp; try with_reducible rfl))
          | (refine ordS_take (i := 3) (oi := { dst := some 40, op := Op.fieldAddr 100 (Operand.tmp 8) 0, type := 0, pos := _, after := #[], guard := none }) (v := undef) rfl (by kernel_rfl) (by kernel_rfl) (by kernel_rfl) (by kernel_rfl) (fun _ _ _ h => h) (by assumption) (Or.inr ⟨by rfl, rfl⟩) (fun _ => rfl) ?_)
        try simp only [Act.put, List.setIfInBounds_toArray, List.set_cons_zero, List.set_cons_succ]
        first
          | (refine' ordS_take (i := 4) (oi := { dst := some 41, op := Op.load 34 (Operand.tmp 40), type := 34, pos := _, after := #[{ on := 3, ground := Ground.data }], guard := none }) (v := _) rfl (by kernel_rfl) (by kernel_rfl) (by kernel_rfl) (by kernel_rfl) (fun _ _ _ h => h) (by assumption) (Or.inl ⟨by rfl, ?hy112⟩) (fun _ => rfl) ?rest112
             case hy112 => (intro w hSw; (try dsimp only at hSw); go_simp; try with_reducible rfl))
          | (refine ordS_take (i := 4) (oi := { dst := some 41, op := Op.load 34 (Operand.tmp 40), type := 34, pos := _, after := #[{ on := 3, ground := Ground.data }], guard := none }) (v := undef) rfl (by kernel_rfl) (by kernel_rfl) (by kernel_rfl) (by kernel_rfl) (fun _ _ _ h => h) (by assumption) (Or.inr ⟨by rfl, rfl⟩) (fun _ => rfl) ?_)
        try simp only [Act.put, List.setIfInBounds_toArray, List.set_cons_zero, List.set_cons_succ]
        first
          | (refine' ordS_take (i := 5) (oi := { dst := some 42, op := Op.fieldAddr 26 (Operand.tmp 2) 1, type := 0, pos := _, after := #[], guard := none }) (v := _) rfl (by kernel_rfl) (by kernel_rfl) (by kernel_rfl) (by kernel_rfl) (fun _ _ _ h => h) (by assumption) (Or.inl ⟨by rfl, ?hy113⟩) (fun _ => rfl) ?rest113
             case hy113 => (intro w hSw; (try dsimp only at hSw); go_simp; try with_reducible rfl))
          | (refine ordS_take (i := 5) (oi := { dst := some 42, op := Op.fieldAddr 26 (Operand.tmp 2) 1, type := 0, pos := _, after := #[], guard := none }) (v := undef) rfl (by kernel_rfl) (by kernel_rfl) (by kernel_rfl) (by kernel_rfl) (fun _ _ _ h => h) (by assumption) (Or.inr ⟨by rfl, rfl⟩) (fun _ => rfl) ?_)
        try simp only [Act.put, List.setIfInBounds_toArray, List.set_cons_zero, List.set_cons_succ]
        first
          | (refine' ordS_take (i := 6) (oi := { dst := some 43, op := Op.load 24 (Operand.tmp 42), type := 24, pos := _, after := #[{ on := 5, ground := Ground.data }], guard := none }) (v := _) rfl (by kernel_rfl) (by kernel_rfl) (by kernel_rfl) (by kernel_rfl) (fun _ _ _ h => h) (by assumption) (Or.inl ⟨by rfl, ?hy114⟩) (fun _ => rfl) ?rest114
             case hy114 => (intro w hSw; (try dsimp only at hSw); go_simp; try with_reducible rfl))
          | (refine ordS_take (i := 6) (oi := { dst := some 43, op := Op.load 24 (Operand.tmp 42), type := 24, pos := _, after := #[{ on := 5, ground := Ground.data }], guard := none }) (v := undef) rfl (by kernel_rfl) (by kernel_rfl) (by kernel_rfl) (by kernel_rfl) (fun _ _ _ h => h) (by assumption) (Or.inr ⟨by rfl, rfl⟩) (fun _ => rfl) ?_)
        try simp only [Act.put, List.setIfInBounds_toArray, List.set_cons_zero, List.set_cons_succ]
        first
          | (refine' ordS_take (i := 7) (oi := { dst := some 44, op := Op.move (Operand.tmp 10), type := 3, pos := _, after := #[], guard := none }) (v := _) rfl (by kernel_rfl) (by kernel_rfl) (by kernel_rfl) (by kernel_rfl) (fun _ _ _ h => h) (by assumption) (Or.inl ⟨by rfl, ?hy115⟩) (fun _ => rfl) ?rest115
             case hy115 => (intro w hSw; (try dsimp only at hSw); go_simp; try with_reducible rfl))
          | (refine ordS_take (i := 7) (oi := { dst := some 44, op := Op.move (Operand.tmp 10), type := 3, pos := _, after := #[], guard := none }) (v := undef) rfl (by kernel_rfl) (by kernel_rfl) (by kernel_rfl) (by kernel_rfl) (fun _ _ _ h => h) (by assumption) (Or.inr ⟨by rfl, rfl⟩) (fun _ => rfl) ?_)
        try simp only [Act.put, List.setIfInBounds_toArray, List.set_cons_zero, List.set_cons_succ]
        first
          | (refine' ordS_take (i := 8) (oi := { dst := some 45, op := Op.indexAddr 24 (Operand.tmp 43) (Operand.tmp 44), type := 0, pos := _, after := #[{ on := 6, ground := Ground.data }, { on := 7, ground := Ground.data }], guard := none }) (v := _) rfl (by kernel_rfl) (by kernel_rfl) (by kernel_rfl) (by kernel_rfl) (fun _ _ _ h => h) (by assumption) (Or.inl ⟨by rfl, ?hy116⟩) (fun _ => rfl) ?rest116
             case hy116 => (intro w hSw; (try dsimp only at hSw); go_simp; try with_reducible rfl))
          | (refine ordS_take (i := 8) (oi := { dst := some 45, op := Op.indexAddr 24 (Operand.tmp 43) (Operand.tmp 44), type := 0, pos := _, after := #[{ on := 6, ground := Ground.data }, { on := 7, ground := Ground.data }], guard := none }) (v := undef) rfl (by kernel_rfl) (by kernel_rfl) (by kernel_rfl) (by kernel_rfl) (fun _ _ _ h => h) (by assumption) (Or.inr ⟨by rfl, rfl⟩) (fun _ => rfl) ?_)
        try simp only [Act.put, List.setIfInBounds_toArray, List.set_cons_zero, List.set_cons_succ]
        first
          | (refine' ordS_take (i := 9) (oi := { dst := some 46, op := Op.load 50 (Operand.tmp 45), type := 50, pos := _, after := #[{ on := 8, ground := Ground.data }], guard := none }) (v := _) rfl (by kernel_rfl) (by kernel_rfl) (by kernel_rfl) (by kernel_rfl) (fun _ _ _ h => h) (by assumption) (Or.inl ⟨by rfl, ?hy117⟩) (fun _ => rfl) ?rest117
             case hy117 => (intro w hSw; (try dsimp only at hSw); go_simp; try with_reducible rfl))
          | (refine ordS_take (i := 9) (oi := { dst := some 46, op := Op.load 50 (Operand.tmp 45), type := 50, pos := _, after := #[{ on := 8, ground := Ground.data }], guard := none }) (v := undef) rfl (by kernel_rfl) (by kernel_rfl) (by kernel_rfl) (by kernel_rfl) (fun _ _ _ h => h) (by assumption) (Or.inr ⟨by rfl, rfl⟩) (fun _ => rfl) ?_)
        try simp only [Act.put, List.setIfInBounds_toArray, List.set_cons_zero, List.set_cons_succ]
        first
          | (refine' ordS_take (i := 10) (oi := { dst := some 47, op := Op.convert 50 34 (Operand.tmp 46), type := 34, pos := _, after := #[{ on := 9, ground := Ground.data }], guard := none }) (v := _) rfl (by kernel_rfl) (by kernel_rfl) (by kernel_rfl) (by kernel_rfl) (fun _ _ _ h => h) (by assumption) (Or.inl ⟨by rfl, ?hy118⟩) (fun _ => rfl) ?rest118
             case hy118 => (intro w hSw; (try dsimp only at hSw); go_simp; try with_reducible rfl))
          | (refine ordS_take (i := 10) (oi := { dst := some 47, op := Op.convert 50 34 (Operand.tmp 46), type := 34, pos := _, after := #[{ on := 9, ground := Ground.data }], guard := none }) (v := undef) rfl (by kernel_rfl) (by kernel_rfl) (by kernel_rfl) (by kernel_rfl) (fun _ _ _ h => h) (by assumption) (Or.inr ⟨by rfl, rfl⟩) (fun _ => rfl) ?_)
        try simp only [Act.put, List.setIfInBounds_toArray, List.set_cons_zero, List.set_cons_succ]
        refine ordS_one (i := 11) (o := { dst := some 48, op := Op.call { callee := Callee.value (Operand.func 63), args := #[Operand.tmp 41, Operand.tmp 47], argTypes := #[34, 34] }, type := 34, pos := _, after := #[{ on := 4, ground := Ground.data }, { on := 10, ground := Ground.data }], guard := none }) (by kernel_rfl) rfl (by rfl) (fun K hK => ?_)
        go_simp
        refine ⟨trivial, ?_⟩
        with_reducible refine (CallsIn.inRound _ (callsIn_wide.2 (hac _))).mono ?_
        rintro e W6 ⟨rfl, rfl⟩
        refine hK _ _ hH ?_
        clear hK K
        try simp only [Act.put, List.setIfInBounds_toArray, List.set_cons_zero, List.set_cons_succ]
        refine ordS_one (i := 12) (o := { dst := some 49, op := Op.call { callee := Callee.value (Operand.func 61), args := #[Operand.tmp 37, Operand.tmp 38, Operand.tmp 39, Operand.tmp 48], argTypes := #[46, 76, 3, 34] }, type := 0, pos := _, after := #[{ on := 0, ground := Ground.data }, { on := 1, ground := Ground.data }, { on := 2, ground := Ground.data }, { on := 11, ground := Ground.data }, { on := 11, ground := Ground.chain }], guard := none }) (by kernel_rfl) rfl (by rfl) (fun K hK => ?_)
        go_simp
        refine ⟨trivial, ?_⟩
        with_reducible refine (CallsIn.inRound _ (callsIn_wide.2 hcall)).mono ?_
        rintro e W6 ⟨rfl, hsF6, hb6⟩
        obtain ⟨hs6, k1, k2, kb6⟩ := sep_unfix (ds := if atD ds' x = 18446744073709551615 then ds'.set x (dF + z) else ds') (m := if atD ds' x = 18446744073709551615 then pushM m' ⟨(x : Int), dF + z, 0, 0, 0⟩ else m') hsF6
        obtain ⟨⟨-, -, f26⟩, r06, w06⟩ := spL_cells hs6
        have hbel6 : Below w.heap.size w W6 := (HI.out.bel.trans ((bl_dr (bl0 W)).mono hsz0)).trans hb6
        obtain ⟨gb', go', e, q6⟩ := (HRW.out.below hbel6).cell hxl
        cases e
        rw [getD_get hxl, HZ.out] at q6
        have HS6 := Lib.hid hs6
        have HB6 := Lib.hid hbel6
        have HK1 := Lib.hid k1
        have HK2 := Lib.hid k2
        have hz6 : W.heap.size ≤ W6.heap.size := hb6.size
        refine hK _ _ ⟨r06, w06, kb6, f26, q6⟩ ?_
        clear hK K hH hsF6 hs6 k1 k2 hbel6 hb6 hcall hac r0 w0 f2 kb0 q r06 w06 f26 kb6 q6 hDr
        try simp only [Act.put, List.setIfInBounds_toArray, List.set_cons_zero, List.set_cons_succ]
        refine ordS_done (by kernel_rfl) ?_
        gi_wp2
        refine ⟨⟨hz6, fun j h1 h2 => HK2.out j (by simp; omega)⟩, ⟨hz6, fun j h1 h2 => HK1.out j (by simp; omega)⟩, ⟨hz6, fun j h1 h2 => HK2.out j (by simp; omega)⟩, ?_⟩
        have hs6 := HS6.out
        by_cases hd : atD ds' x = 18446744073709551615
        · obtain ⟨p1, p2, p3, p4, p5⟩ := HR.out.2 hd
          rw [if_pos hd, if_pos hd, show pushM m' ⟨(x : Int), dF + z, 0, 0, 0⟩ = m' ++ [⟨(x : Int), dF + z, 0, 0, 0⟩] by unfold pushM; rw [p5]; rfl] at hs6
          refine ⟨_, _, p1.weak (fun j i _ _ _ h => ⟨h.1.1, fun hm => ?_⟩), p2, p3, ?_, hs6, HB6.out⟩
          · rcases List.mem_append.1 hm with hm | hm
            · exact h.1.2 hm
            · exact h.2 ⟨h.1.1, List.mem_singleton.1 hm⟩
          · have := HI.out.M
            rw [List.length_append]
            simp
            omega
        · rw [if_neg hd, if_neg hd] at hs6
          refine ⟨_, _, (show Spr (gph A B zs) s ds' m' (atD ds' b) (fun j i => (j = b ∧ i ∉ pre) ∧ ¬ (j = b ∧ i = x)) by rw [HI.out.dF]; exact HR.out.1 hd).weak (fun j i _ _ _ h => ⟨h.1.1, fun hm => ?_⟩), HI.out.tk, HI.out.dF, HI.out.M, hs6, HB6.out⟩
          rcases List.mem_append.1 hm with hm | hm
          · exact h.1.2 hm
          · exact h.2 ⟨h.1.1, List.mem_singleton.1 hm⟩
      case done =>
        rintro C W ⟨ds', m', hI⟩ hdef
        have hsp9 := hI.spr.weak (E' := fun _ _ => False) (fun j i _ ho hi h => h.2 ((mem_nbO HN.out).2 ⟨h.1 ▸ hi, ho⟩))
        have hs9 := Sep.swap2 (W := W) (B := w.heap.size) (o' := MarkO W3.heap.size) (l1 := spL fb rb wb g p cap (some ⟨gb, go, none⟩) A B zs.length ds' m' (Ds.reverse.map MarkO ++ [CellsO kb #[.int .u64 dF, .int .u64 0, .int .i64 0, .int .i64 0] 100, HolesT [pI, pI + 1]])) (l2 := []) (o := HolesT [W3.heap.size, W3.heap.size + 1, C]) (by
          have h1 := hI.sep
          simpa only [spL, List.cons_append, List.append_assoc, List.nil_append] using h1) (fun S hS => ⟨fun k => k = W3.heap.size, ⟨hdef, fun _ => Iff.rfl⟩, fun k hk => (hS.2 k).2 (by simp [hk])⟩)
        have hs8 := Sep.drop (W := W) (B := w.heap.size) (l1 := spL fb rb wb g p cap (some ⟨gb, go, none⟩) A B zs.length ds' m' (Ds.reverse.map MarkO)) (l2 := [HolesT [pI, pI + 1], MarkO W3.heap.size]) (o := CellsO kb #[.int .u64 dF, .int .u64 0, .int .i64 0, .int .i64 0] 100) (by
          simpa only [spL, List.cons_append, List.append_assoc, List.nil_append] using hs9)
        have hs7 := Sep.drop (W := W) (B := w.heap.size) (l1 := spL fb rb wb g p cap (some ⟨gb, go, none⟩) A B zs.length ds' m' (Ds.reverse.map MarkO)) (l2 := [MarkO W3.heap.size]) (o := HolesT [pI, pI + 1]) (by
          simpa only [spL, List.cons_append, List.append_assoc, List.nil_append] using hs8)
        have hs6 : Sep W w.heap.size (spL fb rb wb g p cap (some ⟨gb, go, none⟩) A B zs.length ds' m' ((W3.heap.size :: Ds).reverse.map MarkO)) := by
          rw [List.reverse_cons, List.map_append]
          simpa only [spL, List.cons_append, List.append_assoc, List.nil_append, List.map_cons, List.map_nil] using hs7
        have HM := Lib.hid hI.M
        have HB := Lib.hid hI.bel
        have HS := Lib.hid hs6
        have HP := Lib.hid hsp9
        clear hI hsp9 hs9 hs8 hs7 hs6
        go_wp2
        refine Handed.intro (untold ds' + m'.length) (by rw [HM.out]; exact HX.out) ?_
        refine hJ _ _ _ ?_
        exact ⟨W3.heap.size :: Ds, ds', m', _, rfl, HP.out, HS.out, HB.out, _, _, _, _, _, _, _, _, _, _, _, _, _, _, _, _, _, _, _, _, _, _, _, _, _, _, _, _, _, _, _, _, _, _, _, _, _, _, _, _, _, _, _, _, _, _, _, _, _, _, _, rfl⟩
end Go.Proofs.YtldpajfendkhbaaDoor

/- Least costs: within a box, and on the whole map. -/
namespace Go.Proofs.YtldpajfendkhbaaDoor
open Go.RowKit

/-- What is wrong. -/
def errW (A B n : Int) (b : BX) (c : IC) : Int := if chkF A B n = 0 then (if fitsB A B b.1 b.2.1 b.2.2.1 b.2.2.2 = true ∧ inBx b c = true then 0 else 10) else chkF A B n
/-- What is told within a box, or nothing. -/
def WinR (A B : Int) (zs : List Int) (b : BX) (c : IC) (e : Ending) (W : World) : Prop :=
  ∃ (a : Option Addr) (cap : Nat) (ds : List Int), e = .returned (.tuple #[.slice a ds.length cap, .int .i64 (errW A B zs.length b c)]) ∧ RowU W a ds ∧ (errW A B zs.length b c ≠ 0 → ds = []) ∧
    (errW A B zs.length b c = 0 → ds.length = zs.length ∧ Far (gphB A B b zs) (numN A c) (atD ds))
theorem errW_ok {A B n : Int} {b : BX} {c : IC} (h : errW A B n b c = 0) : chkF A B n = 0 ∧ fitsB A B b.1 b.2.1 b.2.2.1 b.2.2.2 = true ∧ inBx b c = true := by
  unfold errW at h
  split at h
  · split at h
    · rename_i h1 h2; exact ⟨h1, h2.1, h2.2⟩
    · cases h
  · exact absurd h (by assumption)
theorem chkF_may {A B n : Int} (h : chkF A B n = 0) : mayB A B = true ∧ n = A * B := by
  unfold chkF at h
  split at h
  · rename_i hm
    split at h
    · rename_i hn; exact ⟨hm, hn⟩
    · cases h
  · cases h
theorem box_on {A B : Int} {b : BX} {c : IC} (hf : fitsB A B b.1 b.2.1 b.2.2.1 b.2.2.2 = true) (hh : inBx b c = true) : onB A B c = true := by
  obtain ⟨f1, f2, f3, f4, f5, f6, f7, f8⟩ := fitsB_iff.1 hf
  obtain ⟨g1, g2, g3, g4, g5⟩ := hasB_iff.1 hh
  obtain ⟨m1, m2, m3, m4⟩ := mayB_iff.1 f2
  exact inB_iff.2 ⟨m1, m2, m3, m4, by omega, by omega, by omega, by omega⟩

set_option maxRecDepth 100000 in
set_option maxHeartbeats 4000000 in
theorem within_any (A B : Int) (a : Option Addr) (cap : Nat) (zs : List Int) (b : BX) (c : IC) (w : World) (hz : AllH zs) (hr : RowH w a zs) (hst : Stp w) :
    Calls Tryd.prog 28 #[.agg #[.int .i64 A, .int .i64 B, .slice a zs.length cap], .agg #[.int .i64 b.1, .int .i64 b.2.1, .int .i64 b.2.2.1, .int .i64 b.2.2.2], .agg #[.int .i64 c.1, .int .i64 c.2]] w fun e w' => WinR A B zs b c e w' ∧ Below w.heap.size w w' := by
  have hA := bl0 w
  obtain ⟨E, hE⟩ : ∃ E, errW A B zs.length b c = E := ⟨_, rfl⟩
  have HE := Lib.hid hE
  unfold WinR
  rw [hE]
  obtain ⟨chk, hchk⟩ : ∃ chk, chkF A B zs.length = chk := ⟨_, rfl⟩
  have HC := Lib.hid hchk
  unfold errW at hE
  rw [hchk] at hE
  by_cases h0 : chk = 0
  · rw [if_pos h0] at hE
    subst h0
    obtain ⟨hmay, hn⟩ := chkF_may hchk
    have HN := Lib.hid hn
    obtain ⟨X, Y, U, V⟩ := b
    dsimp only at hE ⊢
    clear hchk hn
    by_cases hf : fitsB A B X Y U V = true
    · by_cases hh : inBx (X, Y, U, V) c = true
      · rw [if_pos ⟨hf, hh⟩] at hE
        subst hE
        have hon := box_on (b := (X, Y, U, V)) hf hh
        have hh2 : hasB X Y U V c.1 c.2 = true := hh
        have hnl := numN_at hon HN.out
        go_enter Tryd.func28, Tryd.ntmps28
        go_wp2_with fail
        refine (check_any _ _ _ _ _ _).mono ?_
        rintro e w1 ⟨rfl, hb⟩
        have hk : Below w.heap.size w w1 := by first | exact hb | exact bl_tr (bl_al (bl0 _) _) hb | exact bl_tr (bl_dr (bl_al (bl0 _) _)) hb | exact bl_tr (bl_al (bl_al (bl0 _) _) _) hb | exact bl_tr (bl_dr (bl_al (bl_al (bl0 _) _) _)) hb | exact bl_tr (bl_al (bl_al (bl_al (bl0 _) _) _) _) hb | exact bl_tr (bl_dr (bl_al (bl_al (bl_al (bl0 _) _) _) _)) hb | exact bl_tr (bl_al (bl_al (bl_al (bl_al (bl0 _) _) _) _) _) hb | exact bl_tr (bl_dr (bl_al (bl_al (bl_al (bl_al (bl0 _) _) _) _) _)) hb | exact bl_tr (bl_al (bl_al (bl_al (bl_al (bl_al (bl0 _) _) _) _) _) _) hb | exact bl_tr (bl_dr (bl_al (bl_al (bl_al (bl_al (bl_al (bl0 _) _) _) _) _) _)) hb | exact bl_tr (bl_al (bl_al (bl_al (bl_al (bl_al (bl_al (bl0 _) _) _) _) _) _) _) hb | exact bl_tr (bl_dr (bl_al (bl_al (bl_al (bl_al (bl_al (bl_al (bl0 _) _) _) _) _) _) _)) hb | exact bl_tr (bl_dr (bl0 _)) hb
        replace hA := bl_tr hA hk
        have f0 := cell_later hb (v := .int .i64 A) (a := ⟨w.heap.size, 0, none⟩) (by simp [go_sem])
        have f1 := cell_later hb (v := .int .i64 B) (a := ⟨w.heap.size, 1, none⟩) (by simp [go_sem])
        have f2 := cell_later hb (v := .slice a zs.length cap) (a := ⟨w.heap.size, 2, none⟩) (by simp [go_sem])
        have g0 := cell_later hb (v := .int .i64 X) (a := ⟨w.heap.size + 1, 0, none⟩) (by simp [go_sem])
        have g1 := cell_later hb (v := .int .i64 Y) (a := ⟨w.heap.size + 1, 1, none⟩) (by simp [go_sem])
        have g2 := cell_later hb (v := .int .i64 U) (a := ⟨w.heap.size + 1, 2, none⟩) (by simp [go_sem])
        have g3 := cell_later hb (v := .int .i64 V) (a := ⟨w.heap.size + 1, 3, none⟩) (by simp [go_sem])
        have h0 := cell_later hb (v := .int .i64 c.1) (a := ⟨w.heap.size + 1 + 1, 0, none⟩) (by simp [go_sem])
        have h1 := cell_later hb (v := .int .i64 c.2) (a := ⟨w.heap.size + 1 + 1, 1, none⟩) (by simp [go_sem])
        clear hb hk
        have zf0 := blk_lt f0
        have zf1 := blk_lt f1
        have zf2 := blk_lt f2
        have zg0 := blk_lt g0
        have zg1 := blk_lt g1
        have zg2 := blk_lt g2
        have zg3 := blk_lt g3
        have zh0 := blk_lt h0
        have zh1 := blk_lt h1
        rw [HC.out]
        go_wp2_with fail
        refine (fits_any _ _ _ _ _ _ _).mono ?_
        rintro e w2 ⟨rfl, hb⟩
        have hk : Below w1.heap.size w1 w2 := by first | exact hb | exact bl_tr (bl_al (bl0 _) _) hb | exact bl_tr (bl_dr (bl_al (bl0 _) _)) hb | exact bl_tr (bl_al (bl_al (bl0 _) _) _) hb | exact bl_tr (bl_dr (bl_al (bl_al (bl0 _) _) _)) hb | exact bl_tr (bl_al (bl_al (bl_al (bl0 _) _) _) _) hb | exact bl_tr (bl_dr (bl_al (bl_al (bl_al (bl0 _) _) _) _)) hb | exact bl_tr (bl_al (bl_al (bl_al (bl_al (bl0 _) _) _) _) _) hb | exact bl_tr (bl_dr (bl_al (bl_al (bl_al (bl_al (bl0 _) _) _) _) _)) hb | exact bl_tr (bl_al (bl_al (bl_al (bl_al (bl_al (bl0 _) _) _) _) _) _) hb | exact bl_tr (bl_dr (bl_al (bl_al (bl_al (bl_al (bl_al (bl0 _) _) _) _) _) _)) hb | exact bl_tr (bl_al (bl_al (bl_al (bl_al (bl_al (bl_al (bl0 _) _) _) _) _) _) _) hb | exact bl_tr (bl_dr (bl_al (bl_al (bl_al (bl_al (bl_al (bl_al (bl0 _) _) _) _) _) _) _)) hb | exact bl_tr (bl_dr (bl0 _)) hb
        replace hA := bl_tr hA hk
        replace f0 := cell_later hk f0
        replace f1 := cell_later hk f1
        replace f2 := cell_later hk f2
        replace g0 := cell_later hk g0
        replace g1 := cell_later hk g1
        replace g2 := cell_later hk g2
        replace g3 := cell_later hk g3
        replace h0 := cell_later hk h0
        replace h1 := cell_later hk h1
        clear hb hk
        have zf0 := blk_lt f0
        have zf1 := blk_lt f1
        have zf2 := blk_lt f2
        have zg0 := blk_lt g0
        have zg1 := blk_lt g1
        have zg2 := blk_lt g2
        have zg3 := blk_lt g3
        have zh0 := blk_lt h0
        have zh1 := blk_lt h1
        rw [hf]
        go_wp2_with fail
        refine (has_any _ _ _ _ _ _ _).mono ?_
        rintro e w3 ⟨rfl, hb⟩
        have hk : Below w2.heap.size w2 w3 := by first | exact hb | exact bl_tr (bl_al (bl0 _) _) hb | exact bl_tr (bl_dr (bl_al (bl0 _) _)) hb | exact bl_tr (bl_al (bl_al (bl0 _) _) _) hb | exact bl_tr (bl_dr (bl_al (bl_al (bl0 _) _) _)) hb | exact bl_tr (bl_al (bl_al (bl_al (bl0 _) _) _) _) hb | exact bl_tr (bl_dr (bl_al (bl_al (bl_al (bl0 _) _) _) _)) hb | exact bl_tr (bl_al (bl_al (bl_al (bl_al (bl0 _) _) _) _) _) hb | exact bl_tr (bl_dr (bl_al (bl_al (bl_al (bl_al (bl0 _) _) _) _) _)) hb | exact bl_tr (bl_al (bl_al (bl_al (bl_al (bl_al (bl0 _) _) _) _) _) _) hb | exact bl_tr (bl_dr (bl_al (bl_al (bl_al (bl_al (bl_al (bl0 _) _) _) _) _) _)) hb | exact bl_tr (bl_al (bl_al (bl_al (bl_al (bl_al (bl_al (bl0 _) _) _) _) _) _) _) hb | exact bl_tr (bl_dr (bl_al (bl_al (bl_al (bl_al (bl_al (bl_al (bl0 _) _) _) _) _) _) _)) hb | exact bl_tr (bl_dr (bl0 _)) hb
        replace hA := bl_tr hA hk
        replace f0 := cell_later hk f0
        replace f1 := cell_later hk f1
        replace f2 := cell_later hk f2
        replace g0 := cell_later hk g0
        replace g1 := cell_later hk g1
        replace g2 := cell_later hk g2
        replace g3 := cell_later hk g3
        replace h0 := cell_later hk h0
        replace h1 := cell_later hk h1
        clear hb hk
        have zf0 := blk_lt f0
        have zf1 := blk_lt f1
        have zf2 := blk_lt f2
        have zg0 := blk_lt g0
        have zg1 := blk_lt g1
        have zg2 := blk_lt g2
        have zg3 := blk_lt g3
        have zh0 := blk_lt h0
        have zh1 := blk_lt h1
        rw [hh2]
        have hcut := fun W (h : RowH W a zs) => cut_any A B a cap zs (X, Y, U, V) W hmay HN.out hf h
        have hnum := fun W => number_any A B a zs.length cap c W hon
        have hr3 := hr.below hA
        have hs3 := hst.below hA
        have hD := bl_dr (bl0 w3)
        have hlen := cutL_len A (X, Y, U, V) zs
        go_wp2
        refine (wpIn_wide (n := 11)).1 ?_
        refine ordS_begin (S := (fun w' : World => w'.cell? ⟨w.heap.size, 0, none⟩ = some (.int .i64 A) ∧ w'.cell? ⟨w.heap.size, 1, none⟩ = some (.int .i64 B) ∧ w'.cell? ⟨w.heap.size, 2, none⟩ = some (.slice a zs.length cap) ∧ w'.cell? ⟨w.heap.size + 1, 0, none⟩ = some (.int .i64 X) ∧ w'.cell? ⟨w.heap.size + 1, 1, none⟩ = some (.int .i64 Y) ∧ w'.cell? ⟨w.heap.size + 1, 2, none⟩ = some (.int .i64 U) ∧ w'.cell? ⟨w.heap.size + 1, 3, none⟩ = some (.int .i64 V) ∧ w'.cell? ⟨w.heap.size + 1 + 1, 0, none⟩ = some (.int .i64 c.1) ∧ w'.cell? ⟨w.heap.size + 1 + 1, 1, none⟩ = some (.int .i64 c.2))) (by kernel_rfl) ⟨cell_later hD f0, cell_later hD f1, cell_later hD f2, cell_later hD g0, cell_later hD g1, cell_later hD g2, cell_later hD g3, cell_later hD h0, cell_later hD h1⟩ (fun hH => ?_)
        first
          | (refine' ordS_take (i := 0) (oi := { dst := some 25, op := Op.load 26 (Operand.tmp 3), type := 26, pos := _, after := #[], guard := none }) (v := _) rfl (by kernel_rfl) (by kernel_rfl) (by kernel_rfl) (by kernel_rfl) (fun _ _ _ h => h) (by assumption) (Or.inl ⟨by rfl, ?hy119⟩) (fun _ => rfl) ?rest119
             case hy119 => (intro w hSw; (try dsimp only at hSw); go_simp; try with_reducible rfl))
          | (refine ordS_take (i := 0) (oi := { dst := some 25, op := Op.load 26 (Operand.tmp 3), type := 26, pos := _, after := #[], guard := none }) (v := undef) rfl (by kernel_rfl) (by kernel_rfl) (by kernel_rfl) (by kernel_rfl) (fun _ _ _ h => h) (by assumption) (Or.inr ⟨by rfl, rfl⟩) (fun _ => rfl) ?_)
        try simp only [Act.put, List.setIfInBounds_toArray, List.set_cons_zero, List.set_cons_succ]
        first
          | (refine' ordS_take (i := 1) (oi := { dst := some 26, op := Op.load 65 (Operand.tmp 4), type := 65, pos := _, after := #[], guard := none }) (v := _) rfl (by kernel_rfl) (by kernel_rfl) (by kernel_rfl) (by kernel_rfl) (fun _ _ _ h => h) (by assumption) (Or.inl ⟨by rfl, ?hy120⟩) (fun _ => rfl) ?rest120
             case hy120 => (intro w hSw; (try dsimp only at hSw); go_simp; try with_reducible rfl))
          | (refine ordS_take (i := 1) (oi := { dst := some 26, op := Op.load 65 (Operand.tmp 4), type := 65, pos := _, after := #[], guard := none }) (v := undef) rfl (by kernel_rfl) (by kernel_rfl) (by kernel_rfl) (by kernel_rfl) (fun _ _ _ h => h) (by assumption) (Or.inr ⟨by rfl, rfl⟩) (fun _ => rfl) ?_)
        try simp only [Act.put, List.setIfInBounds_toArray, List.set_cons_zero, List.set_cons_succ]
        first
          | (refine' ordS_take (i := 3) (oi := { dst := some 28, op := Op.load 26 (Operand.tmp 3), type := 26, pos := _, after := #[], guard := none }) (v := _) rfl (by kernel_rfl) (by kernel_rfl) (by kernel_rfl) (by kernel_rfl) (fun _ _ _ h => h) (by assumption) (Or.inl ⟨by rfl, ?hy121⟩) (fun _ => rfl) ?rest121
             case hy121 => (intro w hSw; (try dsimp only at hSw); go_simp; try with_reducible rfl))
          | (refine ordS_take (i := 3) (oi := { dst := some 28, op := Op.load 26 (Operand.tmp 3), type := 26, pos := _, after := #[], guard := none }) (v := undef) rfl (by kernel_rfl) (by kernel_rfl) (by kernel_rfl) (by kernel_rfl) (fun _ _ _ h => h) (by assumption) (Or.inr ⟨by rfl, rfl⟩) (fun _ => rfl) ?_)
        try simp only [Act.put, List.setIfInBounds_toArray, List.set_cons_zero, List.set_cons_succ]
        first
          | (refine' ordS_take (i := 4) (oi := { dst := some 29, op := Op.load 28 (Operand.tmp 5), type := 28, pos := _, after := #[], guard := none }) (v := _) rfl (by kernel_rfl) (by kernel_rfl) (by kernel_rfl) (by kernel_rfl) (fun _ _ _ h => h) (by assumption) (Or.inl ⟨by rfl, ?hy122⟩) (fun _ => rfl) ?rest122
             case hy122 => (intro w hSw; (try dsimp only at hSw); go_simp; try with_reducible rfl))
          | (refine ordS_take (i := 4) (oi := { dst := some 29, op := Op.load 28 (Operand.tmp 5), type := 28, pos := _, after := #[], guard := none }) (v := undef) rfl (by kernel_rfl) (by kernel_rfl) (by kernel_rfl) (by kernel_rfl) (fun _ _ _ h => h) (by assumption) (Or.inr ⟨by rfl, rfl⟩) (fun _ => rfl) ?_)
        try simp only [Act.put, List.setIfInBounds_toArray, List.set_cons_zero, List.set_cons_succ]
        refine ordS_one (i := 2) (o := { dst := some 27, op := Op.call { callee := Callee.value (Operand.func 45), args := #[Operand.tmp 25, Operand.tmp 26], argTypes := #[26, 65] }, type := 26, pos := _, after := #[{ on := 0, ground := Ground.data }, { on := 1, ground := Ground.data }], guard := none }) (by kernel_rfl) rfl (by rfl) (fun K hK => ?_)
        go_simp
        refine ⟨trivial, ?_⟩
        with_reducible refine (callsIn_wide.2 (hcut _ (hr3.below hD))).mono ?_
        rintro e W4 ⟨g, rfl, hrow, hb4⟩
        replace hD := bl_tr hD hb4
        refine hK _ _ ⟨cell_later hD f0, cell_later hD f1, cell_later hD f2, cell_later hD g0, cell_later hD g1, cell_later hD g2, cell_later hD g3, cell_later hD h0, cell_later hD h1⟩ ?_
        clear hK K hb4
        try simp only [Act.put, List.setIfInBounds_toArray, List.set_cons_zero, List.set_cons_succ]
        refine ordS_one (i := 5) (o := { dst := some 30, op := Op.call { callee := Callee.value (Operand.func 46), args := #[Operand.tmp 28, Operand.tmp 29], argTypes := #[26, 28] }, type := 3, pos := _, after := #[{ on := 3, ground := Ground.data }, { on := 4, ground := Ground.data }, { on := 2, ground := Ground.chain }], guard := none }) (by kernel_rfl) rfl (by rfl) (fun K hK => ?_)
        go_simp
        refine ⟨trivial, ?_⟩
        with_reducible refine (callsIn_wide.2 (hnum _)).mono ?_
        rintro e W5 ⟨rfl, hb5⟩
        replace hD := bl_tr hD hb5
        replace hrow := hrow.below hb5
        refine hK _ _ ⟨cell_later hD f0, cell_later hD f1, cell_later hD f2, cell_later hD g0, cell_later hD g1, cell_later hD g2, cell_later hD g3, cell_later hD h0, cell_later hD h1⟩ ?_
        clear hK K hb5
        try simp only [Act.put, List.setIfInBounds_toArray, List.set_cons_zero, List.set_cons_succ]
        have hspr := spread_any A B (some ⟨g, 0, none⟩) zs.length (cutL A (X, Y, U, V) zs) (numN A c) W5 hmay (by rw [hlen]; exact HN.out) (cutL_in hz) hrow (hs3.below hD) (by rw [hlen]; exact hnl)
        rw [hlen] at hspr
        refine ordS_one (i := 6) (o := { dst := some 31, op := Op.call { callee := Callee.value (Operand.func 44), args := #[Operand.tmp 27, Operand.tmp 30], argTypes := #[26, 3] }, type := 46, pos := _, after := #[{ on := 2, ground := Ground.data }, { on := 5, ground := Ground.data }, { on := 5, ground := Ground.chain }], guard := none }) (by kernel_rfl) rfl (by rfl) (fun K hK => ?_)
        go_simp
        refine ⟨trivial, ?_⟩
        with_reducible refine (callsIn_wide.2 hspr).mono ?_
        rintro e W6 ⟨gd, ds, rfl, hdl, hru, hfar, hb6⟩
        replace hD := bl_tr hD hb6
        have hS6 : W6.cell? ⟨w.heap.size, 0, none⟩ = some (.int .i64 A) ∧ W6.cell? ⟨w.heap.size, 1, none⟩ = some (.int .i64 B) ∧ W6.cell? ⟨w.heap.size, 2, none⟩ = some (.slice a zs.length cap) ∧ W6.cell? ⟨w.heap.size + 1, 0, none⟩ = some (.int .i64 X) ∧ W6.cell? ⟨w.heap.size + 1, 1, none⟩ = some (.int .i64 Y) ∧ W6.cell? ⟨w.heap.size + 1, 2, none⟩ = some (.int .i64 U) ∧ W6.cell? ⟨w.heap.size + 1, 3, none⟩ = some (.int .i64 V) ∧ W6.cell? ⟨w.heap.size + 1 + 1, 0, none⟩ = some (.int .i64 c.1) ∧ W6.cell? ⟨w.heap.size + 1 + 1, 1, none⟩ = some (.int .i64 c.2) := ⟨cell_later hD f0, cell_later hD f1, cell_later hD f2, cell_later hD g0, cell_later hD g1, cell_later hD g2, cell_later hD g3, cell_later hD h0, cell_later hD h1⟩
        refine hK _ _ hS6 ?_
        clear hK K hb6
        try simp only [Act.put, List.setIfInBounds_toArray, List.set_cons_zero, List.set_cons_succ]
        first
          | (refine' ordS_take (i := 7) (oi := { dst := some 6, op := Op.assign (Operand.tmp 31), type := 46, pos := _, after := #[{ on := 6, ground := Ground.data }, { on := 6, ground := Ground.chain }, { on := 0, ground := Ground.phase }, { on := 1, ground := Ground.phase }, { on := 2, ground := Ground.phase }, { on := 3, ground := Ground.phase }, { on := 4, ground := Ground.phase }, { on := 5, ground := Ground.phase }, { on := 6, ground := Ground.phase }], guard := none }) (v := _) rfl (by kernel_rfl) (by kernel_rfl) (by kernel_rfl) (by kernel_rfl) (fun _ _ _ h => h) (by assumption) (Or.inl ⟨by rfl, ?hy123⟩) (fun _ => rfl) ?rest123
             case hy123 => (intro w hSw; (try dsimp only at hSw); go_simp; try with_reducible rfl))
          | (refine ordS_take (i := 7) (oi := { dst := some 6, op := Op.assign (Operand.tmp 31), type := 46, pos := _, after := #[{ on := 6, ground := Ground.data }, { on := 6, ground := Ground.chain }, { on := 0, ground := Ground.phase }, { on := 1, ground := Ground.phase }, { on := 2, ground := Ground.phase }, { on := 3, ground := Ground.phase }, { on := 4, ground := Ground.phase }, { on := 5, ground := Ground.phase }, { on := 6, ground := Ground.phase }], guard := none }) (v := undef) rfl (by kernel_rfl) (by kernel_rfl) (by kernel_rfl) (by kernel_rfl) (fun _ _ _ h => h) (by assumption) (Or.inr ⟨by rfl, rfl⟩) (fun _ => rfl) ?_)
        try simp only [Act.put, List.setIfInBounds_toArray, List.set_cons_zero, List.set_cons_succ]
        first
          | (refine' ordS_take (i := 8) (oi := { dst := some 7, op := Op.assign (Operand.const (Value.int IntKind.i64 0)), type := 37, pos := _, after := #[{ on := 7, ground := Ground.chain }, { on := 0, ground := Ground.phase }, { on := 1, ground := Ground.phase }, { on := 2, ground := Ground.phase }, { on := 3, ground := Ground.phase }, { on := 4, ground := Ground.phase }, { on := 5, ground := Ground.phase }, { on := 6, ground := Ground.phase }, { on := 7, ground := Ground.phase }], guard := none }) (v := _) rfl (by kernel_rfl) (by kernel_rfl) (by kernel_rfl) (by kernel_rfl) (fun _ _ _ h => h) (by assumption) (Or.inl ⟨by rfl, ?hy124⟩) (fun _ => rfl) ?rest124
             case hy124 => (intro w hSw; (try dsimp only at hSw); go_simp; try with_reducible rfl))
          | (refine ordS_take (i := 8) (oi := { dst := some 7, op := Op.assign (Operand.const (Value.int IntKind.i64 0)), type := 37, pos := _, after := #[{ on := 7, ground := Ground.chain }, { on := 0, ground := Ground.phase }, { on := 1, ground := Ground.phase }, { on := 2, ground := Ground.phase }, { on := 3, ground := Ground.phase }, { on := 4, ground := Ground.phase }, { on := 5, ground := Ground.phase }, { on := 6, ground := Ground.phase }, { on := 7, ground := Ground.phase }], guard := none }) (v := undef) rfl (by kernel_rfl) (by kernel_rfl) (by kernel_rfl) (by kernel_rfl) (fun _ _ _ h => h) (by assumption) (Or.inr ⟨by rfl, rfl⟩) (fun _ => rfl) ?_)
        try simp only [Act.put, List.setIfInBounds_toArray, List.set_cons_zero, List.set_cons_succ]
        refine ordS_done (by kernel_rfl) ?_
        have HD := Lib.hid (bl_tr hA hD)
        have HRU := Lib.hid hru
        have HDL := Lib.hid hdl
        clear hD hru hlen hdl
        go_wp2
        go_ret2
        exact ⟨⟨some ⟨gd, 0, none⟩, zs.length, ds, by rw [HDL.out]; rfl, HRU.out, fun h => absurd rfl h, fun _ => ⟨HDL.out, hfar⟩⟩, HD.out⟩
      · rw [if_neg (fun h => hh h.2)] at hE
        subst hE
        have hh2 : hasB X Y U V c.1 c.2 = false := by
          have : ¬ hasB X Y U V c.1 c.2 = true := hh
          simpa using this
        go_enter Tryd.func28, Tryd.ntmps28
        go_wp2_with fail
        refine (check_any _ _ _ _ _ _).mono ?_
        rintro e w1 ⟨rfl, hb⟩
        have hk : Below w.heap.size w w1 := by first | exact hb | exact bl_tr (bl_al (bl0 _) _) hb | exact bl_tr (bl_dr (bl_al (bl0 _) _)) hb | exact bl_tr (bl_al (bl_al (bl0 _) _) _) hb | exact bl_tr (bl_dr (bl_al (bl_al (bl0 _) _) _)) hb | exact bl_tr (bl_al (bl_al (bl_al (bl0 _) _) _) _) hb | exact bl_tr (bl_dr (bl_al (bl_al (bl_al (bl0 _) _) _) _)) hb | exact bl_tr (bl_al (bl_al (bl_al (bl_al (bl0 _) _) _) _) _) hb | exact bl_tr (bl_dr (bl_al (bl_al (bl_al (bl_al (bl0 _) _) _) _) _)) hb | exact bl_tr (bl_al (bl_al (bl_al (bl_al (bl_al (bl0 _) _) _) _) _) _) hb | exact bl_tr (bl_dr (bl_al (bl_al (bl_al (bl_al (bl_al (bl0 _) _) _) _) _) _)) hb | exact bl_tr (bl_al (bl_al (bl_al (bl_al (bl_al (bl_al (bl0 _) _) _) _) _) _) _) hb | exact bl_tr (bl_dr (bl_al (bl_al (bl_al (bl_al (bl_al (bl_al (bl0 _) _) _) _) _) _) _)) hb | exact bl_tr (bl_dr (bl0 _)) hb
        replace hA := bl_tr hA hk
        have f0 := cell_later hb (v := .int .i64 A) (a := ⟨w.heap.size, 0, none⟩) (by simp [go_sem])
        have f1 := cell_later hb (v := .int .i64 B) (a := ⟨w.heap.size, 1, none⟩) (by simp [go_sem])
        have f2 := cell_later hb (v := .slice a zs.length cap) (a := ⟨w.heap.size, 2, none⟩) (by simp [go_sem])
        have g0 := cell_later hb (v := .int .i64 X) (a := ⟨w.heap.size + 1, 0, none⟩) (by simp [go_sem])
        have g1 := cell_later hb (v := .int .i64 Y) (a := ⟨w.heap.size + 1, 1, none⟩) (by simp [go_sem])
        have g2 := cell_later hb (v := .int .i64 U) (a := ⟨w.heap.size + 1, 2, none⟩) (by simp [go_sem])
        have g3 := cell_later hb (v := .int .i64 V) (a := ⟨w.heap.size + 1, 3, none⟩) (by simp [go_sem])
        have h0 := cell_later hb (v := .int .i64 c.1) (a := ⟨w.heap.size + 1 + 1, 0, none⟩) (by simp [go_sem])
        have h1 := cell_later hb (v := .int .i64 c.2) (a := ⟨w.heap.size + 1 + 1, 1, none⟩) (by simp [go_sem])
        clear hb hk
        have zf0 := blk_lt f0
        have zf1 := blk_lt f1
        have zf2 := blk_lt f2
        have zg0 := blk_lt g0
        have zg1 := blk_lt g1
        have zg2 := blk_lt g2
        have zg3 := blk_lt g3
        have zh0 := blk_lt h0
        have zh1 := blk_lt h1
        rw [HC.out]
        go_wp2_with fail
        refine (fits_any _ _ _ _ _ _ _).mono ?_
        rintro e w2 ⟨rfl, hb⟩
        have hk : Below w1.heap.size w1 w2 := by first | exact hb | exact bl_tr (bl_al (bl0 _) _) hb | exact bl_tr (bl_dr (bl_al (bl0 _) _)) hb | exact bl_tr (bl_al (bl_al (bl0 _) _) _) hb | exact bl_tr (bl_dr (bl_al (bl_al (bl0 _) _) _)) hb | exact bl_tr (bl_al (bl_al (bl_al (bl0 _) _) _) _) hb | exact bl_tr (bl_dr (bl_al (bl_al (bl_al (bl0 _) _) _) _)) hb | exact bl_tr (bl_al (bl_al (bl_al (bl_al (bl0 _) _) _) _) _) hb | exact bl_tr (bl_dr (bl_al (bl_al (bl_al (bl_al (bl0 _) _) _) _) _)) hb | exact bl_tr (bl_al (bl_al (bl_al (bl_al (bl_al (bl0 _) _) _) _) _) _) hb | exact bl_tr (bl_dr (bl_al (bl_al (bl_al (bl_al (bl_al (bl0 _) _) _) _) _) _)) hb | exact bl_tr (bl_al (bl_al (bl_al (bl_al (bl_al (bl_al (bl0 _) _) _) _) _) _) _) hb | exact bl_tr (bl_dr (bl_al (bl_al (bl_al (bl_al (bl_al (bl_al (bl0 _) _) _) _) _) _) _)) hb | exact bl_tr (bl_dr (bl0 _)) hb
        replace hA := bl_tr hA hk
        replace f0 := cell_later hk f0
        replace f1 := cell_later hk f1
        replace f2 := cell_later hk f2
        replace g0 := cell_later hk g0
        replace g1 := cell_later hk g1
        replace g2 := cell_later hk g2
        replace g3 := cell_later hk g3
        replace h0 := cell_later hk h0
        replace h1 := cell_later hk h1
        clear hb hk
        have zf0 := blk_lt f0
        have zf1 := blk_lt f1
        have zf2 := blk_lt f2
        have zg0 := blk_lt g0
        have zg1 := blk_lt g1
        have zg2 := blk_lt g2
        have zg3 := blk_lt g3
        have zh0 := blk_lt h0
        have zh1 := blk_lt h1
        rw [hf]
        go_wp2_with fail
        refine (has_any _ _ _ _ _ _ _).mono ?_
        rintro e w3 ⟨rfl, hb⟩
        have hk : Below w2.heap.size w2 w3 := by first | exact hb | exact bl_tr (bl_al (bl0 _) _) hb | exact bl_tr (bl_dr (bl_al (bl0 _) _)) hb | exact bl_tr (bl_al (bl_al (bl0 _) _) _) hb | exact bl_tr (bl_dr (bl_al (bl_al (bl0 _) _) _)) hb | exact bl_tr (bl_al (bl_al (bl_al (bl0 _) _) _) _) hb | exact bl_tr (bl_dr (bl_al (bl_al (bl_al (bl0 _) _) _) _)) hb | exact bl_tr (bl_al (bl_al (bl_al (bl_al (bl0 _) _) _) _) _) hb | exact bl_tr (bl_dr (bl_al (bl_al (bl_al (bl_al (bl0 _) _) _) _) _)) hb | exact bl_tr (bl_al (bl_al (bl_al (bl_al (bl_al (bl0 _) _) _) _) _) _) hb | exact bl_tr (bl_dr (bl_al (bl_al (bl_al (bl_al (bl_al (bl0 _) _) _) _) _) _)) hb | exact bl_tr (bl_al (bl_al (bl_al (bl_al (bl_al (bl_al (bl0 _) _) _) _) _) _) _) hb | exact bl_tr (bl_dr (bl_al (bl_al (bl_al (bl_al (bl_al (bl_al (bl0 _) _) _) _) _) _) _)) hb | exact bl_tr (bl_dr (bl0 _)) hb
        replace hA := bl_tr hA hk
        replace f0 := cell_later hk f0
        replace f1 := cell_later hk f1
        replace f2 := cell_later hk f2
        replace g0 := cell_later hk g0
        replace g1 := cell_later hk g1
        replace g2 := cell_later hk g2
        replace g3 := cell_later hk g3
        replace h0 := cell_later hk h0
        replace h1 := cell_later hk h1
        clear hb hk
        have zf0 := blk_lt f0
        have zf1 := blk_lt f1
        have zf2 := blk_lt f2
        have zg0 := blk_lt g0
        have zg1 := blk_lt g1
        have zg2 := blk_lt g2
        have zg3 := blk_lt g3
        have zh0 := blk_lt h0
        have zh1 := blk_lt h1
        rw [hh2]
        go_wp2
        go_ret2
        exact ⟨⟨none, 0, [], rfl, .inl rfl, fun _ => rfl, fun h => by cases h⟩, hA⟩
    · have hf2 : fitsB A B X Y U V = false := by simpa using hf
      rw [if_neg (fun h => hf h.1)] at hE
      subst hE
      clear hf
      go_enter Tryd.func28, Tryd.ntmps28
      go_wp2_with fail
      refine (check_any _ _ _ _ _ _).mono ?_
      rintro e w1 ⟨rfl, hb⟩
      have hk : Below w.heap.size w w1 := by first | exact hb | exact bl_tr (bl_al (bl0 _) _) hb | exact bl_tr (bl_dr (bl_al (bl0 _) _)) hb | exact bl_tr (bl_al (bl_al (bl0 _) _) _) hb | exact bl_tr (bl_dr (bl_al (bl_al (bl0 _) _) _)) hb | exact bl_tr (bl_al (bl_al (bl_al (bl0 _) _) _) _) hb | exact bl_tr (bl_dr (bl_al (bl_al (bl_al (bl0 _) _) _) _)) hb | exact bl_tr (bl_al (bl_al (bl_al (bl_al (bl0 _) _) _) _) _) hb | exact bl_tr (bl_dr (bl_al (bl_al (bl_al (bl_al (bl0 _) _) _) _) _)) hb | exact bl_tr (bl_al (bl_al (bl_al (bl_al (bl_al (bl0 _) _) _) _) _) _) hb | exact bl_tr (bl_dr (bl_al (bl_al (bl_al (bl_al (bl_al (bl0 _) _) _) _) _) _)) hb | exact bl_tr (bl_al (bl_al (bl_al (bl_al (bl_al (bl_al (bl0 _) _) _) _) _) _) _) hb | exact bl_tr (bl_dr (bl_al (bl_al (bl_al (bl_al (bl_al (bl_al (bl0 _) _) _) _) _) _) _)) hb | exact bl_tr (bl_dr (bl0 _)) hb
      replace hA := bl_tr hA hk
      have f0 := cell_later hb (v := .int .i64 A) (a := ⟨w.heap.size, 0, none⟩) (by simp [go_sem])
      have f1 := cell_later hb (v := .int .i64 B) (a := ⟨w.heap.size, 1, none⟩) (by simp [go_sem])
      have f2 := cell_later hb (v := .slice a zs.length cap) (a := ⟨w.heap.size, 2, none⟩) (by simp [go_sem])
      have g0 := cell_later hb (v := .int .i64 X) (a := ⟨w.heap.size + 1, 0, none⟩) (by simp [go_sem])
      have g1 := cell_later hb (v := .int .i64 Y) (a := ⟨w.heap.size + 1, 1, none⟩) (by simp [go_sem])
      have g2 := cell_later hb (v := .int .i64 U) (a := ⟨w.heap.size + 1, 2, none⟩) (by simp [go_sem])
      have g3 := cell_later hb (v := .int .i64 V) (a := ⟨w.heap.size + 1, 3, none⟩) (by simp [go_sem])
      have h0 := cell_later hb (v := .int .i64 c.1) (a := ⟨w.heap.size + 1 + 1, 0, none⟩) (by simp [go_sem])
      have h1 := cell_later hb (v := .int .i64 c.2) (a := ⟨w.heap.size + 1 + 1, 1, none⟩) (by simp [go_sem])
      clear hb hk
      have zf0 := blk_lt f0
      have zf1 := blk_lt f1
      have zf2 := blk_lt f2
      have zg0 := blk_lt g0
      have zg1 := blk_lt g1
      have zg2 := blk_lt g2
      have zg3 := blk_lt g3
      have zh0 := blk_lt h0
      have zh1 := blk_lt h1
      rw [HC.out]
      go_wp2_with fail
      refine (fits_any _ _ _ _ _ _ _).mono ?_
      rintro e w2 ⟨rfl, hb⟩
      have hk : Below w1.heap.size w1 w2 := by first | exact hb | exact bl_tr (bl_al (bl0 _) _) hb | exact bl_tr (bl_dr (bl_al (bl0 _) _)) hb | exact bl_tr (bl_al (bl_al (bl0 _) _) _) hb | exact bl_tr (bl_dr (bl_al (bl_al (bl0 _) _) _)) hb | exact bl_tr (bl_al (bl_al (bl_al (bl0 _) _) _) _) hb | exact bl_tr (bl_dr (bl_al (bl_al (bl_al (bl0 _) _) _) _)) hb | exact bl_tr (bl_al (bl_al (bl_al (bl_al (bl0 _) _) _) _) _) hb | exact bl_tr (bl_dr (bl_al (bl_al (bl_al (bl_al (bl0 _) _) _) _) _)) hb | exact bl_tr (bl_al (bl_al (bl_al (bl_al (bl_al (bl0 _) _) _) _) _) _) hb | exact bl_tr (bl_dr (bl_al (bl_al (bl_al (bl_al (bl_al (bl0 _) _) _) _) _) _)) hb | exact bl_tr (bl_al (bl_al (bl_al (bl_al (bl_al (bl_al (bl0 _) _) _) _) _) _) _) hb | exact bl_tr (bl_dr (bl_al (bl_al (bl_al (bl_al (bl_al (bl_al (bl0 _) _) _) _) _) _) _)) hb | exact bl_tr (bl_dr (bl0 _)) hb
      replace hA := bl_tr hA hk
      replace f0 := cell_later hk f0
      replace f1 := cell_later hk f1
      replace f2 := cell_later hk f2
      replace g0 := cell_later hk g0
      replace g1 := cell_later hk g1
      replace g2 := cell_later hk g2
      replace g3 := cell_later hk g3
      replace h0 := cell_later hk h0
      replace h1 := cell_later hk h1
      clear hb hk
      have zf0 := blk_lt f0
      have zf1 := blk_lt f1
      have zf2 := blk_lt f2
      have zg0 := blk_lt g0
      have zg1 := blk_lt g1
      have zg2 := blk_lt g2
      have zg3 := blk_lt g3
      have zh0 := blk_lt h0
      have zh1 := blk_lt h1
      rw [hf2]
      go_wp2
      go_ret2
      exact ⟨⟨none, 0, [], rfl, .inl rfl, fun _ => rfl, fun h => by cases h⟩, hA⟩
  · rw [if_neg h0] at hE
    subst hE
    have h1 : (chk != 0) = true := by rw [bne_iff_ne]; exact h0
    have H0 := Lib.hid h0
    clear hchk h0
    go_enter Tryd.func28, Tryd.ntmps28
    go_wp2_with fail
    refine (check_any _ _ _ _ _ _).mono ?_
    rintro e w1 ⟨rfl, hb⟩
    have hk : Below w.heap.size w w1 := by first | exact hb | exact bl_tr (bl_al (bl0 _) _) hb | exact bl_tr (bl_dr (bl_al (bl0 _) _)) hb | exact bl_tr (bl_al (bl_al (bl0 _) _) _) hb | exact bl_tr (bl_dr (bl_al (bl_al (bl0 _) _) _)) hb | exact bl_tr (bl_al (bl_al (bl_al (bl0 _) _) _) _) hb | exact bl_tr (bl_dr (bl_al (bl_al (bl_al (bl0 _) _) _) _)) hb | exact bl_tr (bl_al (bl_al (bl_al (bl_al (bl0 _) _) _) _) _) hb | exact bl_tr (bl_dr (bl_al (bl_al (bl_al (bl_al (bl0 _) _) _) _) _)) hb | exact bl_tr (bl_al (bl_al (bl_al (bl_al (bl_al (bl0 _) _) _) _) _) _) hb | exact bl_tr (bl_dr (bl_al (bl_al (bl_al (bl_al (bl_al (bl0 _) _) _) _) _) _)) hb | exact bl_tr (bl_al (bl_al (bl_al (bl_al (bl_al (bl_al (bl0 _) _) _) _) _) _) _) hb | exact bl_tr (bl_dr (bl_al (bl_al (bl_al (bl_al (bl_al (bl_al (bl0 _) _) _) _) _) _) _)) hb | exact bl_tr (bl_dr (bl0 _)) hb
    replace hA := bl_tr hA hk
    clear hb hk
    rw [HC.out]
    go_wp2
    go_ret2
    exact ⟨⟨none, 0, [], rfl, .inl rfl, fun _ => rfl, fun h => absurd h H0.out⟩, hA⟩

set_option maxRecDepth 100000 in
set_option maxHeartbeats 4000000 in
theorem from_any (A B : Int) (a : Option Addr) (cap : Nat) (zs : List Int) (c : IC) (w : World) (hz : AllH zs) (hr : RowH w a zs) (hst : Stp w) :
    Calls Tryd.prog 15 #[.agg #[.int .i64 A, .int .i64 B, .slice a zs.length cap], .agg #[.int .i64 c.1, .int .i64 c.2]] w fun e w' => WinR A B zs (0, 0, A, B) c e w' ∧ Below w.heap.size w w' := by
  have hA := bl0 w
  have hcall := fun W (h1 : RowH W a zs) (h2 : Stp W) => within_any A B a cap zs (0, 0, A, B) c W hz h1 h2
  have HC := Lib.hid hcall
  clear hcall
  go_enter Tryd.func15, Tryd.ntmps15
  go_wp2_with fail
  have hA1 := bl_al (bl_al hA (.cells #[.int .i64 A, .int .i64 B, .slice a zs.length cap] 26)) (.cells #[.int .i64 c.1, .int .i64 c.2] 28)
  refine (HC.out _ (hr.below hA1) (hst.below hA1)).mono ?_
  rintro e w1 ⟨⟨b, cap2, ds, rfl, h2, h3, h4⟩, hb⟩
  have hA2 := bl_tr hA1 hb
  obtain ⟨E, hE⟩ : ∃ E, errW A B zs.length (0, 0, A, B) c = E := ⟨_, rfl⟩
  rw [hE] at h3 h4 ⊢
  have HE := Lib.hid hE
  have H2 := Lib.hid h2
  have H3 := Lib.hid h3
  have H4 := Lib.hid h4
  clear h2 h3 h4 hA1 hb hE
  go_wp2
  go_ret2
  refine ⟨?_, hA2⟩
  unfold WinR
  rw [HE.out]
  exact ⟨b, cap2, ds, rfl, H2.out, H3.out, H4.out⟩
end Go.Proofs.YtldpajfendkhbaaDoor
