/- A loop over the cells of a set: the law for whoever writes it. -/
import Derived.Test.YtgkeifjnnpcleaaJb
namespace Go.Proofs.Ytgkeifjnnpcleaa
open Go.RowKit Go.Shelf
attribute [local go_sem] Oper.semAt_some

/-- An iterator over cells, by its contract: it hands in the cells cs, and lets three blocks lie. -/
def IterM (p b h gf : Nat) (lb : Array Value) (cs : List (Int × Int)) (w : World) : Prop :=
  ∀ (l : Nat) (J Jx : List (Int × Int) → World → Prop) (W : World), Below w.heap.size w W → OwnFrom W.heap.size J → OwnFrom W.heap.size Jx →
    (∀ pre c W1, J pre W1 → W.heap.size + 2 ≤ W1.heap.size → pre.length < cs.length → YieldAt Fence.wide 0 Try.prog l #[.agg #[.int .i64 c.1, .int .i64 c.2]] W1 fun e W' =>
      (e = .returned (.bool true) ∧ J (pre ++ [c]) W' ∧ KeptM p b h W.heap.size 2 W1 W') ∨ (e = .returned (.bool false) ∧ Jx (pre ++ [c]) W' ∧ KeptM p b h W.heap.size 2 W1 W')) →
    J [] W →
    CallsIn Fence.wide 10 Try.prog gf (#[.func (.yield l) #[] #[]] ++ lb) W fun e W' => (∃ v, e = .returned v) ∧ (J cs W' ∨ ∃ q, q <+: cs ∧ Jx q W')

/-- The cells of a set. -/
def cellsM (X Y : Int) (bs : List Nat) : List (Int × Int) := (numsOf bs).map (cellAt X Y)
theorem iter_set (p b h : Nat) (X Y : Int) (bs : List Nat) (hbs : IsBytes bs) (hl : bs.length ≤ 65536) (w : World) (hs : SetAt w p b h X Y bs) : IterM p b h 49 #[.pointer (some ⟨p, 0, none⟩)] (cellsM X Y bs) w :=
  fun l J Jx W hW hJ hJx hY h0 => mcells1_in l p b h X Y bs hbs hl J Jx W hJ hJx (fun pre c W1 hj hz hlt => hY pre c W1 hj hz (by rw [cellsM, List.length_map]; exact hlt)) (hs.below hW) h0

/-- How the body of a round may be left: at its end, by a return, or out of the loop. -/
def bodyM (p b h n₁ : Nat) (I : List (Int × Int) → World → Prop) (Ix : Code → List (Int × Int) → World → Prop) (xs : List (Int × Int)) (W : World) : Exit → Act → World → Prop
  | .normal, _, W' => KeptM p b h n₁ 4 W W' ∧ I xs W'
  | .ret, _, W' => KeptM p b h n₁ 4 W W' ∧ Ix .ret xs W'
  | .exit id, _, W' => KeptM p b h n₁ 4 W W' ∧ Ix (.exit id) xs W'
  | _, _, _ => False

theorem KeptM.put {p b h n c l : Nat} {A : World} (o : Obj) (hl : l < n) (hp : l ≠ p) (hb : l ≠ b) (hh : l ≠ h) : KeptM p b h n c A (A.putObj l o) :=
  ⟨by simp, fun k hk _ => World.putObj_heap_other (by rcases hk with h | h | h | h <;> omega), fun k o hk ho _ => (World.putObj_heap_other (by omega)).trans ho⟩
theorem KeptM.up {p b h n₁ n₂ c₁ c₂ : Nat} {A B : World} (x : KeptM p b h n₁ c₁ A B) (hn : n₁ ≤ n₂) (hc : n₂ + c₂ ≤ n₁ + c₁) : KeptM p b h n₂ c₂ A B := ⟨x.1, fun k hk hl => x.2.1 k (by omega) hl, fun k o hk ho hc => x.2.2 k o (by omega) ho hc⟩
theorem KeptM.heap {p b h n c k : Nat} {A B : World} {o : Obj} (x : KeptM p b h n c A B) (hk : n ≤ k) (ho : A.heap[k]? = some o) (hc : o.isCells = false) : B.heap[k]? = some o := x.2.2 k o hk ho hc

set_option maxHeartbeats 1000000 in
theorem range_iter {ps : Array Tmp} {assign body : Code} {g : Operand} {Q : Exit → Act → World → Prop} {a : Act} {w : World} (p b h gf : Nat) (lb : Array Value) (cs : List (Int × Int)) (hit : IterM p b h gf lb cs w)
    (hg : a.eval g = .func (.func gf) #[] lb) (hps : ps.size = 1) (hp : p < w.heap.size) (hb : b < w.heap.size) (hh : h < w.heap.size)
    (hen : ∀ args w', (callFunc gf args).run Try.prog w' = .ok (.enter gf args) w')
    (I : List (Int × Int) → World → Prop) (Ix : Code → List (Int × Int) → World → Prop) (hI : OwnFrom w.heap.size I) (hIx : ∀ c, OwnFrom w.heap.size (Ix c)) (h0 : I [] w)
    (Ax : Int × Int → Act → World → Prop) (hAx : ∀ p a', OwnFrom w.heap.size (fun (_ : Unit) W => Ax p a' W))
    (hassign : ∀ (l : Nat) (pre : List (Int × Int)) (c : Int × Int) (W : World) (K : Act → World → Prop), I pre W → (∀ a' W', KeptM p b h w.heap.size 4 W W' → I pre W' → Ax c a' W' → K a' W') →
      assign.wpIn (Fence.wide.inRound l) 7 Try.prog (Exit.then K (fun _ _ _ => False)) { tmps := (ps.zip #[.agg #[.int .i64 c.1, .int .i64 c.2]]).foldl (fun t (p, v) => t.setIfInBounds p v) a.tmps, defers := [] } W)
    (hbody : ∀ (l : Nat) (pre : List (Int × Int)) (c : Int × Int) (a' : Act) (W : World), I pre W → Ax c a' W → w.heap.size + 4 ≤ W.heap.size → pre.length < cs.length → body.wpIn (Fence.wide.inRound l) 7 Try.prog (bodyM p b h w.heap.size I Ix (pre ++ [c]) W) a' W)
    (hdone : ∀ (D : Nat) (W : World), w.heap.size ≤ D → I cs W → W.heap[D]? = some (.deferred (some [])) → Q .normal { a with defers := { target := .collected D, args := #[] } :: a.defers } W)
    (hstop : ∀ (D : Nat) (c : Code) (q : List (Int × Int)) (W : World), w.heap.size ≤ D → q <+: cs → Ix c q W → W.heap[D]? = some (.deferred (some [])) → c.wpIn Fence.wide 11 Try.prog Q { a with defers := { target := .collected D, args := #[] } :: a.defers } W) :
    (Code.rangeFunc g ps assign body).wpIn Fence.wide 11 Try.prog Q a w := by
  refine wpIn_rangeFunc fun fn hfn => ?_
  obtain ⟨R, hR⟩ : ∃ R : LoopState → Option Code → Loop, R = fun st pe => { state := st, pending := pe, fn, tmps := a.tmps, params := ps, assign, body, defers := w.heap.size } := ⟨_, rfl⟩
  obtain ⟨W1, hW1⟩ : ∃ W1, (w.alloc (.deferred (some []))).alloc (.loop (R .ready none)) = W1 := ⟨_, rfl⟩
  have hz : W1.heap.size = w.heap.size + 2 := by rw [← hW1]; simp
  have hk1 : Below w.heap.size w W1 := by rw [← hW1]; exact bl_al (bl_al (bl0 _) _) _
  have hL1 : W1.heap[w.heap.size + 1]? = some (.loop (R .ready none)) := by
    have h := World.alloc_heap_new (w.alloc (.deferred (some []))) (.loop (R .ready none))
    rw [World.size_alloc] at h
    rw [← hW1]; exact h
  have hD1 : W1.heap[w.heap.size]? = some (.deferred (some [])) := by
    rw [← hW1]; exact (Below.heap_alloc _ _ _ (by simp)).trans (World.alloc_heap_new w _)
  have hI1 : I [] W1 := hI [] w W1 none h0 (grown_of_below hk1) (fun r e => by cases e)
  refine ⟨w.heap.size + 1, [{ target := .collected w.heap.size, args := #[] }], W1, { target := .fn (.func gf) lb, args := #[.func (.yield (w.heap.size + 1)) #[] #[]] }, W1, gf,
    #[.func (.yield (w.heap.size + 1)) #[] #[]] ++ lb, W1, ?_, ?_, ?_, ?_, (fun h => by cases h), ?_⟩
  · rw [← hW1, hR]; exact run_enterLoop_outer _ _ _ _ _
  · simp only [resolve, hg]
    simp [go_sem]
  · intro f' _; exact trivial
  · simpa [invoke, go_sem] using hen _ _
  refine (hit (w.heap.size + 1)
    (fun pre W => I pre W ∧ W.heap[w.heap.size + 1]? = some (.loop (R .ready none)) ∧ W.heap[w.heap.size]? = some (.deferred (some [])))
    (fun pre W => ∃ c, Ix c pre W ∧ W.heap[w.heap.size + 1]? = some (.loop (R .done (some c))) ∧ W.heap[w.heap.size]? = some (.deferred (some [])))
    W1 hk1 ?oJ ?oJx ?round ⟨hI1, hL1, hD1⟩).mono ?behind
  case oJ =>
    intro s A B row hs hg' hr
    refine ⟨hI s A B row hs.1 hg' (fun r e => ⟨by have := (hr r e).1; omega, (hr r e).2⟩), (hg'.block _ (Array.getElem?_eq_some_iff.1 hs.2.1).1 (fun e => by have := (hr _ e.symm).1; omega)).trans hs.2.1, (hg'.block _ (Array.getElem?_eq_some_iff.1 hs.2.2).1 (fun e => by have := (hr _ e.symm).1; omega)).trans hs.2.2⟩
  case oJx =>
    rintro s A B row ⟨c, hs⟩ hg' hr
    refine ⟨c, hIx c s A B row hs.1 hg' (fun r e => ⟨by have := (hr r e).1; omega, (hr r e).2⟩), (hg'.block _ (Array.getElem?_eq_some_iff.1 hs.2.1).1 (fun e => by have := (hr _ e.symm).1; omega)).trans hs.2.1, (hg'.block _ (Array.getElem?_eq_some_iff.1 hs.2.2).1 (fun e => by have := (hr _ e.symm).1; omega)).trans hs.2.2⟩
  case behind =>
    rintro e W2 ⟨⟨v, rfl⟩, (⟨hi, hl, hk⟩ | ⟨q, hq, c, hi, hl, hk⟩)⟩
    · have he := run_endLoop (P := Try.prog) hl (by rw [hR]; simp)
      rw [hR] at he
      exact ⟨none, _, he, hdone _ _ (Nat.le_refl _) (hI _ W2 _ _ hi (grownBy_putObj' W2 _ _) (fun r e => by cases e; exact ⟨by omega, _, hl, rfl⟩)) ((World.putObj_heap_other (by omega)).trans hk)⟩
    · have he := run_endLoop (P := Try.prog) hl (by rw [hR]; simp)
      rw [hR] at he
      exact ⟨some c, _, he, hstop _ c q _ (Nat.le_refl _) hq (hIx c _ W2 _ _ hi (grownBy_putObj' W2 _ _) (fun r e => by cases e; exact ⟨by omega, _, hl, rfl⟩)) ((World.putObj_heap_other (by omega)).trans hk)⟩
  case round =>
    rintro pre c W ⟨hi, hl, hk⟩ hsz hlen
    rw [hz]
    have hy := run_yield (P := Try.prog) (args := #[.agg #[.int .i64 c.1, .int .i64 c.2]]) hl (by rw [hR]; simp [hps])
    rw [hR] at hy
    refine mYieldAt_any (m := 7) 0 ⟨fn, _, assign, body, hy, roundIn_of_wpIn hfn (hassign _ pre c W _ hi ?_)⟩
    intro a' Wa hka hia hax
    have hl2 := hka.heap (k := w.heap.size + 1) (by omega) hl rfl
    have hk2 := hka.heap (k := w.heap.size) (by omega) hk rfl
    refine ⟨_, run_beginRound hl2 (by rw [hR]), ?_⟩
    obtain ⟨W3, hW3⟩ : ∃ W3, Wa.putObj (w.heap.size + 1) (.loop { R .ready none with state := .busy }) = W3 := ⟨_, rfl⟩
    rw [hW3]
    have hl3 : W3.heap[w.heap.size + 1]? = some (.loop { R .ready none with state := .busy }) := by rw [← hW3]; exact World.putObj_heap_same (Array.getElem?_eq_some_iff.1 hl2).1
    have hk3 : W3.heap[w.heap.size]? = some (.deferred (some [])) := by rw [← hW3]; exact (World.putObj_heap_other (by omega)).trans hk2
    have hp3 : KeptM p b h (w.heap.size + 2) 2 Wa W3 := by rw [← hW3]; exact KeptM.put _ (by omega) (by omega) (by omega) (by omega)
    have hg3 : Wa.grownBy W3 (some (w.heap.size + 1)) := by rw [← hW3]; exact grownBy_putObj' _ _ _
    have hr3 : ∀ r, some (w.heap.size + 1) = some r → w.heap.size ≤ r ∧ ∃ o : Obj, Wa.heap[r]? = some o ∧ o.isCells = false := fun r e => by cases e; exact ⟨by omega, _, hl2, rfl⟩
    refine wpIn_mono (hbody _ pre c a' W3 (hI _ Wa W3 _ hia hg3 hr3) (hAx c a' () Wa W3 _ hax hg3 hr3) (by have h1 := hka.1; have h2 := hp3.1; omega) hlen) ?_
    have stop : ∀ (cc : Code) (W4 : World), KeptM p b h w.heap.size 4 W3 W4 → Ix cc (pre ++ [c]) W4 → ∀ o, o = Obj.loop { R .ready none with state := .done, pending := some cc } → (W4.putObj (w.heap.size + 1) o).heap[w.heap.size + 1]? = some (.loop (R .done (some cc))) ∧ (W4.putObj (w.heap.size + 1) o).heap[w.heap.size]? = some (.deferred (some [])) ∧ Ix cc (pre ++ [c]) (W4.putObj (w.heap.size + 1) o) ∧ KeptM p b h (w.heap.size + 2) 2 W (W4.putObj (w.heap.size + 1) o) := by
      rintro cc W4 hb4 hi4 o rfl
      have hl4 := hb4.heap (k := w.heap.size + 1) (by omega) hl3 rfl
      have hk4 := hb4.heap (k := w.heap.size) (by omega) hk3 rfl
      refine ⟨?_, (World.putObj_heap_other (by omega)).trans hk4, hIx cc _ W4 _ _ hi4 (grownBy_putObj' W4 _ _) (fun r e => by cases e; exact ⟨by omega, _, hl4, rfl⟩), ((((hka.up (by omega) (by omega)).trans hp3).trans (hb4.up (by omega) (by omega))).trans (KeptM.put _ (by omega) (by omega) (by omega) (by omega)))⟩
      rw [World.putObj_heap_same (Array.getElem?_eq_some_iff.1 hl4).1, hR]
    rintro e a3 W4 hp'
    cases e with
    | normal =>
      obtain ⟨hb4, hi4⟩ := hp'
      have hl4 := hb4.heap (k := w.heap.size + 1) (by omega) hl3 rfl
      have hk4 := hb4.heap (k := w.heap.size) (by omega) hk3 rfl
      have he := run_endRound (P := Try.prog) none hl4
      refine ⟨_, _, he, .inl ⟨rfl, ⟨hI _ W4 _ _ hi4 (grownBy_putObj' W4 _ _) (fun r e => by cases e; exact ⟨by omega, _, hl4, rfl⟩), ?_, (World.putObj_heap_other (by omega)).trans hk4⟩, ?_⟩⟩
      · rw [World.putObj_heap_same (Array.getElem?_eq_some_iff.1 hl4).1, hR]; rfl
      · exact ((((hka.up (by omega) (by omega)).trans hp3).trans (hb4.up (by omega) (by omega))).trans (KeptM.put _ (by omega) (by omega) (by omega) (by omega)))
    | ret =>
      obtain ⟨hb4, hi4⟩ := hp'
      have he := run_endRound (P := Try.prog) (some .ret) (hb4.heap (k := w.heap.size + 1) (by omega) hl3 rfl)
      obtain ⟨q1, q2, q3, q4⟩ := stop .ret W4 hb4 hi4 _ rfl
      exact ⟨_, _, he, .inr ⟨rfl, ⟨_, q3, q1, q2⟩, q4⟩⟩
    | exit id =>
      obtain ⟨hb4, hi4⟩ := hp'
      have he := run_endRound (P := Try.prog) (some (.exit id)) (hb4.heap (k := w.heap.size + 1) (by omega) hl3 rfl)
      obtain ⟨q1, q2, q3, q4⟩ := stop (.exit id) W4 hb4 hi4 _ rfl
      exact ⟨_, _, he, .inr ⟨rfl, ⟨_, q3, q1, q2⟩, q4⟩⟩
    | goto t => exact hp'.elim
    | panic ch => exact hp'.elim
    | outgrown => exact hp'.elim
end Go.Proofs.Ytgkeifjnnpcleaa
