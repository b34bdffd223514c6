/- Texts joined: Tt, Io, Kg. -/
import Derived.Test.YtmcgkoleaomjlaaQ2
import Derived.Test.YtmcgkoleaomjlaaQ3
import Derived.Test.YtmcgkoleaomjlaaQ1
/- Fog: what is known behind one look of any set; all cells of a map; how many. -/
namespace Go.Proofs.Ytmcgkoleaomjlaa
open Go.RowKit

theorem idx8 {X Y : Int} {bs : List Nat} (g : Good X Y bs) {i : Nat} (hi : (i : Int) < X * Y) : i / 8 < bs.length := by
  have := g.2.1
  omega
theorem expl_bits {X Y : Int} {ms : List (Option Int)} {z : List Nat} (g : Good X Y z) (hl : (ms.length : Int) = X * Y) (i : Nat) : ∀ k, k ≤ ms.length → (bitAt (explK ms z k) i = true ↔ (bitAt z i = true ∨ (i < k ∧ (ms[i]?).join.isSome = true)))
  | 0, _ => by simp [explK]
  | k + 1, hk => by
    have ih := expl_bits g hl i k (by omega)
    have gk := Good.explK g hl k (by omega)
    rw [explK_succ]
    by_cases hs : (ms[k]?).join.isSome = true
    · rw [if_pos hs, bitAt_setB _ _ _ (idx8 gk (by omega))]
      by_cases hik : i = k
      · subst hik
        rw [if_pos rfl]
        exact ⟨fun _ => .inr ⟨by omega, hs⟩, fun _ => rfl⟩
      · rw [if_neg hik, ih]
        constructor
        · rintro (h | ⟨h1, h2⟩)
          · exact .inl h
          · exact .inr ⟨by omega, h2⟩
        · rintro (h | ⟨h1, h2⟩)
          · exact .inl h
          · exact .inr ⟨by omega, h2⟩
    · rw [if_neg hs, ih]
      constructor
      · rintro (h | ⟨h1, h2⟩)
        · exact .inl h
        · exact .inr ⟨by omega, h2⟩
      · rintro (h | ⟨h1, h2⟩)
        · exact .inl h
        · refine .inr ⟨?_, h2⟩
          by_cases hik : i = k
          · subst hik; exact absurd h2 hs
          · omega
/-- What is known are just the costs of a set's cells. -/
def KnowsJ (bs : List Nat) (fs : List Int) (ms : List (Option Int)) : Prop := ms.length = fs.length ∧ ∀ n, n < fs.length → ms[n]? = some (if bitAt bs n = true then some (fs.getD n 0) else none)
theorem knows_expl {X Y : Int} {bs : List Nat} {fs : List Int} {ms : List (Option Int)} (k : KnowsJ bs fs ms) (g : Good X Y bs) (hl : (fs.length : Int) = X * Y) : explK ms (List.replicate ((X * Y + 7) / 8).toNat 0) ms.length = bs := by
  have hm := g.1
  have hz := good_zero0 hm
  have hl2 : (ms.length : Int) = X * Y := by rw [k.1]; exact hl
  have ge := Good.explK hz hl2 ms.length (Nat.le_refl _)
  refine set_ext ge g fun c => ?_
  unfold inM
  rw [Bool.and_eq_true, Bool.and_eq_true]
  refine and_congr_right fun hc => ?_
  rw [expl_bits hz hl2 _ _ (Nat.le_refl _), bit_zero]
  have hi := idx_lt hc
  have hn : numC X c < fs.length := by unfold numC; omega
  have e := k.2 _ hn
  rw [e]
  constructor
  · rintro (h | ⟨_, h⟩)
    · cases h
    · by_cases hb : bitAt bs (numC X c) = true
      · exact hb
      · rw [if_neg hb] at h; simp at h
  · intro hb
    refine .inr ⟨by rw [k.1]; exact hn, ?_⟩
    rw [if_pos hb]; rfl
theorem knows_view {bs : List Nat} {fs : List Int} {ms : List (Option Int)} (k : KnowsJ bs fs ms) {n : Nat} (hn : n < fs.length) : (viewL ms)[n]? = some (if bitAt bs n = true then fs.getD n 0 else 1) := by
  unfold viewL
  rw [List.getElem?_map, k.2 n hn]
  by_cases hb : bitAt bs n = true
  · rw [if_pos hb, if_pos hb]; rfl
  · rw [if_neg hb, if_neg hb]; rfl
theorem knows_all {bs : List Nat} {fs : List Int} {ms : List (Option Int)} (k : KnowsJ bs fs ms) (h : ∀ n, n < fs.length → bitAt bs n = true) : viewL ms = fs := by
  apply List.ext_getElem?
  intro n
  by_cases hn : n < fs.length
  · rw [knows_view k hn, if_pos (h n hn), List.getD_eq_getElem?_getD, List.getElem?_eq_getElem hn]; rfl
  · rw [List.getElem?_eq_none (by rw [viewL_len, k.1]; omega), List.getElem?_eq_none (by omega)]
theorem knows_same {bs cs : List Nat} {fs : List Int} {ms ns : List (Option Int)} (k : KnowsJ bs fs ms) (l : KnowsJ cs fs ns) (hc : ∀ n, n < fs.length → bitAt cs n = true) : ms = ns ↔ ∀ n, n < fs.length → bitAt bs n = true := by
  constructor
  · rintro rfl n hn
    have e := (k.2 n hn).symm.trans (l.2 n hn)
    rw [if_pos (hc n hn)] at e
    by_cases hb : bitAt bs n = true
    · exact hb
    · rw [if_neg hb] at e; simp at e
  · intro h
    refine mem_ext (by rw [k.1, l.1]) fun n hn => ?_
    rw [k.1] at hn
    rw [k.2 n hn, l.2 n hn, if_pos (h n hn), if_pos (hc n hn)]
theorem ones_all {X Y : Int} {bs : List Nat} {N : Nat} (g : Good X Y bs) (hN : (N : Int) = X * Y) : ones bs = N ↔ ∀ n, n < N → bitAt bs n = true := by
  have h1 := numsOf_len bs g.2.2.1
  rw [numsOf_range, List.length_map] at h1
  have hle : N ≤ bs.length * 8 := by have := g.2.1; omega
  have h2 : ((List.range (bs.length * 8)).filter (fun i => bitAt bs i)).length = ((List.range N).filter (fun i => bitAt bs i)).length := by
    obtain ⟨d, hd⟩ : ∃ d, bs.length * 8 = N + d := ⟨bs.length * 8 - N, by omega⟩
    rw [hd, List.range_add, List.filter_append, List.length_append]
    have h3 : ((List.range d).map (N + ·)).filter (fun i => bitAt bs i) = [] := by
      rw [List.filter_eq_nil_iff]
      intro i hi
      obtain ⟨j, _, rfl⟩ := List.mem_map.1 hi
      rw [g.2.2.2 (N + j) (by omega)]
      decide
    rw [h3]; simp
  rw [← h1, h2]
  constructor
  · intro h n hn
    have h4 : (List.range N).filter (fun i => bitAt bs i) = List.range N := (List.filter_sublist).eq_of_length (by rw [h, List.length_range])
    have h5 := List.filter_eq_self.1 h4 n (List.mem_range.2 hn)
    exact h5
  · intro h
    rw [List.filter_eq_self.2 (fun n hn => h n (List.mem_range.1 hn)), List.length_range]
theorem look_knows {X Y : Int} {fs : List Int} {bs : List Nat} {ms : List (Option Int)} (he : lookE X Y X Y fs.length = 0) (g : Good X Y bs) (hl : ms.length = fs.length) (h : (∀ n, n < fs.length → bitAt bs n = true) ∨ ms = List.replicate fs.length none) : KnowsJ bs fs (lookS X Y X Y fs bs ms).1 := by
  refine ⟨by rw [lookS_len, hl], fun n hn => ?_⟩
  rw [look_at he g (by omega)]
  by_cases hb : bitAt bs n = true
  · rw [if_pos hb, if_pos hb]
  · rw [if_neg hb, if_neg hb]
    rcases h with h | rfl
    · exact absurd (h n hn) hb
    · rw [List.getElem?_replicate, if_pos hn]
/-- All cells of a map, put into a set. -/
theorem all_bits {A B : Int} (hm : mayB A B = true) {n : Nat} (hn : (n : Int) < A * B) : bitAt (putAll A (List.replicate ((A * B + 7) / 8).toNat 0) (boxCells 0 0 A B)) n = true := by
  obtain ⟨h1, h2, h3, h4⟩ := mayB_iff.1 hm
  have hin : ∀ z ∈ boxCells 0 0 A B, inB A B z.1 z.2 = true := by
    intro z hz
    have h := hasB_iff.1 (mem_boxCells.1 hz)
    rw [inB_iff]
    omega
  have g := Good.putAll (good_zero0 hm) _ hin
  obtain ⟨a1, a2, _⟩ := atC_num hm hn
  have hmem : atC A n ∈ boxCells 0 0 A B := by
    rw [mem_boxCells, hasB_iff, rightB_iff]
    obtain ⟨_, _, _, _, k5, k6, k7, k8⟩ := inB_iff.1 a1
    omega
  have h := (inM_putAll (good_zero0 hm) hin (atC A n)).2 (.inr hmem)
  unfold inM at h
  rw [a1, a2, Bool.true_and] at h
  exact h
theorem all_good {A B : Int} (hm : mayB A B = true) : Good A B (putAll A (List.replicate ((A * B + 7) / 8).toNat 0) (boxCells 0 0 A B)) := by
  obtain ⟨h1, h2, h3, h4⟩ := mayB_iff.1 hm
  refine Good.putAll (good_zero0 hm) _ fun z hz => ?_
  have h := hasB_iff.1 (mem_boxCells.1 hz)
  rw [inB_iff]
  omega
/-- A set asked to hold a cell, or not, on the map or off it. -/
def setV (A B : Int) (bs : List Nat) (c : Int × Int) (v : Bool) : List Nat := if inB A B c.1 c.2 = true then setB bs (numC A c) v else bs
theorem Good.setV {A B : Int} {bs : List Nat} (g : Good A B bs) (c : Int × Int) (v : Bool) : Good A B (setV A B bs c v) := by
  unfold Proofs.Ytmcgkoleaomjlaa.setV
  split
  · rename_i h; exact g.set h v
  · exact g
theorem set_v (b h : Nat) (X Y x y : Int) (bs : List Nat) (v : Bool) (w : World) (hm : MaskAt w b h X Y bs) (hg : Good X Y bs) (hne : b ≠ h) :
    Calls Try.prog 38 #[.pointer (some ⟨b, 0, none⟩), .agg #[.int .i64 x, .int .i64 y], .bool v] w fun e w' => (∃ q, e = .returned (.int .i64 q)) ∧ MaskAt w' b h X Y (setV X Y bs (x, y) v) ∧ w.grownBy w' (some h) := by
  cases hi : inB X Y x y with
  | true =>
    have e1 : setV X Y bs (x, y) v = setB bs (y * X + x).toNat v := by unfold setV; rw [if_pos (by exact hi)]; rfl
    rw [e1]
    exact (set_yes b h X Y x y bs v w hm hg hne hi).mono fun e w' ⟨he, h1, h2⟩ => ⟨⟨_, he⟩, h1, h2⟩
  | false =>
    have e1 : setV X Y bs (x, y) v = bs := by unfold setV; rw [if_neg (by rw [show inB X Y (x, y).1 (x, y).2 = false from hi]; decide)]
    rw [e1]
    exact (set_no b h X Y x y bs v w hm hi).mono fun e w' ⟨he, h1⟩ => ⟨⟨_, he⟩, hm.below h1, grown_weak (grown_of_below h1) _⟩
theorem expl_eq (C g h cap : Nat) (X Y : Int) (ms : List (Option Int)) (k : Int) (bs : List Nat) (fs : List Int) (w : World) (m : FogAt w C g h cap X Y ms k) (kj : KnowsJ bs fs ms) (gd : Good X Y bs) (hl : (fs.length : Int) = X * Y) :
    Calls Try.prog 21 #[.pointer (some ⟨g, 0, none⟩)] w fun e w' => ∃ b hb, e = .returned (.pointer (some ⟨b, 0, none⟩)) ∧ MaskAt w' b hb X Y bs ∧ Below w.heap.size w w' :=
  (expl_any C g h cap X Y ms k w m gd.1 (by rw [kj.1]; exact hl)).mono fun e w' ⟨b, hb, he, hm, _, _, _, hbl⟩ => ⟨b, hb, he, by rw [knows_expl kj gd hl] at hm; exact hm, hbl⟩
theorem count_eq (b h : Nat) (X Y : Int) (bs : List Nat) (on : Nat) (w : World) (hm : MaskAt w b h X Y bs) (gd : Good X Y bs) (ho : ones bs = on) :
    Calls Try.prog 22 #[.pointer (some ⟨b, 0, none⟩)] w fun e w' => e = .returned (.int .i64 (on : Nat)) ∧ w = w' := by
  subst ho
  exact count_any b h X Y bs w hm gd.2.2.1 gd.small
end Go.Proofs.Ytmcgkoleaomjlaa

/- A loop over the cells of a box, outermost: the law for whoever writes it, where text Va stands too. -/
namespace Go.Proofs.Ytmcgkoleaomjlaa
open Go.RowKit Go.Shelf
attribute [local go_sem] Oper.semAt_some

/-- How the body of a round may be left: at its end, or by a return. -/
def bodyC (b n₁ : Nat) (I Ix : List (Int × Int) → World → Prop) (xs : List (Int × Int)) (W : World) : Exit → Act → World → Prop
  | .normal, _, W' => KeptB b n₁ W W' ∧ I xs W'
  | .ret, _, W' => KeptB b n₁ W W' ∧ Ix xs W'
  | _, _, _ => False

set_option maxHeartbeats 1000000 in
theorem range_cells {ps : Array Tmp} {assign body : Code} {g : Operand} {Q : Exit → Act → World → Prop} {a : Act} {w : World} (b : Nat) (X Y U V : Int) (N : Nat) (hN : N = rowsOf X Y U V * U.toNat)
    (hg : a.eval g = .func (.func 52) #[] #[.pointer (some ⟨b, 0, none⟩)]) (hps : ps.size = 1) (hB : BoxAt w b X Y U V)
    (I Ix : List (Int × Int) → World → Prop) (hI : OwnFrom w.heap.size I) (hIx : OwnFrom w.heap.size Ix) (h0 : I [] w)
    (Ax : Int × Int → Act → World → Prop) (hAx : ∀ p a', OwnFrom w.heap.size (fun (_ : Unit) W => Ax p a' W))
    (hassign : ∀ (l : Nat) (pre : List (Int × Int)) (p : Int × Int) (W : World) (K : Act → World → Prop), I pre W → (∀ a' W', KeptB b w.heap.size W W' → I pre W' → Ax p a' W' → K a' W') →
      assign.wpIn (Fence.wide.inRound l) 7 Try.prog (Exit.then K (fun _ _ _ => False)) { tmps := (ps.zip #[.agg #[.int .i64 p.1, .int .i64 p.2]]).foldl (fun t (p, v) => t.setIfInBounds p v) a.tmps, defers := [] } W)
    (hbody : ∀ (l : Nat) (pre : List (Int × Int)) (p : Int × Int) (a' : Act) (W : World), I pre W → Ax p a' W → pre.length < N → body.wpIn (Fence.wide.inRound l) 7 Try.prog (bodyC b w.heap.size I Ix (pre ++ [p]) W) a' W)
    (hdone : ∀ (D : Nat) (W : World), w.heap.size ≤ D → I (cellsOf X U.toNat (upto (fun j => Y + (j : Int)) (rowsOf X Y U V))) W → W.heap[D]? = some (.deferred (some [])) → Q .normal { a with defers := { target := .collected D, args := #[] } :: a.defers } W)
    (hstop : ∀ (D : Nat) (q : List (Int × Int)) (W : World), w.heap.size ≤ D → q <+: cellsOf X U.toNat (upto (fun j => Y + (j : Int)) (rowsOf X Y U V)) → Ix q W → W.heap[D]? = some (.deferred (some [])) → Code.ret.wpIn Fence.wide 11 Try.prog Q { a with defers := { target := .collected D, args := #[] } :: a.defers } W) :
    (Code.rangeFunc g ps assign body).wpIn Fence.wide 11 Try.prog Q a w := by
  have hbl := blk_lt hB.1
  refine wpIn_rangeFunc fun fn hfn => ?_
  obtain ⟨R, hR⟩ : ∃ R : LoopState → Option Code → Loop, R = fun st pe => { state := st, pending := pe, fn, tmps := a.tmps, params := ps, assign, body, defers := w.heap.size } := ⟨_, rfl⟩
  obtain ⟨W1, hW1⟩ : ∃ W1, (w.alloc (.deferred (some []))).alloc (.loop (R .ready none)) = W1 := ⟨_, rfl⟩
  have hz : W1.heap.size = w.heap.size + 2 := by rw [← hW1]; simp
  have hk1 : Below w.heap.size w W1 := by rw [← hW1]; exact bl_al (bl_al (bl0 _) _) _
  have hL1 : W1.heap[w.heap.size + 1]? = some (.loop (R .ready none)) := by
    have h := World.alloc_heap_new (w.alloc (.deferred (some []))) (.loop (R .ready none))
    rw [World.size_alloc] at h
    rw [← hW1]; exact h
  have hD1 : W1.heap[w.heap.size]? = some (.deferred (some [])) := by
    rw [← hW1]; exact (Below.heap_alloc _ _ _ (by simp)).trans (World.alloc_heap_new w _)
  have hB1 : BoxAt W1 b X Y U V := hB.kept (hk1.block b hbl)
  have hI1 : I [] W1 := hI [] w W1 none h0 (grown_of_below hk1) (fun r e => by cases e)
  refine ⟨w.heap.size + 1, [{ target := .collected w.heap.size, args := #[] }], W1, { target := .fn (.func 52) #[.pointer (some ⟨b, 0, none⟩)], args := #[.func (.yield (w.heap.size + 1)) #[] #[]] }, W1, 52,
    #[.func (.yield (w.heap.size + 1)) #[] #[], .pointer (some ⟨b, 0, none⟩)], W1, ?_, ?_, ?_, ?_, (fun h => by cases h), ?_⟩
  · rw [← hW1, hR]; exact run_enterLoop_outer _ _ _ _ _
  · simp only [resolve, hg]
    simp [go_sem]
  · intro f' _; exact trivial
  · simp [invoke, go_sem]
  refine (cells1_in (w.heap.size + 1) b X Y U V N hN
    (fun pre W => I pre W ∧ W.heap[w.heap.size + 1]? = some (.loop (R .ready none)) ∧ W.heap[w.heap.size]? = some (.deferred (some [])))
    (fun pre W => Ix pre W ∧ W.heap[w.heap.size + 1]? = some (.loop (R .done (some .ret))) ∧ W.heap[w.heap.size]? = some (.deferred (some [])))
    W1 ?oJ ?oJx ?round hB1 ⟨hI1, hL1, hD1⟩).mono ?behind
  case oJ =>
    intro s A B row hs hg' hr
    refine ⟨hI s A B row hs.1 hg' (fun r e => ⟨by have := (hr r e).1; omega, (hr r e).2⟩), (hg'.block _ (Array.getElem?_eq_some_iff.1 hs.2.1).1 (fun e => by have := (hr _ e.symm).1; omega)).trans hs.2.1, (hg'.block _ (Array.getElem?_eq_some_iff.1 hs.2.2).1 (fun e => by have := (hr _ e.symm).1; omega)).trans hs.2.2⟩
  case oJx =>
    intro s A B row hs hg' hr
    refine ⟨hIx s A B row hs.1 hg' (fun r e => ⟨by have := (hr r e).1; omega, (hr r e).2⟩), (hg'.block _ (Array.getElem?_eq_some_iff.1 hs.2.1).1 (fun e => by have := (hr _ e.symm).1; omega)).trans hs.2.1, (hg'.block _ (Array.getElem?_eq_some_iff.1 hs.2.2).1 (fun e => by have := (hr _ e.symm).1; omega)).trans hs.2.2⟩
  case behind =>
    rintro e W2 ⟨⟨v, rfl⟩, (⟨hi, hl, hk⟩ | ⟨q, hq, hi, hl, hk⟩)⟩
    · have he := run_endLoop (P := Try.prog) hl (by rw [hR]; simp)
      rw [hR] at he
      exact ⟨none, _, he, hdone _ _ (Nat.le_refl _) (hI _ W2 _ _ hi (grownBy_putObj' W2 _ _) (fun r e => by cases e; exact ⟨by omega, _, hl, rfl⟩)) ((World.putObj_heap_other (by omega)).trans hk)⟩
    · have he := run_endLoop (P := Try.prog) hl (by rw [hR]; simp)
      rw [hR] at he
      exact ⟨some .ret, _, he, hstop _ q _ (Nat.le_refl _) hq (hIx _ W2 _ _ hi (grownBy_putObj' W2 _ _) (fun r e => by cases e; exact ⟨by omega, _, hl, rfl⟩)) ((World.putObj_heap_other (by omega)).trans hk)⟩
  case round =>
    rintro pre p W ⟨hi, hl, hk⟩ hlen
    rw [hz]
    have hy := run_yield (P := Try.prog) (args := #[.agg #[.int .i64 p.1, .int .i64 p.2]]) hl (by rw [hR]; simp [hps])
    rw [hR] at hy
    refine yieldAt_any (m := 7) 0 ⟨fn, _, assign, body, hy, roundIn_of_wpIn hfn (hassign _ pre p W _ hi ?_)⟩
    intro a' Wa hka hia hax
    have hl2 := hka.heap (k := w.heap.size + 1) (by omega) hl
    have hk2 := hka.heap (k := w.heap.size) (by omega) hk
    refine ⟨_, run_beginRound hl2 (by rw [hR]), ?_⟩
    obtain ⟨W3, hW3⟩ : ∃ W3, Wa.putObj (w.heap.size + 1) (.loop { R .ready none with state := .busy }) = W3 := ⟨_, rfl⟩
    rw [hW3]
    have hl3 : W3.heap[w.heap.size + 1]? = some (.loop { R .ready none with state := .busy }) := by rw [← hW3]; exact World.putObj_heap_same (Array.getElem?_eq_some_iff.1 hl2).1
    have hk3 : W3.heap[w.heap.size]? = some (.deferred (some [])) := by rw [← hW3]; exact (World.putObj_heap_other (by omega)).trans hk2
    have hp3 : KeptB b (w.heap.size + 2) Wa W3 := by rw [← hW3]; exact KeptB.put _ (by omega) (by omega)
    have hg3 : Wa.grownBy W3 (some (w.heap.size + 1)) := by rw [← hW3]; exact grownBy_putObj' _ _ _
    have hr3 : ∀ r, some (w.heap.size + 1) = some r → w.heap.size ≤ r ∧ ∃ o : Obj, Wa.heap[r]? = some o ∧ o.isCells = false := fun r e => by cases e; exact ⟨by omega, _, hl2, rfl⟩
    refine wpIn_mono (hbody _ pre p a' W3 (hI _ Wa W3 _ hia hg3 hr3) (hAx p a' () Wa W3 _ hax hg3 hr3) hlen) ?_
    rintro e a3 W4 hp
    cases e with
    | normal =>
      obtain ⟨hb4, hi4⟩ := hp
      have hl4 := hb4.heap (k := w.heap.size + 1) (by omega) hl3
      have hk4 := hb4.heap (k := w.heap.size) (by omega) hk3
      have he := run_endRound (P := Try.prog) none hl4
      refine ⟨_, _, he, .inl ⟨rfl, ⟨hI _ W4 _ _ hi4 (grownBy_putObj' W4 _ _) (fun r e => by cases e; exact ⟨by omega, _, hl4, rfl⟩), ?_, (World.putObj_heap_other (by omega)).trans hk4⟩, ?_⟩⟩
      · rw [World.putObj_heap_same (Array.getElem?_eq_some_iff.1 hl4).1, hR]; rfl
      · exact ((((hka.up (by omega)).trans hp3).trans (hb4.up (by omega))).trans (KeptB.put _ (by omega) (by omega)))
    | ret =>
      obtain ⟨hb4, hi4⟩ := hp
      have hl4 := hb4.heap (k := w.heap.size + 1) (by omega) hl3
      have hk4 := hb4.heap (k := w.heap.size) (by omega) hk3
      have he := run_endRound (P := Try.prog) (some .ret) hl4
      refine ⟨_, _, he, .inr ⟨rfl, ⟨hIx _ W4 _ _ hi4 (grownBy_putObj' W4 _ _) (fun r e => by cases e; exact ⟨by omega, _, hl4, rfl⟩), ?_, (World.putObj_heap_other (by omega)).trans hk4⟩, ?_⟩⟩
      · rw [World.putObj_heap_same (Array.getElem?_eq_some_iff.1 hl4).1, hR]; rfl
      · exact ((((hka.up (by omega)).trans hp3).trans (hb4.up (by omega))).trans (KeptB.put _ (by omega) (by omega)))
    | exit id => exact hp.elim
    | goto t => exact hp.elim
    | panic ch => exact hp.elim
    | outgrown => exact hp.elim

/-- The frame of a round, the cell handed in. -/
def roundTmps (ps : Array Tmp) (T : Array Value) (p : Int × Int) : Array Value := (ps.zip #[.agg #[.int .i64 p.1, .int .i64 p.2]]).foldl (fun t (p, v) => t.setIfInBounds p v) T

/-- .. where the loop's variable is boxed, in slot sl. -/
theorem range_cells_box {ps : Array Tmp} {assign body : Code} {g : Operand} {Q : Exit → Act → World → Prop} {a : Act} {w : World} (b : Nat) (X Y U V : Int) (N : Nat) (hN : N = rowsOf X Y U V * U.toNat) (sl : Nat)
    (hg : a.eval g = .func (.func 52) #[] #[.pointer (some ⟨b, 0, none⟩)]) (hps : ps.size = 1) (hB : BoxAt w b X Y U V)
    (I Ix : List (Int × Int) → World → Prop) (hI : OwnFrom w.heap.size I) (hIx : OwnFrom w.heap.size Ix) (h0 : I [] w) (hsz : ∀ pre W, I pre W → w.heap.size ≤ W.heap.size)
    (hassign : ∀ (l : Nat) (p : Int × Int) (W : World) (K : Act → World → Prop), K { tmps := (roundTmps ps a.tmps p).setIfInBounds sl (.pointer (some ⟨W.heap.size, 0, none⟩)), defers := [] } (W.alloc (.cells #[.int .i64 p.1, .int .i64 p.2] 26)) →
      assign.wpIn (Fence.wide.inRound l) 7 Try.prog (Exit.then K (fun _ _ _ => False)) { tmps := roundTmps ps a.tmps p, defers := [] } W)
    (hbody : ∀ (l : Nat) (pre : List (Int × Int)) (p : Int × Int) (Bx : Nat) (W : World), I pre W → w.heap.size ≤ Bx → W.cell? ⟨Bx, 0, none⟩ = some (.int .i64 p.1) → W.cell? ⟨Bx, 1, none⟩ = some (.int .i64 p.2) → pre.length < N →
      body.wpIn (Fence.wide.inRound l) 7 Try.prog (bodyC b w.heap.size I Ix (pre ++ [p]) W) { tmps := (roundTmps ps a.tmps p).setIfInBounds sl (.pointer (some ⟨Bx, 0, none⟩)), defers := [] } W)
    (hdone : ∀ (D : Nat) (W : World), w.heap.size ≤ D → I (cellsOf X U.toNat (upto (fun j => Y + (j : Int)) (rowsOf X Y U V))) W → W.heap[D]? = some (.deferred (some [])) → Q .normal { a with defers := { target := .collected D, args := #[] } :: a.defers } W)
    (hstop : ∀ (D : Nat) (q : List (Int × Int)) (W : World), w.heap.size ≤ D → q <+: cellsOf X U.toNat (upto (fun j => Y + (j : Int)) (rowsOf X Y U V)) → Ix q W → W.heap[D]? = some (.deferred (some [])) → Code.ret.wpIn Fence.wide 11 Try.prog Q { a with defers := { target := .collected D, args := #[] } :: a.defers } W) :
    (Code.rangeFunc g ps assign body).wpIn Fence.wide 11 Try.prog Q a w := by
  refine range_cells b X Y U V N hN hg hps hB I Ix hI hIx h0
    (fun p a' W => ∃ Bx, w.heap.size ≤ Bx ∧ W.cell? ⟨Bx, 0, none⟩ = some (.int .i64 p.1) ∧ W.cell? ⟨Bx, 1, none⟩ = some (.int .i64 p.2) ∧ a' = { tmps := (roundTmps ps a.tmps p).setIfInBounds sl (.pointer (some ⟨Bx, 0, none⟩)), defers := [] })
    ?_ ?_ ?_ hdone hstop
  · rintro p a' _ A B row ⟨Bx, h1, h2, h3, h4⟩ hg' hr
    exact ⟨Bx, h1, cell_kept h2 hg' (fun r e => (hr r e).2), cell_kept h3 hg' (fun r e => (hr r e).2), h4⟩
  · intro l pre p W K hi hK
    have hsw := hsz pre W hi
    refine hassign l p W K (hK _ _ ?_ ?_ ⟨W.heap.size, hsw, by simp [go_sem], by simp [go_sem], rfl⟩)
    · exact ⟨by simp, fun k _ hl => Below.heap_alloc W _ k hl⟩
    · exact hI pre W _ none hi (World.grownBy_alloc W _ none) (fun r e => by cases e)
  · rintro l pre p a' W hi ⟨Bx, h1, h2, h3, rfl⟩ hlen
    exact hbody l pre p Bx W hi h1 h2 h3 hlen
end Go.Proofs.Ytmcgkoleaomjlaa

/- Package mask: Add, Keep and Same. -/
namespace Go.Proofs.Ytmcgkoleaomjlaa
open Go.RowKit



theorem MaskAt.bytesIn {W : World} {b h : Nat} {X Y : Int} {bs : List Nat} (m : MaskAt W b h X Y bs) : Lib.BytesIn W (some ⟨h, 0, none⟩) bs.length (bs.map (fun x : Nat => (x : Int))) := by
  refine Lib.BytesIn.of_cells fun i hi => ?_
  have hadd : (⟨h, 0, none⟩ : Addr).add i = ⟨h, i, none⟩ := by unfold Addr.add; split <;> simp_all
  rw [hadd, m.at (List.getElem?_eq_getElem hi)]
  simp [List.getD_eq_getElem?_getD, hi]
theorem bytesOf_inj {cs ds : List Nat} (hc : IsBytes cs) (hd : IsBytes ds) : (Lib.bytesOf (cs.map (fun x : Nat => (x : Int))) == Lib.bytesOf (ds.map (fun x : Nat => (x : Int)))) = decide (cs = ds) := by
  rw [Bool.eq_iff_iff, beq_iff_eq, decide_eq_true_eq]
  constructor
  · intro h
    unfold Lib.bytesOf at h
    rw [List.map_map, List.map_map] at h
    have hl : cs.length = ds.length := by simpa using congrArg List.length h
    apply List.ext_getElem hl
    intro i h1 h2
    have := congrArg (fun l => l[i]?) h
    simp [h1, h2] at this
    have a := hc _ (List.getElem_mem h1)
    have b := hd _ (List.getElem_mem h2)
    have e := congrArg UInt8.toNat this
    simpa [Nat.mod_eq_of_lt a, Nat.mod_eq_of_lt b] using e
  · rintro rfl; rfl

set_option maxHeartbeats 800000 in
theorem msame_any (b h b2 h2 : Nat) (X Y : Int) (cs ds : List Nat) (w : World) (hm : MaskAt w b h X Y cs) (hm2 : MaskAt w b2 h2 X Y ds) (hc : IsBytes cs) (hd : IsBytes ds) :
    Calls Try.prog 39 #[.pointer (some ⟨b, 0, none⟩), .pointer (some ⟨b2, 0, none⟩)] w fun e w' => e = .returned (.bool (decide (cs = ds))) ∧ Below w.heap.size w w' := by
  have c0 := hm.c0
  have c1 := hm.c1
  have c2 := hm.c2
  have d0 := hm2.c0
  have d1 := hm2.c1
  have d2 := hm2.c2
  have hE : ∀ n, Calls Try.prog 54 #[.slice (some ⟨h, 0, none⟩) cs.length cs.length, .slice (some ⟨h2, 0, none⟩) ds.length ds.length] (w.drewN n) fun e w' => e = .returned (.bool (decide (cs = ds))) ∧ w' = w.drewN n := fun n => by
    have hq := Try.bytes_Equal_all (some ⟨h, 0, none⟩) (some ⟨h2, 0, none⟩) cs.length cs.length ds.length ds.length _ _ (w.drewN n) (by simp) (by simp) (hm.below (bl_drn w n)).bytesIn (hm2.below (bl_drn w n)).bytesIn
    rw [bytesOf_inj hc hd] at hq
    exact hq
  clear hm hm2 hc hd
  go_enter Try.func39, Try.ntmps39
  go_wp2
  go_quiet ((go_at_call 54; exact Calls.quiet_of_same (hE _)))
  go_wp2
  go_ret
  exact ⟨rfl, bl_drn _ _⟩
end Go.Proofs.Ytmcgkoleaomjlaa
