/- MaskNil: the law's walk. -/
import Derived.Test.YtgkeifjnnpcleaaJe
import Derived.Test.YtgkeifjnnpcleaaJd
import Derived.Test.YtgkeifjnnpcleaaJs
import Derived.Test.YtgkeifjnnpcleaaJu
import Derived.Test.YtgkeifjnnpcleaaJn
import Derived.Test.YtgkeifjnnpcleaaKj
import Derived.Test.YtgkeifjnnpcleaaKo
namespace Go.Proofs.Ytgkeifjnnpcleaa
open Go.RowKit Go.Shelf
attribute [local go_sem] Oper.semAt_some

theorem neq_nilM (k : Nat) (w : World) : (binOp .neq 67 (.func (.func 49) #[] #[.pointer (some ⟨k, 0, none⟩)]) .nilFunc).run Try.prog w = .ok (.bool true) w := by
  kernel_rfl
theorem mcells_any (v : Option Addr) (w : World) :
    Calls Try.prog 36 #[.pointer v] w fun e w' => e = .returned (.func (.func 49) #[] #[.pointer (some ⟨w.heap.size, 0, none⟩)]) ∧ w' = w.alloc (.cells #[.pointer v] 27) :=
  (callsIn_wide (n := 11)).1 (mcells_in _ _ _)

theorem cell_put {W : World} {k o D : Nat} {v : Value} (ob : Obj) (h : W.cell? ⟨k, o, none⟩ = some v) (hne : k ≠ D) : (W.putObj D ob).cell? ⟨k, o, none⟩ = some v :=
  (World.cell?_of_block (a := ⟨k, o, none⟩) (World.putObj_heap_other (by first | exact hne | exact hne.symm))).trans h
/-- A walk's own list of deferred calls, empty. -/
def DefAt (D : Nat) (W : World) : Prop := W.heap[D]? = some (.deferred (some []))
theorem DefAt.below {W W' : World} {D : Nat} (h : DefAt D W) (hb : Below W.heap.size W W') : DefAt D W' := (hb.block D (Array.getElem?_eq_some_iff.1 h).1).trans h
theorem DefAt.set {W : World} {D k o : Nat} (h : DefAt D W) (hne : D ≠ k) (u : Value) : DefAt D (W.setCell ⟨k, o, none⟩ u) := (Below.heap_setCell W ⟨k, o, none⟩ u D hne).trans h
/-- The two sizes, the number, and the answer, in their boxes. -/
def HeldN (w : World) (A B C D n : Int) (W : World) : Prop := Below w.heap.size w W ∧ (W.cell? ⟨w.heap.size, 0, none⟩ = some (.int .i64 A) ∧ W.cell? ⟨w.heap.size, 1, none⟩ = some (.int .i64 B) ∧ W.cell? ⟨w.heap.size, 2, none⟩ = some (.int .i64 C) ∧ W.cell? ⟨w.heap.size, 3, none⟩ = some (.int .i64 D)) ∧
  W.cell? ⟨w.heap.size + 1, 0, none⟩ = some (.int .i64 n) ∧ Boxed W (w.heap.size + 1 + 1) 4 (.bool false)

theorem boxed_below {W W' : World} {B : Nat} {t : TypeId} {v : Value} (h : Boxed W B t v) (hb : Below W.heap.size W W') : Boxed W' B t v := (hb.block B h.lt).trans h
theorem HeldN.lt {w W : World} {A B C D n : Int} (h : HeldN w A B C D n W) : w.heap.size + 3 ≤ W.heap.size := h.2.2.2.lt
theorem HeldN.own {w W W' : World} {A B C D n : Int} {n₁ : Nat} {row : Option Nat} (h : HeldN w A B C D n W) (hn : w.heap.size + 3 ≤ n₁) (hg : W.grownBy W' row) (hr : ∀ r, row = some r → n₁ ≤ r ∧ ∃ o : Obj, W.heap[r]? = some o ∧ o.isCells = false) : HeldN w A B C D n W' := by
  obtain ⟨h0, ⟨h1, h2, h3, h4⟩, h5, h6⟩ := h
  have k := fun r e => (hr r e).2
  exact ⟨h0.grown hg h0.size (fun r e => by have := (hr r e).1; omega), ⟨cell_kept h1 hg k, cell_kept h2 hg k, cell_kept h3 hg k, cell_kept h4 hg k⟩, cell_kept h5 hg k, h6.kept hg (fun e => by have := (hr _ e.symm).1; omega)⟩
theorem heldN_lt {w W : World} {A B C D n : Int} (h : HeldN w A B C D n W) : w.heap.size + 3 ≤ W.heap.size := h.2.2.2.lt
theorem HeldN.grown {w W W' : World} {A B C D n : Int} {g : Nat} (h : HeldN w A B C D n W) (hg : W.grownBy W' (some g)) (hl : w.heap.size + 3 ≤ g) : HeldN w A B C D n W' := by
  obtain ⟨h0, ⟨h1, h2, h3, h4⟩, h5, h6⟩ := h
  have n0 : some w.heap.size ≠ some g := fun e => by have := Option.some.inj e; omega
  have n1 : some (w.heap.size + 1) ≠ some g := fun e => by have := Option.some.inj e; omega
  have n2 : some (w.heap.size + 1 + 1) ≠ some g := fun e => by have := Option.some.inj e; omega
  exact ⟨h0.grown hg h0.size (fun r e => by have := Option.some.inj e; omega), ⟨hg.cell h1 n0, hg.cell h2 n0, hg.cell h3 n0, hg.cell h4 n0⟩, hg.cell h5 n1, h6.kept hg n2⟩
theorem DefAt.grown {W W' : World} {D b g : Nat} {X Y : Int} {bs : List Nat} (h : DefAt D W) (hg : W.grownBy W' (some g)) (hm : MaskAt W b g X Y bs) : DefAt D W' :=
  (hg.block D (Array.getElem?_eq_some_iff.1 h).1 (fun e => by
    have e1 := Option.some.inj e
    have h1 := hm.2
    rw [← e1, show W.heap[D]? = _ from h] at h1
    cases h1)).trans h
/-- What the counting loop holds. -/
def KeepN (w : World) (A B C D n : Int) (D1 KB : Nat) (k : Int) (W : World) : Prop := HeldN w A B C D n W ∧ DefAt D1 W ∧ Boxed W KB 3 (.int .i64 k)
theorem KeepN.own {w W W' : World} {A B C D n k : Int} {D1 KB n₁ : Nat} {row : Option Nat} (h : KeepN w A B C D n D1 KB k W) (hn : w.heap.size + 3 ≤ n₁) (hk : D1 < n₁ ∧ KB < n₁) (hg : W.grownBy W' row) (hr : ∀ r, row = some r → n₁ ≤ r ∧ ∃ o : Obj, W.heap[r]? = some o ∧ o.isCells = false) : KeepN w A B C D n D1 KB k W' :=
  ⟨h.1.own hn hg hr, (hg.block D1 (Array.getElem?_eq_some_iff.1 h.2.1).1 (fun e => by have := (hr _ e.symm).1; omega)).trans h.2.1, h.2.2.kept hg (fun e => by have := (hr _ e.symm).1; omega)⟩
theorem KeepN.set {w W : World} {A B C D n k : Int} {D1 KB : Nat} (h : KeepN w A B C D n D1 KB k W) (h1 : w.heap.size + 3 ≤ KB) (h2 : D1 < KB) (u : Int) : KeepN w A B C D n D1 KB u (W.setCell ⟨KB, 0, none⟩ (.int .i64 u)) :=
  ⟨h.1.grown (grownBy_setCell' W KB _) h1, h.2.1.set (by omega) _, h.2.2.set _⟩
theorem set_kept {W : World} {p b h m B : Nat} {v : Value} (hBn : B < m) (h1 : B ≠ p) (h2 : B ≠ b) (h3 : B ≠ h) : KeptM p b h m 4 W (W.setCell ⟨B, 0, none⟩ v) :=
  ⟨by simp, fun i hi _ => Below.heap_setCell _ _ _ i (show i ≠ B by rcases hi with h | h | h | h <;> omega), fun i o hi ho _ => (Below.heap_setCell _ _ _ i (show i ≠ B by omega)).trans ho⟩
theorem ones_and_zero : ∀ (cs : List Nat) (n : Nat), ones (joinB (fun a b => a &&& b) cs (List.replicate n 0)) = 0
  | [], n => by simp [ones, joinB]
  | c :: cs, 0 => by simp [ones, joinB]
  | c :: cs, n + 1 => by
    have h := ones_and_zero cs n
    unfold ones joinB at *
    rw [List.replicate_succ, List.zipWith_cons_cons, List.map_cons, List.sum_cons, h, Nat.and_zero]
    rfl
theorem heldN_bel {w W : World} {A B C D n : Int} (h : HeldN w A B C D n W) : Below w.heap.size w W := h.1
theorem HeldN.below {w W W' : World} {A B C D n : Int} (h : HeldN w A B C D n W) (hb : Below W.heap.size W W') : HeldN w A B C D n W' := by
  obtain ⟨h0, ⟨h1, h2, h3, h4⟩, h5, h6⟩ := h
  exact ⟨bl_tr h0 hb, ⟨cell_later hb h1, cell_later hb h2, cell_later hb h3, cell_later hb h4⟩, cell_later hb h5, boxed_below h6 hb⟩

theorem range_actM {ps : Array Tmp} {assign body : Code} {g : Operand} {Q : Exit → Act → World → Prop} {a : Act} {w : World} (p b h gf : Nat) (lb : Array Value) (cs : List (Int × Int)) (hit : IterM p b h gf lb cs w)
    (hg : a.eval g = .func (.func gf) #[] lb) (hps : ps.size = 1) (hp : p < w.heap.size) (hb : b < w.heap.size) (hh : h < w.heap.size)
    (hen : ∀ args w', (callFunc gf args).run Try.prog w' = .ok (.enter gf args) w')
    (I : List (Int × Int) → World → Prop) (Ix : Code → List (Int × Int) → World → Prop) (hI : OwnFrom w.heap.size I) (hIx : ∀ c, OwnFrom w.heap.size (Ix c)) (h0 : I [] w)
    (hassign : ∀ (l : Nat) (pre : List (Int × Int)) (c : Int × Int) (W : World) (K : Act → World → Prop), I pre W → (∀ a' W', KeptM p b h w.heap.size 4 W W' → I pre W' → a' = { tmps := (ps.zip #[.agg #[.int .i64 c.1, .int .i64 c.2]]).foldl (fun t (p, v) => t.setIfInBounds p v) a.tmps, defers := [] } → K a' W') →
      assign.wpIn (Fence.wide.inRound l) 7 Try.prog (Exit.then K (fun _ _ _ => False)) { tmps := (ps.zip #[.agg #[.int .i64 c.1, .int .i64 c.2]]).foldl (fun t (p, v) => t.setIfInBounds p v) a.tmps, defers := [] } W)
    (hbody : ∀ (l : Nat) (pre : List (Int × Int)) (c : Int × Int) (a' : Act) (W : World), I pre W → a' = { tmps := (ps.zip #[.agg #[.int .i64 c.1, .int .i64 c.2]]).foldl (fun t (p, v) => t.setIfInBounds p v) a.tmps, defers := [] } → w.heap.size + 4 ≤ W.heap.size → pre.length < cs.length → body.wpIn (Fence.wide.inRound l) 7 Try.prog (bodyM p b h w.heap.size I Ix (pre ++ [c]) W) a' W)
    (hdone : ∀ (D : Nat) (W : World), w.heap.size ≤ D → I cs W → W.heap[D]? = some (.deferred (some [])) → Q .normal { a with defers := { target := .collected D, args := #[] } :: a.defers } W)
    (hstop : ∀ (D : Nat) (c : Code) (q : List (Int × Int)) (W : World), w.heap.size ≤ D → q <+: cs → Ix c q W → W.heap[D]? = some (.deferred (some [])) → c.wpIn Fence.wide 11 Try.prog Q { a with defers := { target := .collected D, args := #[] } :: a.defers } W) :
    (Code.rangeFunc g ps assign body).wpIn Fence.wide 11 Try.prog Q a w :=
  range_iter p b h gf lb cs hit hg hps hp hb hh hen I Ix hI hIx h0
    (fun c a' _ => a' = { tmps := (ps.zip #[.agg #[.int .i64 c.1, .int .i64 c.2]]).foldl (fun t (p, v) => t.setIfInBounds p v) a.tmps, defers := [] })
    (fun _ _ _ _ _ _ h _ _ => h) hassign hbody hdone hstop

set_option maxRecDepth 100000 in
set_option maxHeartbeats 4000000 in
theorem nil_walk (A B C D n : Int) (a : Option Addr) (ca : Nat) (zs : List (Int × Int)) (w : World) (ra : RowC w a zs) :
    Calls Try.prog 7 #[.agg #[.int .i64 A, .int .i64 B, .int .i64 C, .int .i64 D], .slice a zs.length ca, .int .i64 n] w fun e w' => e = .returned (.bool true) ∧ Below w.heap.size w w' := by
  have RA := Lib.hid ra
  clear ra
  refine (callsIn_wide (n := 11)).1 (callsIn_of_wp_marks Try.func7 rfl trivial ?_ rfl)
  simp only [Try.ntmps7, List.size_toArray, List.length_cons, List.length_nil, Nat.reduceAdd, Nat.reduceSub, Array.replicate_succ, Array.replicate_zero, List.push_toArray, List.append_toArray, List.nil_append, List.cons_append]
  refine wpIn_wide.2 ?_
  have hn := neq_nilM
  go_wp2_with fail
  obtain ⟨w0, hw0⟩ : ∃ w0, ((w.alloc (.cells #[.int .i64 A, .int .i64 B, .int .i64 C, .int .i64 D] 65)).alloc (.cells #[.int .i64 n] 3)).alloc (.cells #[.bool false] 4) = w0 := ⟨_, rfl⟩
  have hH : HeldN w A B C D n w0 := by
    rw [← hw0]
    refine ⟨bl_al (bl_al (bl_al (bl0 w) _) _) _, ⟨by simp [go_sem], by simp [go_sem], by simp [go_sem], by simp [go_sem]⟩, by simp [go_sem], ?_⟩
    have h := Boxed.new ((w.alloc (.cells #[.int .i64 A, .int .i64 B, .int .i64 C, .int .i64 D] 65)).alloc (.cells #[.int .i64 n] 3)) 4 (.bool false)
    simpa using h
  have H := Lib.hid hH
  rw [hw0]
  clear hw0 hH
  have g22 : mayB 2 2 = true := by decide
  refine (made_yes 2 2 none 0 [] w0 g22 (.inl rfl) (by decide) (fun z hz => by simp at hz)).mono ?_
  rintro e w1 ⟨b, h, rfl, mk, _, _, _, hb⟩
  have MK := Lib.hid mk
  replace H := Lib.hid (H.out.below hb)
  clear hb mk g22
  go_wp2_with fail
  refine (add_nil _ _).mono ?_
  rintro e w2 ⟨rfl, hb⟩
  replace H := Lib.hid (H.out.below hb)
  clear hb
  go_wp2_with fail
  refine (keep_nil2 _ _).mono ?_
  rintro e w3 ⟨rfl, hb⟩
  replace H := Lib.hid (H.out.below hb)
  clear hb
  go_wp2_with fail
  refine (mcells_any _ _).mono ?_
  rintro e w4 ⟨rfl, rfl⟩
  go_wp2_with fail
  obtain ⟨w4, hw4⟩ : ∃ w4, w3.alloc (.cells #[.pointer none] 27) = w4 := ⟨_, rfl⟩
  have hb : Below w3.heap.size w3 w4 := by rw [← hw4]; exact bl_al (bl0 w3) _
  have hnil : NilAt w4 w3.heap.size := by unfold NilAt; rw [← hw4]; simp [go_sem]
  have hp : w3.heap.size < w4.heap.size := by rw [← hw4]; simp
  replace H := Lib.hid (H.out.below hb)
  rw [hw4]
  clear hb hw4 hn
  refine wpIn_wide.1 (range_iter w3.heap.size w3.heap.size w3.heap.size 49 #[.pointer (some ⟨w3.heap.size, 0, none⟩)] [] (iter_nil _ _ hnil) rfl rfl hp hp hp
    (enters_of Try.func49 (by kernel_rfl) rfl)
    (fun pre W => pre = [] ∧ HeldN w A B C D n W) (fun _ _ _ => False) ?oI (fun _ _ _ _ _ h _ _ => h.elim) ⟨rfl, H.out⟩ (fun _ _ _ => True) (fun _ _ _ _ _ _ _ _ _ => trivial) ?assign ?body ?done ?stop)
  case oI => exact fun s _ _ row hs hg hr => ⟨hs.1, hs.2.own (Nat.le_trans H.out.lt (Nat.le_refl _)) hg hr⟩
  case assign =>
    rintro l pre c W K hI hK
    have HK := Lib.hid hK
    clear hK
    simp
    gi_wp2
    exact HK.out _ _ (KeptM.of_below (bl0 W)) hI trivial
  case body =>
    intro l pre c a' W _ _ _ hl
    simp at hl
  case stop => intro D' c q W _ _ h; exact h.elim
  case done =>
    rintro D1 W5 hD1 ⟨_, hH⟩ hK1
    have hD3 : w.heap.size + 3 ≤ D1 := Nat.le_trans H.out.lt hD1
    replace H := Lib.hid hH
    have K1 := Lib.hid (show DefAt D1 W5 from hK1)
    clear hH hK1 hD1 hnil hp MK
    obtain ⟨_, ⟨c0, c1, c2, c3⟩, _⟩ := H.out
    go_wp2_with (first
      | (go_at_call 14; (with_reducible refine (set_nil _ _ _ _).mono ?_); rintro e w6 ⟨rfl, hb⟩; replace H := Lib.hid (H.out.below hb); replace K1 := Lib.hid (K1.out.below hb); replace c0 := cell_later hb c0; replace c1 := cell_later hb c1; replace c2 := cell_later hb c2; replace c3 := cell_later hb c3; clear hb)
      | (go_at_call 16; (with_reducible refine (has_nil _ _ _).mono ?_); rintro e w6 ⟨rfl, hb⟩; replace H := Lib.hid (H.out.below hb); replace K1 := Lib.hid (K1.out.below hb); replace c0 := cell_later hb c0; replace c1 := cell_later hb c1; replace c2 := cell_later hb c2; replace c3 := cell_later hb c3; clear hb)
      | (go_at_call 19; (with_reducible refine (count_nil _).mono ?_); rintro e w6 ⟨rfl, rfl⟩)
      | (go_at_call 13; (with_reducible refine (size_nil _).mono ?_); rintro e w6 ⟨rfl, hb⟩; replace H := Lib.hid (H.out.below hb); replace K1 := Lib.hid (K1.out.below hb); replace c0 := cell_later hb c0; replace c1 := cell_later hb c1; replace c2 := cell_later hb c2; replace c3 := cell_later hb c3; clear hb)
      | (go_at_call 33; (with_reducible refine (same_nil _).mono ?_); rintro e w6 ⟨rfl, hb⟩; replace H := Lib.hid (H.out.below hb); replace K1 := Lib.hid (K1.out.below hb); replace c0 := cell_later hb c0; replace c1 := cell_later hb c1; replace c2 := cell_later hb c2; replace c3 := cell_later hb c3; clear hb)
      | (go_at_call 33; (with_reducible refine (same_nil1 _ _).mono ?_); rintro e w6 ⟨rfl, hb⟩; replace H := Lib.hid (H.out.below hb); replace K1 := Lib.hid (K1.out.below hb); replace c0 := cell_later hb c0; replace c1 := cell_later hb c1; replace c2 := cell_later hb c2; replace c3 := cell_later hb c3; clear hb)
      | (go_at_call 33; (with_reducible refine (same_nil2 _ _).mono ?_); rintro e w6 ⟨rfl, hb⟩; replace H := Lib.hid (H.out.below hb); replace K1 := Lib.hid (K1.out.below hb); replace c0 := cell_later hb c0; replace c1 := cell_later hb c1; replace c2 := cell_later hb c2; replace c3 := cell_later hb c3; clear hb)
      | (go_at_call 30; (with_reducible refine (clone_nil _).mono ?_); rintro e w6 ⟨rfl, rfl⟩)
      | (go_at_call 23; (with_reducible refine (bytes_nil _).mono ?_); rintro e w6 ⟨rfl, rfl⟩))
    refine (small_any _ _ _).mono ?_
    rintro e w7 ⟨rfl, hb⟩
    replace H := Lib.hid (H.out.below hb)
    replace K1 := Lib.hid (K1.out.below hb)
    clear c0 c1 c2 c3 hb
    obtain ⟨_, ⟨c0, c1, c2, c3⟩, _⟩ := H.out
    cases hsA : smallB A B
    · skip
      go_wp2_with fail
      refine (awake_any _).mono ?_
      rintro e w99 ⟨rfl, hb⟩
      replace H := Lib.hid (H.out.below hb)
      replace K1 := Lib.hid (K1.out.below hb)
      clear c0 c1 c2 c3 hb
      have c9 := H.out.2.2.2.cell
      have f9 := H.out.2.2.2.frozen
      go_wp2
      have hd4 := K1.out.set (k := w.heap.size + 1 + 1) (o := 0) (by omega) (.bool true)
      have r3 : ((w99.setCell ⟨w.heap.size + 1 + 1, 0, none⟩ (.bool true)).putObj D1 (.deferred none)).cell? ⟨w.heap.size + 1 + 1, 0, none⟩ = some (.bool true) := cell_put _ (by simp [go_sem, c9]) (by omega)
      refine ⟨by simp, .inl ⟨_, _, rfl, run_takeDeferred hd4, ⟨.bool true, by simp [results, Try.f7, go_sem, r3], rfl, ?_⟩⟩⟩
      have hb4 := bl_st H.out.1 (b := w.heap.size + 1 + 1) (o := 0) (by omega) (.bool true)
      exact hb4.grown (grownBy_putObj' _ D1 _) hb4.size (fun r e => by cases e; omega)
    · go_wp2_with fail
      refine (small_any _ _ _).mono ?_
      rintro e w8 ⟨rfl, hb⟩
      replace H := Lib.hid (H.out.below hb)
      replace K1 := Lib.hid (K1.out.below hb)
      clear c0 c1 c2 c3 hb
      obtain ⟨_, ⟨c0, c1, c2, c3⟩, _⟩ := H.out
      cases hsC : smallB C D
      · skip
        go_wp2_with fail
        refine (awake_any _).mono ?_
        rintro e w99 ⟨rfl, hb⟩
        replace H := Lib.hid (H.out.below hb)
        replace K1 := Lib.hid (K1.out.below hb)
        clear c0 c1 c2 c3 hb
        have c9 := H.out.2.2.2.cell
        have f9 := H.out.2.2.2.frozen
        go_wp2
        have hd4 := K1.out.set (k := w.heap.size + 1 + 1) (o := 0) (by omega) (.bool true)
        have r3 : ((w99.setCell ⟨w.heap.size + 1 + 1, 0, none⟩ (.bool true)).putObj D1 (.deferred none)).cell? ⟨w.heap.size + 1 + 1, 0, none⟩ = some (.bool true) := cell_put _ (by simp [go_sem, c9]) (by omega)
        refine ⟨by simp, .inl ⟨_, _, rfl, run_takeDeferred hd4, ⟨.bool true, by simp [results, Try.f7, go_sem, r3], rfl, ?_⟩⟩⟩
        have hb4 := bl_st H.out.1 (b := w.heap.size + 1 + 1) (o := 0) (by omega) (.bool true)
        exact hb4.grown (grownBy_putObj' _ D1 _) hb4.size (fun r e => by cases e; omega)
      · by_cases l0 : (100 : Int) < (zs.length : Int)
        · skip
          go_wp2_with fail
          refine (awake_any _).mono ?_
          rintro e w99 ⟨rfl, hb⟩
          replace H := Lib.hid (H.out.below hb)
          replace K1 := Lib.hid (K1.out.below hb)
          clear c0 c1 c2 c3 hb
          have c9 := H.out.2.2.2.cell
          have f9 := H.out.2.2.2.frozen
          go_wp2
          have hd4 := K1.out.set (k := w.heap.size + 1 + 1) (o := 0) (by omega) (.bool true)
          have r3 : ((w99.setCell ⟨w.heap.size + 1 + 1, 0, none⟩ (.bool true)).putObj D1 (.deferred none)).cell? ⟨w.heap.size + 1 + 1, 0, none⟩ = some (.bool true) := cell_put _ (by simp [go_sem, c9]) (by omega)
          refine ⟨by simp, .inl ⟨_, _, rfl, run_takeDeferred hd4, ⟨.bool true, by simp [results, Try.f7, go_sem, r3], rfl, ?_⟩⟩⟩
          have hb4 := bl_st H.out.1 (b := w.heap.size + 1 + 1) (o := 0) (by omega) (.bool true)
          exact hb4.grown (grownBy_putObj' _ D1 _) hb4.size (fun r e => by cases e; omega)
        · go_wp2_with fail
          refine (may_any _ _ _).mono ?_
          rintro e w9 ⟨rfl, hb⟩
          replace H := Lib.hid (H.out.below hb)
          replace K1 := Lib.hid (K1.out.below hb)
          clear c0 c1 c2 c3 hb
          obtain ⟨_, ⟨c0, c1, c2, c3⟩, _⟩ := H.out
          cases hmA : mayB A B
          · skip
            go_wp2_with fail
            refine (awake_any _).mono ?_
            rintro e w99 ⟨rfl, hb⟩
            replace H := Lib.hid (H.out.below hb)
            replace K1 := Lib.hid (K1.out.below hb)
            clear c0 c1 c2 c3 hb
            have c9 := H.out.2.2.2.cell
            have f9 := H.out.2.2.2.frozen
            go_wp2
            have hd4 := K1.out.set (k := w.heap.size + 1 + 1) (o := 0) (by omega) (.bool true)
            have r3 : ((w99.setCell ⟨w.heap.size + 1 + 1, 0, none⟩ (.bool true)).putObj D1 (.deferred none)).cell? ⟨w.heap.size + 1 + 1, 0, none⟩ = some (.bool true) := cell_put _ (by simp [go_sem, c9]) (by omega)
            refine ⟨by simp, .inl ⟨_, _, rfl, run_takeDeferred hd4, ⟨.bool true, by simp [results, Try.f7, go_sem, r3], rfl, ?_⟩⟩⟩
            have hb4 := bl_st H.out.1 (b := w.heap.size + 1 + 1) (o := 0) (by omega) (.bool true)
            exact hb4.grown (grownBy_putObj' _ D1 _) hb4.size (fun r e => by cases e; omega)
          · go_wp2_with fail
            refine (may_any _ _ _).mono ?_
            rintro e w10 ⟨rfl, hb⟩
            replace H := Lib.hid (H.out.below hb)
            replace K1 := Lib.hid (K1.out.below hb)
            clear c0 c1 c2 c3 hb
            obtain ⟨_, ⟨c0, c1, c2, c3⟩, _⟩ := H.out
            cases hmC : mayB C D
            · skip
              go_wp2_with fail
              refine (awake_any _).mono ?_
              rintro e w99 ⟨rfl, hb⟩
              replace H := Lib.hid (H.out.below hb)
              replace K1 := Lib.hid (K1.out.below hb)
              clear c0 c1 c2 c3 hb
              have c9 := H.out.2.2.2.cell
              have f9 := H.out.2.2.2.frozen
              go_wp2
              have hd4 := K1.out.set (k := w.heap.size + 1 + 1) (o := 0) (by omega) (.bool true)
              have r3 : ((w99.setCell ⟨w.heap.size + 1 + 1, 0, none⟩ (.bool true)).putObj D1 (.deferred none)).cell? ⟨w.heap.size + 1 + 1, 0, none⟩ = some (.bool true) := cell_put _ (by simp [go_sem, c9]) (by omega)
              refine ⟨by simp, .inl ⟨_, _, rfl, run_takeDeferred hd4, ⟨.bool true, by simp [results, Try.f7, go_sem, r3], rfl, ?_⟩⟩⟩
              have hb4 := bl_st H.out.1 (b := w.heap.size + 1 + 1) (o := 0) (by omega) (.bool true)
              exact hb4.grown (grownBy_putObj' _ D1 _) hb4.size (fun r e => by cases e; omega)
            · have GA := Lib.hid (setOf_good hmA zs)
              have GB := Lib.hid (good_zero hmC)
              have HMA := Lib.hid hmA
              have lz : zs.length ≤ 1048576 := by omega
              have LM := Lib.hid (Nat.le_trans (onMap_le A B zs) lz)
              have LZ := Lib.hid lz
              have MBC := Lib.hid (fun w => made_yes C D none 0 [] w hmC (.inl rfl) (by decide) (fun z hz => by simp at hz))
              have MDA := Lib.hid (fun a' cap' w hr => made_yes A B a' cap' (onMap A B zs) w hmA hr LM.out (onMap_in A B zs))
              clear hmA hmC hsA hsC lz
              go_upto_region 15 with fail
              have hb := bl_dr (bl0 w10)
              replace H := Lib.hid (H.out.below hb)
              replace K1 := Lib.hid (K1.out.below hb)
              clear c0 c1 c2 c3 hb
              obtain ⟨_, ⟨c0, c1, c2, c3⟩, _⟩ := H.out
              go_region_held3 (fun w' => w'.cell? ⟨w.heap.size, 0, none⟩ = some (.int .i64 A) ∧ w'.cell? ⟨w.heap.size, 1, none⟩ = some (.int .i64 B))
                (exact ⟨c0, c1⟩)
                (first
                  | (go_at_call 29; (with_reducible refine (inside_any A B a ca zs _ (RA.out.below (heldN_bel H.out)) LZ.out).mono ?_); rintro e W1 ⟨aI, cI, rfl, rI, hb⟩; have RI := Lib.hid rI; replace c0 := cell_later hb c0; replace c1 := cell_later hb c1; replace H := Lib.hid (H.out.below hb); replace K1 := Lib.hid (K1.out.below hb); clear hb rI)
                  | (go_at_call 28; (with_reducible refine (MDA.out _ _ _ RI.out).mono ?_); rintro e W2 ⟨bA, hA, rfl, mkA, _, gA2, neA, hb⟩; have hhA := Nat.le_trans (heldN_lt H.out) gA2; replace c0 := cell_later hb c0; replace c1 := cell_later hb c1; replace H := Lib.hid (H.out.below hb); replace K1 := Lib.hid (K1.out.below hb); clear hb))
              clear c0 c1 c2 c3 RI
              obtain ⟨_, ⟨c0, c1, c2, c3⟩, _⟩ := H.out
              have MA := Lib.hid (show MaskAt W2 bA hA A B (setOf A B zs) from mkA)
              clear mkA
              go_wp2_with fail
              refine (MBC.out _).mono ?_
              rintro e w12 ⟨bB, hB, rfl, mkB, hB1, hB2, neB, hb⟩
              have MB := Lib.hid (show MaskAt w12 bB hB C D (List.replicate ((C * D + 7) / 8).toNat 0) from mkB)
              have hlA := MA.out.lt
              have n2 : bB ≠ hA := by omega
              have n3 : hB ≠ hA := by omega
              replace MA := Lib.hid (MA.out.below hb)
              replace H := Lib.hid (H.out.below hb)
              replace K1 := Lib.hid (K1.out.below hb)
              clear c0 c1 c2 c3 hb
              obtain ⟨_, ⟨c0, c1, c2, c3⟩, _⟩ := H.out
              clear hB1 hB2 mkB hlA MBC
              go_wp2_with fail
              by_cases he : A = C ∧ B = D
              · obtain ⟨e1, e2⟩ := he
                have hq : ∀ w : World, (binOp .neq 23 (.agg #[.int .i64 A, .int .i64 B]) (.agg #[.int .i64 C, .int .i64 D])).run Try.prog w = .ok (.bool false) w := fun w => by simp [go_sem, e1, e2]
                rw [← e1, ← e2] at MB GB
                clear e1 e2
                have GO := Lib.hid (GA.out.or GB.out)
                have GE := Lib.hid (GO.out.and GB.out)
                have HZ1 := Lib.hid (ones_and_zero (joinB (fun a b => a ||| b) (setOf A B zs) (List.replicate ((A * B + 7) / 8).toNat 0)) ((A * B + 7) / 8).toNat)
                refine (add_any bA hA bB hB A B _ _ _ MA.out MB.out GA.out GB.out neA n2 n3).mono ?_
                rintro e w13 ⟨rfl, mj, hg⟩
                replace MB := Lib.hid (MB.out.row hg n2 n3)
                replace H := Lib.hid (H.out.grown hg hhA)
                replace K1 := Lib.hid (K1.out.grown hg MA.out)
                replace MA := Lib.hid mj
                clear mj hg c0 c1 c2 c3
                obtain ⟨_, ⟨c0, c1, c2, c3⟩, _⟩ := H.out
                go_wp2_with fail
                refine (keep_any bA hA bB hB A B _ _ _ MA.out MB.out GO.out GB.out neA n2 n3).mono ?_
                rintro e w15 ⟨rfl, mj, hg⟩
                replace H := Lib.hid (H.out.grown hg hhA)
                replace K1 := Lib.hid (K1.out.grown hg MA.out)
                replace MA := Lib.hid mj
                clear mj hg c0 c1 c2 c3 MB
                obtain ⟨_, ⟨c0, c1, c2, c3⟩, _⟩ := H.out
                have hct := fun w hm => count_any bA hA A B _ w hm GE.out.2.2.1 GE.out.small
                rw [HZ1.out] at hct
                go_wp2_with fail
                refine (hct _ MA.out).mono ?_
                rintro e w' ⟨rfl, rfl⟩
                clear hct MA GO GE HZ1 hq
                go_upto_region 26 with fail
                have hb := bl_dr (bl0 w15)
                replace H := Lib.hid (H.out.below hb)
                replace K1 := Lib.hid (K1.out.below hb)
                clear c0 c1 c2 c3 hb
                obtain ⟨_, ⟨c0, c1, c2, c3⟩, _⟩ := H.out
                go_region_held3 (fun w' => w'.cell? ⟨w.heap.size, 0, none⟩ = some (.int .i64 A) ∧ w'.cell? ⟨w.heap.size, 1, none⟩ = some (.int .i64 B))
                  (exact ⟨c0, c1⟩)
                  (first
                    | (go_at_call 29; (with_reducible refine (inside_any A B a ca zs _ (RA.out.below (heldN_bel H.out)) LZ.out).mono ?_); rintro e W3 ⟨aI, cI, rfl, rI, hb⟩; have RI := Lib.hid rI; replace c0 := cell_later hb c0; replace c1 := cell_later hb c1; replace H := Lib.hid (H.out.below hb); replace K1 := Lib.hid (K1.out.below hb); clear hb rI)
                    | (go_at_call 28; (with_reducible refine (MDA.out _ _ _ RI.out).mono ?_); rintro e W4 ⟨bC, hC, rfl, mkC, _, _, _, hb⟩; replace c0 := cell_later hb c0; replace c1 := cell_later hb c1; replace H := Lib.hid (H.out.below hb); replace K1 := Lib.hid (K1.out.below hb); clear hb))
                clear c0 c1 c2 c3 RI
                have MC := Lib.hid (show MaskAt W4 bC hC A B (setOf A B zs) from mkC)
                clear mkC
                obtain ⟨_, ⟨c0, c1, c2, c3⟩, c4, _⟩ := H.out
                obtain ⟨cs, hcs⟩ : ∃ cs, setOf A B zs = cs := ⟨_, rfl⟩
                rw [hcs] at GA MC
                clear hcs
                have hct := fun w hm => (count_any bC hC A B cs w hm GA.out.2.2.1 GA.out.small).mono (fun _ _ h => And.intro h.1 h.2.symm)
                obtain ⟨cnt, hcnt⟩ : ∃ cnt : Int, ((ones cs : Nat) : Int) = cnt := ⟨_, rfl⟩
                rw [hcnt] at hct
                have HCT := Lib.hid hct
                have HCN := Lib.hid hcnt
                have HCL := Lib.hid (show ((cellsM A B cs).length : Int) = cnt by rw [cellsM_len A B cs GA.out.2.2.1]; exact hcnt)
                clear hct hcnt
                by_cases q1 : n < 1
                · go_upto_region 27 with fail
                  go_quiet (fail)
                  obtain ⟨w16, hw16⟩ : ∃ w16, W4.drewN nq = w16 := ⟨_, rfl⟩
                  have hb : Below W4.heap.size W4 w16 := by rw [← hw16]; exact bl_drn W4 nq
                  rw [hw16]
                  clear hw16
                  replace MC := Lib.hid (MC.out.below hb)
                  replace c4 := cell_later hb c4
                  replace H := Lib.hid (H.out.below hb)
                  replace K1 := Lib.hid (K1.out.below hb)
                  clear c0 c1 c2 c3 hb
                  obtain ⟨_, ⟨c0, c1, c2, c3⟩, _⟩ := H.out
                  go_wp2_with fail
                  refine (awake_any _).mono ?_
                  rintro e w99 ⟨rfl, hb⟩
                  replace H := Lib.hid (H.out.below hb)
                  replace K1 := Lib.hid (K1.out.below hb)
                  clear c0 c1 c2 c3 hb
                  have c9 := H.out.2.2.2.cell
                  have f9 := H.out.2.2.2.frozen
                  go_wp2
                  have hd4 := K1.out.set (k := w.heap.size + 1 + 1) (o := 0) (by omega) (.bool true)
                  have r3 : ((w99.setCell ⟨w.heap.size + 1 + 1, 0, none⟩ (.bool true)).putObj D1 (.deferred none)).cell? ⟨w.heap.size + 1 + 1, 0, none⟩ = some (.bool true) := cell_put _ (by simp [go_sem, c9]) (by omega)
                  refine ⟨by simp, .inl ⟨_, _, rfl, run_takeDeferred hd4, ⟨.bool true, by simp [results, Try.f7, go_sem, r3], rfl, ?_⟩⟩⟩
                  have hb4 := bl_st H.out.1 (b := w.heap.size + 1 + 1) (o := 0) (by omega) (.bool true)
                  exact hb4.grown (grownBy_putObj' _ D1 _) hb4.size (fun r e => by cases e; omega)
                · by_cases q2 : cnt < n
                  · go_upto_region 27 with fail
                    go_quiet ((go_at_call 19; exact Calls.quiet_of_same (HCT.out _ (MC.out.below (bl_drn _ _)))))
                    obtain ⟨w16, hw16⟩ : ∃ w16, W4.drewN nq = w16 := ⟨_, rfl⟩
                    have hb : Below W4.heap.size W4 w16 := by rw [← hw16]; exact bl_drn W4 nq
                    rw [hw16]
                    clear hw16
                    replace MC := Lib.hid (MC.out.below hb)
                    replace c4 := cell_later hb c4
                    replace H := Lib.hid (H.out.below hb)
                    replace K1 := Lib.hid (K1.out.below hb)
                    clear c0 c1 c2 c3 hb
                    obtain ⟨_, ⟨c0, c1, c2, c3⟩, _⟩ := H.out
                    go_wp2_with fail
                    refine (awake_any _).mono ?_
                    rintro e w99 ⟨rfl, hb⟩
                    replace H := Lib.hid (H.out.below hb)
                    replace K1 := Lib.hid (K1.out.below hb)
                    clear c0 c1 c2 c3 hb
                    have c9 := H.out.2.2.2.cell
                    have f9 := H.out.2.2.2.frozen
                    go_wp2
                    have hd4 := K1.out.set (k := w.heap.size + 1 + 1) (o := 0) (by omega) (.bool true)
                    have r3 : ((w99.setCell ⟨w.heap.size + 1 + 1, 0, none⟩ (.bool true)).putObj D1 (.deferred none)).cell? ⟨w.heap.size + 1 + 1, 0, none⟩ = some (.bool true) := cell_put _ (by simp [go_sem, c9]) (by omega)
                    refine ⟨by simp, .inl ⟨_, _, rfl, run_takeDeferred hd4, ⟨.bool true, by simp [results, Try.f7, go_sem, r3], rfl, ?_⟩⟩⟩
                    have hb4 := bl_st H.out.1 (b := w.heap.size + 1 + 1) (o := 0) (by omega) (.bool true)
                    exact hb4.grown (grownBy_putObj' _ D1 _) hb4.size (fun r e => by cases e; omega)
                  · go_upto_region 27 with fail
                    go_quiet ((go_at_call 19; exact Calls.quiet_of_same (HCT.out _ (MC.out.below (bl_drn _ _)))))
                    obtain ⟨w16, hw16⟩ : ∃ w16, W4.drewN nq = w16 := ⟨_, rfl⟩
                    have hb : Below W4.heap.size W4 w16 := by rw [← hw16]; exact bl_drn W4 nq
                    rw [hw16]
                    clear hw16
                    replace MC := Lib.hid (MC.out.below hb)
                    replace c4 := cell_later hb c4
                    replace H := Lib.hid (H.out.below hb)
                    replace K1 := Lib.hid (K1.out.below hb)
                    clear c0 c1 c2 c3 hb
                    obtain ⟨_, ⟨c0, c1, c2, c3⟩, _⟩ := H.out
                    have lcs : ((cellsM A B cs).length : Int) ≤ 600000 := by rw [HCL.out, ← HCN.out]; exact ones_bound GA.out
                    go_wp2_with fail
                    refine (mcells_any _ _).mono ?_
                    rintro e w17 ⟨rfl, rfl⟩
                    go_wp2_with fail
                    obtain ⟨W0, hW0⟩ : ∃ W0, (w16.alloc (.cells #[.int .i64 0] 3)).alloc (.cells #[.pointer (some ⟨bC, 0, none⟩)] 27) = W0 := ⟨_, rfl⟩
                    have hz : W0.heap.size = w16.heap.size + 2 := by rw [← hW0]; simp
                    have hb : Below w16.heap.size w16 W0 := by rw [← hW0]; exact bl_al (bl_al (bl0 w16) _) _
                    have hbx : Boxed W0 w16.heap.size 3 (.int .i64 0) := by rw [← hW0]; exact (Boxed.new w16 _ _).alloc _
                    have hs0 : SetAt W0 (w16.heap.size + 1) bC hC A B cs := ⟨by rw [← hW0]; simp [go_sem], MC.out.below hb⟩
                    obtain ⟨_, lb, lh⟩ := hs0.lt
                    have hlC := MC.out.lt
                    have hDK : D1 < w16.heap.size := (Array.getElem?_eq_some_iff.1 K1.out).1
                    have hS3 := heldN_lt H.out
                    replace H := Lib.hid (H.out.below hb)
                    replace K1 := Lib.hid (K1.out.below hb)
                    rw [hW0]
                    clear hW0 c0 c1 c2 c3 c4 MC hb
                    refine wpIn_wide.1 (range_actM (w16.heap.size + 1) bC hC 49 #[.pointer (some ⟨w16.heap.size + 1, 0, none⟩)] (cellsM A B cs) (iter_set _ _ _ A B cs GA.out.2.2.1 GA.out.small W0 hs0) rfl rfl (by omega) lb lh
                      (enters_of Try.func49 (by kernel_rfl) rfl)
                      (fun pre W => (pre.length : Int) < n ∧ KeepN w A B C D n D1 w16.heap.size (pre.length : Int) W) (fun c pre W => (c = .exit 2 ∧ (pre.length : Int) = n) ∧ KeepN w A B C D n D1 w16.heap.size n W)
                      (fun s _ _ row hs hg hr => ⟨hs.1, hs.2.own (by omega) (by omega) hg hr⟩) (fun c s _ _ row hs hg hr => ⟨hs.1, hs.2.own (by omega) (by omega) hg hr⟩)
                      ⟨by simp; omega, H.out, K1.out, hbx⟩ ?assign ?body ?done ?stop)
                    case assign =>
                      rintro l pre c W K hI hK
                      have HK := Lib.hid hK
                      clear hK
                      simp
                      gi_wp2
                      refine HK.out _ _ (KeptM.of_below (bl0 W)) hI ?_
                      simp
                    case body =>
                      rintro l pre c a' W ⟨hl, hk⟩ ha hsz hlt
                      simp at ha
                      subst ha
                      have lpre : (pre.length : Int) ≤ 600000 := by omega
                      have hnc := hk.1.2.2.1
                      have hkc := hk.2.2.cell
                      have hkf := hk.2.2.frozen
                      have HK := Lib.hid hk
                      clear hk lcs
                      have S1 := Lib.hid (fun u : Int => HK.out.set (by omega) (by omega) u)
                      have S2 := Lib.hid (fun u : Int => set_kept (W := W) (p := w16.heap.size + 1) (b := bC) (h := hC) (m := W0.heap.size) (B := w16.heap.size) (v := .int .i64 u) (by omega) (by omega) (by omega) (by omega))
                      by_cases hge : (pre.length : Int) + 1 = n
                      · have hb : ((pre.length : Int) + 1 == n) = true := by simpa using hge
                        gi_wp2
                        exact ⟨S2.out _, ⟨rfl, by rw [List.length_append]; simpa using hge⟩, S1.out _⟩
                      · have hb : ((pre.length : Int) + 1 == n) = false := by simpa using hge
                        gi_wp2
                        refine ⟨S2.out _, by rw [List.length_append]; show ((pre.length + 1 : Nat) : Int) < n; omega, ?_⟩
                        rw [List.length_append]
                        exact S1.out _
                    case done =>
                      rintro D2 W hD ⟨hl, _⟩ _
                      have := HCL.out
                      omega
                    case stop =>
                      rintro D2 c q W hD hq ⟨⟨rfl, hlen⟩, hk⟩ hK2
                      have hkc := hk.2.2.cell
                      have hnc := hk.1.2.2.1
                      have hbe : (n == n) = true := by simp
                      have hd1 := hk.2.1
                      have HH := Lib.hid hk.1
                      clear hk H K1 HCN HCL
                      refine wpIn_wide.2 ?_
                      go_wp2_with fail
                      refine (awake_any _).mono ?_
                      rintro e w99 ⟨rfl, hb⟩
                      replace HH := Lib.hid (HH.out.below hb)
                      have hd1' := (hb.block D1 (Array.getElem?_eq_some_iff.1 hd1).1).trans hd1
                      have hd2' := (hb.block D2 (Array.getElem?_eq_some_iff.1 hK2).1).trans hK2
                      clear hkc hnc hb
                      have c9 := HH.out.2.2.2.cell
                      have f9 := HH.out.2.2.2.frozen
                      go_wp2
                      have hd4 : (w99.setCell ⟨w.heap.size + 1 + 1, 0, none⟩ (.bool true)).heap[D2]? = some (.deferred (some [])) := (Below.heap_setCell w99 ⟨w.heap.size + 1 + 1, 0, none⟩ (.bool true) D2 (show D2 ≠ w.heap.size + 1 + 1 by omega)).trans hd2'
                      have hd5 : ((w99.setCell ⟨w.heap.size + 1 + 1, 0, none⟩ (.bool true)).putObj D2 (.deferred none)).heap[D1]? = some (.deferred (some [])) := (World.putObj_heap_other (by omega)).trans ((Below.heap_setCell w99 ⟨w.heap.size + 1 + 1, 0, none⟩ (.bool true) D1 (show D1 ≠ w.heap.size + 1 + 1 by omega)).trans hd1')
                      have r3 : (((w99.setCell ⟨w.heap.size + 1 + 1, 0, none⟩ (.bool true)).putObj D2 (.deferred none)).putObj D1 (.deferred none)).cell? ⟨w.heap.size + 1 + 1, 0, none⟩ = some (.bool true) := cell_put _ (cell_put _ (by simp [go_sem, c9]) (by omega)) (by omega)
                      refine ⟨by simp, .inl ⟨_, _, rfl, run_takeDeferred hd4, ⟨by simp, .inl ⟨_, _, rfl, run_takeDeferred hd5, ⟨.bool true, by simp [results, Try.f7, go_sem, r3], rfl, ?_⟩⟩⟩⟩⟩
                      have hb4 := bl_st HH.out.1 (b := w.heap.size + 1 + 1) (o := 0) (by omega) (.bool true)
                      have hb5 := hb4.grown (grownBy_putObj' _ D2 (.deferred none)) hb4.size (fun r e => by cases e; omega)
                      exact hb5.grown (grownBy_putObj' _ D1 _) hb5.size (fun r e => by cases e; omega)
              · have hq : ∀ w : World, (binOp .neq 23 (.agg #[.int .i64 A, .int .i64 B]) (.agg #[.int .i64 C, .int .i64 D])).run Try.prog w = .ok (.bool true) w := fun w => by
                  by_cases hx : A = C
                  · have hy : ¬ B = D := fun h => he ⟨hx, h⟩
                    simp [go_sem, hx, hy]
                  · simp [go_sem, hx]
                refine (add_other bA hA bB hB A B C D _ _ _ MA.out MB.out he).mono ?_
                rintro e w13 ⟨rfl, hb⟩
                replace MA := Lib.hid (MA.out.below hb)
                replace MB := Lib.hid (MB.out.below hb)
                replace H := Lib.hid (H.out.below hb)
                replace K1 := Lib.hid (K1.out.below hb)
                clear c0 c1 c2 c3 hb
                obtain ⟨_, ⟨c0, c1, c2, c3⟩, _⟩ := H.out
                go_wp2_with fail
                refine (keep_other bA hA bB hB A B C D _ _ _ MA.out MB.out he).mono ?_
                rintro e w14 ⟨rfl, hb⟩
                replace MA := Lib.hid (MA.out.below hb)
                replace MB := Lib.hid (MB.out.below hb)
                replace H := Lib.hid (H.out.below hb)
                replace K1 := Lib.hid (K1.out.below hb)
                clear c0 c1 c2 c3 hb
                obtain ⟨_, ⟨c0, c1, c2, c3⟩, _⟩ := H.out
                go_wp2_with fail
                refine (same_other bA hA bB hB A B C D _ _ _ MA.out MB.out he).mono ?_
                rintro e w15 ⟨rfl, hb⟩
                replace H := Lib.hid (H.out.below hb)
                replace K1 := Lib.hid (K1.out.below hb)
                clear c0 c1 c2 c3 hb
                obtain ⟨_, ⟨c0, c1, c2, c3⟩, _⟩ := H.out
                clear hq he MA MB
                go_upto_region 26 with fail
                have hb := bl_dr (bl0 w15)
                replace H := Lib.hid (H.out.below hb)
                replace K1 := Lib.hid (K1.out.below hb)
                clear c0 c1 c2 c3 hb
                obtain ⟨_, ⟨c0, c1, c2, c3⟩, _⟩ := H.out
                go_region_held3 (fun w' => w'.cell? ⟨w.heap.size, 0, none⟩ = some (.int .i64 A) ∧ w'.cell? ⟨w.heap.size, 1, none⟩ = some (.int .i64 B))
                  (exact ⟨c0, c1⟩)
                  (first
                    | (go_at_call 29; (with_reducible refine (inside_any A B a ca zs _ (RA.out.below (heldN_bel H.out)) LZ.out).mono ?_); rintro e W3 ⟨aI, cI, rfl, rI, hb⟩; have RI := Lib.hid rI; replace c0 := cell_later hb c0; replace c1 := cell_later hb c1; replace H := Lib.hid (H.out.below hb); replace K1 := Lib.hid (K1.out.below hb); clear hb rI)
                    | (go_at_call 28; (with_reducible refine (MDA.out _ _ _ RI.out).mono ?_); rintro e W4 ⟨bC, hC, rfl, mkC, _, _, _, hb⟩; replace c0 := cell_later hb c0; replace c1 := cell_later hb c1; replace H := Lib.hid (H.out.below hb); replace K1 := Lib.hid (K1.out.below hb); clear hb))
                clear c0 c1 c2 c3 RI
                have MC := Lib.hid (show MaskAt W4 bC hC A B (setOf A B zs) from mkC)
                clear mkC
                obtain ⟨_, ⟨c0, c1, c2, c3⟩, c4, _⟩ := H.out
                obtain ⟨cs, hcs⟩ : ∃ cs, setOf A B zs = cs := ⟨_, rfl⟩
                rw [hcs] at GA MC
                clear hcs
                have hct := fun w hm => (count_any bC hC A B cs w hm GA.out.2.2.1 GA.out.small).mono (fun _ _ h => And.intro h.1 h.2.symm)
                obtain ⟨cnt, hcnt⟩ : ∃ cnt : Int, ((ones cs : Nat) : Int) = cnt := ⟨_, rfl⟩
                rw [hcnt] at hct
                have HCT := Lib.hid hct
                have HCN := Lib.hid hcnt
                have HCL := Lib.hid (show ((cellsM A B cs).length : Int) = cnt by rw [cellsM_len A B cs GA.out.2.2.1]; exact hcnt)
                clear hct hcnt
                by_cases q1 : n < 1
                · go_upto_region 27 with fail
                  go_quiet (fail)
                  obtain ⟨w16, hw16⟩ : ∃ w16, W4.drewN nq = w16 := ⟨_, rfl⟩
                  have hb : Below W4.heap.size W4 w16 := by rw [← hw16]; exact bl_drn W4 nq
                  rw [hw16]
                  clear hw16
                  replace MC := Lib.hid (MC.out.below hb)
                  replace c4 := cell_later hb c4
                  replace H := Lib.hid (H.out.below hb)
                  replace K1 := Lib.hid (K1.out.below hb)
                  clear c0 c1 c2 c3 hb
                  obtain ⟨_, ⟨c0, c1, c2, c3⟩, _⟩ := H.out
                  go_wp2_with fail
                  refine (awake_any _).mono ?_
                  rintro e w99 ⟨rfl, hb⟩
                  replace H := Lib.hid (H.out.below hb)
                  replace K1 := Lib.hid (K1.out.below hb)
                  clear c0 c1 c2 c3 hb
                  have c9 := H.out.2.2.2.cell
                  have f9 := H.out.2.2.2.frozen
                  go_wp2
                  have hd4 := K1.out.set (k := w.heap.size + 1 + 1) (o := 0) (by omega) (.bool true)
                  have r3 : ((w99.setCell ⟨w.heap.size + 1 + 1, 0, none⟩ (.bool true)).putObj D1 (.deferred none)).cell? ⟨w.heap.size + 1 + 1, 0, none⟩ = some (.bool true) := cell_put _ (by simp [go_sem, c9]) (by omega)
                  refine ⟨by simp, .inl ⟨_, _, rfl, run_takeDeferred hd4, ⟨.bool true, by simp [results, Try.f7, go_sem, r3], rfl, ?_⟩⟩⟩
                  have hb4 := bl_st H.out.1 (b := w.heap.size + 1 + 1) (o := 0) (by omega) (.bool true)
                  exact hb4.grown (grownBy_putObj' _ D1 _) hb4.size (fun r e => by cases e; omega)
                · by_cases q2 : cnt < n
                  · go_upto_region 27 with fail
                    go_quiet ((go_at_call 19; exact Calls.quiet_of_same (HCT.out _ (MC.out.below (bl_drn _ _)))))
                    obtain ⟨w16, hw16⟩ : ∃ w16, W4.drewN nq = w16 := ⟨_, rfl⟩
                    have hb : Below W4.heap.size W4 w16 := by rw [← hw16]; exact bl_drn W4 nq
                    rw [hw16]
                    clear hw16
                    replace MC := Lib.hid (MC.out.below hb)
                    replace c4 := cell_later hb c4
                    replace H := Lib.hid (H.out.below hb)
                    replace K1 := Lib.hid (K1.out.below hb)
                    clear c0 c1 c2 c3 hb
                    obtain ⟨_, ⟨c0, c1, c2, c3⟩, _⟩ := H.out
                    go_wp2_with fail
                    refine (awake_any _).mono ?_
                    rintro e w99 ⟨rfl, hb⟩
                    replace H := Lib.hid (H.out.below hb)
                    replace K1 := Lib.hid (K1.out.below hb)
                    clear c0 c1 c2 c3 hb
                    have c9 := H.out.2.2.2.cell
                    have f9 := H.out.2.2.2.frozen
                    go_wp2
                    have hd4 := K1.out.set (k := w.heap.size + 1 + 1) (o := 0) (by omega) (.bool true)
                    have r3 : ((w99.setCell ⟨w.heap.size + 1 + 1, 0, none⟩ (.bool true)).putObj D1 (.deferred none)).cell? ⟨w.heap.size + 1 + 1, 0, none⟩ = some (.bool true) := cell_put _ (by simp [go_sem, c9]) (by omega)
                    refine ⟨by simp, .inl ⟨_, _, rfl, run_takeDeferred hd4, ⟨.bool true, by simp [results, Try.f7, go_sem, r3], rfl, ?_⟩⟩⟩
                    have hb4 := bl_st H.out.1 (b := w.heap.size + 1 + 1) (o := 0) (by omega) (.bool true)
                    exact hb4.grown (grownBy_putObj' _ D1 _) hb4.size (fun r e => by cases e; omega)
                  · go_upto_region 27 with fail
                    go_quiet ((go_at_call 19; exact Calls.quiet_of_same (HCT.out _ (MC.out.below (bl_drn _ _)))))
                    obtain ⟨w16, hw16⟩ : ∃ w16, W4.drewN nq = w16 := ⟨_, rfl⟩
                    have hb : Below W4.heap.size W4 w16 := by rw [← hw16]; exact bl_drn W4 nq
                    rw [hw16]
                    clear hw16
                    replace MC := Lib.hid (MC.out.below hb)
                    replace c4 := cell_later hb c4
                    replace H := Lib.hid (H.out.below hb)
                    replace K1 := Lib.hid (K1.out.below hb)
                    clear c0 c1 c2 c3 hb
                    obtain ⟨_, ⟨c0, c1, c2, c3⟩, _⟩ := H.out
                    have lcs : ((cellsM A B cs).length : Int) ≤ 600000 := by rw [HCL.out, ← HCN.out]; exact ones_bound GA.out
                    go_wp2_with fail
                    refine (mcells_any _ _).mono ?_
                    rintro e w17 ⟨rfl, rfl⟩
                    go_wp2_with fail
                    obtain ⟨W0, hW0⟩ : ∃ W0, (w16.alloc (.cells #[.int .i64 0] 3)).alloc (.cells #[.pointer (some ⟨bC, 0, none⟩)] 27) = W0 := ⟨_, rfl⟩
                    have hz : W0.heap.size = w16.heap.size + 2 := by rw [← hW0]; simp
                    have hb : Below w16.heap.size w16 W0 := by rw [← hW0]; exact bl_al (bl_al (bl0 w16) _) _
                    have hbx : Boxed W0 w16.heap.size 3 (.int .i64 0) := by rw [← hW0]; exact (Boxed.new w16 _ _).alloc _
                    have hs0 : SetAt W0 (w16.heap.size + 1) bC hC A B cs := ⟨by rw [← hW0]; simp [go_sem], MC.out.below hb⟩
                    obtain ⟨_, lb, lh⟩ := hs0.lt
                    have hlC := MC.out.lt
                    have hDK : D1 < w16.heap.size := (Array.getElem?_eq_some_iff.1 K1.out).1
                    have hS3 := heldN_lt H.out
                    replace H := Lib.hid (H.out.below hb)
                    replace K1 := Lib.hid (K1.out.below hb)
                    rw [hW0]
                    clear hW0 c0 c1 c2 c3 c4 MC hb
                    refine wpIn_wide.1 (range_actM (w16.heap.size + 1) bC hC 49 #[.pointer (some ⟨w16.heap.size + 1, 0, none⟩)] (cellsM A B cs) (iter_set _ _ _ A B cs GA.out.2.2.1 GA.out.small W0 hs0) rfl rfl (by omega) lb lh
                      (enters_of Try.func49 (by kernel_rfl) rfl)
                      (fun pre W => (pre.length : Int) < n ∧ KeepN w A B C D n D1 w16.heap.size (pre.length : Int) W) (fun c pre W => (c = .exit 2 ∧ (pre.length : Int) = n) ∧ KeepN w A B C D n D1 w16.heap.size n W)
                      (fun s _ _ row hs hg hr => ⟨hs.1, hs.2.own (by omega) (by omega) hg hr⟩) (fun c s _ _ row hs hg hr => ⟨hs.1, hs.2.own (by omega) (by omega) hg hr⟩)
                      ⟨by simp; omega, H.out, K1.out, hbx⟩ ?assign ?body ?done ?stop)
                    case assign =>
                      rintro l pre c W K hI hK
                      have HK := Lib.hid hK
                      clear hK
                      simp
                      gi_wp2
                      refine HK.out _ _ (KeptM.of_below (bl0 W)) hI ?_
                      simp
                    case body =>
                      rintro l pre c a' W ⟨hl, hk⟩ ha hsz hlt
                      simp at ha
                      subst ha
                      have lpre : (pre.length : Int) ≤ 600000 := by omega
                      have hnc := hk.1.2.2.1
                      have hkc := hk.2.2.cell
                      have hkf := hk.2.2.frozen
                      have HK := Lib.hid hk
                      clear hk lcs
                      have S1 := Lib.hid (fun u : Int => HK.out.set (by omega) (by omega) u)
                      have S2 := Lib.hid (fun u : Int => set_kept (W := W) (p := w16.heap.size + 1) (b := bC) (h := hC) (m := W0.heap.size) (B := w16.heap.size) (v := .int .i64 u) (by omega) (by omega) (by omega) (by omega))
                      by_cases hge : (pre.length : Int) + 1 = n
                      · have hb : ((pre.length : Int) + 1 == n) = true := by simpa using hge
                        gi_wp2
                        exact ⟨S2.out _, ⟨rfl, by rw [List.length_append]; simpa using hge⟩, S1.out _⟩
                      · have hb : ((pre.length : Int) + 1 == n) = false := by simpa using hge
                        gi_wp2
                        refine ⟨S2.out _, by rw [List.length_append]; show ((pre.length + 1 : Nat) : Int) < n; omega, ?_⟩
                        rw [List.length_append]
                        exact S1.out _
                    case done =>
                      rintro D2 W hD ⟨hl, _⟩ _
                      have := HCL.out
                      omega
                    case stop =>
                      rintro D2 c q W hD hq ⟨⟨rfl, hlen⟩, hk⟩ hK2
                      have hkc := hk.2.2.cell
                      have hnc := hk.1.2.2.1
                      have hbe : (n == n) = true := by simp
                      have hd1 := hk.2.1
                      have HH := Lib.hid hk.1
                      clear hk H K1 HCN HCL
                      refine wpIn_wide.2 ?_
                      go_wp2_with fail
                      refine (awake_any _).mono ?_
                      rintro e w99 ⟨rfl, hb⟩
                      replace HH := Lib.hid (HH.out.below hb)
                      have hd1' := (hb.block D1 (Array.getElem?_eq_some_iff.1 hd1).1).trans hd1
                      have hd2' := (hb.block D2 (Array.getElem?_eq_some_iff.1 hK2).1).trans hK2
                      clear hkc hnc hb
                      have c9 := HH.out.2.2.2.cell
                      have f9 := HH.out.2.2.2.frozen
                      go_wp2
                      have hd4 : (w99.setCell ⟨w.heap.size + 1 + 1, 0, none⟩ (.bool true)).heap[D2]? = some (.deferred (some [])) := (Below.heap_setCell w99 ⟨w.heap.size + 1 + 1, 0, none⟩ (.bool true) D2 (show D2 ≠ w.heap.size + 1 + 1 by omega)).trans hd2'
                      have hd5 : ((w99.setCell ⟨w.heap.size + 1 + 1, 0, none⟩ (.bool true)).putObj D2 (.deferred none)).heap[D1]? = some (.deferred (some [])) := (World.putObj_heap_other (by omega)).trans ((Below.heap_setCell w99 ⟨w.heap.size + 1 + 1, 0, none⟩ (.bool true) D1 (show D1 ≠ w.heap.size + 1 + 1 by omega)).trans hd1')
                      have r3 : (((w99.setCell ⟨w.heap.size + 1 + 1, 0, none⟩ (.bool true)).putObj D2 (.deferred none)).putObj D1 (.deferred none)).cell? ⟨w.heap.size + 1 + 1, 0, none⟩ = some (.bool true) := cell_put _ (cell_put _ (by simp [go_sem, c9]) (by omega)) (by omega)
                      refine ⟨by simp, .inl ⟨_, _, rfl, run_takeDeferred hd4, ⟨by simp, .inl ⟨_, _, rfl, run_takeDeferred hd5, ⟨.bool true, by simp [results, Try.f7, go_sem, r3], rfl, ?_⟩⟩⟩⟩⟩
                      have hb4 := bl_st HH.out.1 (b := w.heap.size + 1 + 1) (o := 0) (by omega) (.bool true)
                      have hb5 := hb4.grown (grownBy_putObj' _ D2 (.deferred none)) hb4.size (fun r e => by cases e; omega)
                      exact hb5.grown (grownBy_putObj' _ D1 _) hb5.size (fun r e => by cases e; omega)
end Go.Proofs.Ytgkeifjnnpcleaa
