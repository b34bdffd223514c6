/- GeomFits: the law's walk. -/
import Derived.Test.YtcbhbekhogcedaaDoorIc
import Derived.Test.YtcbhbekhogcedaaDoorIm
import Derived.Test.YtcbhbekhogcedaaDoorGf
import Derived.Deep.RegionHeld3
import Derived.Deep.CutRange
namespace Go.Proofs.YtcbhbekhogcedaaDoor
open Go.RowKit Go.Shelf
attribute [local go_sem] Oper.semAt_some

theorem cells_call (X Y U V : Int) (w : World) :
    Calls Tryd.prog 9 #[.agg #[.int .i64 X, .int .i64 Y, .int .i64 U, .int .i64 V]] w fun e w' => e = .returned (.func (.func 15) #[] #[.pointer (some ⟨w.heap.size, 0, none⟩)]) ∧ w' = w.alloc (.cells #[.int .i64 X, .int .i64 Y, .int .i64 U, .int .i64 V] 25) := by
  go_enter Tryd.func9, Tryd.ntmps9
  go_wp2
  go_ret
  exact ⟨rfl, rfl⟩

theorem eql_nil (k : Nat) (w : World) : (binOp .eql 31 (.func (.func 15) #[] #[.pointer (some ⟨k, 0, none⟩)]) .nilFunc).run Tryd.prog w = .ok (.bool false) w := by
  kernel_rfl

set_option maxRecDepth 100000 in
set_option maxHeartbeats 4000000 in
theorem fits_big (A B X Y U V P Q : Int) (w : World) (hs : Stp w) (hb : 40 < U ∨ 40 < V) :
    Calls Tryd.prog 4 #[.agg #[.int .i64 A, .int .i64 B], .agg #[.int .i64 X, .int .i64 Y, .int .i64 U, .int .i64 V], .agg #[.int .i64 P, .int .i64 Q]] w fun e w' => e = .returned (.bool true) ∧ Below w.heap.size w w' := by
  have hA := bl0 w
  by_cases hu : 40 < U
  · refine (callsIn_wide (n := 11)).1 (callsIn_of_wp_marks Tryd.func4 rfl trivial ?_ rfl)
    simp only [Tryd.ntmps4, List.size_toArray, List.length_cons, List.length_nil, Nat.reduceAdd, Nat.reduceSub, Array.replicate_succ, Array.replicate_zero, List.push_toArray, List.append_toArray, List.nil_append, List.cons_append]
    refine wpIn_wide.2 ?_
    go_wp2_with fail
    refine (awake_any _ (hs.below (by first | exact hA | exact (bl_al hA _) | exact (bl_dr (bl_al hA _)) | exact (bl_al (bl_al hA _) _) | exact (bl_dr (bl_al (bl_al hA _) _)) | exact (bl_al (bl_al (bl_al hA _) _) _) | exact (bl_dr (bl_al (bl_al (bl_al hA _) _) _)) | exact (bl_al (bl_al (bl_al (bl_al hA _) _) _) _) | exact (bl_dr (bl_al (bl_al (bl_al (bl_al hA _) _) _) _)) | exact (bl_al (bl_al (bl_al (bl_al (bl_al hA _) _) _) _) _) | exact (bl_dr (bl_al (bl_al (bl_al (bl_al (bl_al hA _) _) _) _) _)) | exact (bl_al (bl_al (bl_al (bl_al (bl_al (bl_al hA _) _) _) _) _) _) | exact (bl_dr (bl_al (bl_al (bl_al (bl_al (bl_al (bl_al hA _) _) _) _) _) _)) | exact (bl_dr hA)))).mono ?_
    rintro e w1 ⟨rfl, hb⟩
    have hk : Below w.heap.size w w1 := by first | exact hb | exact bl_tr (bl_al (bl0 _) _) hb | exact bl_tr (bl_dr (bl_al (bl0 _) _)) hb | exact bl_tr (bl_al (bl_al (bl0 _) _) _) hb | exact bl_tr (bl_dr (bl_al (bl_al (bl0 _) _) _)) hb | exact bl_tr (bl_al (bl_al (bl_al (bl0 _) _) _) _) hb | exact bl_tr (bl_dr (bl_al (bl_al (bl_al (bl0 _) _) _) _)) hb | exact bl_tr (bl_al (bl_al (bl_al (bl_al (bl0 _) _) _) _) _) hb | exact bl_tr (bl_dr (bl_al (bl_al (bl_al (bl_al (bl0 _) _) _) _) _)) hb | exact bl_tr (bl_al (bl_al (bl_al (bl_al (bl_al (bl0 _) _) _) _) _) _) hb | exact bl_tr (bl_dr (bl_al (bl_al (bl_al (bl_al (bl_al (bl0 _) _) _) _) _) _)) hb | exact bl_tr (bl_al (bl_al (bl_al (bl_al (bl_al (bl_al (bl0 _) _) _) _) _) _) _) hb | exact bl_tr (bl_dr (bl_al (bl_al (bl_al (bl_al (bl_al (bl_al (bl0 _) _) _) _) _) _) _)) hb | exact bl_tr (bl_dr (bl0 _)) hb
    replace hA := bl_tr hA hk
    have r0 := cell_later hb (v := .bool false) (a := ⟨w.heap.size + 1 + 1 + 1, 0, none⟩) (by simp [go_sem])
    have f0 : w1.frozen? ⟨w.heap.size + 1 + 1 + 1, 0, none⟩ = false := (hb.frozen (p := ⟨w.heap.size + 1 + 1 + 1, 0, none⟩) (by simp <;> omega)).trans (by simp [go_sem])
    clear hb hk
    have zr0 := blk_lt r0
    go_wp2
    exact ⟨.bool true, by simp [results, Tryd.f4, go_sem, r0], rfl, bl_st hA (by omega) _⟩
  · have hv : 40 < V := by omega
    clear hb
    refine (callsIn_wide (n := 11)).1 (callsIn_of_wp_marks Tryd.func4 rfl trivial ?_ rfl)
    simp only [Tryd.ntmps4, List.size_toArray, List.length_cons, List.length_nil, Nat.reduceAdd, Nat.reduceSub, Array.replicate_succ, Array.replicate_zero, List.push_toArray, List.append_toArray, List.nil_append, List.cons_append]
    refine wpIn_wide.2 ?_
    go_wp2_with fail
    refine (awake_any _ (hs.below (by first | exact hA | exact (bl_al hA _) | exact (bl_dr (bl_al hA _)) | exact (bl_al (bl_al hA _) _) | exact (bl_dr (bl_al (bl_al hA _) _)) | exact (bl_al (bl_al (bl_al hA _) _) _) | exact (bl_dr (bl_al (bl_al (bl_al hA _) _) _)) | exact (bl_al (bl_al (bl_al (bl_al hA _) _) _) _) | exact (bl_dr (bl_al (bl_al (bl_al (bl_al hA _) _) _) _)) | exact (bl_al (bl_al (bl_al (bl_al (bl_al hA _) _) _) _) _) | exact (bl_dr (bl_al (bl_al (bl_al (bl_al (bl_al hA _) _) _) _) _)) | exact (bl_al (bl_al (bl_al (bl_al (bl_al (bl_al hA _) _) _) _) _) _) | exact (bl_dr (bl_al (bl_al (bl_al (bl_al (bl_al (bl_al hA _) _) _) _) _) _)) | exact (bl_dr hA)))).mono ?_
    rintro e w1 ⟨rfl, hb⟩
    have hk : Below w.heap.size w w1 := by first | exact hb | exact bl_tr (bl_al (bl0 _) _) hb | exact bl_tr (bl_dr (bl_al (bl0 _) _)) hb | exact bl_tr (bl_al (bl_al (bl0 _) _) _) hb | exact bl_tr (bl_dr (bl_al (bl_al (bl0 _) _) _)) hb | exact bl_tr (bl_al (bl_al (bl_al (bl0 _) _) _) _) hb | exact bl_tr (bl_dr (bl_al (bl_al (bl_al (bl0 _) _) _) _)) hb | exact bl_tr (bl_al (bl_al (bl_al (bl_al (bl0 _) _) _) _) _) hb | exact bl_tr (bl_dr (bl_al (bl_al (bl_al (bl_al (bl0 _) _) _) _) _)) hb | exact bl_tr (bl_al (bl_al (bl_al (bl_al (bl_al (bl0 _) _) _) _) _) _) hb | exact bl_tr (bl_dr (bl_al (bl_al (bl_al (bl_al (bl_al (bl0 _) _) _) _) _) _)) hb | exact bl_tr (bl_al (bl_al (bl_al (bl_al (bl_al (bl_al (bl0 _) _) _) _) _) _) _) hb | exact bl_tr (bl_dr (bl_al (bl_al (bl_al (bl_al (bl_al (bl_al (bl0 _) _) _) _) _) _) _)) hb | exact bl_tr (bl_dr (bl0 _)) hb
    replace hA := bl_tr hA hk
    have r0 := cell_later hb (v := .bool false) (a := ⟨w.heap.size + 1 + 1 + 1, 0, none⟩) (by simp [go_sem])
    have f0 : w1.frozen? ⟨w.heap.size + 1 + 1 + 1, 0, none⟩ = false := (hb.frozen (p := ⟨w.heap.size + 1 + 1 + 1, 0, none⟩) (by simp <;> omega)).trans (by simp [go_sem])
    clear hb hk
    have zr0 := blk_lt r0
    go_wp2
    exact ⟨.bool true, by simp [results, Tryd.f4, go_sem, r0], rfl, bl_st hA (by omega) _⟩

theorem KeptB.of_below {b n₁ : Nat} {A C : World} (h : Below A.heap.size A C) : KeptB b n₁ A C := ⟨h.size, fun k _ hl => h.block k hl⟩
theorem KeptB.set {b n₁ k : Nat} {A : World} (v : Value) (hk : k < n₁) (hb : k ≠ b) : KeptB b n₁ A (A.setCell ⟨k, 0, none⟩ v) :=
  ⟨by simp, fun i hi _ => Below.heap_setCell A ⟨k, 0, none⟩ v i (by show i ≠ k; rcases hi with h | h <;> omega)⟩
theorem boxed_below {W W' : World} {B : Nat} {t : TypeId} {v : Value} (h : Boxed W B t v) (hb : Below W.heap.size W W') : Boxed W' B t v :=
  boxed_own B t (fun (_ : Unit) => v) () W W' none h (grown_of_below hb) (fun r e => by cases e)

/-- What the loops leave as it lay. -/
def FixF (w W : World) (A B X Y U V P Q : Int) : Prop := (W.cell? ⟨w.heap.size, 0, none⟩ = some (.int .i64 A) ∧ W.cell? ⟨w.heap.size, 1, none⟩ = some (.int .i64 B)) ∧ BoxAt W (w.heap.size + 1) X Y U V ∧
  (W.cell? ⟨w.heap.size + 1 + 1, 0, none⟩ = some (.int .i64 P) ∧ W.cell? ⟨w.heap.size + 1 + 1, 1, none⟩ = some (.int .i64 Q)) ∧ Below w.heap.size w W
theorem FixF.own {w : World} {n₁ : Nat} (hn : w.heap.size ≤ n₁) (A B X Y U V P Q : Int) : OwnFrom n₁ (fun (_ : List (Int × Int)) W => FixF w W A B X Y U V P Q) := fun _ C D row hs hg hr => by
  obtain ⟨⟨h1, h2⟩, h3, ⟨h4, h5⟩, h6⟩ := hs
  have hr' := fun r e => (hr r e).2
  exact ⟨⟨cell_kept h1 hg hr', cell_kept h2 hg hr'⟩, boxAt_own _ X Y U V [] C D row h3 hg hr', ⟨cell_kept h4 hg hr', cell_kept h5 hg hr'⟩, h6.grown hg h6.size (fun r e => Nat.le_trans hn (hr r e).1)⟩

def farB (P Q X Y : Int) : Bool := decide (P < -1000 ∨ 1000 < P ∨ Q < -1000 ∨ 1000 < Q ∨ X < -1000 ∨ 1000 < X ∨ Y < -1000 ∨ 1000 < Y)
def alB (A B : Int) (pre : List (Int × Int)) : Bool := pre.all (fun p => inB A B p.1 p.2)

/-- What the first loop holds. -/
def InvF (w : World) (n₁ : Nat) (A B X Y U V P Q : Int) (pre : List (Int × Int)) (W : World) : Prop :=
  (Boxed W (w.heap.size + 1 + 1 + 1 + 1) 3 (.int .i64 (pre.length : Int)) ∧ Boxed W (w.heap.size + 1 + 1 + 1 + 1 + 1) 4 (.bool (alB A B pre)) ∧ Boxed W (w.heap.size + 1 + 1 + 1) 4 (.bool false)) ∧ FixF w W A B X Y U V P Q ∧ n₁ ≤ W.heap.size

theorem rowsOf_le (X Y U V : Int) : rowsOf X Y U V ≤ 256 := by
  unfold rowsOf
  split
  · rename_i h
    have := rightB_iff.1 h
    omega
  · omega
theorem FixF.set {w W : World} {A B X Y U V P Q : Int} {k : Nat} (v : Value) (hk : w.heap.size + 1 + 1 < k) (h : FixF w W A B X Y U V P Q) : FixF w (W.setCell ⟨k, 0, none⟩ v) A B X Y U V P Q := by
  obtain ⟨⟨h1, h2⟩, ⟨x0, x1, x2, x3⟩, ⟨h4, h5⟩, h6⟩ := h
  have o : ∀ j i u, j < k → W.cell? ⟨j, i, none⟩ = some u → (W.setCell ⟨k, 0, none⟩ v).cell? ⟨j, i, none⟩ = some u := fun j i u hj hu =>
    (World.cell?_of_block (a := ⟨j, i, none⟩) (Below.heap_setCell W ⟨k, 0, none⟩ v j (by show j ≠ k; omega))).trans hu
  exact ⟨⟨o _ _ _ (by omega) h1, o _ _ _ (by omega) h2⟩, ⟨o _ _ _ (by omega) x0, o _ _ _ (by omega) x1, o _ _ _ (by omega) x2, o _ _ _ (by omega) x3⟩, ⟨o _ _ _ (by omega) h4, o _ _ _ (by omega) h5⟩, h6.setCell (p := ⟨k, 0, none⟩) (by show w.heap.size ≤ k; omega) _⟩
theorem alB_snoc (A B : Int) (pre : List (Int × Int)) (p : Int × Int) : alB A B (pre ++ [p]) = (alB A B pre && inB A B p.1 p.2) := by simp [alB]
theorem InvF.below {w W W' : World} {n₁ : Nat} {A B X Y U V P Q : Int} {pre : List (Int × Int)} (h : InvF w n₁ A B X Y U V P Q pre W) (hb : Below W.heap.size W W') : InvF w n₁ A B X Y U V P Q pre W' := by
  obtain ⟨⟨h1, h2, h3⟩, ⟨⟨s0, s1⟩, ⟨x0, x1, x2, x3⟩, ⟨p0, p1⟩, h6⟩, h5⟩ := h
  exact ⟨⟨boxed_below h1 hb, boxed_below h2 hb, boxed_below h3 hb⟩, ⟨⟨cell_later hb s0, cell_later hb s1⟩, ⟨cell_later hb x0, cell_later hb x1, cell_later hb x2, cell_later hb x3⟩, ⟨cell_later hb p0, cell_later hb p1⟩, bl_tr h6 hb⟩, Nat.le_trans h5 hb.size⟩
/-- What a round of the first loop leaves. -/
theorem InvF.next {w W : World} {n₁ : Nat} {A B X Y U V P Q : Int} {pre : List (Int × Int)} {p : Int × Int} {v : Bool} (hv : v = alB A B (pre ++ [p])) (h : InvF w n₁ A B X Y U V P Q pre W) :
    InvF w n₁ A B X Y U V P Q (pre ++ [p]) ((W.setCell ⟨w.heap.size + 1 + 1 + 1 + 1 + 1, 0, none⟩ (.bool v)).setCell ⟨w.heap.size + 1 + 1 + 1 + 1, 0, none⟩ (.int .i64 ((pre.length : Int) + 1))) := by
  obtain ⟨⟨h1, h2, h3⟩, h4, h5⟩ := h
  subst hv
  refine ⟨⟨?_, (h2.set _).other (by omega) _, (h3.other (by omega) _).other (by omega) _⟩, (h4.set _ (by omega)).set _ (by omega), by simpa using h5⟩
  have := (h1.other (B' := w.heap.size + 1 + 1 + 1 + 1 + 1) (by omega) (.bool (alB A B (pre ++ [p])))).set (.int .i64 ((pre.length : Int) + 1))
  simpa using this

theorem cell_put {W : World} {k o D : Nat} {v : Value} (ob : Obj) (h : W.cell? ⟨k, o, none⟩ = some v) (hne : k ≠ D) : (W.putObj D ob).cell? ⟨k, o, none⟩ = some v :=
  (World.cell?_of_block (a := ⟨k, o, none⟩) (World.putObj_heap_other (by first | exact hne | exact hne.symm))).trans h
/-- A cell that is not in the box. -/
def NoFit (X Y U V : Int) (q : List (Int × Int)) : Prop := ∃ p ∈ q, hasB X Y U V p.1 p.2 = false
/-- What the second loop holds. -/
def InvG (w wc : World) (n₁ D : Nat) (X Y U V P Q n : Int) (pre : List (Int × Int)) (W : World) : Prop :=
  (Boxed W wc.heap.size 3 (.int .i64 (pre.length : Int)) ∧ Boxed W (w.heap.size + 1 + 1 + 1) 4 (.bool false)) ∧
  (W.cell? ⟨w.heap.size + 1 + 1 + 1 + 1, 0, none⟩ = some (.int .i64 n) ∧ BoxAt W (w.heap.size + 1) X Y U V ∧ BoxAt W (wc.heap.size + 1) (X + P) (Y + Q) U V ∧ W.cell? ⟨w.heap.size + 1 + 1, 0, none⟩ = some (.int .i64 P) ∧ W.cell? ⟨w.heap.size + 1 + 1, 1, none⟩ = some (.int .i64 Q)) ∧
  W.heap[D]? = some (.deferred (some [])) ∧ Below w.heap.size w W ∧ n₁ ≤ W.heap.size
theorem InvG.own {w wc : World} {n₁ D : Nat} {X Y U V P Q n : Int} (hn : w.heap.size ≤ n₁) (hD : D < n₁) : OwnFrom n₁ (InvG w wc n₁ D X Y U V P Q n) := by
  rintro pre C E row ⟨⟨h1, h2⟩, ⟨h3, h4, h5, h6, h7⟩, h8, h9, h10⟩ hg hr
  have hr' := fun r e => (hr r e).2
  refine ⟨⟨boxed_own _ _ (fun (_ : Unit) => _) () C E row h1 hg hr', boxed_own _ _ (fun (_ : Unit) => _) () C E row h2 hg hr'⟩, ⟨cell_kept h3 hg hr', boxAt_own _ X Y U V [] C E row h4 hg hr', boxAt_own _ _ _ U V [] C E row h5 hg hr', cell_kept h6 hg hr', cell_kept h7 hg hr'⟩, ?_, h9.grown hg h9.size (fun r e => Nat.le_trans hn (hr r e).1), Nat.le_trans h10 hg.size⟩
  exact (hg.block D (Array.getElem?_eq_some_iff.1 h8).1 (fun e => by have := (hr D e.symm).1; omega)).trans h8
theorem InvG.below {w wc W W' : World} {n₁ D : Nat} {X Y U V P Q n : Int} {pre : List (Int × Int)} (h : InvG w wc n₁ D X Y U V P Q n pre W) (hb : Below W.heap.size W W') : InvG w wc n₁ D X Y U V P Q n pre W' := by
  obtain ⟨⟨h1, h2⟩, ⟨g1, ⟨x0, x1, x2, x3⟩, ⟨o0, o1, o2, o3⟩, p0, p1⟩, hd2, hbel3, hsz3⟩ := h
  exact ⟨⟨boxed_below h1 hb, boxed_below h2 hb⟩, ⟨cell_later hb g1, ⟨cell_later hb x0, cell_later hb x1, cell_later hb x2, cell_later hb x3⟩, ⟨cell_later hb o0, cell_later hb o1, cell_later hb o2, cell_later hb o3⟩, cell_later hb p0, cell_later hb p1⟩, (hb.block D (Array.getElem?_eq_some_iff.1 hd2).1).trans hd2, bl_tr hbel3 hb, Nat.le_trans hsz3 hb.size⟩
theorem InvG.next {w wc W : World} {n₁ D : Nat} {X Y U V P Q n : Int} {pre : List (Int × Int)} {p : Int × Int} (hw : w.heap.size + 7 ≤ wc.heap.size) (hD : D < wc.heap.size) (h : InvG w wc n₁ D X Y U V P Q n pre W) :
    InvG w wc n₁ D X Y U V P Q n (pre ++ [p]) (W.setCell ⟨wc.heap.size, 0, none⟩ (.int .i64 ((pre.length : Int) + 1))) := by
  obtain ⟨⟨h1, h2⟩, ⟨g1, ⟨x0, x1, x2, x3⟩, ⟨o0, o1, o2, o3⟩, p0, p1⟩, hd2, hbel3, hsz3⟩ := h
  have o : ∀ (v : Value) j i u, j ≠ wc.heap.size → W.cell? ⟨j, i, none⟩ = some u → (W.setCell ⟨wc.heap.size, 0, none⟩ v).cell? ⟨j, i, none⟩ = some u := fun v j i u hj hu =>
    (World.cell?_of_block (a := ⟨j, i, none⟩) (Below.heap_setCell W ⟨wc.heap.size, 0, none⟩ v j (by show j ≠ wc.heap.size; omega))).trans hu
  refine ⟨⟨?_, h2.other (by omega) _⟩, ⟨o _ _ _ _ (by omega) g1, ⟨o _ _ _ _ (by omega) x0, o _ _ _ _ (by omega) x1, o _ _ _ _ (by omega) x2, o _ _ _ _ (by omega) x3⟩, ⟨o _ _ _ _ (by omega) o0, o _ _ _ _ (by omega) o1, o _ _ _ _ (by omega) o2, o _ _ _ _ (by omega) o3⟩, o _ _ _ _ (by omega) p0, o _ _ _ _ (by omega) p1⟩, (Below.heap_setCell W ⟨wc.heap.size, 0, none⟩ _ D (show D ≠ wc.heap.size by omega)).trans hd2, bl_st hbel3 (by omega) _, by simpa using hsz3⟩
  have := h1.set (.int .i64 ((pre.length : Int) + 1))
  simpa using this
theorem rowsOf_moved {X Y U V P Q : Int} (b1 : -1000 ≤ P) (b2 : P ≤ 1000) (b3 : -1000 ≤ Q) (b4 : Q ≤ 1000) (b5 : -1000 ≤ X) (b6 : X ≤ 1000) (b7 : -1000 ≤ Y) (b8 : Y ≤ 1000) : rowsOf (X + P) (Y + Q) U V = rowsOf X Y U V := by
  have h : rightB (X + P) (Y + Q) U V = rightB X Y U V := by
    rw [Bool.eq_iff_iff, rightB_iff, rightB_iff]; omega
  unfold rowsOf
  rw [h]
theorem hasB_moved {X Y U V P Q a b : Int} (b5 : -1000 ≤ X) (b6 : X ≤ 1000) (b7 : -1000 ≤ Y) (b8 : Y ≤ 1000) (h : hasB (X + P) (Y + Q) U V a b = true) : hasB X Y U V (a - P) (b - Q) = true := by
  rw [hasB_iff, rightB_iff] at h ⊢
  omega

set_option maxRecDepth 100000 in
set_option maxHeartbeats 4000000 in
theorem fits_small (A B X Y U V P Q : Int) (w : World) (hs : Stp w) (hu : ¬ 40 < U) (hv : ¬ 40 < V) :
    Calls Tryd.prog 4 #[.agg #[.int .i64 A, .int .i64 B], .agg #[.int .i64 X, .int .i64 Y, .int .i64 U, .int .i64 V], .agg #[.int .i64 P, .int .i64 Q]] w fun e w' => e = .returned (.bool true) ∧ Below w.heap.size w w' := by
  refine (callsIn_wide (n := 11)).1 (callsIn_of_wp_marks Tryd.func4 rfl trivial ?_ rfl)
  simp only [Tryd.ntmps4, List.size_toArray, List.length_cons, List.length_nil, Nat.reduceAdd, Nat.reduceSub, Array.replicate_succ, Array.replicate_zero, List.push_toArray, List.append_toArray, List.nil_append, List.cons_append]
  refine wpIn_wide.2 ?_
  have hn := eql_nil
  go_wp2_with fail
  refine (cells_call _ _ _ _ _).mono ?_
  rintro e w1 ⟨rfl, rfl⟩
  go_wp2_with fail
  obtain ⟨W0, hW0⟩ : ∃ W0, ((((((w.alloc (.cells #[.int .i64 A, .int .i64 B] 23)).alloc (.cells #[.int .i64 X, .int .i64 Y, .int .i64 U, .int .i64 V] 25)).alloc (.cells #[.int .i64 P, .int .i64 Q] 27)).alloc (.cells #[.bool false] 4)).alloc (.cells #[.int .i64 0] 3)).alloc (.cells #[.bool true] 4)).alloc (.cells #[.int .i64 X, .int .i64 Y, .int .i64 U, .int .i64 V] 25) = W0 := ⟨_, rfl⟩
  have hz : W0.heap.size = w.heap.size + 7 := by rw [← hW0]; simp
  have hInv : InvF w W0.heap.size A B X Y U V P Q [] W0 := by
    rw [← hW0]
    refine ⟨⟨?_, ?_, ?_⟩, ⟨⟨by simp [go_sem], by simp [go_sem]⟩, ⟨by simp [go_sem], by simp [go_sem], by simp [go_sem], by simp [go_sem]⟩, ⟨by simp [go_sem], by simp [go_sem]⟩, ?_⟩, Nat.le_refl _⟩
    · have h := ((Boxed.new ((((w.alloc (.cells #[.int .i64 A, .int .i64 B] 23)).alloc (.cells #[.int .i64 X, .int .i64 Y, .int .i64 U, .int .i64 V] 25)).alloc (.cells #[.int .i64 P, .int .i64 Q] 27)).alloc (.cells #[.bool false] 4)) 3 (.int .i64 0)).alloc (.cells #[.bool true] 4)).alloc (.cells #[.int .i64 X, .int .i64 Y, .int .i64 U, .int .i64 V] 25)
      simpa using h
    · have h := (Boxed.new (((((w.alloc (.cells #[.int .i64 A, .int .i64 B] 23)).alloc (.cells #[.int .i64 X, .int .i64 Y, .int .i64 U, .int .i64 V] 25)).alloc (.cells #[.int .i64 P, .int .i64 Q] 27)).alloc (.cells #[.bool false] 4)).alloc (.cells #[.int .i64 0] 3)) 4 (.bool true)).alloc (.cells #[.int .i64 X, .int .i64 Y, .int .i64 U, .int .i64 V] 25)
      simpa [alB] using h
    · have h := (((Boxed.new (((w.alloc (.cells #[.int .i64 A, .int .i64 B] 23)).alloc (.cells #[.int .i64 X, .int .i64 Y, .int .i64 U, .int .i64 V] 25)).alloc (.cells #[.int .i64 P, .int .i64 Q] 27)) 4 (.bool false)).alloc (.cells #[.int .i64 0] 3)).alloc (.cells #[.bool true] 4)).alloc (.cells #[.int .i64 X, .int .i64 Y, .int .i64 U, .int .i64 V] 25)
      simpa using h
    · exact bl_al (bl_al (bl_al (bl_al (bl_al (bl_al (bl_al (bl0 _) _) _) _) _) _) _) _
  have hBx : BoxAt W0 (w.heap.size + 1 + 1 + 1 + 1 + 1 + 1) X Y U V := by rw [← hW0]; refine ⟨?_, ?_, ?_, ?_⟩ <;> simp [go_sem]
  rw [hW0]
  clear hW0
  refine wpIn_wide.1 (range_cells_box (w.heap.size + 1 + 1 + 1 + 1 + 1 + 1) X Y U V _ rfl 10 rfl rfl hBx (InvF w W0.heap.size A B X Y U V P Q) (fun _ _ => False) ?oI (fun _ _ _ _ h _ _ => h) hInv (fun _ _ h => h.2.2) ?assign ?body ?done (fun _ _ _ _ _ h _ => h.elim))
  case oI =>
    rintro pre C D row ⟨⟨h1, h2, h3⟩, h4, h5⟩ hg hr
    have hr' := fun r e => (hr r e).2
    exact ⟨⟨boxed_own _ _ (fun (_ : Unit) => _) () C D row h1 hg hr', boxed_own _ _ (fun (_ : Unit) => _) () C D row h2 hg hr', boxed_own _ _ (fun (_ : Unit) => _) () C D row h3 hg hr'⟩, FixF.own (by omega) A B X Y U V P Q pre C D row h4 hg hr, Nat.le_trans h5 hg.size⟩
  case assign =>
    intro l p W K hK
    simp [roundTmps] at hK
    simp only [roundTmps]
    gi_wp2
    exact hK
  case body =>
    rintro l pre p Bx W ⟨⟨h1, h2, h3⟩, h4, h5⟩ hBl d0 d1 hlen
    simp only [roundTmps]
    have h4' := h4
    obtain ⟨⟨s0, s1⟩, x, y, hbel⟩ := h4'
    have c1 := h1.cell
    have f1 := h1.frozen
    have c2 := h2.cell
    have f2 := h2.frozen
    have hlb : (pre.length : Int) < 10240 := by
      have hr : rowsOf X Y U V * U.toNat ≤ 256 * 40 := Nat.mul_le_mul (rowsOf_le X Y U V) (by omega)
      omega
    have hl0 : (0 : Int) ≤ (pre.length : Int) := by omega
    cases ha : alB A B pre
    · rw [ha] at c2
      simp
      gi_wp2
      refine ⟨trivial, ?_⟩
      gi_wp2
      have hv : false = alB A B (pre ++ [p]) := by rw [alB_snoc, ha]; rfl
      have hk : KeptB (w.heap.size + 1 + 1 + 1 + 1 + 1 + 1) W0.heap.size W ((W.setCell ⟨w.heap.size + 1 + 1 + 1 + 1 + 1, 0, none⟩ (.bool false)).setCell ⟨w.heap.size + 1 + 1 + 1 + 1, 0, none⟩ (.int .i64 ((pre.length : Int) + 1))) :=
        (KeptB.set (k := w.heap.size + 1 + 1 + 1 + 1 + 1) _ (by omega) (by omega)).trans (KeptB.set (k := w.heap.size + 1 + 1 + 1 + 1) _ (by omega) (by omega))
      exact ⟨hk, InvF.next hv ⟨⟨h1, h2, h3⟩, h4, h5⟩⟩
    · rw [ha] at c2
      simp
      gi_wp2_with fail
      refine ⟨trivial, (CallsIn.inRound l (callsIn_wide.2 (in_any _ _ _ _ _))).mono ?_⟩
      rintro e W2 ⟨rfl, hb2⟩
      have hi2 := InvF.below (w := w) ⟨⟨h1, h2, h3⟩, h4, h5⟩ hb2
      have c1' := cell_later hb2 c1
      have f1' := frozen_later hb2 c1 f1
      have c2' := cell_later hb2 c2
      have f2' := frozen_later hb2 c2 f2
      clear s0 s1 x y c1 f1 c2 f2 d0 d1
      gi_wp2
      have hv : inB A B p.1 p.2 = alB A B (pre ++ [p]) := by rw [alB_snoc, ha]; simp
      have hk : KeptB (w.heap.size + 1 + 1 + 1 + 1 + 1 + 1) W0.heap.size W ((W2.setCell ⟨w.heap.size + 1 + 1 + 1 + 1 + 1, 0, none⟩ (.bool (inB A B p.1 p.2))).setCell ⟨w.heap.size + 1 + 1 + 1 + 1, 0, none⟩ (.int .i64 ((pre.length : Int) + 1))) :=
        ((KeptB.of_below hb2).trans (KeptB.set (k := w.heap.size + 1 + 1 + 1 + 1 + 1) _ (by omega) (by omega))).trans (KeptB.set (k := w.heap.size + 1 + 1 + 1 + 1) _ (by omega) (by omega))
      exact ⟨hk, InvF.next hv hi2⟩
  case done =>
    rintro D W hD ⟨⟨h1, h2, h3⟩, ⟨⟨s0, s1⟩, ⟨x0, x1, x2, x3⟩, ⟨p0, p1⟩, hbel⟩, hsz⟩ hdW
    have hfit := boxCells_fits A B X Y U V
    obtain ⟨L, hL⟩ : ∃ L, boxCells X Y U V = L := ⟨_, rfl⟩
    rw [show cellsOf X U.toNat (upto (fun j => Y + (j : Int)) (rowsOf X Y U V)) = boxCells X Y U V from rfl] at h1 h2
    rw [hL] at h1 h2 hfit
    have c1 := h1.cell
    have f1 := h1.frozen
    have c2 := h2.cell
    have f2 := h2.frozen
    have c3 := h3.cell
    have f3 := h3.frozen
    have hs1 := hs.below hbel
    clear hInv hBx hn
    obtain ⟨r, hr⟩ : ∃ r, fitsB A B X Y U V = r := ⟨_, rfl⟩
    have hrf := fits_any A B X Y U V
    rw [hr] at hfit hrf
    generalize hnL : (L.length : Int) = n at c1 hfit
    have HN := Lib.hid (show n = ((rowsOf X Y U V * U.toNat : Nat) : Int) by rw [← hnL, ← hL, boxCells_len])
    clear h1 h2 hL hnL
    go_upto_region 12 with fail
    go_cut [46] from 38 to 46 (fun s wx => s = .bool false ∧ Below W.heap.size W wx)
    case first =>
     by_cases hl : 0 < n
     case' pos =>
      have hfa : alB A B L = r := by rw [← hfit, decide_eq_true hl, Bool.true_and]; rfl
      rw [hfa] at c2
      cases r
      case' false =>
        go_region_held3 (fun w' => w'.cell? ⟨w.heap.size, 0, none⟩ = some (.int .i64 A) ∧ w'.cell? ⟨w.heap.size, 1, none⟩ = some (.int .i64 B) ∧ w'.cell? ⟨w.heap.size + 1, 0, none⟩ = some (.int .i64 X) ∧ w'.cell? ⟨w.heap.size + 1, 1, none⟩ = some (.int .i64 Y) ∧ w'.cell? ⟨w.heap.size + 1, 2, none⟩ = some (.int .i64 U) ∧ w'.cell? ⟨w.heap.size + 1, 3, none⟩ = some (.int .i64 V) ∧ w'.cell? ⟨w.heap.size + 1 + 1 + 1 + 1, 0, none⟩ = some (.int .i64 n) ∧ w'.cell? ⟨w.heap.size + 1 + 1 + 1 + 1 + 1, 0, none⟩ = some (.bool false))
          (refine ⟨cell_later ?_ s0, cell_later ?_ s1, cell_later ?_ x0, cell_later ?_ x1, cell_later ?_ x2, cell_later ?_ x3, cell_later ?_ c1, cell_later ?_ c2⟩ <;> first | exact bl_dr (bl0 _) | exact hk2 | exact bl0 _)
          (((go_at_call 5; refine (hrf _).mono ?_; rintro e W2 ⟨rfl, hb⟩; have hk2 := bl_tr (bl_dr (bl0 _)) hb; clear hb)))
        go_wp2_with fail
        go_meet
        exact ⟨rfl, hk2⟩
      case' true =>
        go_region_held3 (fun w' => w'.cell? ⟨w.heap.size, 0, none⟩ = some (.int .i64 A) ∧ w'.cell? ⟨w.heap.size, 1, none⟩ = some (.int .i64 B) ∧ w'.cell? ⟨w.heap.size + 1, 0, none⟩ = some (.int .i64 X) ∧ w'.cell? ⟨w.heap.size + 1, 1, none⟩ = some (.int .i64 Y) ∧ w'.cell? ⟨w.heap.size + 1, 2, none⟩ = some (.int .i64 U) ∧ w'.cell? ⟨w.heap.size + 1, 3, none⟩ = some (.int .i64 V) ∧ w'.cell? ⟨w.heap.size + 1 + 1 + 1 + 1, 0, none⟩ = some (.int .i64 n) ∧ w'.cell? ⟨w.heap.size + 1 + 1 + 1 + 1 + 1, 0, none⟩ = some (.bool true))
          (refine ⟨cell_later ?_ s0, cell_later ?_ s1, cell_later ?_ x0, cell_later ?_ x1, cell_later ?_ x2, cell_later ?_ x3, cell_later ?_ c1, cell_later ?_ c2⟩ <;> first | exact bl_dr (bl0 _) | exact hk2 | exact bl0 _)
          (((go_at_call 5; refine (hrf _).mono ?_; rintro e W2 ⟨rfl, hb⟩; have hk2 := bl_tr (bl_dr (bl0 _)) hb; clear hb)))
        go_wp2_with fail
        go_meet
        exact ⟨rfl, hk2⟩
     case' neg =>
      have hrr : r = false := by rw [← hfit, decide_eq_false hl, Bool.false_and]
      subst hrr
      generalize alB A B L = q at c2
      have hgl : decide (0 < n) = false := decide_eq_false hl
      refine wp_region_noPanic ?_
      refine wp_region_held_drew (S := (fun w' => w'.cell? ⟨w.heap.size, 0, none⟩ = some (.int .i64 A) ∧ w'.cell? ⟨w.heap.size, 1, none⟩ = some (.int .i64 B) ∧ w'.cell? ⟨w.heap.size + 1, 0, none⟩ = some (.int .i64 X) ∧ w'.cell? ⟨w.heap.size + 1, 1, none⟩ = some (.int .i64 Y) ∧ w'.cell? ⟨w.heap.size + 1, 2, none⟩ = some (.int .i64 U) ∧ w'.cell? ⟨w.heap.size + 1, 3, none⟩ = some (.int .i64 V) ∧ w'.cell? ⟨w.heap.size + 1 + 1 + 1 + 1, 0, none⟩ = some (.int .i64 n) ∧ w'.cell? ⟨w.heap.size + 1 + 1 + 1 + 1 + 1, 0, none⟩ = some (.bool q))) (by kernel_rfl) ⟨cell_later (bl_dr (bl0 _)) s0, cell_later (bl_dr (bl0 _)) s1, cell_later (bl_dr (bl0 _)) x0, cell_later (bl_dr (bl0 _)) x1, cell_later (bl_dr (bl0 _)) x2, cell_later (bl_dr (bl0 _)) x3, cell_later (bl_dr (bl0 _)) c1, cell_later (bl_dr (bl0 _)) c2⟩ (fun hHeld => ?_)
      refine wpAnyH_take (i := 0) (oi := { dst := some 38, op := .load 23 (.tmp 3), type := 23, pos := _, after := #[], guard := none }) (v := .agg #[.int .i64 A, .int .i64 B]) rfl (by kernel_rfl) (by kernel_rfl) (by kernel_rfl) (fun _ _ _ h => h) (Or.inl ⟨by rfl, by (intro w hSw; (try dsimp only at hSw); go_simp)⟩) (by assumption) ?_
      try simp only [Act.put, List.setIfInBounds_toArray, List.set_cons_zero, List.set_cons_succ]
      refine wpAnyH_take (i := 1) (oi := { dst := some 39, op := .load 25 (.tmp 4), type := 25, pos := _, after := #[], guard := none }) (v := .agg #[.int .i64 X, .int .i64 Y, .int .i64 U, .int .i64 V]) rfl (by kernel_rfl) (by kernel_rfl) (by kernel_rfl) (fun _ _ _ h => h) (Or.inl ⟨by rfl, by (intro w hSw; (try dsimp only at hSw); go_simp)⟩) (by assumption) ?_
      try simp only [Act.put, List.setIfInBounds_toArray, List.set_cons_zero, List.set_cons_succ]
      refine wpAnyH_take (i := 3) (oi := { dst := some 41, op := .load 3 (.tmp 7), type := 3, pos := _, after := #[], guard := none }) (v := .int .i64 n) rfl (by kernel_rfl) (by kernel_rfl) (by kernel_rfl) (fun _ _ _ h => h) (Or.inl ⟨by rfl, by (intro w hSw; (try dsimp only at hSw); go_simp)⟩) (by assumption) ?_
      try simp only [Act.put, List.setIfInBounds_toArray, List.set_cons_zero, List.set_cons_succ]
      refine wpAnyH_take (i := 4) (oi := { dst := some 42, op := .binOp .gtr 3 (.tmp 41) (.const (.int .i64 0)) 3, type := 4, pos := _, after := #[{ on := 3, ground := .data }], guard := none }) (v := .bool false) rfl (by kernel_rfl) (by kernel_rfl) (by kernel_rfl) (fun _ _ _ h => h) (Or.inl ⟨by rfl, by (intro w hSw; (try dsimp only at hSw); go_simp)⟩) (by assumption) ?_
      try simp only [Act.put, List.setIfInBounds_toArray, List.set_cons_zero, List.set_cons_succ]
      refine wpAnyH_ready (rs := [2]) (by kernel_rfl) (by simp) ?_
      refine AllReadyH.cons (o := { dst := some 40, op := .call { callee := .value (.func 5), args := #[.tmp 38, .tmp 39], argTypes := #[23, 25] }, type := 4, pos := _, after := #[{ on := 0, ground := .data }, { on := 1, ground := .data }], guard := none }) rfl (fun K hK => ?_) AllReadyH.nil
      go_simp
      go_at_call 5
      refine (hrf _).mono ?_
      rintro e W2 ⟨rfl, hb⟩
      have hk2 := bl_tr (bl_dr (bl0 _)) hb
      clear hb
      go_wp2_with fail
      refine hK.out _ _ ⟨cell_later hk2 s0, cell_later hk2 s1, cell_later hk2 x0, cell_later hk2 x1, cell_later hk2 x2, cell_later hk2 x3, cell_later hk2 c1, cell_later hk2 c2⟩ (fun hHeld => ?_)
      clear hK K
      try simp only [Act.put, List.setIfInBounds_toArray, List.set_cons_zero, List.set_cons_succ]
      refine wpAnyH_take (i := 5) (oi := { dst := some 43, op := .move (.tmp 42), type := 4, pos := _, after := #[{ on := 4, ground := .data }, { on := 2, ground := .chain }], guard := none }) (v := .bool false) rfl (by kernel_rfl) (by kernel_rfl) (by kernel_rfl) (fun _ _ _ h => h) (Or.inl ⟨by rfl, by (intro w hSw; (try dsimp only at hSw); go_simp)⟩) (by assumption) ?_
      try simp only [Act.put, List.setIfInBounds_toArray, List.set_cons_zero, List.set_cons_succ]
      refine wpAnyH_take (i := 6) (oi := { dst := some 44, op := .load 4 (.tmp 8), type := 4, pos := _, after := #[{ on := 5, ground := .guard }], guard := some (5, true) }) (v := undef) rfl (by kernel_rfl) (by kernel_rfl) (by kernel_rfl) (fun _ _ _ h => h) (Or.inr ⟨by rfl, rfl⟩) (by assumption) ?_
      try simp only [Act.put, List.setIfInBounds_toArray, List.set_cons_zero, List.set_cons_succ]
      refine wpAnyH_take (i := 7) (oi := { dst := some 45, op := .pick (.tmp 43) (.tmp 44) (.const (.bool false)), type := 4, pos := _, after := #[{ on := 5, ground := .data }, { on := 6, ground := .data }], guard := none }) (v := .bool false) rfl (by kernel_rfl) (by kernel_rfl) (by kernel_rfl) (fun _ _ _ h => h) (Or.inl ⟨by rfl, by (intro w hSw; (try dsimp only at hSw); go_simp)⟩) (by assumption) ?_
      try simp only [Act.put, List.setIfInBounds_toArray, List.set_cons_zero, List.set_cons_succ]
      refine wpAnyH_take (i := 8) (oi := { dst := some 46, op := .binOp .neq 4 (.tmp 40) (.tmp 45) 4, type := 4, pos := _, after := #[{ on := 2, ground := .data }, { on := 7, ground := .data }], guard := none }) (v := .bool false) rfl (by kernel_rfl) (by kernel_rfl) (by kernel_rfl) (fun _ _ _ h => h) (Or.inl ⟨by rfl, by (intro w hSw; (try dsimp only at hSw); go_simp)⟩) (by assumption) ?_
      try simp only [Act.put, List.setIfInBounds_toArray, List.set_cons_zero, List.set_cons_succ]
      refine wpAnyH_done (by kernel_rfl) ?_ _
      refine NoPanic.normal ?_
      go_wp2_with fail
      go_meet
      exact ⟨rfl, hk2⟩
    case rest =>
      obtain ⟨rfl, hk2⟩ := hcut
      have hbel2 := bl_tr hbel hk2
      have hs2 := hs1.below hk2
      replace x0 := cell_later hk2 x0
      replace x1 := cell_later hk2 x1
      replace x2 := cell_later hk2 x2
      replace x3 := cell_later hk2 x3
      replace p0 := cell_later hk2 p0
      replace p1 := cell_later hk2 p1
      replace f1 := frozen_later hk2 c1 f1
      replace c1 := cell_later hk2 c1
      replace f3 := frozen_later hk2 c3 f3
      replace c3 := cell_later hk2 c3
      replace h3 := boxed_below h3 hk2
      have hd2 : wc.heap[D]? = some (.deferred (some [])) := (hk2.block D (Array.getElem?_eq_some_iff.1 hdW).1).trans hdW
      clear s0 s1 c2 f2 hrf hfit hdW hs1 hbel
      go_upto_region 14 with fail
      go_cut [84] from 47 to 84 (fun s wx => s = .bool (farB P Q X Y) ∧ wx = wc)
      case first =>
        by_cases a1 : P < -1000
        · go_wp2_with fail
          go_meet
          exact ⟨by simp [farB, a1], rfl⟩
        by_cases a2 : 1000 < P
        · go_wp2_with fail
          go_meet
          exact ⟨by simp [farB, a2], rfl⟩
        by_cases a3 : Q < -1000
        · go_wp2_with fail
          go_meet
          exact ⟨by simp [farB, a3], rfl⟩
        by_cases a4 : 1000 < Q
        · go_wp2_with fail
          go_meet
          exact ⟨by simp [farB, a4], rfl⟩
        by_cases a5 : X < -1000
        · go_wp2_with fail
          go_meet
          exact ⟨by simp [farB, a5], rfl⟩
        by_cases a6 : 1000 < X
        · go_wp2_with fail
          go_meet
          exact ⟨by simp [farB, a6], rfl⟩
        by_cases a7 : Y < -1000
        · go_wp2_with fail
          go_meet
          exact ⟨by simp [farB, a7], rfl⟩
        by_cases a8 : 1000 < Y
        · go_wp2_with fail
          go_meet
          exact ⟨by simp [farB, a8], rfl⟩
        go_wp2_with fail
        go_meet
        exact ⟨by simp [farB, a1, a2, a3, a4, a5, a6, a7, a8], rfl⟩
      case rest =>
        obtain ⟨rfl, rfl⟩ := hcut
        cases hfar : farB P Q X Y
        case' true =>
          go_wp2_with fail
          refine (awake_any _ hs2).mono ?_
          rintro e w3 ⟨rfl, hb⟩
          replace f3 := frozen_later hb c3 f3
          replace c3 := cell_later hb c3
          have hd3 := (hb.block D (Array.getElem?_eq_some_iff.1 hd2).1).trans hd2
          have hbel3 := bl_tr hbel2 hb
          go_wp2
          have hd4 : (w3.setCell ⟨w.heap.size + 1 + 1 + 1, 0, none⟩ (.bool true)).heap[D]? = some (.deferred (some [])) := (Below.heap_setCell w3 ⟨w.heap.size + 1 + 1 + 1, 0, none⟩ (.bool true) D (show D ≠ w.heap.size + 1 + 1 + 1 by omega)).trans hd3
          have r3 : ((w3.setCell ⟨w.heap.size + 1 + 1 + 1, 0, none⟩ (.bool true)).putObj D (.deferred none)).cell? ⟨w.heap.size + 1 + 1 + 1, 0, none⟩ = some (.bool true) := cell_put _ (by simp [go_sem, c3]) (by omega)
          refine ⟨by simp, .inl ⟨_, _, rfl, run_takeDeferred hd4, ⟨.bool true, by simp [results, Tryd.f4, go_sem, r3], rfl, ?_⟩⟩⟩
          have hb4 := bl_st hbel3 (b := w.heap.size + 1 + 1 + 1) (o := 0) (by omega) (.bool true)
          exact hb4.grown (grownBy_putObj' _ D _) hb4.size (fun r e => by cases e; omega)
        case' false =>
          obtain ⟨b1, b2, b3, b4, b5, b6, b7, b8⟩ : -1000 ≤ P ∧ P ≤ 1000 ∧ -1000 ≤ Q ∧ Q ≤ 1000 ∧ -1000 ≤ X ∧ X ≤ 1000 ∧ -1000 ≤ Y ∧ Y ≤ 1000 := by
            simp only [farB, decide_eq_false_iff_not] at hfar
            omega
          clear hfar
          have zx := blk_lt x0
          have zp := blk_lt p0
          have zc1 := blk_lt c1
          have zc3 := blk_lt c3
          go_wp2_with fail
          refine (cells_call _ _ _ _ _).mono ?_
          rintro e w3 ⟨rfl, rfl⟩
          have hn := eql_nil
          go_wp2_with fail
          obtain ⟨W1, hW1⟩ : ∃ W1, ((wc.alloc (.cells #[.int .i64 0] 3)).alloc (.cells #[.int .i64 (X + P), .int .i64 (Y + Q), .int .i64 U, .int .i64 V] 25)).alloc (.cells #[.int .i64 (X + P), .int .i64 (Y + Q), .int .i64 U, .int .i64 V] 25) = W1 := ⟨_, rfl⟩
          have hz1 : W1.heap.size = wc.heap.size + 3 := by rw [← hW1]; simp
          have hDl := (Array.getElem?_eq_some_iff.1 hd2).1
          have hkW : Below wc.heap.size wc W1 := by rw [← hW1]; exact bl_al (bl_al (bl_al (bl0 _) _) _) _
          have hInv : InvG w wc W1.heap.size D X Y U V P Q n [] W1 := by
            refine ⟨⟨?_, boxed_below h3 hkW⟩, ⟨cell_later hkW c1, ⟨cell_later hkW x0, cell_later hkW x1, cell_later hkW x2, cell_later hkW x3⟩, ?_, cell_later hkW p0, cell_later hkW p1⟩, (hkW.block D hDl).trans hd2, bl_tr hbel2 hkW, Nat.le_refl _⟩
            · have h := ((Boxed.new wc 3 (.int .i64 0)).alloc (.cells #[.int .i64 (X + P), .int .i64 (Y + Q), .int .i64 U, .int .i64 V] 25)).alloc (.cells #[.int .i64 (X + P), .int .i64 (Y + Q), .int .i64 U, .int .i64 V] 25)
              rw [← hW1]
              simpa using h
            · rw [← hW1]; refine ⟨?_, ?_, ?_, ?_⟩ <;> simp [go_sem]
          have hBx : BoxAt W1 (wc.heap.size + 1 + 1) (X + P) (Y + Q) U V := by rw [← hW1]; refine ⟨?_, ?_, ?_, ?_⟩ <;> simp [go_sem]
          rw [hW1]
          clear hW1 x0 x1 x2 x3 p0 p1 c1 c3 f1 f3 h3 hd2 zx zp zc1 zc3 hn
          refine wpIn_wide.1 (range_cells_box (wc.heap.size + 1 + 1) (X + P) (Y + Q) U V _ rfl 14 rfl rfl hBx (InvG w wc W1.heap.size D X Y U V P Q n) (fun q _ => NoFit (X + P) (Y + Q) U V q) ?oI (fun _ _ _ _ h _ _ => h) hInv (fun _ _ h => h.2.2.2.2) ?assign ?body ?done ?stop)
          case oI => exact InvG.own (by omega) (by omega)
          case assign =>
            intro l p W K hK
            simp [roundTmps] at hK
            simp only [roundTmps]
            gi_wp2
            exact hK
          case body =>
            rintro l pre p Bx W2 ⟨⟨h1, h2⟩, ⟨g1, ⟨x0, x1, x2, x3⟩, ⟨o0, o1, o2, o3⟩, p0, p1⟩, hd2, hbel3, hsz3⟩ hBl d0 d1 hlen
            simp only [roundTmps]
            cases hh : hasB (X + P) (Y + Q) U V p.1 p.2
            · have c2 := h2.cell
              have f2 := h2.frozen
              simp
              gi_wp2_with fail
              refine ⟨trivial, (CallsIn.inRound l (callsIn_wide.2 (has_any _ _ _ _ _ _ _))).mono ?_⟩
              rintro e W3 ⟨rfl, hb3⟩
              rw [hh]
              have c2' := cell_later hb3 c2
              have f2' := frozen_later hb3 c2 f2
              clear g1 x0 x1 x2 x3 o0 o1 o2 o3 p0 p1 c2 f2 d0 d1
              gi_wp2
              refine ⟨trivial, ?_⟩
              gi_wp2
              have hk : KeptB (wc.heap.size + 1 + 1) W1.heap.size W2 (W3.setCell ⟨w.heap.size + 1 + 1 + 1, 0, none⟩ (.bool false)) :=
                (KeptB.of_below hb3).trans (KeptB.set (k := w.heap.size + 1 + 1 + 1) _ (by omega) (by omega))
              exact ⟨hk, ⟨p, by simp, hh⟩⟩
            · have hm := hasB_moved b5 b6 b7 b8 hh
              have hh' := hh
              rw [hasB_iff, rightB_iff] at hh'
              obtain ⟨⟨r1, r2, r3, r4, r5, r6, r7, r8⟩, e1, e2, e3, e4⟩ := hh'
              have q1 : -3000 ≤ p.1 := by omega
              have q2 : p.1 ≤ 3000 := by omega
              have q3 : -3000 ≤ p.2 := by omega
              have q4 : p.2 ≤ 3000 := by omega
              have c1 := h1.cell
              have f1 := h1.frozen
              have hlb : (pre.length : Int) < 10240 := by
                have hr : rowsOf (X + P) (Y + Q) U V * U.toNat ≤ 256 * 40 := Nat.mul_le_mul (rowsOf_le (X + P) (Y + Q) U V) (by omega)
                omega
              have hl0 : (0 : Int) ≤ (pre.length : Int) := by omega
              clear r1 r2 r3 r4 r5 r6 r7 r8 e1 e2 e3 e4
              simp
              gi_wp2_with fail
              refine ⟨trivial, (CallsIn.inRound l (callsIn_wide.2 (has_any _ _ _ _ _ _ _))).mono ?_⟩
              rintro e W3 ⟨rfl, hb3⟩
              rw [hh]
              have hi3 := InvG.below (w := w) ⟨⟨h1, h2⟩, ⟨g1, ⟨x0, x1, x2, x3⟩, ⟨o0, o1, o2, o3⟩, p0, p1⟩, hd2, hbel3, hsz3⟩ hb3
              replace f1 := frozen_later hb3 c1 f1
              replace c1 := cell_later hb3 c1
              replace x0 := cell_later hb3 x0
              replace x1 := cell_later hb3 x1
              replace x2 := cell_later hb3 x2
              replace x3 := cell_later hb3 x3
              replace p0 := cell_later hb3 p0
              replace p1 := cell_later hb3 p1
              replace d0 := cell_later hb3 d0
              replace d1 := cell_later hb3 d1
              gi_wp2_with fail
              refine ⟨trivial, (CallsIn.inRound l (callsIn_wide.2 (has_any _ _ _ _ _ _ _))).mono ?_⟩
              rintro e W4 ⟨rfl, hb4⟩
              rw [hm]
              have hi4 := InvG.below hi3 hb4
              replace f1 := frozen_later hb4 c1 f1
              replace c1 := cell_later hb4 c1
              clear x0 x1 x2 x3 p0 p1 d0 d1 g1 o0 o1 o2 o3
              gi_wp2
              have hk : KeptB (wc.heap.size + 1 + 1) W1.heap.size W2 (W4.setCell ⟨wc.heap.size, 0, none⟩ (.int .i64 ((pre.length : Int) + 1))) :=
                ((KeptB.of_below hb3).trans (KeptB.of_below hb4)).trans (KeptB.set (k := wc.heap.size) _ (by omega) (by omega))
              exact ⟨hk, InvG.next (by omega) (by omega) hi4⟩
          case done =>
            rintro D2 W2 hD2 ⟨⟨h1, h2⟩, ⟨g1, ⟨x0, x1, x2, x3⟩, ⟨o0, o1, o2, o3⟩, p0, p1⟩, hd2, hbel3, hsz3⟩ hdW2
            have hN := HN.out
            rw [rowsOf_moved b1 b2 b3 b4 b5 b6 b7 b8, cellsOf_len, upto_length, ← hN] at h1
            have c1 := h1.cell
            have c3 := h2.cell
            have f3 := h2.frozen
            have hs3 := hs.below hbel3
            clear hN
            go_wp2_with fail
            refine (awake_any _ hs3).mono ?_
            rintro e w4 ⟨rfl, hb⟩
            replace f3 := frozen_later hb c3 f3
            replace c3 := cell_later hb c3
            have hd3 := (hb.block D (Array.getElem?_eq_some_iff.1 hd2).1).trans hd2
            have hdW3 := (hb.block D2 (Array.getElem?_eq_some_iff.1 hdW2).1).trans hdW2
            have hbel4 := bl_tr hbel3 hb
            clear x0 x1 x2 x3 o0 o1 o2 o3 p0 p1 g1 c1
            go_wp2
            have hdW4 : (w4.setCell ⟨w.heap.size + 1 + 1 + 1, 0, none⟩ (.bool true)).heap[D2]? = some (.deferred (some [])) := (Below.heap_setCell w4 ⟨w.heap.size + 1 + 1 + 1, 0, none⟩ (.bool true) D2 (show D2 ≠ w.heap.size + 1 + 1 + 1 by omega)).trans hdW3
            have hd4 : ((w4.setCell ⟨w.heap.size + 1 + 1 + 1, 0, none⟩ (.bool true)).putObj D2 (.deferred none)).heap[D]? = some (.deferred (some [])) := (World.putObj_heap_other (by omega)).trans ((Below.heap_setCell w4 ⟨w.heap.size + 1 + 1 + 1, 0, none⟩ (.bool true) D (show D ≠ w.heap.size + 1 + 1 + 1 by omega)).trans hd3)
            have r3 : (((w4.setCell ⟨w.heap.size + 1 + 1 + 1, 0, none⟩ (.bool true)).putObj D2 (.deferred none)).putObj D (.deferred none)).cell? ⟨w.heap.size + 1 + 1 + 1, 0, none⟩ = some (.bool true) := cell_put _ (cell_put _ (by simp [go_sem, c3]) (by omega)) (by omega)
            refine ⟨by simp, .inl ⟨_, _, rfl, run_takeDeferred hdW4, ⟨by simp, .inl ⟨_, _, rfl, run_takeDeferred hd4, ⟨.bool true, by simp [results, Tryd.f4, go_sem, r3], rfl, ?_⟩⟩⟩⟩⟩
            have hb4 := bl_st hbel4 (b := w.heap.size + 1 + 1 + 1) (o := 0) (by omega) (.bool true)
            have hb5 := hb4.grown (grownBy_putObj' _ D2 (.deferred none)) hb4.size (fun r e => by cases e; omega)
            exact hb5.grown (grownBy_putObj' _ D _) hb5.size (fun r e => by cases e; omega)
          case stop =>
            rintro D2 q W2 _ hq ⟨p, hp, hno⟩ _
            exfalso
            have hm := mem_boxCells.1 (hq.subset hp)
            rw [hno] at hm
            cases hm

set_option maxRecDepth 100000 in
theorem fits_walk (A B X Y U V P Q : Int) (w : World) (hs : Stp w) :
    Calls Tryd.prog 4 #[.agg #[.int .i64 A, .int .i64 B], .agg #[.int .i64 X, .int .i64 Y, .int .i64 U, .int .i64 V], .agg #[.int .i64 P, .int .i64 Q]] w fun e w' => e = .returned (.bool true) ∧ Below w.heap.size w w' := by
  by_cases h : 40 < U ∨ 40 < V
  · exact fits_big A B X Y U V P Q w hs h
  · exact fits_small A B X Y U V P Q w hs (by omega) (by omega)
end Go.Proofs.YtcbhbekhogcedaaDoor
