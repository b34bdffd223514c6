/- Texts joined: Ib, Im, In, Sa, Sb, Sc, Sd, Se, Sf, Sg, Sh, Sj, Kg, Oz, Si, Wo, Sk, Sl. -/
import Derived.Test.YthebiibiapjdiaaQ3
import Derived.Lib.Hide
import Derived.Test.YthebiibiapjdiaaQ1
import Derived.OwnWalk
import Derived.Test.YthebiibiapjdiaaQ2
import Derived.Test.YthebiibiapjdiaaRows
import Derived.ProofKit
import Derived.OpenShut
import Derived.Stop.Joined
import Derived.Lib.SmallJoins
import Derived.Deep.SlicePairs
import Derived.Deep.Matrix
/- The cells of a box, as an iterator: its contract, for whoever keeps what the iterator laid. -/
namespace Go.Proofs.Ythebiibiapjdiaa
open Go.RowKit Go.Shelf
attribute [local go_sem] Oper.semAt_some

/-- Block b, and all from n₁ on, lie as they lay. -/
def KeptB (b n₁ : Nat) (A B : World) : Prop := A.heap.size ≤ B.heap.size ∧ ∀ k, (k = b ∨ n₁ ≤ k) → k < A.heap.size → B.heap[k]? = A.heap[k]?
theorem KeptB.refl (b n₁ : Nat) (A : World) : KeptB b n₁ A A := ⟨Nat.le_refl _, fun _ _ _ => rfl⟩
theorem KeptB.trans {b n₁ : Nat} {A B C : World} (h : KeptB b n₁ A B) (k : KeptB b n₁ B C) : KeptB b n₁ A C :=
  ⟨Nat.le_trans h.1 k.1, fun i hi hl => (k.2 i hi (Nat.lt_of_lt_of_le hl h.1)).trans (h.2 i hi hl)⟩
theorem KeptB.from {b n₁ B : Nat} {A C : World} (h : KeptB b n₁ A C) (hB : n₁ ≤ B) : KeepsFrom B A C :=
  ⟨h.1, fun k o hk ho _ => by have hl := (Array.getElem?_eq_some_iff.1 ho).1; exact (h.2 k (.inr (by omega)) hl).trans ho⟩
theorem KeptB.at {b n₁ k : Nat} {A C : World} (h : KeptB b n₁ A C) (hk : n₁ ≤ k) (hl : k < A.heap.size) : KeepB k A C := h.2 k (.inr hk) hl

theorem yieldAt_any {m : Nat} (m' : Nat) {P : Program} {l : Nat} {args : Array Value} {W : World} {R : Ending → World → Prop} (h : YieldAt Fence.wide m P l args W R) : YieldAt Fence.wide m' P l args W R := by
  obtain ⟨fn, tmps, assign, body, hy, hR⟩ := h
  exact ⟨fn, tmps, assign, body, hy, ⟨hR.1, fun c cs _ => hR.2 c cs (room_wide _)⟩⟩

theorem roundIn_in {F : Fence} (l' : Nat) {m : Nat} {P : Program} {l : Nat} {f : FuncId} {tmps : Array Value} {assign body : Code} {w : World} {R : Ending → World → Prop}
    (h : RoundIn F m P l f tmps assign body w R) : RoundIn (F.inRound l') m P l f tmps assign body w R := h

/-- The cells that come of some rows. -/
def cellsOf (X : Int) (U : Nat) (ys : List Int) : List (Int × Int) := ys.flatMap (fun y => upto (fun c => (X + (c : Int), y)) U)
theorem cellsOf_snoc (X : Int) (U : Nat) (ys : List Int) (y : Int) : cellsOf X U (ys ++ [y]) = cellsOf X U ys ++ upto (fun c => (X + (c : Int), y)) U := by simp [cellsOf, List.flatMap_append]
theorem cellsOf_len (X : Int) (U : Nat) : ∀ ys : List Int, (cellsOf X U ys).length = ys.length * U
  | [] => by simp [cellsOf]
  | y :: ys => by
    have := cellsOf_len X U ys
    simp only [cellsOf, List.flatMap_cons, List.length_append, upto_length, List.length_cons] at this ⊢
    rw [this, Nat.add_mul, Nat.one_mul, Nat.add_comm]
theorem cellsOf_prefix (X : Int) (U : Nat) {ys zs : List Int} (h : ys <+: zs) : cellsOf X U ys <+: cellsOf X U zs := by
  obtain ⟨t, rfl⟩ := h
  exact ⟨cellsOf X U t, by simp [cellsOf, List.flatMap_append]⟩

theorem boxAt_own (b : Nat) (X Y U V : Int) : Own (fun (_ : List Int) W => BoxAt W b X Y U V) := fun _ _ _ _ hs hg hr =>
  ⟨cell_kept hs.1 hg hr, cell_kept hs.2.1 hg hr, cell_kept hs.2.2.1 hg hr, cell_kept hs.2.2.2 hg hr⟩

set_option maxRecDepth 100000 in
set_option maxHeartbeats 4000000 in
theorem cells1_in (l b : Nat) (X Y U V : Int) (N : Nat) (hN : N = rowsOf X Y U V * U.toNat) (J Jx : List (Int × Int) → World → Prop) (W : World) (hJ : OwnFrom W.heap.size J) (hJx : OwnFrom W.heap.size Jx)
    (hY : ∀ pre p W1, J pre W1 → pre.length < N → YieldAt Fence.wide 0 Try.prog l #[.agg #[.int .i64 p.1, .int .i64 p.2]] W1 fun e W' =>
      (e = .returned (.bool true) ∧ J (pre ++ [p]) W' ∧ KeptB b W.heap.size W1 W') ∨ (e = .returned (.bool false) ∧ Jx (pre ++ [p]) W' ∧ KeptB b W.heap.size W1 W'))
    (hB : BoxAt W b X Y U V) (h0 : J [] W) :
    CallsIn Fence.wide 10 Try.prog 87 #[.func (.yield l) #[] #[], .pointer (some ⟨b, 0, none⟩)] W fun e W' => (∃ v, e = .returned v) ∧
      (J (cellsOf X U.toNat (upto (fun j => Y + (j : Int)) (rowsOf X Y U V))) W' ∨ ∃ q, q <+: cellsOf X U.toNat (upto (fun j => Y + (j : Int)) (rowsOf X Y U V)) ∧ Jx q W') := by
  have hbl := blk_lt hB.1
  obtain ⟨b0, b1, b2, b3⟩ := hB
  refine callsIn_of_wp_marks Try.func87 rfl trivial ?_ rfl
  simp only [Try.ntmps87, List.size_toArray, List.length_cons, List.length_nil, Nat.reduceAdd, Nat.reduceSub, Array.replicate_succ, Array.replicate_zero, List.push_toArray, List.append_toArray, List.nil_append, List.cons_append]
  gi_wp2_with fail
  refine ⟨trivial, (rows_in _ _ _ _ _ _).mono ?_⟩
  rintro e w1 ⟨rfl, rfl⟩
  gi_wp2_with fail
  obtain ⟨W0, hW0⟩ : ∃ W0, (W.alloc (.cells #[.func (.yield l) #[] #[]] 48)).alloc (.cells #[.int .i64 X, .int .i64 Y, .int .i64 U, .int .i64 V] 100) = W0 := ⟨_, rfl⟩
  have hz : W0.heap.size = W.heap.size + 2 := by rw [← hW0]; simp
  have hk0 : Below W.heap.size W W0 := by rw [← hW0]; exact bl_al (bl_al (bl0 _) _) _
  have y0 : W0.cell? ⟨W.heap.size, 0, none⟩ = some (.func (.yield l) #[] #[]) := by rw [← hW0]; simp [go_sem]
  have hR : BoxAt W0 (W.heap.size + 1) X Y U V := by rw [← hW0]; refine ⟨?_, ?_, ?_, ?_⟩ <;> simp [go_sem]
  have hB0 : BoxAt W0 b X Y U V := ⟨cell_later hk0 b0, cell_later hk0 b1, cell_later hk0 b2, cell_later hk0 b3⟩
  have hJ0 : J [] W0 := hJ [] W W0 none h0 (grown_of_below hk0) (fun r e => by cases e)
  rw [hW0]
  clear hW0
  refine wpIn_rangeFunc_ownG rfl (by decide) (gf := 101) (lb := #[.pointer (some ⟨W.heap.size + 1, 0, none⟩)]) rfl trivial (enters_of Try.func101 (by kernel_rfl) rfl)
    (rows_stops _ (W.heap.size + 1) X Y U V W0 hR) (fun h k => k.trans h) (fun W' l' o o' hl ho hc _ => ?_) (Below.refl _ _) (fun _ => rfl)
    (fun pre W' => (J (cellsOf X U.toNat pre) W' ∧ BoxAt W' b X Y U V) ∧ W'.cell? ⟨W.heap.size, 0, none⟩ = some (.func (.yield l) #[] #[]) ∧ BoxAt W' (W.heap.size + 1) X Y U V)
    (fun c pre W' => c = .ret ∧ ∃ q, q <+: cellsOf X U.toNat pre ∧ Jx q W')
    (fun s A B row hs hg hr => ⟨⟨hJ _ A B row hs.1.1 hg (fun r e => by obtain ⟨h1, h2⟩ := hr r e; exact ⟨by omega, h2⟩), boxAt_own b X Y U V s A B row hs.1.2 hg (fun r e => (hr r e).2)⟩, cell_kept hs.2.1 hg (fun r e => (hr r e).2), boxAt_own _ X Y U V s A B row hs.2.2 hg (fun r e => (hr r e).2)⟩)
    (fun c s A B row hs hg hr => ⟨hs.1, by obtain ⟨_, q, hq, hx⟩ := hs; exact ⟨q, hq, hJx _ A B row hx hg (fun r e => by obtain ⟨h1, h2⟩ := hr r e; exact ⟨by omega, h2⟩)⟩⟩)
    ⟨⟨hJ0, hB0⟩, y0, hR⟩
    (fun x => { tmps := #[.func (.yield l) #[] #[], .pointer (some ⟨b, 0, none⟩), .pointer (some ⟨W.heap.size, 0, none⟩), .int .i64 x, undef, .agg #[.int .i64 X, .int .i64 Y, .int .i64 U, .int .i64 V], .func (.func 101) #[] #[.pointer (some ⟨W.heap.size + 1, 0, none⟩)], .int .i64 x, undef, undef, undef, undef, undef, undef, undef, undef, undef, undef, undef, undef, undef, undef, undef], defers := [] })
    ?assign ?body ?done ?stop
  · exact World.putObj_heap_other (by omega)
  case assign =>
    intro l' x W' K hK
    gi_wp2
    exact hK
  case body =>
    rintro l' pre x W' ⟨⟨hj, hb'⟩, y1, hrow⟩ hlen
    have hr : rightB X Y U V = true := by
      cases h : rightB X Y U V
      · simp [rowsOf, h] at hlen
      · rfl
    obtain ⟨r1, r2, r3, r4, r5, r6, r7, r8⟩ := rightB_iff.1 hr
    obtain ⟨Un, rfl⟩ := Int.eq_ofNat_of_zero_le r5
    rw [Int.toNat_natCast] at hN hj
    have hmul : (pre.length + 1) * Un ≤ rowsOf X Y Un V * Un := Nat.mul_le_mul_right _ hlen
    rw [Nat.add_mul, Nat.one_mul, ← hN] at hmul
    have hcl := cellsOf_len X Un pre
    have HM := Lib.hid hmul
    have HC := Lib.hid hcl
    clear hmul hcl hN
    have hbq := hb'
    obtain ⟨q0, q1, q2, q3⟩ := hb'
    have r6' : Un ≤ 256 := by omega
    gi_wp2
    gi_loopw [10] (fun i wr => ∃ c : Nat, c ≤ Un ∧ i = .int .i64 c ∧ J (cellsOf X Un pre ++ upto (fun c => (X + (c : Int), x)) c) wr ∧ BoxAt wr b X Y Un V ∧ wr.cell? ⟨W.heap.size, 0, none⟩ = some (.func (.yield l) #[] #[]) ∧ KeptB b W.heap.size W' wr) (fun i _ => Un - (intOf i).toNat)
    case atStart => exact ⟨0, Nat.zero_le _, rfl, by rw [upto_zero, List.append_nil]; exact hj, hbq, y1, KeptB.refl _ _ _⟩
    case round =>
      obtain ⟨c, hc, rfl, hjc, hbc, yc, hkc⟩ := hrel
      have hbd := hbc
      obtain ⟨p0, p1, p2, p3⟩ := hbc
      clear q0 q1 q2 q3 b0 b1 b2 b3 y0 y1
      by_cases hlt : c < Un
      · have hlt' : (c : Int) < (Un : Int) := by omega
        have hlen2 : (cellsOf X Un pre ++ upto (fun c => (X + (c : Int), x)) c).length < N := by
          have h1 := HM.out
          have h2 := HC.out
          rw [List.length_append, upto_length, h2]; omega
        obtain ⟨fn, tmps, assign, body, hy, hR⟩ := yieldAt_any 7 (hY _ (X + (c : Int), x) wr hjc hlen2)
        dsimp only at hy
        gi_wp2
        refine (roundIn_in l' hR).mono ?_
        rintro e W3 (⟨rfl, hJ3, hk3⟩ | ⟨rfl, hJx3, hk3⟩)
        · have hbW : b < wr.heap.size := blk_lt p0
          have hyW := blk_lt yc
          have hB3 : BoxAt W3 b X Y Un V := hbd.kept (hk3.2 b (.inl rfl) hbW)
          have yc3 : W3.cell? ⟨W.heap.size, 0, none⟩ = some (.func (.yield l) #[] #[]) := (World.cell?_of_block (a := ⟨W.heap.size, 0, none⟩) (hk3.2 _ (.inr (Nat.le_refl _)) hyW)).trans yc
          have hJ4 : J (cellsOf X Un pre ++ upto (fun c => (X + (c : Int), x)) (c + 1)) W3 := by rw [upto_succ, ← List.append_assoc]; exact hJ3
          clear hJ3 p0 p1 p2 p3 yc
          gi_wp2
          go_roundw
          case rel => exact ⟨c + 1, by omega, by go_num, hJ4, hB3, yc3, hkc.trans hk3⟩
          case measure => simp [intOf]; omega
        · gi_wp2
          refine ⟨(hkc.trans hk3).from (by omega), rfl, _, ?_, hJx3⟩
          rw [Int.toNat_natCast, cellsOf_snoc, List.append_assoc, ← upto_succ]
          exact List.prefix_append_right_inj _ |>.2 (upto_prefix _ (by omega))
      · obtain rfl : c = Un := by omega
        gi_wp2
        have hk1 := hkc.at (k := W.heap.size + 1) (by omega) (blk_lt hrow.1)
        refine ⟨hkc.from (by omega), hk1, ⟨?_, hbd⟩, yc, hrow.kept hk1⟩
        rw [Int.toNat_natCast, cellsOf_snoc]
        exact hjc
  case done =>
    rintro D ys W' hD rfl ⟨⟨hj, _⟩, _⟩ hK
    gi_wp2
    refine ⟨by simp, .inl ⟨_, _, rfl, run_takeDeferred hK, ?_⟩⟩
    exact ⟨_, results_none rfl _ _ _, ⟨_, rfl⟩, .inl (hJ _ W' _ _ hj (grownBy_putObj' W' D (.deferred none)) (fun r e => by cases e; exact ⟨by omega, _, hK, rfl⟩))⟩
  case stop =>
    rintro D c pre W' hD hpre ⟨rfl, q, hq, hx⟩ hK
    gi_wp2
    refine ⟨by simp, .inl ⟨_, _, rfl, run_takeDeferred hK, ?_⟩⟩
    exact ⟨_, results_none rfl _ _ _, ⟨_, rfl⟩, .inr ⟨q, hq.trans (cellsOf_prefix X _ hpre), hJx _ W' _ _ hx (grownBy_putObj' W' D (.deferred none)) (fun r e => by cases e; exact ⟨by omega, _, hK, rfl⟩)⟩⟩
end Go.Proofs.Ythebiibiapjdiaa

/- The cells of a box, as a list: what lies in it, and when all of it lies on a map. -/
namespace Go.Proofs.Ythebiibiapjdiaa
open Go.RowKit Go.Shelf

/-- All cells of a box, in the order of the rows. -/
def boxCells (X Y U V : Int) : List (Int × Int) := cellsOf X U.toNat (upto (fun j => Y + (j : Int)) (rowsOf X Y U V))
theorem boxCells_len (X Y U V : Int) : (boxCells X Y U V).length = rowsOf X Y U V * U.toNat := by simp [boxCells, cellsOf_len, upto_length]
theorem mem_upto {α : Type} {f : Nat → α} {k : Nat} {a : α} : a ∈ upto f k ↔ ∃ i, i < k ∧ f i = a := by simp [upto]
theorem mem_boxCells {X Y U V : Int} {p : Int × Int} : p ∈ boxCells X Y U V ↔ hasB X Y U V p.1 p.2 = true := by
  rw [hasB_iff]
  unfold boxCells cellsOf
  simp only [List.mem_flatMap, mem_upto]
  unfold rowsOf
  constructor
  · rintro ⟨y, ⟨i, hi, rfl⟩, ⟨c, hc, rfl⟩⟩
    by_cases hr : rightB X Y U V = true
    · rw [if_pos hr] at hi
      refine ⟨hr, ?_, ?_, ?_, ?_⟩ <;> dsimp only <;> omega
    · rw [if_neg hr] at hi; omega
  · rintro ⟨hr, h1, h2, h3, h4⟩
    rw [if_pos hr]
    refine ⟨p.2, ⟨(p.2 - Y).toNat, by omega, by omega⟩, ⟨(p.1 - X).toNat, by omega, ?_⟩⟩
    apply Prod.ext
    · dsimp only; omega
    · rfl
theorem boxCells_not {X Y U V : Int} (h : rightB X Y U V = false) : boxCells X Y U V = [] := by simp [boxCells, rowsOf, h, upto, cellsOf]

/-- A box's cells are all on the map, and there is one: the box fits. -/
theorem boxCells_fits (A B X Y U V : Int) : (decide (0 < ((boxCells X Y U V).length : Int)) && (boxCells X Y U V).all (fun p => inB A B p.1 p.2)) = fitsB A B X Y U V := by
  rw [Bool.eq_iff_iff, fitsB_iff]
  simp only [Bool.and_eq_true, decide_eq_true_eq, List.all_eq_true]
  constructor
  · rintro ⟨h0, ha⟩
    by_cases hr : rightB X Y U V = true
    · obtain ⟨r1, r2, r3, r4, r5, r6, r7, r8⟩ := rightB_iff.1 hr
      have hpos : 0 < U ∧ 0 < V := by
        rw [boxCells_len, rowsOf, if_pos hr] at h0
        constructor
        · by_cases hu : 0 < U
          · exact hu
          · have : U.toNat = 0 := by omega
            rw [this] at h0; simp at h0
        · by_cases hv : 0 < V
          · exact hv
          · have : V.toNat = 0 := by omega
            rw [this] at h0; simp at h0
      have a := inB_iff.1 (ha (X, Y) (mem_boxCells.2 (hasB_iff.2 ⟨hr, by dsimp only; omega, by dsimp only; omega, by dsimp only; omega, by dsimp only; omega⟩)))
      have b := inB_iff.1 (ha (X + U - 1, Y + V - 1) (mem_boxCells.2 (hasB_iff.2 ⟨hr, by dsimp only; omega, by dsimp only; omega, by dsimp only; omega, by dsimp only; omega⟩)))
      dsimp only at a b
      exact ⟨hr, mayB_iff.2 ⟨by omega, by omega, by omega, by omega⟩, by omega, by omega, by omega, by omega, by omega, by omega⟩
    · rw [boxCells_not (by simpa using hr)] at h0; simp at h0
  · rintro ⟨hr, hm, h1, h2, h3, h4, h5, h6⟩
    obtain ⟨m1, m2, m3, m4⟩ := mayB_iff.1 hm
    refine ⟨?_, fun p hp => ?_⟩
    · have : (X, Y) ∈ boxCells X Y U V := mem_boxCells.2 (hasB_iff.2 ⟨hr, by dsimp only; omega, by dsimp only; omega, by dsimp only; omega, by dsimp only; omega⟩)
      have := List.length_pos_of_mem this
      omega
    · obtain ⟨_, q1, q2, q3, q4⟩ := hasB_iff.1 (mem_boxCells.1 hp)
      exact inB_iff.2 ⟨m1, m2, m3, m4, by omega, by omega, by omega, by omega⟩
end Go.Proofs.Ythebiibiapjdiaa

/- A loop over the cells of a box within a round of another one: the law. -/
namespace Go.Proofs.Ythebiibiapjdiaa
open Go.RowKit Go.Shelf
attribute [local go_sem] Oper.semAt_some

/-- How the body of a round is left: at its end. -/
def bodyB (b n₁ : Nat) (I : List (Int × Int) → World → Prop) (xs : List (Int × Int)) (W : World) : Exit → Act → World → Prop
  | .normal, _, W' => KeptB b n₁ W W' ∧ I xs W'
  | _, _, _ => False

theorem KeptB.put {b n₁ l : Nat} {A : World} (o : Obj) (hl : l < n₁) (hb : l ≠ b) : KeptB b n₁ A (A.putObj l o) :=
  ⟨by simp, fun k hk _ => World.putObj_heap_other (by rcases hk with h | h <;> omega)⟩
theorem KeptB.up {b n₁ n₂ : Nat} {A B : World} (h : KeptB b n₁ A B) (hn : n₁ ≤ n₂) : KeptB b n₂ A B := ⟨h.1, fun k hk hl => h.2 k (by omega) hl⟩
theorem KeptB.heap {b n₁ k : Nat} {A B : World} {o : Obj} (h : KeptB b n₁ A B) (hk : n₁ ≤ k) (ho : A.heap[k]? = some o) : B.heap[k]? = some o := (h.2 k (.inr hk) (Array.getElem?_eq_some_iff.1 ho).1).trans ho

set_option maxHeartbeats 1000000 in
theorem range_cells_n {ps : Array Tmp} {assign body : Code} {g : Operand} {Q : Exit → Act → World → Prop} {a : Act} {w : World} {l₀ : Nat} {r₀ : Loop} (hl₀ : w.heap[l₀]? = some (.loop r₀)) (b : Nat) (X Y U V : Int) (N : Nat) (hN : N = rowsOf X Y U V * U.toNat)
    (hg : a.eval g = .func (.func 87) #[] #[.pointer (some ⟨b, 0, none⟩)]) (hps : ps.size = 1) (hB : BoxAt w b X Y U V)
    (I : List (Int × Int) → World → Prop) (hI : OwnFrom w.heap.size I) (h0 : I [] w)
    (Ax : Int × Int → Act → World → Prop) (hAx : ∀ p a', OwnFrom w.heap.size (fun (_ : Unit) W => Ax p a' W))
    (hassign : ∀ (l : Nat) (pre : List (Int × Int)) (p : Int × Int) (W : World) (K : Act → World → Prop), I pre W → (∀ a' W', KeptB b w.heap.size W W' → I pre W' → Ax p a' W' → K a' W') →
      assign.wpIn (Fence.wide.inRound l) 7 Try.prog (Exit.then K (fun _ _ _ => False)) { tmps := (ps.zip #[.agg #[.int .i64 p.1, .int .i64 p.2]]).foldl (fun t (p, v) => t.setIfInBounds p v) a.tmps, defers := [] } W)
    (hbody : ∀ (l : Nat) (pre : List (Int × Int)) (p : Int × Int) (a' : Act) (W : World), I pre W → Ax p a' W → pre.length < N → body.wpIn (Fence.wide.inRound l) 7 Try.prog (bodyB b w.heap.size I (pre ++ [p]) W) a' W)
    (hdone : ∀ (W : World), I (cellsOf X U.toNat (upto (fun j => Y + (j : Int)) (rowsOf X Y U V))) W → Q .normal a W) :
    (Code.rangeFunc g ps assign body).wpIn (Fence.wide.inRound l₀) 7 Try.prog Q a w := by
  have hbl := blk_lt hB.1
  refine wpIn_rangeFunc fun fn hfn => ?_
  obtain ⟨R, hR⟩ : ∃ R : LoopState → Option Code → Loop, R = fun st pe => { state := st, pending := pe, fn, tmps := a.tmps, params := ps, assign, body, defers := r₀.defers } := ⟨_, rfl⟩
  obtain ⟨W1, hW1⟩ : ∃ W1, w.alloc (.loop (R .ready none)) = W1 := ⟨_, rfl⟩
  have hz : W1.heap.size = w.heap.size + 1 := by rw [← hW1]; simp
  have hk1 : Below w.heap.size w W1 := by rw [← hW1]; exact bl_al (bl0 _) _
  have hL1 : W1.heap[w.heap.size]? = some (.loop (R .ready none)) := by rw [← hW1]; exact World.alloc_heap_new w _
  have hB1 : BoxAt W1 b X Y U V := hB.kept (hk1.block b hbl)
  have hI1 : I [] W1 := hI [] w W1 none h0 (grown_of_below hk1) (fun r e => by cases e)
  refine ⟨w.heap.size, [], W1, { target := .fn (.func 87) #[.pointer (some ⟨b, 0, none⟩)], args := #[.func (.yield w.heap.size) #[] #[]] }, W1, 87,
    #[.func (.yield w.heap.size) #[] #[], .pointer (some ⟨b, 0, none⟩)], W1, ?_, ?_, ?_, ?_, (fun h => by cases h), ?_⟩
  · rw [← hW1, hR]; exact run_enterLoop_inner hl₀ _ _ _ _ _
  · simp only [resolve, hg]
    simp [go_sem]
  · intro f' _; exact trivial
  · simp [invoke, go_sem]
  refine CallsIn.inRound l₀ (callsIn_deep _ ((cells1_in w.heap.size b X Y U V N hN
    (fun pre W => I pre W ∧ W.heap[w.heap.size]? = some (.loop (R .ready none)))
    (fun _ _ => False)
    W1 ?oJ ?oJx ?round hB1 ⟨hI1, hL1⟩).mono ?behind))
  case oJ =>
    intro s A B row hs hg' hr
    exact ⟨hI s A B row hs.1 hg' (fun r e => ⟨by have := (hr r e).1; omega, (hr r e).2⟩), (hg'.block _ (Array.getElem?_eq_some_iff.1 hs.2).1 (fun e => by have := (hr _ e.symm).1; omega)).trans hs.2⟩
  case oJx => exact fun _ _ _ _ h _ _ => h
  case behind =>
    rintro e W2 ⟨⟨v, rfl⟩, (⟨hi, hl⟩ | ⟨q, hq, hi⟩)⟩
    · have he := run_endLoop (P := Try.prog) hl (by rw [hR]; simp)
      rw [hR] at he
      exact ⟨none, _, he, hdone _ (hI _ W2 _ _ hi (grownBy_putObj' W2 _ _) (fun r e => by cases e; exact ⟨by omega, _, hl, rfl⟩))⟩
    · exact hi.elim
  case round =>
    rintro pre p W ⟨hi, hl⟩ hlen
    rw [hz]
    have hy := run_yield (P := Try.prog) (args := #[.agg #[.int .i64 p.1, .int .i64 p.2]]) hl (by rw [hR]; simp [hps])
    rw [hR] at hy
    refine yieldAt_any (m := 7) 0 ⟨fn, _, assign, body, hy, roundIn_of_wpIn hfn (hassign _ pre p W _ hi ?_)⟩
    intro a' Wa hka hia hax
    have hl2 := hka.heap (k := w.heap.size) (by omega) hl
    refine ⟨_, run_beginRound hl2 (by rw [hR]), ?_⟩
    obtain ⟨W3, hW3⟩ : ∃ W3, Wa.putObj w.heap.size (.loop { R .ready none with state := .busy }) = W3 := ⟨_, rfl⟩
    rw [hW3]
    have hl3 : W3.heap[w.heap.size]? = some (.loop { R .ready none with state := .busy }) := by rw [← hW3]; exact World.putObj_heap_same (Array.getElem?_eq_some_iff.1 hl2).1
    have hp3 : KeptB b (w.heap.size + 1) Wa W3 := by rw [← hW3]; exact KeptB.put _ (by omega) (by omega)
    have hg3 : Wa.grownBy W3 (some w.heap.size) := by rw [← hW3]; exact grownBy_putObj' _ _ _
    have hr3 : ∀ r, some w.heap.size = some r → w.heap.size ≤ r ∧ ∃ o : Obj, Wa.heap[r]? = some o ∧ o.isCells = false := fun r e => by cases e; exact ⟨by omega, _, hl2, rfl⟩
    refine wpIn_mono (hbody _ pre p a' W3 (hI _ Wa W3 _ hia hg3 hr3) (hAx p a' () Wa W3 _ hax hg3 hr3) hlen) ?_
    rintro e a3 W4 hp
    cases e with
    | normal =>
      obtain ⟨hb4, hi4⟩ := hp
      have hl4 := hb4.heap (k := w.heap.size) (by omega) hl3
      have he := run_endRound (P := Try.prog) none hl4
      refine ⟨_, _, he, .inl ⟨rfl, ⟨hI _ W4 _ _ hi4 (grownBy_putObj' W4 _ _) (fun r e => by cases e; exact ⟨by omega, _, hl4, rfl⟩), ?_⟩, ?_⟩⟩
      · rw [World.putObj_heap_same (Array.getElem?_eq_some_iff.1 hl4).1, hR]; rfl
      · exact ((((hka.up (by omega)).trans hp3).trans (hb4.up (by omega))).trans (KeptB.put _ (by omega) (by omega)))
    | ret => exact hp.elim
    | exit id => exact hp.elim
    | goto t => exact hp.elim
    | panic ch => exact hp.elim
    | outgrown => exact hp.elim

end Go.Proofs.Ythebiibiapjdiaa

/- Sight: sets of what is seen. -/
namespace Go.Proofs.Ythebiibiapjdiaa
open Go.RowKit

set_option maxHeartbeats 800000 in
theorem around_any (X Y r : Int) (w : World) (hx1 : 0 ≤ X) (hx2 : X ≤ 256) (hy1 : 0 ≤ Y) (hy2 : Y ≤ 256) (h1 : 0 ≤ r) (h2 : r ≤ 1000000) :
    Calls Try.prog 63 #[.agg #[.int .i64 X, .int .i64 Y], .int .i64 r] w fun e w' => e = .returned (.agg #[.int .i64 (X - r), .int .i64 (Y - r), .int .i64 (2 * r + 1), .int .i64 (2 * r + 1)]) ∧ Below w.heap.size w w' := by
  go_enter Try.func63, Try.ntmps63
  go_wp2
  exact bodyPost_ret (v := .agg #[.int .i64 (X - r), .int .i64 (Y - r), .int .i64 (2 * r + 1), .int .i64 (2 * r + 1)]) (by simp [results, Try.results63, go_sem]) rfl ⟨rfl, bl_al (bl_al (bl0 _) _) _⟩
end Go.Proofs.Ythebiibiapjdiaa

/- Sight: put, a list of cells put into a set. -/
namespace Go.Proofs.Ythebiibiapjdiaa
open Go.RowKit

/-- All cells put in, one by one. -/
def putAll (X : Int) (bs : List Nat) (zs : List (Int × Int)) : List Nat := zs.foldl (fun bs p => setB bs (p.2 * X + p.1).toNat true) bs
theorem putAll_succ (X : Int) (bs : List Nat) (zs : List (Int × Int)) (k : Nat) (hk : k < zs.length) : putAll X bs (zs.take (k + 1)) = setB (putAll X bs (zs.take k)) (zs[k].2 * X + zs[k].1).toNat true := by
  unfold putAll
  rw [List.take_succ_eq_append_getElem hk, List.foldl_append]
  rfl
theorem Good.putAll {X Y : Int} {bs : List Nat} (g : Good X Y bs) : ∀ (zs : List (Int × Int)), (∀ z ∈ zs, inB X Y z.1 z.2 = true) → Good X Y (putAll X bs zs)
  | [], _ => g
  | z :: zs, h => Good.putAll (bs := setB bs (z.2 * X + z.1).toNat true) (g.set (h z (by simp)) true) zs (fun y hy => h y (by simp [hy]))

set_option maxHeartbeats 1600000 in
theorem put_yes (X Y : Int) (b h : Nat) (bs : List Nat) (a : Option Addr) (cap : Nat) (zs : List (Int × Int)) (w : World) (hm : MaskAt w b h X Y bs) (hg : Good X Y bs) (hne : b ≠ h) (hr : RowC w a zs) (hra : ∀ gb o, zs ≠ [] → a = some ⟨gb, o, none⟩ → gb ≠ h) (hl : zs.length ≤ 1048576) (hin : ∀ z ∈ zs, inB X Y z.1 z.2 = true) :
    Calls Try.prog 61 #[.pointer (some ⟨b, 0, none⟩), .slice a zs.length cap] w fun e w' => e = .returned (.int .i64 0) ∧ MaskAt w' b h X Y (putAll X bs zs) ∧ w.grownBy w' (some h) := by
  have hl2 : (zs.length : Int) ≤ 1048576 := by omega
  have hhl : h < w.heap.size := (Array.getElem?_eq_some_iff.1 hm.2).1
  go_enter Try.func61, Try.ntmps61
  go_wp2
  go_loopw [10] (fun i wr => ∃ k : Nat, k ≤ zs.length ∧ i = .int .i64 k ∧ MaskAt wr b h X Y (putAll X bs (zs.take k)) ∧ w.grownBy wr (some h)) (fun i _ => zs.length - (intOf i).toNat)
  case atStart => exact ⟨0, Nat.zero_le _, rfl, hm, World.grownBy.refl _ _⟩
  case round =>
    obtain ⟨k, hk, rfl, hmr, hAr⟩ := hrel
    by_cases hlt : k < zs.length
    · have hlt2 : (k : Int) < (zs.length : Int) := by omega
      have hk0 : (0 : Int) ≤ (k : Int) := by omega
      rcases hr with rfl | ⟨gb, go, rfl, hcell⟩
      · simp at hlt
      obtain ⟨q0, q1⟩ := hcell k _ (List.getElem?_eq_getElem hlt)
      have hgh := hra gb go (by intro e0; rw [e0] at hlt; simp at hlt) rfl
      replace q0 := hAr.cell q0 (by simp; exact fun e => hgh e)
      replace q1 := hAr.cell q1 (by simp; exact fun e => hgh e)
      have zq := blk_lt q0
      have hi := hin _ (List.getElem_mem hlt)
      have hg2 := hg.putAll (zs.take k) (fun z hz => hin z (List.mem_of_mem_take hz))
      have HS := Lib.hid (putAll_succ X bs zs k hlt)
      have hm3 := hmr.below (bl_al (bl0 wr) (.cells #[.int .i64 zs[k].1, .int .i64 zs[k].2] 37))
      have hA3 := hAr.trans (World.grownBy_alloc wr (.cells #[.int .i64 zs[k].1, .int .i64 zs[k].2] 37) (some h))
      clear hcell hm hmr
      go_wp2_with fail
      refine (set_yes b h X Y _ _ _ true _ hm3 hg2 hne hi).mono ?_
      rintro e w2 ⟨rfl, hm2, hgr⟩
      rw [← HS.out] at hm2
      have hA2 := hA3.trans hgr
      clear hgr hAr hA3 hm3 q0 q1 HS
      go_wp2
      exact ⟨⟨k + 1, hlt, rfl, hm2, hA2⟩, by simp [intOf]; omega⟩
    · obtain rfl : k = zs.length := by omega
      rw [List.take_length] at hmr
      go_wp2
      go_ret
      exact ⟨rfl, hmr, hAr⟩
set_option maxHeartbeats 1600000 in
theorem put_no (X Y : Int) (b h : Nat) (bs : List Nat) (a : Option Addr) (cap : Nat) (zs : List (Int × Int)) (w : World) (hm : MaskAt w b h X Y bs) (hg : Good X Y bs) (hne : b ≠ h) (hr : RowC w a zs) (hra : ∀ gb o, zs ≠ [] → a = some ⟨gb, o, none⟩ → gb ≠ h) (hl : zs.length ≤ 1048576) (j : Nat) (hj : j < zs.length) (hin : ∀ z ∈ zs.take j, inB X Y z.1 z.2 = true) (hbad : inB X Y zs[j].1 zs[j].2 = false) :
    Calls Try.prog 61 #[.pointer (some ⟨b, 0, none⟩), .slice a zs.length cap] w fun e w' => e = .returned (.int .i64 10) ∧ w.grownBy w' (some h) := by
  have hl2 : (zs.length : Int) ≤ 1048576 := by omega
  have hhl : h < w.heap.size := (Array.getElem?_eq_some_iff.1 hm.2).1
  go_enter Try.func61, Try.ntmps61
  go_wp2
  go_loopw [10] (fun i wr => ∃ k : Nat, k ≤ j ∧ i = .int .i64 k ∧ MaskAt wr b h X Y (putAll X bs (zs.take k)) ∧ w.grownBy wr (some h)) (fun i _ => zs.length - (intOf i).toNat)
  case atStart => exact ⟨0, Nat.zero_le _, rfl, hm, World.grownBy.refl _ _⟩
  case round =>
    obtain ⟨k, hk, rfl, hmr, hAr⟩ := hrel
    have hlt : k < zs.length := by omega
    have hbadk : ∀ (e : k = j), inB X Y zs[k].1 zs[k].2 = false := fun e => by subst e; exact hbad
    have hink : k < j → inB X Y zs[k].1 zs[k].2 = true := fun e => hin _ (by rw [List.mem_take_iff_getElem]; exact ⟨k, by omega, rfl⟩)
    · have hlt2 : (k : Int) < (zs.length : Int) := by omega
      have hk0 : (0 : Int) ≤ (k : Int) := by omega
      rcases hr with rfl | ⟨gb, go, rfl, hcell⟩
      · simp at hlt
      obtain ⟨q0, q1⟩ := hcell k _ (List.getElem?_eq_getElem hlt)
      have hgh := hra gb go (by intro e0; rw [e0] at hlt; simp at hlt) rfl
      replace q0 := hAr.cell q0 (by simp; exact fun e => hgh e)
      replace q1 := hAr.cell q1 (by simp; exact fun e => hgh e)
      have zq := blk_lt q0
      have hg2 := hg.putAll (zs.take k) (fun z hz => hin z ((List.take_prefix_take_left (l := zs) hk).subset hz))
      have HS := Lib.hid (putAll_succ X bs zs k hlt)
      have hm3 := hmr.below (bl_al (bl0 wr) (.cells #[.int .i64 zs[k].1, .int .i64 zs[k].2] 37))
      have hA3 := hAr.trans (World.grownBy_alloc wr (.cells #[.int .i64 zs[k].1, .int .i64 zs[k].2] 37) (some h))
      have HBK := Lib.hid hbadk
      have HIK := Lib.hid hink
      have HBAD := Lib.hid hbad
      clear hcell hm hmr hbadk hink hbad
      go_wp2_with fail
      by_cases hkj : k = j
      · refine (set_no b h X Y _ _ _ true _ hm3 (HBK.out hkj)).mono ?_
        rintro e w2 ⟨rfl, hb2⟩
        have hA2 := hA3.trans ((grown_of_below hb2).but (some h))
        clear hAr hA3 hm3 q0 q1 HS hb2
        go_wp2
        go_ret
        exact ⟨rfl, hA2⟩
      · have hlj : k < j := by omega
        refine (set_yes b h X Y _ _ _ true _ hm3 hg2 hne (HIK.out hlj)).mono ?_
        rintro e w2 ⟨rfl, hm2, hgr⟩
        rw [← HS.out] at hm2
        have hA2 := hA3.trans hgr
        clear hgr hAr hA3 hm3 q0 q1 HS
        go_wp2
        exact ⟨⟨k + 1, hlj, rfl, hm2, hA2⟩, by simp [intOf]; omega⟩
end Go.Proofs.Ythebiibiapjdiaa

/- Sight: All of what is wrong. -/
namespace Go.Proofs.Ythebiibiapjdiaa
open Go.RowKit

set_option maxRecDepth 100000 in
set_option maxHeartbeats 1600000 in
theorem all_check (X Y r : Int) (a a2 : Option Addr) (n c n2 c2 : Nat) (w : World) (hx : chkF X Y (n : Int) ≠ 0) :
    Calls Try.prog 16 #[.agg #[.int .i64 X, .int .i64 Y, .slice a n c], .slice a2 n2 c2, .int .i64 r] w fun e w' => e = .returned (.tuple #[.pointer none, .int .i64 (chkF X Y (n : Int))]) ∧ Below w.heap.size w w' := by
  have hA := bl0 w
  obtain ⟨q, hq⟩ : ∃ q, chkF X Y n = q := ⟨_, rfl⟩
  have hq0 : (q != 0) = true := by rw [bne_iff_ne, ← hq]; exact hx
  have HQ := Lib.hid hq
  rw [hq]
  clear hx hq
  go_enter Try.func16, Try.ntmps16
  go_wp2_with fail
  refine (check_any _ _ _ _ _ _).mono ?_
  rintro e w1 ⟨rfl, hb⟩
  have hk : Below w.heap.size w w1 := by first | exact hb | exact bl_tr (bl_al (bl0 _) _) hb | exact bl_tr (bl_dr (bl_al (bl0 _) _)) hb | exact bl_tr (bl_al (bl_al (bl0 _) _) _) hb | exact bl_tr (bl_dr (bl_al (bl_al (bl0 _) _) _)) hb | exact bl_tr (bl_al (bl_al (bl_al (bl0 _) _) _) _) hb | exact bl_tr (bl_dr (bl_al (bl_al (bl_al (bl0 _) _) _) _)) hb | exact bl_tr (bl_al (bl_al (bl_al (bl_al (bl0 _) _) _) _) _) hb | exact bl_tr (bl_dr (bl_al (bl_al (bl_al (bl_al (bl0 _) _) _) _) _)) hb | exact bl_tr (bl_al (bl_al (bl_al (bl_al (bl_al (bl0 _) _) _) _) _) _) hb | exact bl_tr (bl_dr (bl_al (bl_al (bl_al (bl_al (bl_al (bl0 _) _) _) _) _) _)) hb | exact bl_tr (bl_al (bl_al (bl_al (bl_al (bl_al (bl_al (bl0 _) _) _) _) _) _) _) hb | exact bl_tr (bl_dr (bl_al (bl_al (bl_al (bl_al (bl_al (bl_al (bl0 _) _) _) _) _) _) _)) hb | exact bl_tr (bl_dr (bl0 _)) hb
  replace hA := bl_tr hA hk
  clear hb hk
  rw [HQ.out]
  go_wp2
  exact bodyPost_ret (v := .tuple #[.pointer none, .int .i64 q]) (by simp [results, Try.results16, go_sem]) rfl ⟨rfl, hA⟩

set_option maxRecDepth 100000 in
set_option maxHeartbeats 1600000 in
theorem all_radius (X Y r : Int) (a a2 : Option Addr) (n c n2 c2 : Nat) (w : World) (hx : chkF X Y (n : Int) = 0) (hr : r < 0 ∨ 16 < r) :
    Calls Try.prog 16 #[.agg #[.int .i64 X, .int .i64 Y, .slice a n c], .slice a2 n2 c2, .int .i64 r] w fun e w' => e = .returned (.tuple #[.pointer none, .int .i64 1]) ∧ Below w.heap.size w w' := by
  have hA := bl0 w
  have HQ := Lib.hid hx
  clear hx
  have key : r < 0 ∨ (¬ r < 0 ∧ 16 < r) := by omega
  clear hr
  rcases key with hr | ⟨hr, hr2⟩
  all_goals
    go_enter Try.func16, Try.ntmps16
    go_wp2_with fail
    refine (check_any _ _ _ _ _ _).mono ?_
    rintro e w1 ⟨rfl, hb⟩
    have hk : Below w.heap.size w w1 := by first | exact hb | exact bl_tr (bl_al (bl0 _) _) hb | exact bl_tr (bl_dr (bl_al (bl0 _) _)) hb | exact bl_tr (bl_al (bl_al (bl0 _) _) _) hb | exact bl_tr (bl_dr (bl_al (bl_al (bl0 _) _) _)) hb | exact bl_tr (bl_al (bl_al (bl_al (bl0 _) _) _) _) hb | exact bl_tr (bl_dr (bl_al (bl_al (bl_al (bl0 _) _) _) _)) hb | exact bl_tr (bl_al (bl_al (bl_al (bl_al (bl0 _) _) _) _) _) hb | exact bl_tr (bl_dr (bl_al (bl_al (bl_al (bl_al (bl0 _) _) _) _) _)) hb | exact bl_tr (bl_al (bl_al (bl_al (bl_al (bl_al (bl0 _) _) _) _) _) _) hb | exact bl_tr (bl_dr (bl_al (bl_al (bl_al (bl_al (bl_al (bl0 _) _) _) _) _) _)) hb | exact bl_tr (bl_al (bl_al (bl_al (bl_al (bl_al (bl_al (bl0 _) _) _) _) _) _) _) hb | exact bl_tr (bl_dr (bl_al (bl_al (bl_al (bl_al (bl_al (bl_al (bl0 _) _) _) _) _) _) _)) hb | exact bl_tr (bl_dr (bl0 _)) hb
    replace hA := bl_tr hA hk
    have rr := cell_later hb (v := .int .i64 r) (a := ⟨w.heap.size + 1, 0, none⟩) (by simp [go_sem])
    clear hb hk
    have zrr := blk_lt rr
    rw [HQ.out]
    go_wp2
    exact bodyPost_ret (v := .tuple #[.pointer none, .int .i64 1]) (by simp [results, Try.results16, go_sem]) rfl ⟨rfl, hA⟩
end Go.Proofs.Ythebiibiapjdiaa

/- Sight: which cells are in a set when a list was put into it. -/
namespace Go.Proofs.Ythebiibiapjdiaa
open Go.RowKit

/-- The number of a cell, by its map's width. -/
def numC (X : Int) (z : Int × Int) : Nat := (z.2 * X + z.1).toNat
theorem bitAt_putAll {X Y : Int} : ∀ (zs : List (Int × Int)) (bs : List Nat), Good X Y bs → (∀ z ∈ zs, inB X Y z.1 z.2 = true) → ∀ i : Nat, bitAt (putAll X bs zs) i = true ↔ (bitAt bs i = true ∨ ∃ z ∈ zs, numC X z = i)
  | [], bs, _, _, i => by simp [putAll]
  | z :: zs, bs, g, h, i => by
    have hz := h z (by simp)
    have ih := bitAt_putAll zs (setB bs (z.2 * X + z.1).toNat true) (g.set hz true) (fun y hy => h y (by simp [hy])) i
    have e : putAll X bs (z :: zs) = putAll X (setB bs (z.2 * X + z.1).toNat true) zs := rfl
    rw [e, ih, bitAt_setB _ _ _ (g.idx hz)]
    by_cases hi : i = (z.2 * X + z.1).toNat
    · subst hi
      simp [numC]
    · rw [if_neg hi]
      constructor
      · rintro (h | ⟨y, hy, e⟩)
        · exact .inl h
        · exact .inr ⟨y, by simp [hy], e⟩
      · rintro (h | ⟨y, hy, e'⟩)
        · exact .inl h
        · rcases List.mem_cons.1 hy with rfl | hy
          · exact absurd e'.symm hi
          · exact .inr ⟨y, hy, e'⟩
/-- Two cells of a map with the same number are the same. -/
theorem numC_inj {X Y : Int} {a b : Int × Int} (ha : inB X Y a.1 a.2 = true) (hb : inB X Y b.1 b.2 = true) (h : numC X a = numC X b) : a = b := by
  obtain ⟨a1, a2⟩ := idx_lt ha
  obtain ⟨b1, b2⟩ := idx_lt hb
  obtain ⟨h1, h2, h3, h4, h5, h6, h7, h8⟩ := inB_iff.1 ha
  obtain ⟨_, _, _, _, k5, k6, k7, k8⟩ := inB_iff.1 hb
  unfold numC at h
  have e : a.2 * X + a.1 = b.2 * X + b.1 := by omega
  have e1 : a.2 = b.2 := by
    have p : (a.2 * X + a.1) / X = a.2 := by rw [Int.add_comm, Int.add_mul_ediv_right _ _ (by omega), Int.ediv_eq_zero_of_lt h5 h6, Int.zero_add]
    have q : (b.2 * X + b.1) / X = b.2 := by rw [Int.add_comm, Int.add_mul_ediv_right _ _ (by omega), Int.ediv_eq_zero_of_lt k5 k6, Int.zero_add]
    rw [← p, ← q, e]
  have e2 : a.1 = b.1 := by rw [e1] at e; omega
  exact Prod.ext e2 e1
end Go.Proofs.Ythebiibiapjdiaa

/- Sight: All of a cell off the map. -/
namespace Go.Proofs.Ythebiibiapjdiaa
open Go.RowKit

theorem good_zero0 {X Y : Int} (h : mayB X Y = true) : Good X Y (List.replicate ((X * Y + 7) / 8).toNat 0) := by
  obtain ⟨h1, h2, h3, h4⟩ := mayB_iff.1 h
  have m1 : 0 ≤ X * Y := Int.mul_nonneg (by omega) (by omega)
  refine ⟨h, by simp; omega, fun x hx => by rw [(List.mem_replicate.1 hx).2]; omega, fun i _ => ?_⟩
  unfold bitAt
  rw [List.getD_eq_getElem?_getD, List.getElem?_replicate]
  split <;> simp

set_option maxRecDepth 100000 in
set_option maxHeartbeats 4000000 in
theorem all_off (X Y r : Int) (a a2 : Option Addr) (n c c2 : Nat) (zs : List (Int × Int)) (w : World) (hx : chkF X Y (n : Int) = 0) (hmay : mayB X Y = true) (hr : 0 ≤ r) (hr2 : r ≤ 16) (hz : RowC w a2 zs) (hl : zs.length ≤ 1048576)
    (j : Nat) (hj : j < zs.length) (hin : ∀ z ∈ zs.take j, inB X Y z.1 z.2 = true) (hbad : inB X Y zs[j].1 zs[j].2 = false) :
    Calls Try.prog 16 #[.agg #[.int .i64 X, .int .i64 Y, .slice a n c], .slice a2 zs.length c2, .int .i64 r] w fun e w' => e = .returned (.tuple #[.pointer none, .int .i64 10]) ∧ Below w.heap.size w w' := by
  have hA := bl0 w
  have HQ := Lib.hid hx
  clear hx
  go_enter Try.func16, Try.ntmps16
  go_wp2_with fail
  refine (check_any _ _ _ _ _ _).mono ?_
  rintro e w1 ⟨rfl, hb⟩
  have hk : Below w.heap.size w w1 := by first | exact hb | exact bl_tr (bl_al (bl0 _) _) hb | exact bl_tr (bl_dr (bl_al (bl0 _) _)) hb | exact bl_tr (bl_al (bl_al (bl0 _) _) _) hb | exact bl_tr (bl_dr (bl_al (bl_al (bl0 _) _) _)) hb | exact bl_tr (bl_al (bl_al (bl_al (bl0 _) _) _) _) hb | exact bl_tr (bl_dr (bl_al (bl_al (bl_al (bl0 _) _) _) _)) hb | exact bl_tr (bl_al (bl_al (bl_al (bl_al (bl0 _) _) _) _) _) hb | exact bl_tr (bl_dr (bl_al (bl_al (bl_al (bl_al (bl0 _) _) _) _) _)) hb | exact bl_tr (bl_al (bl_al (bl_al (bl_al (bl_al (bl0 _) _) _) _) _) _) hb | exact bl_tr (bl_dr (bl_al (bl_al (bl_al (bl_al (bl_al (bl0 _) _) _) _) _) _)) hb | exact bl_tr (bl_al (bl_al (bl_al (bl_al (bl_al (bl_al (bl0 _) _) _) _) _) _) _) hb | exact bl_tr (bl_dr (bl_al (bl_al (bl_al (bl_al (bl_al (bl_al (bl0 _) _) _) _) _) _) _)) hb | exact bl_tr (bl_dr (bl0 _)) hb
  replace hA := bl_tr hA hk
  have rr := cell_later hb (v := .int .i64 r) (a := ⟨w.heap.size + 1, 0, none⟩) (by simp [go_sem])
  have f0 := cell_later hb (v := .int .i64 X) (a := ⟨w.heap.size, 0, none⟩) (by simp [go_sem])
  have f1 := cell_later hb (v := .int .i64 Y) (a := ⟨w.heap.size, 1, none⟩) (by simp [go_sem])
  have f2 := cell_later hb (v := .slice a n c) (a := ⟨w.heap.size, 2, none⟩) (by simp [go_sem])
  clear hb hk
  have zrr := blk_lt rr
  have zf0 := blk_lt f0
  have zf1 := blk_lt f1
  have zf2 := blk_lt f2
  rw [HQ.out]
  go_wp2_with fail
  refine (new_yes X Y _ hmay).mono ?_
  rintro e w2 ⟨b, h, rfl, hmk, hb1, hh1, hne, hb⟩
  have hz2 := hz.below (bl_tr hA hb)
  have hra : ∀ gb o, a2 = some ⟨gb, o, none⟩ → zs ≠ [] → gb ≠ h := by
    rintro gb o rfl hne' rfl
    obtain ⟨b', o', e1, q, _⟩ := hz.cell hj
    cases e1
    have := blk_lt q
    have := hA.size
    omega
  have hzs : zs ≠ [] := by intro e; rw [e] at hj; simp at hj
  have hgz := good_zero0 hmay
  replace hA := bl_tr hA hb
  go_wp2_with fail
  refine (put_no X Y b h _ a2 c2 zs _ hmk hgz hne hz2 (fun gb o _ e => hra gb o e hzs) hl j hj hin hbad).mono ?_
  rintro e w3 ⟨rfl, hg⟩
  have hF := hA.grown hg hA.size (fun r e => by cases e; omega)
  clear hg hmk hb hA
  go_wp2
  exact bodyPost_ret (v := .tuple #[.pointer none, .int .i64 10]) (by simp [results, Try.results16, go_sem]) rfl ⟨rfl, hF⟩
end Go.Proofs.Ythebiibiapjdiaa

/- Sight: All of what is right. -/
namespace Go.Proofs.Ythebiibiapjdiaa
open Go.RowKit Go.Shelf
attribute [local go_sem] Oper.semAt_some

/-- How far two cells lie apart. -/
def farN (a b : Int × Int) : Nat := (max (apartI a.1 b.1) (apartI a.2 b.2)).toNat
/-- What one line adds q a set. -/
def lookTo (X Y : Int) (zs : List Int) (e : Int × Int) (bs : List Nat) (q : Int × Int) : List Nat :=
  if inB X Y q.1 q.2 = true then putAll X bs (seenF X zs e.1 e.2 q.1 q.2 (farN e q)) else bs
/-- The cells of the box around a cell. -/
def boxOf (r : Int) (e : Int × Int) : List (Int × Int) := cellsOf (e.1 - r) (2 * r + 1).toNat (upto (fun j => e.2 - r + (j : Int)) (rowsOf (e.1 - r) (e.2 - r) (2 * r + 1) (2 * r + 1)))
def lookBox (X Y : Int) (zs : List Int) (e : Int × Int) (bs : List Nat) (l : List (Int × Int)) : List Nat := l.foldl (lookTo X Y zs e) bs
def lookAll (X Y : Int) (zs : List Int) (r : Int) (bs : List Nat) (es : List (Int × Int)) : List Nat := es.foldl (fun bs e => lookBox X Y zs e bs (boxOf r e)) bs
theorem lookBox_snoc (X Y : Int) (zs : List Int) (e : Int × Int) (bs : List Nat) (l : List (Int × Int)) (c : Int × Int) : lookBox X Y zs e bs (l ++ [c]) = lookTo X Y zs e (lookBox X Y zs e bs l) c := by simp [lookBox, List.foldl_append]
theorem lookAll_snoc (X Y : Int) (zs : List Int) (r : Int) (bs : List Nat) (l : List (Int × Int)) (c : Int × Int) : lookAll X Y zs r bs (l ++ [c]) = lookBox X Y zs c (lookAll X Y zs r bs l) (boxOf r c) := by simp [lookAll, List.foldl_append]

theorem seen_in {X Y : Int} {zs : List Int} {e q : Int × Int} (h1 : inB X Y e.1 e.2 = true) (h2 : inB X Y q.1 q.2 = true) : ∀ z ∈ seenF X zs e.1 e.2 q.1 q.2 (farN e q), inB X Y z.1 z.2 = true := by
  intro z hz
  obtain ⟨n, hn, hdx, hdy⟩ := far_nat e.1 e.2 q.1 q.2
  have en : farN e q = n := by unfold farN; omega
  rw [en] at hz
  have hz2 := (take_prefix_walk _ _).subset hz
  unfold lineF at hz2
  obtain ⟨k, hk, rfl⟩ := List.mem_map.1 hz2
  rw [List.mem_range] at hk
  exact line_in h1 h2 hdx hdy (by omega)
theorem Good.lookTo {X Y : Int} {zs : List Int} {e : Int × Int} {bs : List Nat} (g : Good X Y bs) (h1 : inB X Y e.1 e.2 = true) (q : Int × Int) : Good X Y (lookTo X Y zs e bs q) := by
  unfold Proofs.Ythebiibiapjdiaa.lookTo
  split
  · rename_i h2; exact g.putAll _ (seen_in h1 h2)
  · exact g
theorem Good.lookBox {X Y : Int} {zs : List Int} {e : Int × Int} (h1 : inB X Y e.1 e.2 = true) : ∀ (l : List (Int × Int)) (bs : List Nat), Good X Y bs → Good X Y (lookBox X Y zs e bs l)
  | [], _, g => g
  | c :: l, bs, g => Good.lookBox h1 l (Proofs.Ythebiibiapjdiaa.lookTo X Y zs e bs c) (g.lookTo h1 c)
theorem Good.lookAll {X Y : Int} {zs : List Int} {r : Int} : ∀ (es : List (Int × Int)) (bs : List Nat), (∀ e ∈ es, inB X Y e.1 e.2 = true) → Good X Y bs → Good X Y (lookAll X Y zs r bs es)
  | [], _, _, g => g
  | e :: es, bs, h, g => Good.lookAll es (Proofs.Ythebiibiapjdiaa.lookBox X Y zs e bs (boxOf r e)) (fun x hx => h x (by simp [hx])) (Good.lookBox (h e (by simp)) _ _ g)

theorem gcells_in (n : Nat) (X Y U V : Int) (w : World) :
    CallsIn Fence.wide n Try.prog 56 #[.agg #[.int .i64 X, .int .i64 Y, .int .i64 U, .int .i64 V]] w fun e w' => e = .returned (.func (.func 87) #[] #[.pointer (some ⟨w.heap.size, 0, none⟩)]) ∧ w' = w.alloc (.cells #[.int .i64 X, .int .i64 Y, .int .i64 U, .int .i64 V] 100) := by
  refine callsIn_of_wp Try.func56 rfl trivial ?_ rfl
  simp only [Try.ntmps56, List.size_toArray, List.length_cons, List.length_nil, Nat.reduceAdd, Nat.reduceSub, Array.replicate_succ, Array.replicate_zero, List.push_toArray, List.append_toArray, List.nil_append, List.cons_append]
  gi_wp2
  go_ret
  exact ⟨rfl, rfl⟩

/-- A row of cells lies apart from a set's bytes. -/
theorem rowC_apart {w : World} {a : Option Addr} {zs : List (Int × Int)} {b h : Nat} {X Y : Int} {bs : List Nat} (hr : RowC w a zs) (hm : MaskAt w b h X Y bs) : ∀ gb o, zs ≠ [] → a = some ⟨gb, o, none⟩ → gb ≠ h := by
  rintro gb o hz rfl rfl
  obtain ⟨b', o', e1, q, _⟩ := hr.cell (List.length_pos_iff.2 hz)
  cases e1
  unfold World.cell? at q
  simp only [hm.2] at q
  simp only [List.getElem?_toArray, List.getElem?_map] at q
  simp at q
theorem KeptB.of_below {b n₁ : Nat} {A C : World} (h : Below A.heap.size A C) : KeptB b n₁ A C := ⟨h.size, fun k _ hl => h.block k hl⟩
theorem KeptM.of_grown {p b h n c r : Nat} {A B : World} (g : A.grownBy B (some r)) (h1 : r ≠ p) (h2 : r ≠ b) (h3 : r ≠ h) (h4 : r < n) : KeptM p b h n c A B :=
  ⟨g.size, fun k hk hl => g.block k hl (fun e => by cases e; omega), fun k o hk ho _ => (g.block k (Array.getElem?_eq_some_iff.1 ho).1 (fun e => by cases e; omega)).trans ho⟩
theorem KeptB.of_grown {b n r : Nat} {A B : World} (g : A.grownBy B (some r)) (h1 : r ≠ b) (h2 : r < n) : KeptB b n A B :=
  ⟨g.size, fun k hk hl => g.block k hl (fun e => by cases e; omega)⟩
/-- What a loop that fills a set holds: all lies as it lay but the set's bytes. -/
def FillI (W0 : World) (b h : Nat) (X Y : Int) (f : List (Int × Int) → List Nat) (pre : List (Int × Int)) (W : World) : Prop := W0.grownBy W (some h) ∧ MaskAt W b h X Y (f pre) ∧ Good X Y (f pre)
theorem fillI_own {W0 : World} {n₁ b h : Nat} {X Y : Int} {f : List (Int × Int) → List Nat} (hn : W0.heap.size ≤ n₁) (hb : b < n₁) (hh : h < n₁) : OwnFrom n₁ (FillI W0 b h X Y f) := fun s C D row hs hg hr =>
  ⟨⟨hg.os.trans hs.1.os, hg.tape.trans hs.1.tape, hg.output.trans hs.1.output, Nat.le_trans hs.1.size hg.size, fun i hi hne => (hg.block i (Nat.lt_of_lt_of_le hi hs.1.size) (fun e => by have := (hr i e.symm).1; omega)).trans (hs.1.block i hi hne)⟩,
   hs.2.1.kept hg (fun e => by have := (hr b e.symm).1; omega) (fun e => by have := (hr h e.symm).1; omega), hs.2.2⟩
theorem FillI.below {W0 W W' : World} {b h : Nat} {X Y : Int} {f : List (Int × Int) → List Nat} {pre : List (Int × Int)} (i : FillI W0 b h X Y f pre W) (hb : Below W.heap.size W W') : FillI W0 b h X Y f pre W' :=
  ⟨i.1.trans (grown_weak (grown_of_below hb) _), i.2.1.below hb, i.2.2⟩

set_option maxRecDepth 100000 in
set_option maxHeartbeats 8000000 in
theorem all_yes (X Y r : Int) (a a2 : Option Addr) (c c2 : Nat) (fs : List Int) (zs : List (Int × Int)) (w : World) (hx : chkF X Y (fs.length : Int) = 0) (hmay : mayB X Y = true) (hr : 0 ≤ r) (hr2 : r ≤ 16) (hrf : RowH w a fs) (hz : RowC w a2 zs) (hl : zs.length ≤ 1048576)
    (hin : ∀ z ∈ zs, inB X Y z.1 z.2 = true) :
    Calls Try.prog 16 #[.agg #[.int .i64 X, .int .i64 Y, .slice a fs.length c], .slice a2 zs.length c2, .int .i64 r] w fun e w' => ∃ b h, e = .returned (.tuple #[.pointer (some ⟨b, 0, none⟩), .int .i64 0]) ∧
      MaskAt w' b h X Y (lookAll X Y fs r (List.replicate ((X * Y + 7) / 8).toNat 0) (cellsM X Y (putAll X (List.replicate ((X * Y + 7) / 8).toNat 0) zs))) ∧ w.heap.size ≤ b ∧ w.heap.size ≤ h ∧ b ≠ h ∧ Below w.heap.size w w' := by
  have hA := bl0 w
  have HQ := Lib.hid hx
  clear hx
  have hgz := good_zero0 hmay
  obtain ⟨z0, hz0⟩ : ∃ z0, List.replicate ((X * Y + 7) / 8).toNat 0 = z0 := ⟨_, rfl⟩
  rw [hz0] at hgz ⊢
  have hgf := hgz.putAll zs hin
  obtain ⟨fb, hfb⟩ : ∃ fb, putAll X z0 zs = fb := ⟨_, rfl⟩
  rw [hfb] at hgf ⊢
  refine (callsIn_wide (n := 11)).1 (callsIn_of_wp_marks Try.func16 rfl trivial ?_ rfl)
  simp only [Try.ntmps16, List.size_toArray, List.length_cons, List.length_nil, Nat.reduceAdd, Nat.reduceSub, Array.replicate_succ, Array.replicate_zero, List.push_toArray, List.append_toArray, List.nil_append, List.cons_append]
  refine wpIn_wide.2 ?_
  go_wp2_with fail
  refine (check_any _ _ _ _ _ _).mono ?_
  rintro e w1 ⟨rfl, hb⟩
  have hk : Below w.heap.size w w1 := by first | exact hb | exact bl_tr (bl_al (bl0 _) _) hb | exact bl_tr (bl_dr (bl_al (bl0 _) _)) hb | exact bl_tr (bl_al (bl_al (bl0 _) _) _) hb | exact bl_tr (bl_dr (bl_al (bl_al (bl0 _) _) _)) hb | exact bl_tr (bl_al (bl_al (bl_al (bl0 _) _) _) _) hb | exact bl_tr (bl_dr (bl_al (bl_al (bl_al (bl0 _) _) _) _)) hb | exact bl_tr (bl_al (bl_al (bl_al (bl_al (bl0 _) _) _) _) _) hb | exact bl_tr (bl_dr (bl_al (bl_al (bl_al (bl_al (bl0 _) _) _) _) _)) hb | exact bl_tr (bl_al (bl_al (bl_al (bl_al (bl_al (bl0 _) _) _) _) _) _) hb | exact bl_tr (bl_dr (bl_al (bl_al (bl_al (bl_al (bl_al (bl0 _) _) _) _) _) _)) hb | exact bl_tr (bl_al (bl_al (bl_al (bl_al (bl_al (bl_al (bl0 _) _) _) _) _) _) _) hb | exact bl_tr (bl_dr (bl_al (bl_al (bl_al (bl_al (bl_al (bl_al (bl0 _) _) _) _) _) _) _)) hb | exact bl_tr (bl_dr (bl0 _)) hb
  replace hA := bl_tr hA hk
  have rr := cell_later hb (v := .int .i64 r) (a := ⟨w.heap.size + 1, 0, none⟩) (by simp [go_sem])
  have f0 := cell_later hb (v := .int .i64 X) (a := ⟨w.heap.size, 0, none⟩) (by simp [go_sem])
  have f1 := cell_later hb (v := .int .i64 Y) (a := ⟨w.heap.size, 1, none⟩) (by simp [go_sem])
  have f2 := cell_later hb (v := .slice a fs.length c) (a := ⟨w.heap.size, 2, none⟩) (by simp [go_sem])
  clear hb hk
  have zrr := blk_lt rr
  have zf0 := blk_lt f0
  have zf1 := blk_lt f1
  have zf2 := blk_lt f2
  rw [HQ.out]
  go_wp2_with fail
  refine (new_yes X Y _ hmay).mono ?_
  rintro e w2 ⟨b1, h1, rfl, hmk, hb1, hh1, hne, hb⟩
  rw [hz0] at hmk
  have hz2 := hz.below (bl_tr hA hb)
  have hra : ∀ gb o, zs ≠ [] → a2 = some ⟨gb, o, none⟩ → gb ≠ h1 := by
    rintro gb o hne' rfl rfl
    obtain ⟨b', o', e1, q, _⟩ := hz.cell (List.length_pos_iff.2 hne')
    cases e1
    have := blk_lt q
    have := hA.size
    omega
  replace hA := bl_tr hA hb
  replace rr := cell_later hb rr
  replace f0 := cell_later hb f0
  replace f1 := cell_later hb f1
  replace f2 := cell_later hb f2
  have zrr := blk_lt rr
  have zf0 := blk_lt f0
  go_wp2_with fail
  refine (put_yes X Y b1 h1 _ a2 c2 zs _ hmk hgz hne hz2 hra hl hin).mono ?_
  rintro e w3 ⟨rfl, hmf, hg⟩
  rw [hfb] at hmf
  replace rr := hg.cell rr (by simp; omega)
  replace f0 := hg.cell f0 (by simp; omega)
  replace f1 := hg.cell f1 (by simp; omega)
  replace f2 := hg.cell f2 (by simp; omega)
  have hF := hA.grown hg hA.size (fun r e => by cases e; omega)
  clear hg hmk hb hA
  go_wp2_with fail
  refine (new_yes X Y _ hmay).mono ?_
  rintro e w4 ⟨b2, h2, rfl, hms, hb2, hh2, hne2, hb⟩
  rw [hz0] at hms
  replace rr := cell_later hb rr
  replace f0 := cell_later hb f0
  replace f1 := cell_later hb f1
  replace f2 := cell_later hb f2
  have hmf4 := hmf.below hb
  have hA4 := bl_tr hF hb
  have lt1 := hmf.lt
  have hgl := Lib.hid hb2
  have hgl2 := Lib.hid hh2
  clear hb hmf
  go_wp2_with fail
  refine ((callsIn_wide (n := 11)).1 (mcells_in _ _ _)).mono ?_
  rintro e w5 ⟨rfl, rfl⟩
  go_wp2_with fail
  refine (wpIn_wide (n := 11)).1 ?_
  obtain ⟨W0, hW0⟩ : ∃ W0, (w4.alloc (.cells #[.pointer (some ⟨b2, 0, none⟩)] 30)).alloc (.cells #[.pointer (some ⟨b1, 0, none⟩)] 30) = W0 := ⟨_, rfl⟩
  rw [hW0]
  have hzz : W0.heap.size = w4.heap.size + 2 := by rw [← hW0]; simp
  have hk0 : Below w4.heap.size w4 W0 := by rw [← hW0]; exact bl_al (bl_al (bl0 _) _) _
  have hs0 : SetAt W0 (w4.heap.size + 1) b1 h1 X Y fb := ⟨by rw [← hW0]; simp [go_sem], hmf4.below hk0⟩
  have S0 : W0.cell? ⟨w4.heap.size, 0, none⟩ = some (.pointer (some ⟨b2, 0, none⟩)) := by rw [← hW0]; simp [go_sem]
  clear hW0
  have lt2 := hms.lt
  have hms0 : MaskAt W0 b2 h2 X Y z0 := hms.below hk0
  have R0 := cell_later hk0 rr
  have F0 := cell_later hk0 f0
  have F1 := cell_later hk0 f1
  have F2 := cell_later hk0 f2
  have hB0 : Below w.heap.size w W0 := bl_tr hA4 hk0
  have l2 := hgl2.out
  have l1 := hgl.out
  have zw : w.heap.size + 1 < w2.heap.size := zrr
  have zw3 := hF.size
  have zh1 : w1.heap.size ≤ w3.heap.size := by omega
  have hw13 : w.heap.size + 1 < w3.heap.size := by omega
  clear rr f0 f1 f2 hms hmf4
  obtain ⟨hl1, hl2⟩ := lt1
  obtain ⟨hl3, hl4⟩ := lt2
  have hrH := hrf.below (bl0 w)
  refine range_iterP (P := fun c => inB X Y c.1 c.2 = true) (w4.heap.size + 1) b1 h1 90 #[.pointer (some ⟨w4.heap.size + 1, 0, none⟩)] (cellsM X Y fb) (iter_setP _ _ _ X Y fb hmay hgf.2.2.1 hgf.small W0 hs0) rfl rfl (by omega) (by omega) (by omega)
    (enters_of Try.func90 (by kernel_rfl) rfl)
    (FillI W0 b2 h2 X Y (lookAll X Y fs r z0)) (fun _ _ _ => False)
    (fillI_own (Nat.le_refl _) (by omega) (by omega)) (fun _ _ _ _ _ h _ _ => h)
    ⟨World.grownBy.refl _ _, hms0, hgz⟩
    (fun e a' W => ∃ Bx, W0.heap.size ≤ Bx ∧ W.cell? ⟨Bx, 0, none⟩ = some (.int .i64 e.1) ∧ W.cell? ⟨Bx, 1, none⟩ = some (.int .i64 e.2) ∧ a' = { tmps := #[.agg #[.int .i64 X, .int .i64 Y, .slice a fs.length c], .slice a2 zs.length c2, .int .i64 r, .pointer (some ⟨w.heap.size, 0, none⟩), undef, .pointer (some ⟨w.heap.size + 1, 0, none⟩), .pointer none, .int .i64 0, .int .i64 0, .pointer (some ⟨b1, 0, none⟩), .int .i64 0, .int .i64 0, .pointer (some ⟨w4.heap.size, 0, none⟩), .int .i64 0, .pointer (some ⟨Bx, 0, none⟩), undef, .agg #[.int .i64 X, .int .i64 Y, .slice a fs.length c], .int .i64 0, .int .i64 0, .bool false, undef, .int .i64 r, .bool (decide (r < 0)), .bool (decide (r < 0)), .int .i64 r, .bool (decide (16 < r)), .bool (decide (r < 0) || decide (16 < r)), .tuple #[.pointer (some ⟨b1, 0, none⟩), .int .i64 0], .pointer (some ⟨w.heap.size, 0, none⟩), .agg #[.int .i64 X, .int .i64 Y], .tuple #[.pointer (some ⟨b1, 0, none⟩), .int .i64 0], .pointer (some ⟨b1, 0, none⟩), .int .i64 0, .pointer (some ⟨b1, 0, none⟩), .slice a2 zs.length c2, .int .i64 0, .int .i64 0, .bool false, undef, .tuple #[.pointer (some ⟨b2, 0, none⟩), .int .i64 0], .pointer (some ⟨w.heap.size, 0, none⟩), .agg #[.int .i64 X, .int .i64 Y], .tuple #[.pointer (some ⟨b2, 0, none⟩), .int .i64 0], .pointer (some ⟨b2, 0, none⟩), .int .i64 0, .pointer (some ⟨b1, 0, none⟩), .func (.func 90) #[] #[.pointer (some ⟨w4.heap.size + 1, 0, none⟩)], .agg #[.int .i64 e.1, .int .i64 e.2], undef, undef, undef, undef, undef, undef, undef, undef, undef, undef, undef, undef, undef, undef, undef, undef], defers := [] })
    ?ax ?assign ?body ?done ?stop
  case ax =>
    rintro e a' _ C D row ⟨Bx, x1, x2, x3, x4⟩ hg' hr'
    exact ⟨Bx, x1, cell_kept x2 hg' (fun r e => (hr' r e).2), cell_kept x3 hg' (fun r e => (hr' r e).2), x4⟩
  case assign =>
    rintro l pre e W K hi' hK
    have hbW := bl_al (bl0 W) (.cells #[.int .i64 e.1, .int .i64 e.2] 37)
    have hK' := hK _ _ (KeptM.of_below hbW) (hi'.below hbW) ⟨W.heap.size, hi'.1.size, by simp [go_sem], by simp [go_sem], rfl⟩
    clear hK
    simp
    gi_wp2
    exact hK'
  case done =>
    rintro D W hD ⟨hgr, hmw, hgd⟩ hK
    have sc := hgr.cell S0 (by simp; omega)
    go_wp2
    refine ⟨by simp, .inl ⟨_, _, rfl, run_takeDeferred hK, ?_⟩⟩
    have hgp := grownBy_putObj' W D (.deferred none)
    refine ⟨_, by simp [results, Try.results16, go_sem], b2, h2, rfl, hmw.kept hgp (by simp; omega) (by simp; omega), by omega, by omega, hne2, ?_⟩
    exact (hB0.grown hgr hB0.size (fun r e => by cases e; omega)).grown hgp (by have := hgr.size; have := hB0.size; omega) (fun r e => by cases e; have := hB0.size; omega)
  case stop =>
    rintro D cc q W hD hq h hK
    exact h.elim
  case body =>
    rintro l pre e a' W ⟨r0, hl0⟩ hPe ⟨hgr, hmw, hgd⟩ ⟨Bx, hBx, d0, d1, rfl⟩ hsz hlt
    obtain ⟨ex, ey⟩ := e
    obtain ⟨p1, p2, p3, p4, p5, p6, p7, p8⟩ := inB_iff.1 hPe
    have rr := hgr.cell R0 (by simp; omega)
    have zB := blk_lt d0
    gi_wp2_with fail
    refine ⟨trivial, (CallsIn.inRound l (callsIn_wide.2 (around_any ex ey r _ p5 (by omega) p7 (by omega) hr (by omega)))).mono ?_⟩
    rintro e w6 ⟨rfl, hb6⟩
    gi_wp2_with fail
    refine ⟨trivial, (CallsIn.inRound l (gcells_in _ _ _ _ _ _)).mono ?_⟩
    rintro e w7 ⟨rfl, rfl⟩
    gi_wp2_with fail
    obtain ⟨V0, hV0⟩ : ∃ V0, w6.alloc (.cells #[.int .i64 (ex - r), .int .i64 (ey - r), .int .i64 (2 * r + 1), .int .i64 (2 * r + 1)] 100) = V0 := ⟨_, rfl⟩
    rw [hV0]
    have hbx0 : BoxAt V0 w6.heap.size (ex - r) (ey - r) (2 * r + 1) (2 * r + 1) := by rw [← hV0]; exact ⟨by simp [go_sem], by simp [go_sem], by simp [go_sem], by simp [go_sem]⟩
    have hb7 : Below W.heap.size W V0 := bl_tr hb6 (by rw [← hV0]; exact bl_al (bl0 _) _)
    have hzV : V0.heap.size = w6.heap.size + 1 := by rw [← hV0]; simp
    have zW6 := hb6.size
    clear hV0 hb6
    have hlo : V0.heap[l]? = some (.loop r0) := (hb7.block l (Array.getElem?_eq_some_iff.1 hl0).1).trans hl0
    have e0 := cell_later hb7 d0
    have e1 := cell_later hb7 d1
    have hgV : W0.grownBy V0 (some h2) := hgr.trans (grown_weak (grown_of_below hb7) _)
    have hmV : MaskAt V0 b2 h2 X Y (lookAll X Y fs r z0 pre) := hmw.below hb7
    have hzW := hgr.size
    clear d0 d1 rr hmw
    refine range_cells_n (l₀ := l) (r₀ := r0) hlo w6.heap.size (ex - r) (ey - r) (2 * r + 1) (2 * r + 1) _ rfl rfl rfl hbx0
      (FillI V0 b2 h2 X Y (lookBox X Y fs (ex, ey) (lookAll X Y fs r z0 pre)))
      (fillI_own (Nat.le_refl _) (by omega) (by omega)) ⟨World.grownBy.refl _ _, hmV, hgd⟩
      (fun q a' W' => ∃ By, V0.heap.size ≤ By ∧ W'.cell? ⟨By, 0, none⟩ = some (.int .i64 q.1) ∧ W'.cell? ⟨By, 1, none⟩ = some (.int .i64 q.2) ∧ a' = { tmps := #[.agg #[.int .i64 X, .int .i64 Y, .slice a fs.length c], .slice a2 zs.length c2, .int .i64 r, .pointer (some ⟨w.heap.size, 0, none⟩), undef, .pointer (some ⟨w.heap.size + 1, 0, none⟩), .pointer none, .int .i64 0, .int .i64 0, .pointer (some ⟨b1, 0, none⟩), .int .i64 0, .int .i64 0, .pointer (some ⟨w4.heap.size, 0, none⟩), .int .i64 0, .pointer (some ⟨Bx, 0, none⟩), .pointer (some ⟨By, 0, none⟩), .agg #[.int .i64 X, .int .i64 Y, .slice a fs.length c], .int .i64 0, .int .i64 0, .bool false, undef, .int .i64 r, .bool (decide (r < 0)), .bool (decide (r < 0)), .int .i64 r, .bool (decide (16 < r)), .bool (decide (r < 0) || decide (16 < r)), .tuple #[.pointer (some ⟨b1, 0, none⟩), .int .i64 0], .pointer (some ⟨w.heap.size, 0, none⟩), .agg #[.int .i64 X, .int .i64 Y], .tuple #[.pointer (some ⟨b1, 0, none⟩), .int .i64 0], .pointer (some ⟨b1, 0, none⟩), .int .i64 0, .pointer (some ⟨b1, 0, none⟩), .slice a2 zs.length c2, .int .i64 0, .int .i64 0, .bool false, undef, .tuple #[.pointer (some ⟨b2, 0, none⟩), .int .i64 0], .pointer (some ⟨w.heap.size, 0, none⟩), .agg #[.int .i64 X, .int .i64 Y], .tuple #[.pointer (some ⟨b2, 0, none⟩), .int .i64 0], .pointer (some ⟨b2, 0, none⟩), .int .i64 0, .pointer (some ⟨b1, 0, none⟩), .func (.func 90) #[] #[.pointer (some ⟨w4.heap.size + 1, 0, none⟩)], .agg #[.int .i64 ex, .int .i64 ey], .agg #[.int .i64 ex, .int .i64 ey], .int .i64 r, .agg #[.int .i64 (ex - r), .int .i64 (ey - r), .int .i64 (2 * r + 1), .int .i64 (2 * r + 1)], .func (.func 87) #[] #[.pointer (some ⟨w6.heap.size, 0, none⟩)], .agg #[.int .i64 q.1, .int .i64 q.2], undef, undef, undef, undef, undef, undef, undef, undef, undef, undef, undef], defers := [] })
      ?ax2 ?assign2 ?body2 ?done2
    case ax2 =>
      rintro e a' _ C D row ⟨By, x1, x2, x3, x4⟩ hg' hr'
      exact ⟨By, x1, cell_kept x2 hg' (fun r e => (hr' r e).2), cell_kept x3 hg' (fun r e => (hr' r e).2), x4⟩
    case assign2 =>
      rintro l2 pre2 q W' K hi' hK
      have hbW := bl_al (bl0 W') (.cells #[.int .i64 q.1, .int .i64 q.2] 37)
      have hK' := hK _ _ (KeptB.of_below hbW) (hi'.below hbW) ⟨W'.heap.size, hi'.1.size, by simp [go_sem], by simp [go_sem], rfl⟩
      clear hK
      simp
      gi_wp2
      exact hK'
    case done2 =>
      rintro W' ⟨hg1, hm1, hg2⟩
      have hgA : W0.grownBy W' (some h2) := hgV.trans hg1
      have hgW : W.grownBy W' (some h2) := (grown_weak (grown_of_below hb7) _).trans hg1
      have hlk : lookBox X Y fs (ex, ey) (lookAll X Y fs r z0 pre) (cellsOf (ex - r) (2 * r + 1).toNat (upto (fun j => ey - r + (j : Int)) (rowsOf (ex - r) (ey - r) (2 * r + 1) (2 * r + 1)))) = lookAll X Y fs r z0 (pre ++ [(ex, ey)]) := by rw [lookAll_snoc]; rfl
      rw [hlk] at hm1 hg2
      clear hlk
      gi_wp2
      exact ⟨KeptM.of_grown hgW (by omega) (by omega) (by omega) (by omega), hgA, hm1, hg2⟩
    case body2 =>
      rintro l2 pre2 q a' W' ⟨hg1, hm1, hgd1⟩ ⟨By, hBy, y0, y1, rfl⟩ hlt2
      obtain ⟨qx, qy⟩ := q
      have s0 := (hgV.trans hg1).cell S0 (by simp; omega)
      have s1 := (hgV.trans hg1).cell F0 (by simp; omega)
      have s2 := (hgV.trans hg1).cell F1 (by simp; omega)
      have s3 := (hgV.trans hg1).cell F2 (by simp; omega)
      have s4 := hg1.cell e0 (by simp; omega)
      have s5 := hg1.cell e1 (by simp; omega)
      have zs0 := blk_lt s0
      have zs1 := blk_lt s1
      have zs4 := blk_lt s4
      have zy0 := blk_lt y0
      have hB7 : Below w.heap.size w V0 := (hB0.grown hgV hB0.size (fun r e => by cases e; omega))
      have hB8 : Below w.heap.size w W' := (hB7.grown hg1 hB7.size (fun r e => by cases e; omega))
      have HL := Lib.hid (lookBox_snoc X Y fs (ex, ey) (lookAll X Y fs r z0 pre) pre2 (qx, qy))
      obtain ⟨bb, hbb⟩ : ∃ bb, lookBox X Y fs (ex, ey) (lookAll X Y fs r z0 pre) pre2 = bb := ⟨_, rfl⟩
      rw [hbb] at hm1 hgd1 HL
      gi_wp2_with fail
      refine ⟨trivial, (CallsIn.inRound l2 (callsIn_wide.2 (in_any X Y qx qy _))).mono ?_⟩
      rintro e w9 ⟨rfl, hb9⟩
      have hg9 : W'.grownBy w9 (some h2) := grown_weak (grown_of_below hb9) _
      replace s0 := cell_later hb9 s0
      replace s1 := cell_later hb9 s1
      replace s2 := cell_later hb9 s2
      replace s3 := cell_later hb9 s3
      replace s4 := cell_later hb9 s4
      replace s5 := cell_later hb9 s5
      replace y0 := cell_later hb9 y0
      replace y1 := cell_later hb9 y1
      have hm9 := hm1.below hb9
      have hB9 := bl_tr hB8 hb9
      cases hi : inB X Y qx qy
      · have hl0' : lookTo X Y fs (ex, ey) bb (qx, qy) = bb := by unfold lookTo; rw [if_neg (by dsimp only; rw [hi]; decide)]
        rw [hl0'] at HL
        have HF : FillI V0 b2 h2 X Y (lookBox X Y fs (ex, ey) (lookAll X Y fs r z0 pre)) (pre2 ++ [(qx, qy)]) w9 := ⟨hg1.trans hg9, by rw [HL.out]; exact hm9, by rw [HL.out]; exact hgd1⟩
        have HFh := Lib.hid HF
        have HK := Lib.hid (show KeptB w6.heap.size V0.heap.size W' w9 from KeptB.of_grown hg9 (by omega) (by omega))
        clear HF
        gi_wp2
        exact ⟨HK.out, HFh.out⟩
      · obtain ⟨n, hn, _, _⟩ := far_nat ex ey qx qy
        have hl1' : lookTo X Y fs (ex, ey) bb (qx, qy) = putAll X bb (seenF X fs ex ey qx qy n) := by
          unfold lookTo
          rw [if_pos (by dsimp only; exact hi)]
          have en : farN (ex, ey) (qx, qy) = n := by unfold farN; dsimp only; omega
          rw [en]
        have hin' : ∀ z ∈ seenF X fs ex ey qx qy n, inB X Y z.1 z.2 = true := by
          have := seen_in (X := X) (Y := Y) (zs := fs) (e := (ex, ey)) (q := (qx, qy)) hPe hi
          have en : farN (ex, ey) (qx, qy) = n := by unfold farN; dsimp only; omega
          rw [en] at this
          exact this
        have hfn := far_in hPe hi
        have hln := seen_len X fs ex ey qx qy n
        rw [hl1'] at HL
        have hgn := hgd1.putAll _ hin'
        have HG := Lib.hid hgn
        clear hgn hl1'
        gi_wp2
        refine ordS_begin (S := (fun w' : World => w'.cell? ⟨w4.heap.size, 0, none⟩ = some (.pointer (some ⟨b2, 0, none⟩)) ∧ w'.cell? ⟨w.heap.size, 0, none⟩ = some (.int .i64 X) ∧ w'.cell? ⟨w.heap.size, 1, none⟩ = some (.int .i64 Y) ∧ w'.cell? ⟨w.heap.size, 2, none⟩ = some (.slice a fs.length c) ∧ w'.cell? ⟨Bx, 0, none⟩ = some (.int .i64 ex) ∧ w'.cell? ⟨Bx, 1, none⟩ = some (.int .i64 ey) ∧ w'.cell? ⟨By, 0, none⟩ = some (.int .i64 qx) ∧ w'.cell? ⟨By, 1, none⟩ = some (.int .i64 qy))) (by kernel_rfl) ⟨cell_later (bl_dr (bl0 _)) s0, cell_later (bl_dr (bl0 _)) s1, cell_later (bl_dr (bl0 _)) s2, cell_later (bl_dr (bl0 _)) s3, cell_later (bl_dr (bl0 _)) s4, cell_later (bl_dr (bl0 _)) s5, cell_later (bl_dr (bl0 _)) y0, cell_later (bl_dr (bl0 _)) y1⟩ (fun hH => ?_)
        first
          | (refine' ordS_take (i := 0) (oi := { dst := some 57, op := Op.load 30 (Operand.tmp 12), type := 30, pos := _, after := #[], guard := none }) (v := _) rfl (by kernel_rfl) (by kernel_rfl) (by kernel_rfl) (by kernel_rfl) (fun _ _ _ h => h) (by assumption) (Or.inl ⟨by rfl, ?hy1⟩) (fun _ => rfl) ?rest1
             case hy1 => (intro w hSw; (try dsimp only at hSw); go_simp; try with_reducible rfl))
          | (refine ordS_take (i := 0) (oi := { dst := some 57, op := Op.load 30 (Operand.tmp 12), type := 30, pos := _, after := #[], guard := none }) (v := undef) rfl (by kernel_rfl) (by kernel_rfl) (by kernel_rfl) (by kernel_rfl) (fun _ _ _ h => h) (by assumption) (Or.inr ⟨by rfl, rfl⟩) (fun _ => rfl) ?_)
        try simp only [Act.put, List.setIfInBounds_toArray, List.set_cons_zero, List.set_cons_succ]
        first
          | (refine' ordS_take (i := 1) (oi := { dst := some 58, op := Op.load 26 (Operand.tmp 3), type := 26, pos := _, after := #[], guard := none }) (v := _) rfl (by kernel_rfl) (by kernel_rfl) (by kernel_rfl) (by kernel_rfl) (fun _ _ _ h => h) (by assumption) (Or.inl ⟨by rfl, ?hy2⟩) (fun _ => rfl) ?rest2
             case hy2 => (intro w hSw; (try dsimp only at hSw); go_simp; try with_reducible rfl))
          | (refine ordS_take (i := 1) (oi := { dst := some 58, op := Op.load 26 (Operand.tmp 3), type := 26, pos := _, after := #[], guard := none }) (v := undef) rfl (by kernel_rfl) (by kernel_rfl) (by kernel_rfl) (by kernel_rfl) (fun _ _ _ h => h) (by assumption) (Or.inr ⟨by rfl, rfl⟩) (fun _ => rfl) ?_)
        try simp only [Act.put, List.setIfInBounds_toArray, List.set_cons_zero, List.set_cons_succ]
        first
          | (refine' ordS_take (i := 2) (oi := { dst := some 59, op := Op.load 37 (Operand.tmp 14), type := 37, pos := _, after := #[], guard := none }) (v := _) rfl (by kernel_rfl) (by kernel_rfl) (by kernel_rfl) (by kernel_rfl) (fun _ _ _ h => h) (by assumption) (Or.inl ⟨by rfl, ?hy3⟩) (fun _ => rfl) ?rest3
             case hy3 => (intro w hSw; (try dsimp only at hSw); go_simp; try with_reducible rfl))
          | (refine ordS_take (i := 2) (oi := { dst := some 59, op := Op.load 37 (Operand.tmp 14), type := 37, pos := _, after := #[], guard := none }) (v := undef) rfl (by kernel_rfl) (by kernel_rfl) (by kernel_rfl) (by kernel_rfl) (fun _ _ _ h => h) (by assumption) (Or.inr ⟨by rfl, rfl⟩) (fun _ => rfl) ?_)
        try simp only [Act.put, List.setIfInBounds_toArray, List.set_cons_zero, List.set_cons_succ]
        first
          | (refine' ordS_take (i := 3) (oi := { dst := some 60, op := Op.load 37 (Operand.tmp 15), type := 37, pos := _, after := #[], guard := none }) (v := _) rfl (by kernel_rfl) (by kernel_rfl) (by kernel_rfl) (by kernel_rfl) (fun _ _ _ h => h) (by assumption) (Or.inl ⟨by rfl, ?hy4⟩) (fun _ => rfl) ?rest4
             case hy4 => (intro w hSw; (try dsimp only at hSw); go_simp; try with_reducible rfl))
          | (refine ordS_take (i := 3) (oi := { dst := some 60, op := Op.load 37 (Operand.tmp 15), type := 37, pos := _, after := #[], guard := none }) (v := undef) rfl (by kernel_rfl) (by kernel_rfl) (by kernel_rfl) (by kernel_rfl) (fun _ _ _ h => h) (by assumption) (Or.inr ⟨by rfl, rfl⟩) (fun _ => rfl) ?_)
        try simp only [Act.put, List.setIfInBounds_toArray, List.set_cons_zero, List.set_cons_succ]
        have hD9 := bl_dr (bl0 w9)
        refine ordS_one (i := 4) (o := { dst := some 61, op := Op.call { callee := Callee.value (Operand.func 65), args := #[Operand.tmp 58, Operand.tmp 59, Operand.tmp 60], argTypes := #[26, 37, 37] }, type := 27, pos := _, after := #[{ on := 1, ground := Ground.data }, { on := 2, ground := Ground.data }, { on := 3, ground := Ground.data }], guard := none }) (by kernel_rfl) rfl (by rfl) (fun K hK => ?_)
        go_simp
        refine ⟨trivial, ?_⟩
        with_reducible refine (CallsIn.inRound l2 (callsIn_wide.2 (walk_any X Y a c fs ex ey qx qy n _ (hrf.below ((bl_tr hB9 hD9).mono (Nat.le_refl _))) hPe hi (chk_area HQ.out) hn))).mono ?_
        rintro e w10 ⟨b3, cap3, rfl, hrc, hb10⟩
        have hb10' := bl_tr hD9 hb10
        replace s0 := cell_later hb10' s0
        replace s1 := cell_later hb10' s1
        replace s2 := cell_later hb10' s2
        replace s3 := cell_later hb10' s3
        replace s4 := cell_later hb10' s4
        replace s5 := cell_later hb10' s5
        replace y0 := cell_later hb10' y0
        replace y1 := cell_later hb10' y1
        have hm10 := hm9.below hb10'
        have hg10 : w9.grownBy w10 (some h2) := grown_weak (grown_of_below hb10') _
        have hra10 : ∀ gb o, seenF X fs ex ey qx qy n ≠ [] → b3 = some ⟨gb, o, none⟩ → gb ≠ h2 := rowC_apart hrc hm10
        have hS10 : (fun w' : World => w'.cell? ⟨w4.heap.size, 0, none⟩ = some (.pointer (some ⟨b2, 0, none⟩)) ∧ w'.cell? ⟨w.heap.size, 0, none⟩ = some (.int .i64 X) ∧ w'.cell? ⟨w.heap.size, 1, none⟩ = some (.int .i64 Y) ∧ w'.cell? ⟨w.heap.size, 2, none⟩ = some (.slice a fs.length c) ∧ w'.cell? ⟨Bx, 0, none⟩ = some (.int .i64 ex) ∧ w'.cell? ⟨Bx, 1, none⟩ = some (.int .i64 ey) ∧ w'.cell? ⟨By, 0, none⟩ = some (.int .i64 qx) ∧ w'.cell? ⟨By, 1, none⟩ = some (.int .i64 qy)) w10 := ⟨s0, s1, s2, s3, s4, s5, y0, y1⟩
        refine hK _ _ hS10 ?_
        clear hK K
        try simp only [Act.put, List.setIfInBounds_toArray, List.set_cons_zero, List.set_cons_succ]
        refine ordS_one (i := 5) (o := { dst := some 62, op := Op.call { callee := Callee.value (Operand.func 61), args := #[Operand.tmp 57, Operand.tmp 61], argTypes := #[30, 27] }, type := 31, pos := _, after := #[{ on := 0, ground := Ground.data }, { on := 4, ground := Ground.data }, { on := 4, ground := Ground.chain }], guard := none }) (by kernel_rfl) rfl (by rfl) (fun K hK => ?_)
        go_simp
        refine ⟨trivial, ?_⟩
        with_reducible refine (CallsIn.inRound l2 (callsIn_wide.2 (put_yes X Y b2 h2 bb b3 cap3 (seenF X fs ex ey qx qy n) _ hm10 hgd1 hne2 hrc hra10 (by omega) hin'))).mono ?_
        rintro e w11 ⟨rfl, hm11, hg11⟩
        have hS11 : (fun w' : World => w'.cell? ⟨w4.heap.size, 0, none⟩ = some (.pointer (some ⟨b2, 0, none⟩)) ∧ w'.cell? ⟨w.heap.size, 0, none⟩ = some (.int .i64 X) ∧ w'.cell? ⟨w.heap.size, 1, none⟩ = some (.int .i64 Y) ∧ w'.cell? ⟨w.heap.size, 2, none⟩ = some (.slice a fs.length c) ∧ w'.cell? ⟨Bx, 0, none⟩ = some (.int .i64 ex) ∧ w'.cell? ⟨Bx, 1, none⟩ = some (.int .i64 ey) ∧ w'.cell? ⟨By, 0, none⟩ = some (.int .i64 qx) ∧ w'.cell? ⟨By, 1, none⟩ = some (.int .i64 qy)) w11 := ⟨hg11.cell s0 (by simp; omega), hg11.cell s1 (by simp; omega), hg11.cell s2 (by simp; omega), hg11.cell s3 (by simp; omega), hg11.cell s4 (by simp; omega), hg11.cell s5 (by simp; omega), hg11.cell y0 (by simp; omega), hg11.cell y1 (by simp; omega)⟩
        refine hK _ _ hS11 ?_
        clear hK K
        try simp only [Act.put, List.setIfInBounds_toArray, List.set_cons_zero, List.set_cons_succ]
        refine ordS_done (by kernel_rfl) ?_
        have hgA : W'.grownBy w11 (some h2) := (hg9.trans hg10).trans hg11
        have HF : FillI V0 b2 h2 X Y (lookBox X Y fs (ex, ey) (lookAll X Y fs r z0 pre)) (pre2 ++ [(qx, qy)]) w11 := ⟨hg1.trans hgA, by rw [HL.out]; exact hm11, by rw [HL.out]; exact HG.out⟩
        have HFh := Lib.hid HF
        have HK := Lib.hid (show KeptB w6.heap.size (w6.heap.size + 1) W' w11 from KeptB.of_grown hgA (by omega) (by omega))
        clear HF
        gi_wp2
        exact ⟨HK.out, HFh.out⟩
end Go.Proofs.Ythebiibiapjdiaa

/- Sight: what a set holds, cell by cell; what is seen from some cells. -/
namespace Go.Proofs.Ythebiibiapjdiaa
open Go.RowKit

/-- Whether a cell is in a set. -/
def inM (X Y : Int) (bs : List Nat) (c : Int × Int) : Bool := inB X Y c.1 c.2 && bitAt bs (numC X c)
theorem inM_in {X Y : Int} {bs : List Nat} {c : Int × Int} (h : inM X Y bs c = true) : inB X Y c.1 c.2 = true := by unfold inM at h; rw [Bool.and_eq_true] at h; exact h.1
theorem inM_off {X Y : Int} {bs : List Nat} {c : Int × Int} (h : inB X Y c.1 c.2 = false) : inM X Y bs c = false := by unfold inM; rw [h]; rfl
theorem inM_zero (X Y : Int) (n : Nat) (c : Int × Int) : inM X Y (List.replicate n 0) c = false := by
  unfold inM bitAt
  rw [List.getD_eq_getElem?_getD, List.getElem?_replicate]
  split <;> simp

theorem has_all (b h : Nat) (X Y x y : Int) (bs : List Nat) (w : World) (hm : MaskAt w b h X Y bs) (hg : Good X Y bs) :
    Calls Try.prog 25 #[.pointer (some ⟨b, 0, none⟩), .agg #[.int .i64 x, .int .i64 y]] w fun e w' => e = .returned (.bool (inM X Y bs (x, y))) ∧ Below w.heap.size w w' := by
  cases hi : inB X Y x y with
  | false => rw [inM_off (by exact hi)]; exact has_no b h X Y x y bs w hm hi
  | true =>
    have e : inM X Y bs (x, y) = bitAt bs (y * X + x).toNat := by unfold inM numC; simp only [hi, Bool.true_and]
    rw [e]
    exact has_yes b h X Y x y bs w hm hg hi

theorem inM_putAll {X Y : Int} {bs : List Nat} {zs : List (Int × Int)} (g : Good X Y bs) (h : ∀ z ∈ zs, inB X Y z.1 z.2 = true) (c : Int × Int) : inM X Y (putAll X bs zs) c = true ↔ inM X Y bs c = true ∨ c ∈ zs := by
  unfold inM
  rw [Bool.and_eq_true, Bool.and_eq_true, bitAt_putAll zs bs g h]
  constructor
  · rintro ⟨h1, h2 | ⟨z, hz, e⟩⟩
    · exact .inl ⟨h1, h2⟩
    · rw [← numC_inj (h z hz) h1 e]; exact .inr hz
  · rintro (⟨h1, h2⟩ | hz)
    · exact ⟨h1, .inl h2⟩
    · exact ⟨h c hz, .inr ⟨c, hz, rfl⟩⟩
theorem cellAt_num {X Y : Int} {c : Int × Int} (h : inB X Y c.1 c.2 = true) : cellAt X Y (c.2 * X + c.1) = c := by
  obtain ⟨h1, h2, h3, h4, h5, h6, h7, h8⟩ := inB_iff.1 h
  obtain ⟨a1, a2⟩ := idx_lt h
  unfold cellAt
  rw [if_pos (atB_iff.2 ⟨h1, h2, h3, h4, a1, a2⟩)]
  refine Prod.ext ?_ ?_
  · show (c.2 * X + c.1) % X = c.1
    rw [Int.add_comm, Int.add_mul_emod_self_right, Int.emod_eq_of_lt h5 h6]
  · show (c.2 * X + c.1) / X = c.2
    rw [Int.add_comm, Int.add_mul_ediv_right _ _ (by omega), Int.ediv_eq_zero_of_lt h5 h6, Int.zero_add]
theorem cellsM_iff {X Y : Int} {bs : List Nat} (g : Good X Y bs) (c : Int × Int) : c ∈ cellsM X Y bs ↔ inM X Y bs c = true := by
  unfold cellsM
  rw [List.mem_map]
  constructor
  · rintro ⟨i, hi, rfl⟩
    obtain ⟨e1, e2⟩ := num_of_cell g hi
    obtain ⟨h0, hb⟩ := (mem_nums bs i).1 hi
    unfold inM numC
    rw [e1, e2, hb]; rfl
  · intro h
    have hi := inM_in h
    refine ⟨c.2 * X + c.1, ?_, cellAt_num hi⟩
    rw [mem_nums]
    unfold inM at h
    rw [Bool.and_eq_true] at h
    exact ⟨(idx_lt hi).1, h.2⟩
/-- Two sets with the same cells are the same. -/
theorem set_ext {X Y : Int} {cs ds : List Nat} (gc : Good X Y cs) (gd : Good X Y ds) (h : ∀ c, inM X Y cs c = true ↔ inM X Y ds c = true) : cs = ds := by
  refine ext_bits gc.2.2.1 gd.2.2.1 (by have := gc.2.1; have := gd.2.1; omega) fun i _ => ?_
  by_cases hi : X * Y ≤ (i : Int)
  · rw [gc.2.2.2 i hi, gd.2.2.2 i hi]
  · obtain ⟨h1, h2, h3, h4⟩ := mayB_iff.1 gc.1
    have hat : atB X Y i = true := atB_iff.2 ⟨h1, h2, h3, h4, by omega, by omega⟩
    have hin := cellAt_in gc.1 i
    have hn : numC X (cellAt X Y i) = i := by
      unfold numC cellAt
      rw [if_pos hat]
      have := Int.emod_add_mul_ediv i X
      rw [Int.mul_comm] at this
      show (i / X * X + i % X).toNat = i
      omega
    have := h (cellAt X Y i)
    unfold inM at this
    rw [hin, hn, Bool.true_and, Bool.true_and] at this
    rw [Bool.eq_iff_iff]; exact this

/-- Whether one cell sees another one, no farther away than r. -/
def Sees (X Y : Int) (fs : List Int) (r : Int) (e c : Int × Int) : Prop := ∃ q : Int × Int, inB X Y q.1 q.2 = true ∧ (farN e q : Int) ≤ r ∧ c ∈ seenF X fs e.1 e.2 q.1 q.2 (farN e q)
theorem lookBox_iff {X Y : Int} {fs : List Int} {e : Int × Int} (he : inB X Y e.1 e.2 = true) (c : Int × Int) : ∀ (l : List (Int × Int)) (bs : List Nat), Good X Y bs → (inM X Y (lookBox X Y fs e bs l) c = true ↔ inM X Y bs c = true ∨ ∃ q ∈ l, inB X Y q.1 q.2 = true ∧ c ∈ seenF X fs e.1 e.2 q.1 q.2 (farN e q))
  | [], bs, _ => by simp [lookBox]
  | q :: l, bs, g => by
    have ih := lookBox_iff (fs := fs) he c l (lookTo X Y fs e bs q) (g.lookTo he q)
    have e1 : lookBox X Y fs e bs (q :: l) = lookBox X Y fs e (lookTo X Y fs e bs q) l := rfl
    rw [e1, ih]
    have e2 : inM X Y (lookTo X Y fs e bs q) c = true ↔ inM X Y bs c = true ∨ (inB X Y q.1 q.2 = true ∧ c ∈ seenF X fs e.1 e.2 q.1 q.2 (farN e q)) := by
      unfold lookTo
      split
      · rename_i hq
        rw [inM_putAll g (seen_in he hq)]
        simp [hq]
      · rename_i hq
        simp [hq]
    rw [e2]
    simp [or_assoc]
theorem mem_boxOf {X Y r : Int} {e q : Int × Int} (he : inB X Y e.1 e.2 = true) (_ : inB X Y q.1 q.2 = true) (h0 : 0 ≤ r) (h1 : r ≤ 16) : q ∈ boxOf r e ↔ (farN e q : Int) ≤ r := by
  have e0 : boxOf r e = boxCells (e.1 - r) (e.2 - r) (2 * r + 1) (2 * r + 1) := rfl
  obtain ⟨_, _, _, _, a5, a6, a7, a8⟩ := inB_iff.1 he
  rw [e0, mem_boxCells, hasB_iff, rightB_iff]
  unfold farN apartI
  omega
theorem lookAll_iff {X Y r : Int} {fs : List Int} (h0 : 0 ≤ r) (h1 : r ≤ 16) (c : Int × Int) : ∀ (es : List (Int × Int)) (bs : List Nat), (∀ e ∈ es, inB X Y e.1 e.2 = true) → Good X Y bs → (inM X Y (lookAll X Y fs r bs es) c = true ↔ inM X Y bs c = true ∨ ∃ e ∈ es, Sees X Y fs r e c)
  | [], bs, _, _ => by simp [lookAll]
  | e :: es, bs, h, g => by
    have he := h e (by simp)
    have ih := lookAll_iff (fs := fs) h0 h1 c es (lookBox X Y fs e bs (boxOf r e)) (fun x hx => h x (by simp [hx])) (Good.lookBox he _ _ g)
    have e1 : lookAll X Y fs r bs (e :: es) = lookAll X Y fs r (lookBox X Y fs e bs (boxOf r e)) es := rfl
    rw [e1, ih, lookBox_iff he c _ _ g]
    have e2 : (∃ q ∈ boxOf r e, inB X Y q.1 q.2 = true ∧ c ∈ seenF X fs e.1 e.2 q.1 q.2 (farN e q)) ↔ Sees X Y fs r e c := by
      unfold Sees
      constructor
      · rintro ⟨q, hq, hi, hc⟩; exact ⟨q, hi, (mem_boxOf he hi h0 h1).1 hq, hc⟩
      · rintro ⟨q, hi, hf, hc⟩; exact ⟨q, (mem_boxOf he hi h0 h1).2 hf, hi, hc⟩
    rw [e2]
    simp [or_assoc]
/-- What is seen from some cells, as a set's bytes. -/
def allB (X Y : Int) (fs : List Int) (r : Int) (zs : List (Int × Int)) : List Nat := lookAll X Y fs r (List.replicate ((X * Y + 7) / 8).toNat 0) (cellsM X Y (putAll X (List.replicate ((X * Y + 7) / 8).toNat 0) zs))
theorem allB_good {X Y r : Int} {fs : List Int} {zs : List (Int × Int)} (hm : mayB X Y = true) (h : ∀ z ∈ zs, inB X Y z.1 z.2 = true) : Good X Y (allB X Y fs r zs) :=
  Good.lookAll _ _ (fun e he => by
    have g := (good_zero0 hm).putAll zs h
    exact inM_in ((cellsM_iff g e).1 he)) (good_zero0 hm)
theorem allB_iff {X Y r : Int} {fs : List Int} {zs : List (Int × Int)} (hm : mayB X Y = true) (h : ∀ z ∈ zs, inB X Y z.1 z.2 = true) (h0 : 0 ≤ r) (h1 : r ≤ 16) (c : Int × Int) : inM X Y (allB X Y fs r zs) c = true ↔ ∃ e ∈ zs, Sees X Y fs r e c := by
  have g0 := good_zero0 hm
  have g := g0.putAll zs h
  unfold allB
  rw [lookAll_iff h0 h1 c _ _ (fun e he => inM_in ((cellsM_iff g e).1 he)) g0, inM_zero]
  simp only [Bool.false_eq_true, false_or]
  constructor
  · rintro ⟨e, he, hs⟩
    rw [cellsM_iff g, inM_putAll g0 h, inM_zero] at he
    rcases he with he | he
    · cases he
    · exact ⟨e, he, hs⟩
  · rintro ⟨e, he, hs⟩
    exact ⟨e, by rw [cellsM_iff g, inM_putAll g0 h]; exact .inr he, hs⟩
end Go.Proofs.Ythebiibiapjdiaa

/- Sight: All and Visible, whatever they are given. -/
namespace Go.Proofs.Ythebiibiapjdiaa
open Go.RowKit

/-- The error of All. -/
def errA (X Y n r : Int) (zs : List (Int × Int)) : Int := if chkF X Y n ≠ 0 then chkF X Y n else if r < 0 ∨ 16 < r then 1 else if ∀ z ∈ zs, inB X Y z.1 z.2 = true then 0 else 10
theorem errA_ok {X Y n r : Int} {zs : List (Int × Int)} (h : errA X Y n r zs = 0) : chkF X Y n = 0 ∧ 0 ≤ r ∧ r ≤ 16 ∧ ∀ z ∈ zs, inB X Y z.1 z.2 = true := by
  unfold errA at h
  split at h
  · rename_i h1; exact absurd h h1
  · rename_i h1
    split at h
    · cases h
    · rename_i h2
      split at h
      · rename_i h3; exact ⟨Decidable.not_not.1 h1, by omega, by omega, h3⟩
      · cases h
theorem first_bad {X Y : Int} : ∀ {zs : List (Int × Int)}, (¬ ∀ z ∈ zs, inB X Y z.1 z.2 = true) → ∃ (j : Nat) (hj : j < zs.length), (∀ z ∈ zs.take j, inB X Y z.1 z.2 = true) ∧ inB X Y zs[j].1 zs[j].2 = false
  | [], h => absurd (fun z hz => by simp at hz) h
  | z :: zs, h => by
    cases hz : inB X Y z.1 z.2 with
    | false => exact ⟨0, by simp, by simp, hz⟩
    | true =>
      obtain ⟨j, hj, h1, h2⟩ := first_bad (zs := zs) (fun h2 => h fun y hy => by
        rcases List.mem_cons.1 hy with rfl | hy
        · exact hz
        · exact h2 y hy)
      refine ⟨j + 1, by simp; omega, fun y hy => ?_, h2⟩
      rw [List.take_succ_cons] at hy
      rcases List.mem_cons.1 hy with rfl | hy
      · exact hz
      · exact h1 y hy
theorem chk_ok {X Y n : Int} (h : chkF X Y n = 0) : mayB X Y = true ∧ n = X * Y := by
  unfold chkF at h
  split at h
  · rename_i hm
    split at h
    · rename_i hn; exact ⟨hm, hn⟩
    · cases h
  · cases h

theorem sall_no (X Y r : Int) (a a2 : Option Addr) (n c c2 : Nat) (zs : List (Int × Int)) (w : World) (hz : RowC w a2 zs) (hl : zs.length ≤ 1048576) (he : errA X Y n r zs ≠ 0) :
    Calls Try.prog 16 #[.agg #[.int .i64 X, .int .i64 Y, .slice a n c], .slice a2 zs.length c2, .int .i64 r] w fun e w' => e = .returned (.tuple #[.pointer none, .int .i64 (errA X Y n r zs)]) ∧ Below w.heap.size w w' := by
  by_cases h1 : chkF X Y n = 0
  · by_cases h2 : r < 0 ∨ 16 < r
    · have e : errA X Y n r zs = 1 := by unfold errA; rw [if_neg (fun h => h h1), if_pos h2]
      rw [e]; exact all_radius X Y r a a2 n c zs.length c2 w h1 h2
    · have h3 : ¬ ∀ z ∈ zs, inB X Y z.1 z.2 = true := fun h3 => he (by unfold errA; rw [if_neg (fun h => h h1), if_neg h2, if_pos h3])
      have e : errA X Y n r zs = 10 := by unfold errA; rw [if_neg (fun h => h h1), if_neg h2, if_neg h3]
      obtain ⟨j, hj, q1, q2⟩ := first_bad h3
      rw [e]; exact all_off X Y r a a2 n c c2 zs w h1 (chk_ok h1).1 (by omega) (by omega) hz hl j hj q1 q2
  · have e : errA X Y n r zs = chkF X Y n := by unfold errA; rw [if_pos h1]
    rw [e]; exact all_check X Y r a a2 n c zs.length c2 w h1
theorem sall_yes (X Y r : Int) (a a2 : Option Addr) (c c2 : Nat) (fs : List Int) (zs : List (Int × Int)) (w : World) (hr : RowH w a fs) (hz : RowC w a2 zs) (hl : zs.length ≤ 1048576) (he : errA X Y fs.length r zs = 0) :
    Calls Try.prog 16 #[.agg #[.int .i64 X, .int .i64 Y, .slice a fs.length c], .slice a2 zs.length c2, .int .i64 r] w fun e w' => ∃ b h, e = .returned (.tuple #[.pointer (some ⟨b, 0, none⟩), .int .i64 0]) ∧
      MaskAt w' b h X Y (allB X Y fs r zs) ∧ w.heap.size ≤ b ∧ w.heap.size ≤ h ∧ b ≠ h ∧ Below w.heap.size w w' := by
  obtain ⟨h1, h2, h3, h4⟩ := errA_ok he
  exact all_yes X Y r a a2 c c2 fs zs w h1 (chk_ok h1).1 h2 h3 hr hz hl h4

set_option maxRecDepth 100000 in
set_option maxHeartbeats 1600000 in
theorem visible_no (X Y r x y : Int) (a : Option Addr) (n c : Nat) (w : World) (he : errA X Y n r [(x, y)] ≠ 0) :
    Calls Try.prog 21 #[.agg #[.int .i64 X, .int .i64 Y, .slice a n c], .agg #[.int .i64 x, .int .i64 y], .int .i64 r] w fun e w' => e = .returned (.tuple #[.pointer none, .int .i64 (errA X Y n r [(x, y)])]) ∧ Below w.heap.size w w' := by
  have HE := Lib.hid he
  obtain ⟨q, hq⟩ : ∃ q, errA X Y n r [(x, y)] = q := ⟨_, rfl⟩
  have HQ := Lib.hid hq
  rw [hq]
  clear he hq
  go_enter Try.func21, Try.ntmps21
  go_wp2_with fail
  obtain ⟨W3, hW3⟩ : ∃ W3, ((w.alloc (.cells #[.int .i64 X, .int .i64 Y, .slice a n c] 26)).alloc (.cells #[.int .i64 x, .int .i64 y] 37)).alloc (.cells #[.int .i64 x, .int .i64 y] 37) = W3 := ⟨_, rfl⟩
  have hA : Below w.heap.size w W3 := by rw [← hW3]; exact bl_al (bl_al (bl_al (bl0 _) _) _) _
  have hrc : RowC W3 (some ⟨w.heap.size + 1 + 1, 0, none⟩) [(x, y)] := .inr ⟨_, 0, rfl, fun i z hz => by
    rw [← hW3]
    cases i with
    | zero => simp at hz; subst hz; simp [go_sem]
    | succ i => simp at hz⟩
  rw [hW3]
  clear hW3
  refine (sall_no X Y r a (some ⟨w.heap.size + 1 + 1, 0, none⟩) n c 1 [(x, y)] W3 hrc (by simp) HE.out).mono ?_
  rintro e w1 ⟨rfl, hb⟩
  rw [HQ.out]
  replace hA := bl_tr hA hb
  go_wp2
  go_ret2
  exact ⟨rfl, hA⟩

set_option maxRecDepth 100000 in
set_option maxHeartbeats 1600000 in
theorem visible_yes (X Y r x y : Int) (a : Option Addr) (c : Nat) (fs : List Int) (w : World) (hr : RowH w a fs) (he : errA X Y fs.length r [(x, y)] = 0) :
    Calls Try.prog 21 #[.agg #[.int .i64 X, .int .i64 Y, .slice a fs.length c], .agg #[.int .i64 x, .int .i64 y], .int .i64 r] w fun e w' => ∃ b h, e = .returned (.tuple #[.pointer (some ⟨b, 0, none⟩), .int .i64 0]) ∧
      MaskAt w' b h X Y (allB X Y fs r [(x, y)]) ∧ w.heap.size ≤ b ∧ w.heap.size ≤ h ∧ b ≠ h ∧ Below w.heap.size w w' := by
  have HE := Lib.hid he
  clear he
  go_enter Try.func21, Try.ntmps21
  go_wp2_with fail
  obtain ⟨W3, hW3⟩ : ∃ W3, ((w.alloc (.cells #[.int .i64 X, .int .i64 Y, .slice a fs.length c] 26)).alloc (.cells #[.int .i64 x, .int .i64 y] 37)).alloc (.cells #[.int .i64 x, .int .i64 y] 37) = W3 := ⟨_, rfl⟩
  have hA : Below w.heap.size w W3 := by rw [← hW3]; exact bl_al (bl_al (bl_al (bl0 _) _) _) _
  have hrc : RowC W3 (some ⟨w.heap.size + 1 + 1, 0, none⟩) [(x, y)] := .inr ⟨_, 0, rfl, fun i z hz => by
    rw [← hW3]
    cases i with
    | zero => simp at hz; subst hz; simp [go_sem]
    | succ i => simp at hz⟩
  rw [hW3]
  clear hW3
  have hz := hA.size
  refine (sall_yes X Y r a (some ⟨w.heap.size + 1 + 1, 0, none⟩) c 1 fs [(x, y)] W3 (hr.below hA) hrc (by simp) HE.out).mono ?_
  rintro e w1 ⟨b, h, rfl, hm, h1, h2, h3, hb⟩
  replace hA := bl_tr hA hb
  go_wp2
  go_ret2
  exact ⟨b, h, rfl, hm, by omega, by omega, h3, hA⟩
end Go.Proofs.Ythebiibiapjdiaa

/- Fields in a block of their own, whose costs grow. -/
namespace Go.Proofs.Ythebiibiapjdiaa
open Go.RowKit

def cellsH (zs : List Int) : List Value := zs.map (Value.int .u16)
theorem cellsH_snoc (zs : List Int) (z : Int) : cellsH (zs ++ [z]) = cellsH zs ++ [.int .u16 z] := by simp [cellsH]
theorem cellsH_one (zs : List Int) : ∀ u ∈ cellsH zs, u.oneCell' = true := by
  intro u hu
  simp only [cellsH, List.mem_map] at hu
  obtain ⟨t, _, rfl⟩ := hu
  rfl
theorem cellsH_len (zs : List Int) : (cellsH zs).length = zs.length := by simp [cellsH]
theorem rowH_of_own {w : World} {base : Nat} {v : Value} {zs : List Int} (h : w.ownsRow base 49 1 v zs.length (cellsH zs)) : ∃ a cap, v = .slice a zs.length cap ∧ RowH w a zs := by
  have hown := h
  rcases h.2 with ⟨rfl, h0⟩ | ⟨g, cap, cur, rfl, hb, hg, _⟩
  · refine ⟨none, 0, by rw [h0], .inl (List.eq_nil_of_length_eq_zero h0)⟩
  · refine ⟨_, cap, rfl, .inr ⟨g, 0, rfl, fun i z hz => ?_⟩⟩
    have a0 := hown.cells (g := g) rfl i (.int .u16 z) (by simp [cellsH, hz])
    rw [addr_add] at a0
    exact a0
theorem Try.infoH : (Try.prog.info? 49).map (fun i => (i.zero, i.size, i.bytes)) = some (some (.int .u16 0), 1, 2) := by kernel_rfl
/-- A field in a block. -/
def FAt (w : World) (k : Nat) (a b c : Value) : Prop := w.heap[k]? = some (.cells #[a, b, c] 26 (0, 0))
section
variable {w : World} {k : Nat} {a b c : Value} (h : FAt w k a b c)
include h
theorem FAt.c0 : w.cell? ⟨k, 0, none⟩ = some a := by unfold FAt at h; simp [World.cell?, h]
theorem FAt.c1 : w.cell? ⟨k, 1, none⟩ = some b := by unfold FAt at h; simp [World.cell?, h]
theorem FAt.c2 : w.cell? ⟨k, 2, none⟩ = some c := by unfold FAt at h; simp [World.cell?, h]
theorem FAt.f0 : w.frozen? ⟨k, 0, none⟩ = false := by unfold FAt at h; simp [World.frozen?, h]
theorem FAt.f1 : w.frozen? ⟨k, 1, none⟩ = false := by unfold FAt at h; simp [World.frozen?, h]
theorem FAt.f2 : w.frozen? ⟨k, 2, none⟩ = false := by unfold FAt at h; simp [World.frozen?, h]
theorem FAt.lt : k < w.heap.size := blk_lt h.c0
theorem FAt.set0 (u : Value) : FAt (w.setCell ⟨k, 0, none⟩ u) k u b c := (heap_setCell_same w k 0 _ _ u h).trans (by simp)
theorem FAt.set1 (u : Value) : FAt (w.setCell ⟨k, 1, none⟩ u) k a u c := (heap_setCell_same w k 1 _ _ u h).trans (by simp)
theorem FAt.set2 (u : Value) : FAt (w.setCell ⟨k, 2, none⟩ u) k a b u := (heap_setCell_same w k 2 _ _ u h).trans (by simp)
theorem FAt.later {w' : World} {n : Nat} (hb : Below n w w') (hk : k < n) : FAt w' k a b c := (hb.block k hk).trans h
theorem FAt.kept {w' : World} {row : Option Nat} (hg : w.grownBy w' row) (hk : some k ≠ row) : FAt w' k a b c := (hg.block k (FAt.lt h) hk).trans h
end
theorem fAt_new (w : World) (a b c : Value) : FAt (w.alloc (.cells #[a, b, c] 26)) w.heap.size a b c := heap_alloc_new w _
/-- A field in a block m, whose costs are a row of its own above n. -/
def FieldG (w : World) (n m : Nat) (X Y : Int) (hs : List Int) : Prop := ∃ v, FAt w m (.int .i64 X) (.int .i64 Y) v ∧ w.ownsRow n 49 1 v hs.length (cellsH hs)
/-- One cost more: behind an append, and a store of what came. -/
theorem FieldG.next {w0 w W w1 : World} {m : Nat} {X Y : Int} {hs : List Int} {v v2 : Value} {z : Int} (h0 : w0.grownBy w (some m)) (hmn : m < w0.heap.size) (hm : FAt w m (.int .i64 X) (.int .i64 Y) v) (hv : w.ownsRow w0.heap.size 49 1 v hs.length (cellsH hs))
    (hb : Below w.heap.size w W) (h2 : w1.ownsRow w0.heap.size 49 1 v2 (hs.length + 1) (cellsH hs ++ [.int .u16 z])) (hg : W.grownBy w1 v.ownBlock) :
    FieldG (w1.setCell ⟨m, 2, none⟩ v2) w0.heap.size m X Y (hs ++ [z]) ∧ w0.grownBy (w1.setCell ⟨m, 2, none⟩ v2) (some m) ∧ FAt w1 m (.int .i64 X) (.int .i64 Y) v := by
  have hlow : ∀ j, v.ownBlock = some j → w0.heap.size ≤ j := fun j e => (hv.lt j e).1
  have hm1 : FAt w1 m (.int .i64 X) (.int .i64 Y) v := (hm.later hb hm.lt).kept hg (fun e => by have := hlow m e.symm; omega)
  refine ⟨⟨v2, hm1.set2 v2, ?_⟩, ⟨(hg.os.trans hb.os).trans h0.os, (hg.tape.trans hb.tape).trans h0.tape, (hg.output.trans hb.output).trans h0.output, by simpa using Nat.le_trans h0.size (Nat.le_trans hb.size hg.size), fun k hk hkm => ?_⟩, hm1⟩
  · rw [List.length_append, cellsH_snoc]
    exact ownsRow_setCell_below h2 (a := ⟨m, 2, none⟩) (by simpa using hmn) v2
  · have hkm2 : k ≠ m := fun e => hkm (by rw [e])
    have hkw := Nat.lt_of_lt_of_le hk h0.size
    refine (Below.heap_setCell _ _ _ k (show k ≠ m from hkm2)).trans ((hg.block k (Nat.lt_of_lt_of_le hkw hb.size) (fun e => ?_)).trans ((hb.block k hkw).trans (h0.block k hk hkm)))
    have := hlow k e.symm
    omega
end Go.Proofs.Ythebiibiapjdiaa

/- Package mask: Add, Keep and Same. -/
namespace Go.Proofs.Ythebiibiapjdiaa
open Go.RowKit

set_option maxHeartbeats 800000 in
theorem add_any (b h b2 h2 : Nat) (X Y : Int) (cs ds : List Nat) (w : World) (hm : MaskAt w b h X Y cs) (hm2 : MaskAt w b2 h2 X Y ds) (gc : Good X Y cs) (gd : Good X Y ds) (n1 : b ≠ h) (n2 : b2 ≠ h) (n3 : h2 ≠ h) :
    Calls Try.prog 31 #[.pointer (some ⟨b, 0, none⟩), .pointer (some ⟨b2, 0, none⟩)] w fun e w' => e = .returned (.tuple #[.int .i64 (turnK (fun a b => a ||| b) cs ds cs.length : Nat), .int .i64 0]) ∧ MaskAt w' b h X Y (joinB (fun a b => a ||| b) cs ds) ∧ w.grownBy w' (some h) := by
  have hl : cs.length = ds.length := by have := gc.2.1; have := gd.2.1; omega
  have hl6 : cs.length ≤ 65536 := gc.small
  go_enter Try.func31, Try.ntmps31
  go_wp2_with fail
  refine (cut_or _ rfl b h b2 h2 X Y cs ds _ hm hm2 gc.2.2.1 gd.2.2.1 hl hl6 n1 n2 n3).mono ?_
  rintro e w' ⟨rfl, ha, hg⟩
  have HA := Lib.hid ha
  have HG := Lib.hid hg
  clear ha hg hl
  go_wp2
  go_ret2
  exact ⟨rfl, HA.out, HG.out⟩


theorem MaskAt.bytesIn {W : World} {b h : Nat} {X Y : Int} {bs : List Nat} (m : MaskAt W b h X Y bs) : Lib.BytesIn W (some ⟨h, 0, none⟩) bs.length (bs.map (fun x : Nat => (x : Int))) := by
  refine Lib.BytesIn.of_cells fun i hi => ?_
  have hadd : (⟨h, 0, none⟩ : Addr).add i = ⟨h, i, none⟩ := by unfold Addr.add; split <;> simp_all
  rw [hadd, m.at (List.getElem?_eq_getElem hi)]
  simp [List.getD_eq_getElem?_getD, hi]
theorem bytesOf_inj {cs ds : List Nat} (hc : IsBytes cs) (hd : IsBytes ds) : (Lib.bytesOf (cs.map (fun x : Nat => (x : Int))) == Lib.bytesOf (ds.map (fun x : Nat => (x : Int)))) = decide (cs = ds) := by
  rw [Bool.eq_iff_iff, beq_iff_eq, decide_eq_true_eq]
  constructor
  · intro h
    unfold Lib.bytesOf at h
    rw [List.map_map, List.map_map] at h
    have hl : cs.length = ds.length := by simpa using congrArg List.length h
    apply List.ext_getElem hl
    intro i h1 h2
    have := congrArg (fun l => l[i]?) h
    simp [h1, h2] at this
    have a := hc _ (List.getElem_mem h1)
    have b := hd _ (List.getElem_mem h2)
    have e := congrArg UInt8.toNat this
    simpa [Nat.mod_eq_of_lt a, Nat.mod_eq_of_lt b] using e
  · rintro rfl; rfl

set_option maxHeartbeats 800000 in
theorem msame_any (b h b2 h2 : Nat) (X Y : Int) (cs ds : List Nat) (w : World) (hm : MaskAt w b h X Y cs) (hm2 : MaskAt w b2 h2 X Y ds) (hc : IsBytes cs) (hd : IsBytes ds) :
    Calls Try.prog 26 #[.pointer (some ⟨b, 0, none⟩), .pointer (some ⟨b2, 0, none⟩)] w fun e w' => e = .returned (.bool (decide (cs = ds))) ∧ Below w.heap.size w w' := by
  have c0 := hm.c0
  have c1 := hm.c1
  have c2 := hm.c2
  have d0 := hm2.c0
  have d1 := hm2.c1
  have d2 := hm2.c2
  have hE : ∀ n, Calls Try.prog 74 #[.slice (some ⟨h, 0, none⟩) cs.length cs.length, .slice (some ⟨h2, 0, none⟩) ds.length ds.length] (w.drewN n) fun e w' => e = .returned (.bool (decide (cs = ds))) ∧ w' = w.drewN n := fun n => by
    have hq := Try.bytes_Equal_all (some ⟨h, 0, none⟩) (some ⟨h2, 0, none⟩) cs.length cs.length ds.length ds.length _ _ (w.drewN n) (by simp) (by simp) (hm.below (bl_drn w n)).bytesIn (hm2.below (bl_drn w n)).bytesIn
    rw [bytesOf_inj hc hd] at hq
    exact hq
  clear hm hm2 hc hd
  go_enter Try.func26, Try.ntmps26
  go_wp2
  go_quiet ((go_at_call 74; exact Calls.quiet_of_same (hE _)))
  go_wp2
  go_ret
  exact ⟨rfl, bl_drn _ _⟩
end Go.Proofs.Ythebiibiapjdiaa

/- As text Oh, for a region with a store at its end (operation z): the condition S need not hold behind it. -/
namespace Go.Proofs.Ythebiibiapjdiaa
open Go

section
variable {F : Fence} {n : Nat} {P : Program} {ops : Array Oper} {Q : Exit → Act → World → Prop} {md : Region.Mode} {S : World → Prop} {z : Nat}

/-- From here on, in each order that may come, the region ends in Q; S holds behind each step until z is done. -/
def OrdZ (F : Fence) (n : Nat) (P : Program) (md : Region.Mode) (ops : Array Oper) (Q : Exit → Act → World → Prop) (S : World → Prop) (z : Nat) : Nat → Array Bool → Act → World → Prop
  | 0, l, a, w => Region.ready md ops l = [] ∧ Q .normal a w
  | k + 1, l, a, w => (Region.ready md ops l = [] → Q .normal a w) ∧
      ∀ i, i ∈ Region.ready md ops l → wpOpIn F n P ops Q i (fun a1 w1 => ((l.setIfInBounds i true).getD z true = false → S w1) ∧ OrdZ F n P md ops Q S z k (l.setIfInBounds i true) a1 w1) a w
/-- z comes behind i. -/
def behindB (md : Region.Mode) (ops : Array Oper) (z i : Nat) : Bool := match ops[z]? with | some o => o.after.any (fun e => e.on == i && Region.binds md e) | none => false
theorem behindB_ready {md : Region.Mode} {ops : Array Oper} {z i : Nat} {l : Array Bool} (h : behindB md ops z i = true) (hr : z ∈ Region.ready md ops l) : l.getD i false = true := by
  obtain ⟨_, o, ho, hall⟩ := mem_ready.1 hr
  unfold behindB at h
  rw [ho] at h
  simp only [Array.any_eq_true'] at h
  obtain ⟨e, he, h2⟩ := h
  rw [Bool.and_eq_true, beq_iff_eq] at h2
  have := hall e he h2.2
  rw [h2.1] at this
  exact this

theorem OrdZ.plain (k : Nat) : ∀ (l : Array Bool) (a : Act) (w : World), OrdZ F n P md ops Q S z k l a w → wpAnyIn F n P md ops Q k l a w := by
  induction k with
  | zero => intro l a w h; exact h
  | succ k ih => intro l a w h; exact ⟨h.1, fun i hi => wpOpIn_mono (fun a1 w1 h1 => ih _ a1 w1 h1.2) (h.2 i hi)⟩

/-- The beginning. -/
theorem ordZ_begin {id : Nat} {a : Act} {w : World} (hm : P.follows .mixedOrders = true) (hS : S w.drew) (h : S w.drew → OrdZ F n P .any ops Q S z ops.size (Array.replicate ops.size false) a w.drew) :
    (Code.region id ops true).wpIn F n P Q a w := wpIn_region_any hm (OrdZ.plain _ _ _ _ (h hS))

theorem OrdZ.first {i : Nat} {oi : Oper} {v : Value} (hi : ops[i]? = some oi) (hsel : ∀ (j : Nat) (o : Oper) cs b, ops[j]? = some o → o.op ≠ .select cs b) (hdef : ∀ (j : Nat) (o : Oper) c, ops[j]? = some o → o.op ≠ .defer c)
    (hQ : ∀ c a w, Q (.panic c) (a.put oi.dst v) w → Q (.panic c) a w) (hz : behindB md ops z i = true) (hzi : i ≠ z) (k : Nat) : ∀ (l : Array Bool) (a : Act) (w : World), l.getD z true = false →
      (∀ j oj, ops[j]? = some oj → j ≠ i → l.getD j true = false → (∀ e ∈ oj.after, Region.binds md e = true → e.on ≠ i) → oi.apart ops oj = true) →
      i ∈ Region.ready md ops l → TellsS P ops S oi v a → S w → OrdZ F n P md ops Q S z k (l.setIfInBounds i true) (a.put oi.dst v) w → OrdZ F n P md ops Q S z (k + 1) l a w := by
  induction k with
  | zero =>
    intro l a w hlz _ hr hy hS H
    refine ⟨fun h => absurd hr (by simp [h]), fun j hj => ?_⟩
    by_cases e : j = i
    · subst e
      exact hy.step hi (fun c => hdef _ _ c hi) hS ⟨fun _ => hS, H⟩
    · have hm := ready_mono hj e
      rw [H.1] at hm
      cases hm
  | succ k ih =>
    intro l a w hlz hfree hr hy hS H
    refine ⟨fun h => absurd hr (by simp [h]), fun j hj => ?_⟩
    by_cases e : j = i
    · subst e
      exact hy.step hi (fun c => hdef _ _ c hi) hS ⟨fun _ => hS, H⟩
    · obtain ⟨hun, oj, hoj, hall⟩ := mem_ready.1 hj
      have hli : l.getD i true = false := (mem_ready.1 hr).1
      have hnot : ∀ x ∈ oj.after, Region.binds md x = true → x.on ≠ i := fun x hx hb heq => by
        have h1 := hall x hx hb
        rw [heq] at h1
        rcases Nat.lt_or_ge i l.size with hl | hl <;> simp_all
      have h2 := hy.past hoj (hfree j oj hoj e hun hnot) (fun cs b => hsel i oi cs b hi) (fun cs b => hsel j oj cs b hoj) (fun c => hdef j oj c hoj) hQ (H.2 j (ready_mono hj e))
      refine wpOpIn_mono (fun a1 w1 h3 => ?_) h2
      obtain ⟨hy1, hS1, H1⟩ := h3
      have hjz : j ≠ z := by
        rintro rfl
        have h5 := behindB_ready hz hj
        rcases Nat.lt_or_ge i l.size with hl | hl <;> simp_all
      have hlz2 : (l.setIfInBounds j true).getD z true = false := by rw [getD_set_ne true hjz]; exact hlz
      replace hS1 := hS1 (by rw [getD_set_ne true hjz, getD_set_ne true hzi]; exact hlz)
      refine ⟨fun _ => hS1, ih (l.setIfInBounds j true) a1 w1 hlz2 ?_ (ready_mono hr (Ne.symm e)) hy1 hS1 (by rw [Array.setIfInBounds_comm _ _ e]; exact H1)⟩
      intro x ox hx hxi hxun hno
      refine hfree x ox hx hxi ?_ hno
      by_cases hjx : j = x
      · subst hjx; exact hun
      · rwa [getD_set_ne true hjx] at hxun

/-- Take number i first. -/
theorem ordZ_take {i : Nat} {oi : Oper} {v : Value} {k : Nat} {l : Array Bool} {a : Act} {w : World} (hi : ops[i]? = some oi) (hr : (Region.ready md ops l).contains i = true) (hf : Region.free md ops l i = true)
    (hs : Region.noSelect ops = true) (hd : noDefer ops = true) (hQ : ∀ c a w, Q (.panic c) (a.put oi.dst v) w → Q (.panic c) a w) (hS : S w)
    (hz : behindB md ops z i = true) (hzi : i ≠ z) (hlz : l.getD z true = false) (hy : YieldsIf P ops S oi v a) (hab : ∀ w, oi.about P w a.eval = none) (h : OrdZ F n P md ops Q S z k (l.setIfInBounds i true) (a.put oi.dst v) w) : OrdZ F n P md ops Q S z (k + 1) l a w :=
  OrdZ.first hi (Region.noSelect_spec hs) (noDefer_spec hd) hQ hz hzi k l a w hlz (Region.free_spec hi hf) (by simpa using hr) ⟨hy, hab⟩ hS h

/-- One alone may come. -/
theorem ordZ_one {i : Nat} {o : Oper} {k : Nat} {l : Array Bool} {a : Act} {w : World} (hr : Region.ready md ops l = [i]) (ho : ops[i]? = some o) (hw : Region.wanted o (yielded ops a.tmps) = true)
    (h : ∀ K : Act → World → Prop, (∀ a1 w1, ((l.setIfInBounds i true).getD z true = false → S w1) → OrdZ F n P md ops Q S z k (l.setIfInBounds i true) a1 w1 → K a1 w1) → Oper.wpIn F n P o a w K Q) : OrdZ F n P md ops Q S z (k + 1) l a w := by
  refine ⟨fun h0 => absurd (hr.symm.trans h0) (by simp), fun j hj => ?_⟩
  rw [hr] at hj
  obtain rfl := List.mem_singleton.1 hj
  refine wpOpIn_step ho fun K' hK' => ?_
  rw [if_pos hw]
  exact h K' fun a1 w1 hs hrest => hK' a1 w1 ⟨hs, hrest⟩

/-- One alone may come, and its guard passes it over. -/
theorem ordZ_skip {i : Nat} {o : Oper} {k : Nat} {l : Array Bool} {a : Act} {w : World} (hr : Region.ready md ops l = [i]) (ho : ops[i]? = some o) (hw : Region.wanted o (yielded ops a.tmps) = false) (hF : ∀ f, F.fn f) (hS : S w)
    (h : OrdZ F n P md ops Q S z k (l.setIfInBounds i true) (a.put o.dst undef) w) : OrdZ F n P md ops Q S z (k + 1) l a w := by
  refine ⟨fun h0 => absurd (hr.symm.trans h0) (by simp), fun j hj => ?_⟩
  rw [hr] at hj
  obtain rfl := List.mem_singleton.1 hj
  refine wpOpIn_step ho fun K' hK' => ?_
  rw [if_neg (by rw [hw]; exact Bool.false_ne_true)]
  exact ⟨fun f _ => hF f, hK' _ _ ⟨fun _ => hS, h⟩⟩

/-- All have come. -/
theorem ordZ_done {l : Array Bool} {a : Act} {w : World} {k : Nat} (hr : Region.ready md ops l = []) (h : Q .normal a w) : OrdZ F n P md ops Q S z k l a w := by
  cases k with
  | zero => exact ⟨hr, h⟩
  | succ k => exact ⟨fun _ => h, by rw [hr]; simp⟩
end

theorem ordZ_append {F : Fence} {n : Nat} {P : Program} {ops : Array Oper} {Q : Exit → Act → World → Prop} {md : Region.Mode} {S : World → Prop} {z : Nat} {i : Nat} {o : Oper} {j : Nat} {l : Array Bool} {a : Act} (w : World)
    (hr : Region.ready md ops l = [i]) (ho : ops[i]? = some o) (hw : Region.wanted o (yielded ops a.tmps) = true) (s x : Operand) (t : TypeId) (hop : o.op = Op.call { callee := Callee.builtin Builtin.append, args := #[s, x], argTypes := #[t, t] })
    (base : Nat) (e : TypeId) (ti : TypeInfo) (zv : Value) (size bytes : Nat) (h1 : P.underlying t = some (.slice e)) (h2 : P.info? e = some ti) (h3 : ti.zero = some zv) (h4 : ti.size = size) (h5 : ti.bytes = bytes) (h6 : zv.cells.size = size) (h7 : 0 < size)
    (v : Value) (k : Nat) (xs : List Value) (hs : a.eval s = v) (hown : w.ownsRow base e size v k xs) (ad : Addr) (m c : Nat) (news : List Value) (hx : a.eval x = .slice (some ad) m c) (hn : news.length = m * size)
    (hc : ∀ j u, news[j]? = some u → w.cell? (ad.add j) = some u) (h1c : ∀ u ∈ news, u.oneCell' = true) (b1 : k + m ≤ maxLen) (b2 : (k + m) * bytes ≤ 140737488355328) (b3 : base ≤ w.heap.size)
    (hK : ∀ v' w', w'.ownsRow base e size v' (k + m) (xs ++ news) → w.grownBy w' v.ownBlock → ((l.setIfInBounds i true).getD z true = false → S w') ∧ OrdZ F n P md ops Q S z j (l.setIfInBounds i true) (a.put o.dst v') w') :
    OrdZ F n P md ops Q S z (j + 1) l a w := by
  refine ordZ_one hr ho hw fun K hK' => ?_
  obtain ⟨v', w', hrun, r1, r2, r3⟩ := run_append_own (P := P) w base t o.type e ti zv size bytes h1 h2 h3 h4 h5 h6 h7 v k xs hown ad m c news hn hc h1c b1 b2 b3
  unfold Oper.wpIn
  refine ⟨?_, ?_⟩
  · simp [Oper.about, hop, resolve, Target.leads, Sem.run_pure]
  · rw [Oper.semAt_plain F _ _ (by rw [hop]; intro c hc'; cases hc')]
    simp [execOp, hop, resolve, invoke, builtin, hs, hx, hrun, Result.andThen]
    exact hK' _ _ (hK v' w' r1 r2).1 (hK v' w' r1 r2).2
end Go.Proofs.Ythebiibiapjdiaa

/- Sight: what is seen hangs on the costs of what is seen; with fewer walls one sees no less. -/
namespace Go.Proofs.Ythebiibiapjdiaa
open Go.RowKit

theorem takeTo_same {wl wl2 : Int × Int → Bool} : ∀ (l : List (Int × Int)), (∀ c ∈ takeTo wl l, wl2 c = wl c) → takeTo wl2 l = takeTo wl l
  | [], _ => rfl
  | c :: r, h => by
    have hc : wl2 c = wl c := h c (by rw [takeTo]; split <;> simp)
    rw [takeTo, takeTo, hc]
    by_cases hw : wl c = true
    · rw [if_pos hw, if_pos hw]
    · rw [if_neg hw, if_neg hw]
      rw [takeTo_same r (fun d hd => h d (by rw [takeTo, if_neg hw]; exact List.mem_cons_of_mem _ hd))]
theorem walkL_same {wl wl2 : Int × Int → Bool} (l : List (Int × Int)) (h : ∀ c ∈ walkL wl l, wl2 c = wl c) : walkL wl2 l = walkL wl l := by
  cases l with
  | nil => rfl
  | cons c r =>
    rw [walkL, walkL, takeTo_same r (fun d hd => h d (by rw [walkL]; exact List.mem_cons_of_mem _ hd))]
theorem takeTo_more {wl wl2 : Int × Int → Bool} (h : ∀ c, wl2 c = true → wl c = true) : ∀ (l : List (Int × Int)) (c : Int × Int), c ∈ takeTo wl l → c ∈ takeTo wl2 l
  | [], c, hc => hc
  | d :: r, c, hc => by
    rw [takeTo] at hc ⊢
    by_cases hw : wl d = true
    · rw [if_pos hw] at hc
      split
      · exact hc
      · simp at hc; rw [hc]; simp
    · rw [if_neg hw] at hc
      rw [if_neg (fun e => hw (h d e))]
      rcases List.mem_cons.1 hc with rfl | hc
      · simp
      · exact List.mem_cons_of_mem _ (takeTo_more h r c hc)
theorem walkL_more {wl wl2 : Int × Int → Bool} (h : ∀ c, wl2 c = true → wl c = true) (l : List (Int × Int)) (c : Int × Int) (hc : c ∈ walkL wl l) : c ∈ walkL wl2 l := by
  cases l with
  | nil => exact hc
  | cons d r =>
    rw [walkL] at hc ⊢
    rcases List.mem_cons.1 hc with rfl | hc
    · simp
    · exact List.mem_cons_of_mem _ (takeTo_more h r c hc)

theorem sees_same {X Y r : Int} {fs gs : List Int} {e : Int × Int} (h : ∀ c, Sees X Y fs r e c → wallB X gs c = wallB X fs c) (c : Int × Int) : Sees X Y gs r e c ↔ Sees X Y fs r e c := by
  have key : ∀ q : Int × Int, inB X Y q.1 q.2 = true → (farN e q : Int) ≤ r → seenF X gs e.1 e.2 q.1 q.2 (farN e q) = seenF X fs e.1 e.2 q.1 q.2 (farN e q) := fun q hq hf =>
    walkL_same _ (fun d hd => h d ⟨q, hq, hf, hd⟩)
  unfold Sees
  constructor
  · rintro ⟨q, hq, hf, hc⟩; exact ⟨q, hq, hf, by rw [← key q hq hf]; exact hc⟩
  · rintro ⟨q, hq, hf, hc⟩; exact ⟨q, hq, hf, by rw [key q hq hf]; exact hc⟩
theorem sees_more {X Y r r2 : Int} {fs gs : List Int} {e : Int × Int} (h : ∀ c, wallB X gs c = true → wallB X fs c = true) (hr : r ≤ r2) (c : Int × Int) (hc : Sees X Y fs r e c) : Sees X Y gs r2 e c := by
  obtain ⟨q, hq, hf, hm⟩ := hc
  exact ⟨q, hq, by omega, walkL_more h _ c hm⟩

theorem allB_same {X Y r : Int} {fs gs : List Int} {zs : List (Int × Int)} (hm : mayB X Y = true) (h : ∀ z ∈ zs, inB X Y z.1 z.2 = true) (h0 : 0 ≤ r) (h1 : r ≤ 16)
    (hw : ∀ c, inM X Y (allB X Y fs r zs) c = true → wallB X gs c = wallB X fs c) : allB X Y gs r zs = allB X Y fs r zs := by
  refine set_ext (allB_good hm h) (allB_good hm h) fun c => ?_
  rw [allB_iff hm h h0 h1, allB_iff hm h h0 h1]
  have key : ∀ e ∈ zs, ∀ d, Sees X Y gs r e d ↔ Sees X Y fs r e d := fun e he d => sees_same (fun d hd => hw d ((allB_iff hm h h0 h1 d).2 ⟨e, he, hd⟩)) d
  constructor
  · rintro ⟨e, he, hs⟩; exact ⟨e, he, (key e he c).1 hs⟩
  · rintro ⟨e, he, hs⟩; exact ⟨e, he, (key e he c).2 hs⟩
/-- The cell of a number. -/
def atC (X : Int) (i : Nat) : Int × Int := ((i : Int) % X, (i : Int) / X)
theorem atC_num {X Y : Int} {i : Nat} (hm : mayB X Y = true) (hi : (i : Int) < X * Y) : inB X Y (atC X i).1 (atC X i).2 = true ∧ numC X (atC X i) = i ∧ atB X Y i = true := by
  obtain ⟨h1, h2, h3, h4⟩ := mayB_iff.1 hm
  have hat : atB X Y i = true := atB_iff.2 ⟨h1, h2, h3, h4, by omega, hi⟩
  have hin := cellAt_in hm i
  have e : cellAt X Y i = atC X i := by unfold cellAt atC; rw [if_pos hat]
  rw [e] at hin
  refine ⟨hin, ?_, hat⟩
  unfold numC atC
  have := Int.emod_add_mul_ediv i X
  rw [Int.mul_comm] at this
  show ((i : Int) / X * X + (i : Int) % X).toNat = i
  omega
theorem atC_of {X Y : Int} {c : Int × Int} (h : inB X Y c.1 c.2 = true) : atC X (numC X c) = c := by
  obtain ⟨a1, a2⟩ := idx_lt h
  have e := cellAt_num h
  unfold cellAt at e
  obtain ⟨h1, h2, h3, h4, _⟩ := inB_iff.1 h
  rw [if_pos (atB_iff.2 ⟨h1, h2, h3, h4, a1, a2⟩)] at e
  unfold atC numC
  rw [Int.toNat_of_nonneg a1]
  exact e
/-- The costs of one field where a set has a cell, of another one elsewhere. -/
def mixF (X Y : Int) (ms : List Nat) (fs gs : List Int) : List Int := (List.range fs.length).map (fun i => if inM X Y ms (atC X i) = true then fs.getD i 0 else gs.getD i 0)
theorem mixF_len (X Y : Int) (ms : List Nat) (fs gs : List Int) : (mixF X Y ms fs gs).length = fs.length := by simp [mixF]
theorem mixF_at {X Y : Int} {ms : List Nat} {fs gs : List Int} {i : Nat} (hi : i < fs.length) : (mixF X Y ms fs gs)[i]? = some (if inM X Y ms (atC X i) = true then fs.getD i 0 else gs.getD i 0) := by
  unfold mixF
  rw [List.getElem?_map, List.getElem?_range hi]
  rfl
theorem mixF_take {X Y : Int} {ms : List Nat} {fs gs : List Int} {i : Nat} (hi : i < fs.length) : (mixF X Y ms fs gs).take (i + 1) = (mixF X Y ms fs gs).take i ++ [if inM X Y ms (atC X i) = true then fs.getD i 0 else gs.getD i 0] := by
  have hl : i < (mixF X Y ms fs gs).length := by rw [mixF_len]; exact hi
  rw [List.take_succ_eq_append_getElem hl]
  have := mixF_at (X := X) (Y := Y) (ms := ms) (gs := gs) hi
  rw [List.getElem?_eq_getElem hl] at this
  rw [Option.some.inj this]
theorem wall_mix {X Y : Int} {ms : List Nat} {fs gs : List Int} (hl : (fs.length : Int) = X * Y) {c : Int × Int} (hc : inM X Y ms c = true) : wallB X (mixF X Y ms fs gs) c = wallB X fs c := by
  have hi := inM_in hc
  obtain ⟨a1, a2⟩ := idx_lt hi
  have hlt : numC X c < fs.length := by unfold numC; omega
  have e := mixF_at (X := X) (Y := Y) (ms := ms) (fs := fs) (gs := gs) hlt
  rw [atC_of hi, if_pos hc] at e
  unfold wallB
  show (_ == _) = (_ == _)
  have e1 : (mixF X Y ms fs gs).getD (c.2 * X + c.1).toNat 1 = fs.getD (numC X c) 0 := by
    rw [List.getD_eq_getElem?_getD, show (c.2 * X + c.1).toNat = numC X c from rfl, e]; rfl
  have e2 : fs.getD (c.2 * X + c.1).toNat 1 = fs.getD (numC X c) 0 := by
    rw [show (c.2 * X + c.1).toNat = numC X c from rfl, List.getD_eq_getElem?_getD, List.getD_eq_getElem?_getD, List.getElem?_eq_getElem hlt]; rfl
  rw [e1, e2]
/-- What is seen where the costs of what is seen are the same. -/
theorem allB_mix {X Y r : Int} {fs gs : List Int} {zs : List (Int × Int)} (hm : mayB X Y = true) (hl : (fs.length : Int) = X * Y) (h : ∀ z ∈ zs, inB X Y z.1 z.2 = true) (h0 : 0 ≤ r) (h1 : r ≤ 16) :
    allB X Y (mixF X Y (allB X Y fs r zs) fs gs) r zs = allB X Y fs r zs := allB_same hm h h0 h1 fun _ hc => wall_mix hl hc
end Go.Proofs.Ythebiibiapjdiaa

/- The frame's parts: sizes, cells, rows of cells and fields as arguments, where no variable is listed. -/
namespace Go.Proofs.Ythebiibiapjdiaa
open Go.ChangeShapes Go.WideShapes Go.ChangeAt Go.RowKit Go.Joins

theorem Try.own : ownKnob Try.prog.godebug = none := by kernel_rfl
theorem Try.cInt : Try.prog.cellsOf 3 = 1 := by kernel_rfl
theorem Try.cCell : Try.prog.cellsOf 37 = 2 := by kernel_rfl
theorem Try.cSize : Try.prog.cellsOf 23 = 2 := by kernel_rfl
theorem Try.cCells : Try.prog.cellsOf 27 = 1 := by kernel_rfl
theorem Try.laidOut : laidOutB Try.prog = true := by kernel_rfl

set_option maxRecDepth 100000 in
theorem open_size {H : Type} {enc : TypeId × Value → H} {W : World} {r : Reach} {b0 base : Nat} {sp : Nat → Bool} {held : Bool} {v : Value} {d : DataW H} {p : List MemPlace}
    (hv : Value.okWide Try.prog W r b0 23 v) (h : DataW.Trod enc Try.prog W base sp held 23 v d p) : ∃ a b : Int, v = .agg #[.int .i64 a, .int .i64 b] ∧ (Lit.int .i64 a).wf = true ∧ (Lit.int .i64 b).wf = true := by
  obtain ⟨c0, c1, y0, y1, m, rfl, rfl, rfl, hy0, hy1⟩ := open_agg2 Try.underlying23 (by kernel_rfl) Try.cSize hv h
  obtain ⟨a, e0, rfl, wa⟩ := DataW.trod_int Try.underlying3 hy0
  obtain ⟨b, e1, rfl, wb⟩ := DataW.trod_int Try.underlying3 hy1
  simp at e0 e1
  subst e0 e1
  exact ⟨a, b, rfl, wa, wb⟩
set_option maxRecDepth 100000 in
theorem open_cell {H : Type} {enc : TypeId × Value → H} {W : World} {r : Reach} {b0 base : Nat} {sp : Nat → Bool} {held : Bool} {v : Value} {d : DataW H} {p : List MemPlace}
    (hv : Value.okWide Try.prog W r b0 37 v) (h : DataW.Trod enc Try.prog W base sp held 37 v d p) : ∃ a b : Int, v = .agg #[.int .i64 a, .int .i64 b] ∧ (Lit.int .i64 a).wf = true ∧ (Lit.int .i64 b).wf = true := by
  obtain ⟨c0, c1, y0, y1, m, rfl, rfl, rfl, hy0, hy1⟩ := open_agg2 Try.underlying37 (by kernel_rfl) Try.cCell hv h
  obtain ⟨a, e0, rfl, wa⟩ := DataW.trod_int Try.underlying3 hy0
  obtain ⟨b, e1, rfl, wb⟩ := DataW.trod_int Try.underlying3 hy1
  simp at e0 e1
  subst e0 e1
  exact ⟨a, b, rfl, wa, wb⟩

theorem add_none (b off i : Nat) : (⟨b, off, none⟩ : Addr).add i = ⟨b, off + i, none⟩ := by unfold Addr.add; split <;> simp_all
/-- A row of cells, read off its cells. -/
theorem read_row {H : Type} {enc : TypeId × Value → H} {W : World} {held : Bool} {m : Nat} {cs : List Value} {x : DataW H × List MemPlace}
    (h : DataW.trod enc Try.prog W 0 (fun _ => true) held m 27 cs = some x) : ∃ (a : Option Addr) (cap : Nat) (zs : List (Int × Int)), cs = [.slice a zs.length cap] ∧ zs.length ≤ maxLen ∧ RowC W a zs := by
  rcases Go.Deep.open_slice_pairs Try.underlying27 Try.underlying37 Try.cCell rfl rfl Try.cInt Try.cInt h with ⟨rfl, _⟩ | ⟨a, len, cap, m', n, V0, V1, D0, D1, P0, P1, rfl, _, hl, hm, hmm, _, hc⟩
  · exact ⟨none, 0, [], rfl, Nat.zero_le _, .inl rfl⟩
  · have hmm' : m' = cap := by simpa using hmm
    subst hmm'
    refine ⟨some a, m', (List.range len).map (fun i => (intOf (V0 i), intOf (V1 i))), by simp, by rw [List.length_map, List.length_range]; exact Nat.le_trans hl hm, ?_⟩
    by_cases h0 : len = 0
    · exact .inl (by simp [h0])
    · obtain ⟨b, off, spot⟩ := a
      have hspot : spot = none := by simpa [Addr.add] using World.cell?_spot (hc 0 (by omega)).1
      subst hspot
      have hadd := add_none b off
      refine .inr ⟨b, off, rfl, fun i z hz => ?_⟩
      have hi : i < len := by
        have := (List.getElem?_eq_some_iff.1 hz).1
        simpa using this
      simp [hi] at hz
      subst hz
      obtain ⟨q0, q1, t0, t1⟩ := hc i (by omega)
      obtain ⟨p, e0, _, _⟩ := DataW.trod_int Try.underlying3 t0
      obtain ⟨q, e1, _, _⟩ := DataW.trod_int Try.underlying3 t1
      simp at e0 e1
      rw [hadd, e0] at q0
      rw [hadd, e1] at q1
      rw [e0, e1]
      exact ⟨q0, q1⟩
theorem row_small {n : Nat} (h : n ≤ maxLen) : n ≤ 9223372036854775807 := by unfold maxLen at h; omega


theorem Try.cRow : Try.prog.cellsOf 24 = 1 := by kernel_rfl
theorem Try.cField : Try.prog.cellsOf 26 = 3 := by kernel_rfl
theorem Try.cU16 : Try.prog.cellsOf 49 = 1 := by kernel_rfl
theorem spot_none {W : World} {a : Addr} {v : Value} (h : W.cell? (a.add 0) = some v) : ∃ b o, a = ⟨b, o, none⟩ := by
  obtain ⟨b, off, spot⟩ := a
  have : spot = none := by simpa [Addr.add] using World.cell?_spot h
  exact ⟨b, off, by rw [this]⟩
/-- A row of costs, by its cells. -/
theorem rowH_cells {W : World} {A : Option Addr} {L C : Nat} {zs : List Int} (hl : L ≤ zs.length) (hA : A = none → C = 0) (hz : zs.length = C)
    (h : ∀ a', A = some a' → ∀ i, i < zs.length → W.cell? (a'.add i) = some (.int .u16 (zs.getD i 0))) : RowH W A (zs.take L) := by
  by_cases h0 : L = 0
  · exact .inl (by rw [h0]; rfl)
  · cases hA' : A with
    | none => have := hA hA'; omega
    | some a' =>
      obtain ⟨b, o, rfl⟩ := spot_none (h a' hA' 0 (by omega))
      refine .inr ⟨b, o, rfl, fun i z hz => ?_⟩
      rw [List.getElem?_take] at hz
      split at hz
      · have hi := (List.getElem?_eq_some_iff.1 hz).1
        have := h _ hA' i hi
        rw [add_none] at this
        rw [this, List.getD_eq_getElem?_getD, hz]
        rfl
      · cases hz
theorem inH_of {z : Int} (h : (Lit.int .u16 z).wf = true) : inH z := by
  unfold inH
  simp only [Lit.wf, Bool.and_eq_true, decide_eq_true_eq] at h
  exact h
theorem read_u16s {H : Type} {enc : TypeId × Value → H} {W : World} {base : Nat} {held : Bool} {m : Nat} {cs : List Value} {x : DataW H × List MemPlace}
    (h : DataW.trod enc Try.prog W base (fun _ => true) held m 24 cs = some x) : ∃ (a : Option Addr) (cap : Nat) (zs : List Int), cs = [.slice a zs.length cap] ∧ zs.length ≤ maxLen ∧ RowH W a zs ∧ AllH zs := by
  rcases open_ints Try.underlying24 Try.underlying49 Try.cU16 h with ⟨rfl, _⟩ | ⟨a, l, c, zs, rfl, _, hl, hm, hz, _, hcell, hwf⟩
  · exact ⟨none, 0, [], rfl, Nat.zero_le _, .inl rfl, fun z hz => by simp at hz⟩
  · have hz' : zs.length = c := by simpa using hz
    refine ⟨some a, c, zs.take l, by simp; omega, by simp; omega, rowH_cells (C := c) (by omega) (fun e => by cases e) hz' (fun a' e => by cases e; exact hcell), fun z hz => inH_of (hwf z (List.mem_of_mem_take hz))⟩
set_option maxRecDepth 100000 in
theorem open_field {H : Type} {enc : TypeId × Value → H} {W : World} {r : Reach} {b0 base : Nat} {held : Bool} {v : Value} {d : DataW H} {p : List MemPlace}
    (hv : Value.okWide Try.prog W r b0 26 v) (h : DataW.Trod enc Try.prog W base (fun _ => true) held 26 v d p) : ∃ (X Y : Int) (a : Option Addr) (cap : Nat) (zs : List Int),
      v = .agg #[.int .i64 X, .int .i64 Y, .slice a zs.length cap] ∧ zs.length ≤ maxLen ∧ RowH W a zs ∧ AllH zs := by
  simp only [Value.okWide, Try.underlying26] at hv
  obtain ⟨cs, rfl, hsz, _⟩ := hv
  rw [Try.cField] at hsz
  obtain ⟨c0, c1, c2, rfl⟩ := array3 hsz
  obtain ⟨fuel, hf⟩ := h
  obtain ⟨y0, y1, n, _, _, hy0, hy1⟩ := trod_struct2 Try.underlying26 hf
  simp only [Value.cells] at hy0 hy1
  have h0 : DataW.trod enc Try.prog W base (fun _ => true) held n 23 [c0, c1] = some y0 := by
    have e : (([c0, c1, c2].drop 0).take (Try.prog.cellsOf 23)) = [c0, c1] := by rw [Try.cSize]; rfl
    rw [← e]; exact hy0
  have h1 : DataW.trod enc Try.prog W base (fun _ => true) held n 24 [c2] = some y1 := by
    have e : (([c0, c1, c2].drop 2).take (Try.prog.cellsOf 24)) = [c2] := by rw [Try.cRow]; rfl
    rw [← e]; exact hy1
  obtain ⟨z0, z1, m, _, _, hz0, hz1⟩ := trod_struct2 Try.underlying23 h0
  have g0 : DataW.trod enc Try.prog W base (fun _ => true) held m 3 [c0] = some z0 := by
    have e : (([c0, c1].drop 0).take (Try.prog.cellsOf 3)) = [c0] := by rw [Try.cInt]; rfl
    rw [← e]; exact hz0
  have g1 : DataW.trod enc Try.prog W base (fun _ => true) held m 3 [c1] = some z1 := by
    have e : (([c0, c1].drop 1).take (Try.prog.cellsOf 3)) = [c1] := by rw [Try.cInt]; rfl
    rw [← e]; exact hz1
  obtain ⟨X, e0, _, _⟩ := DataW.trod_int Try.underlying3 g0
  obtain ⟨Y, e1, _, _⟩ := DataW.trod_int Try.underlying3 g1
  obtain ⟨a, cap, zs, e2, hl, hr, hu⟩ := read_u16s h1
  simp at e0 e1 e2
  subst e0 e1 e2
  exact ⟨X, Y, a, cap, zs, rfl, hl, hr, hu⟩
end Go.Proofs.Ythebiibiapjdiaa

/- Arguments of the laws of sight: rows of cells, eyes. -/
namespace Go.Proofs.Ythebiibiapjdiaa
open Go.ChangeShapes Go.WideShapes Go.ChangeAt Go.RowKit Go.Joins

set_option maxRecDepth 100000 in
theorem open_cells {H : Type} {enc : TypeId × Value → H} {W : World} {r : Reach} {b0 : Nat} {held : Bool} {v : Value} {d : DataW H} {p : List MemPlace}
    (hv : Value.okWide Try.prog W r b0 27 v) (h : DataW.Trod enc Try.prog W 0 (fun _ => true) held 27 v d p) : ∃ (a : Option Addr) (cap : Nat) (zs : List (Int × Int)), v = .slice a zs.length cap ∧ zs.length ≤ maxLen ∧ RowC W a zs := by
  obtain ⟨a, len, cap, rfl⟩ := okWide_slice Try.underlying27 hv
  obtain ⟨fuel, hf⟩ := h
  obtain ⟨a', cap', zs, e, r⟩ := read_row hf
  simp [Value.cells] at e
  obtain ⟨rfl, rfl, rfl⟩ := e
  exact ⟨_, _, _, rfl, r⟩
/-- A row of cells, read off its cells: it is no longer than its room. -/
theorem read_rowc {H : Type} {enc : TypeId × Value → H} {W : World} {held : Bool} {m : Nat} {cs : List Value} {x : DataW H × List MemPlace}
    (h : DataW.trod enc Try.prog W 0 (fun _ => true) held m 27 cs = some x) : ∃ (a : Option Addr) (cap : Nat) (zs : List (Int × Int)), cs = [.slice a zs.length cap] ∧ zs.length ≤ maxLen ∧ RowC W a zs ∧ zs.length ≤ cap := by
  obtain ⟨a, cap, zs, rfl, h1, h2⟩ := read_row h
  refine ⟨a, cap, zs, rfl, h1, h2, ?_⟩
  rcases Go.Deep.open_slice_pairs Try.underlying27 Try.underlying37 Try.cCell rfl rfl Try.cInt Try.cInt h with ⟨e, _⟩ | ⟨a', len, cap', m', n, V0, V1, D0, D1, P0, P1, e, _, hl, hm, hmm, _, hc⟩
  · simp at e
    rw [e.2.1]; simp
  · have hmm' : m' = cap' := by simpa using hmm
    simp at e
    omega
theorem Try.cEyes : Try.prog.cellsOf 45 = 2 := by kernel_rfl
set_option maxRecDepth 100000 in
theorem open_eyes {H : Type} {enc : TypeId × Value → H} {W : World} {r : Reach} {b0 : Nat} {held : Bool} {v : Value} {d : DataW H} {p : List MemPlace}
    (hv : Value.okWide Try.prog W r b0 45 v) (h : DataW.Trod enc Try.prog W 0 (fun _ => true) held 45 v d p) : ∃ (a : Option Addr) (cap : Nat) (zs : List (Int × Int)) (n : Int),
      v = .agg #[.slice a zs.length cap, .int .i64 n] ∧ zs.length ≤ maxLen ∧ RowC W a zs ∧ zs.length ≤ cap := by
  obtain ⟨c0, c1, y0, y1, m, rfl, rfl, rfl, hy0, hy1⟩ := open_agg2 Try.underlying45 (by kernel_rfl) Try.cEyes hv h
  obtain ⟨a, cap, zs, e0, r0⟩ := read_rowc hy0
  obtain ⟨b, e1, rfl, wb⟩ := DataW.trod_int Try.underlying3 hy1
  simp at e0 e1
  subst e0 e1
  exact ⟨a, cap, zs, b, rfl, r0⟩
theorem Try.cMore : Try.prog.cellsOf 58 = 3 := by kernel_rfl
set_option maxRecDepth 100000 in
theorem open_more {H : Type} {enc : TypeId × Value → H} {W : World} {r : Reach} {b0 base : Nat} {held : Bool} {v : Value} {d : DataW H} {p : List MemPlace}
    (hv : Value.okWide Try.prog W r b0 58 v) (h : DataW.Trod enc Try.prog W base (fun _ => true) held 58 v d p) : ∃ (X Y n : Int), v = .agg #[.int .i64 X, .int .i64 Y, .int .i64 n] := by
  simp only [Value.okWide, Try.underlying58] at hv
  obtain ⟨cs, rfl, hsz, _⟩ := hv
  rw [Try.cMore] at hsz
  obtain ⟨c0, c1, c2, rfl⟩ := array3 hsz
  obtain ⟨fuel, hf⟩ := h
  obtain ⟨y0, y1, n, _, _, hy0, hy1⟩ := trod_struct2 Try.underlying58 hf
  simp only [Value.cells] at hy0 hy1
  have h0 : DataW.trod enc Try.prog W base (fun _ => true) held n 37 [c0, c1] = some y0 := by
    have e : (([c0, c1, c2].drop 0).take (Try.prog.cellsOf 37)) = [c0, c1] := by rw [Try.cCell]; rfl
    rw [← e]; exact hy0
  have h1 : DataW.trod enc Try.prog W base (fun _ => true) held n 3 [c2] = some y1 := by
    have e : (([c0, c1, c2].drop 2).take (Try.prog.cellsOf 3)) = [c2] := by rw [Try.cInt]; rfl
    rw [← e]; exact hy1
  obtain ⟨z0, z1, m, _, _, hz0, hz1⟩ := trod_struct2 Try.underlying37 h0
  have g0 : DataW.trod enc Try.prog W base (fun _ => true) held m 3 [c0] = some z0 := by
    have e : (([c0, c1].drop 0).take (Try.prog.cellsOf 3)) = [c0] := by rw [Try.cInt]; rfl
    rw [← e]; exact hz0
  have g1 : DataW.trod enc Try.prog W base (fun _ => true) held m 3 [c1] = some z1 := by
    have e : (([c0, c1].drop 1).take (Try.prog.cellsOf 3)) = [c1] := by rw [Try.cInt]; rfl
    rw [← e]; exact hz1
  obtain ⟨X, e0, _, _⟩ := DataW.trod_int Try.underlying3 g0
  obtain ⟨Y, e1, _, _⟩ := DataW.trod_int Try.underlying3 g1
  obtain ⟨k, e2, _, _⟩ := DataW.trod_int Try.underlying3 h1
  simp at e0 e1 e2
  subst e0 e1 e2
  exact ⟨X, Y, k, rfl⟩
end Go.Proofs.Ythebiibiapjdiaa

/- Sight: a field without one wall; sets that have all of another one. -/
namespace Go.Proofs.Ythebiibiapjdiaa
open Go.RowKit

/-- A field's costs, one wall of which is gone. -/
def noWall (X Y : Int) (fs : List Int) (c : Int × Int) : List Int := if inB X Y c.1 c.2 = true ∧ fs.getD (numC X c) 0 = 0 then fs.set (numC X c) 3 else fs
theorem noWall_len (X Y : Int) (fs : List Int) (c : Int × Int) : (noWall X Y fs c).length = fs.length := by unfold noWall; split <;> simp
theorem noWall_less (X Y : Int) (fs : List Int) (c d : Int × Int) (h : wallB X (noWall X Y fs c) d = true) : wallB X fs d = true := by
  unfold noWall at h
  split at h
  · unfold wallB at h ⊢
    rw [beq_iff_eq] at h ⊢
    rw [List.getD_eq_getElem?_getD, List.getElem?_set] at h
    split at h
    · split at h
      · cases h
      · rename_i e1 e2
        rw [List.getD_eq_getElem?_getD, List.getElem?_eq_none (by omega)]
        exact h
    · rw [List.getD_eq_getElem?_getD]; exact h
  · exact h
theorem sees_tail {X Y r : Int} {fs : List Int} {zs : List (Int × Int)} (hm : mayB X Y = true) (h : ∀ z ∈ zs, inB X Y z.1 z.2 = true) (h0 : 0 ≤ r) (h1 : r ≤ 16) (c : Int × Int) (hc : inM X Y (allB X Y fs r zs.tail) c = true) : inM X Y (allB X Y fs r zs) c = true := by
  have ht : ∀ z ∈ zs.tail, z ∈ zs := fun z hz => List.mem_of_mem_tail hz
  obtain ⟨e, he, hs⟩ := (allB_iff hm (fun z hz => h z (ht z hz)) h0 h1 c).1 hc
  exact (allB_iff hm h h0 h1 c).2 ⟨e, ht e he, hs⟩
theorem sees_wide {X Y r r2 : Int} {fs gs : List Int} {zs : List (Int × Int)} (hm : mayB X Y = true) (h : ∀ z ∈ zs, inB X Y z.1 z.2 = true) (h0 : 0 ≤ r) (h1 : r ≤ r2) (h2 : r2 ≤ 16) (hw : ∀ c, wallB X gs c = true → wallB X fs c = true) (c : Int × Int) (hc : inM X Y (allB X Y fs r zs) c = true) :
    inM X Y (allB X Y gs r2 zs) c = true := by
  obtain ⟨e, he, hs⟩ := (allB_iff hm h h0 (by omega) c).1 hc
  exact (allB_iff hm h (by omega) h2 c).2 ⟨e, he, sees_more hw h1 c hs⟩
/-- What has all of another set, stays as it is when that is added. -/
theorem join_sub {X Y : Int} {cs ds : List Nat} (gc : Good X Y cs) (gd : Good X Y ds) (h : ∀ c, inM X Y ds c = true → inM X Y cs c = true) : joinB (fun a b => a ||| b) cs ds = cs ∧ turnK (fun a b => a ||| b) cs ds cs.length = 0 := by
  have hl := gc.len gd
  have e : joinB (fun a b => a ||| b) cs ds = cs := by
    refine set_ext (gc.or gd) gc fun c => ?_
    unfold inM
    rw [bitAt_or hl]
    cases hi : inB X Y c.1 c.2 with
    | false => simp
    | true =>
      have := h c
      unfold inM at this
      rw [hi] at this
      simp only [Bool.true_and, Bool.or_eq_true] at this ⊢
      exact ⟨fun q => q.elim id this, .inl⟩
  refine ⟨e, ?_⟩
  rw [turnK_full _ hl]
  have := join_or cs ds hl gc.2.2.1 gd.2.2.1
  rw [e] at this
  omega
theorem add_sub (b h b2 h2 : Nat) (X Y : Int) (cs ds : List Nat) (w : World) (hm : MaskAt w b h X Y cs) (hm2 : MaskAt w b2 h2 X Y ds) (gc : Good X Y cs) (gd : Good X Y ds) (n1 : b ≠ h) (n2 : b2 ≠ h) (n3 : h2 ≠ h) (hs : ∀ c, inM X Y ds c = true → inM X Y cs c = true) :
    Calls Try.prog 31 #[.pointer (some ⟨b, 0, none⟩), .pointer (some ⟨b2, 0, none⟩)] w fun e w' => e = .returned (.tuple #[.int .i64 0, .int .i64 0]) ∧ MaskAt w' b h X Y cs ∧ w.grownBy w' (some h) := by
  have hj := join_sub gc gd hs
  have h := add_any b h b2 h2 X Y cs ds w hm hm2 gc gd n1 n2 n3
  rw [hj.1, hj.2] at h
  exact h
theorem rowH_set {W : World} {g i : Nat} {zs : List Int} {z : Int} (h : RowH W (some ⟨g, 0, none⟩) zs) (hi : i < zs.length) : RowH (W.setCell ⟨g, i, none⟩ (.int .u16 z)) (some ⟨g, 0, none⟩) (zs.set i z) := by
  rcases h with rfl | ⟨b, o, e, hc⟩
  · simp at hi
  · cases e
    refine .inr ⟨g, 0, rfl, fun j y hy => ?_⟩
    rw [Nat.zero_add]
    rw [List.getElem?_set] at hy
    split at hy
    · rename_i e
      subst e
      cases hy
      have := hc i _ (List.getElem?_eq_getElem hi)
      rw [Nat.zero_add] at this
      apply World.cell?_setCell_same
      exact this
    · rename_i hne
      have := hc j y hy
      rw [Nat.zero_add] at this
      have hne2 : (⟨g, i, none⟩ : Addr) ≠ ⟨g, j, none⟩ := fun e => hne (congrArg Addr.off e)
      refine Eq.trans ?_ this
      apply World.cell?_setCell_other
      exact hne2
/-- A row of cells but its first one. -/
theorem rowC_tail {W : World} {b o c : Nat} {z : Int × Int} {zr : List (Int × Int)} (h : RowC W (some ⟨b, o, none⟩) (z :: zr)) (hc : (z :: zr).length ≤ c) : RowC W (if c = 1 then some ⟨b, o, none⟩ else some ⟨b, o + 2, none⟩) zr := by
  rcases h with h | ⟨b', o', e, h'⟩
  · cases h
  · cases e
    split
    · rename_i h1
      have : zr = [] := by
        rw [List.length_cons, h1] at hc
        exact List.eq_nil_of_length_eq_zero (by omega)
      exact .inl this
    · refine .inr ⟨b, o + 2, rfl, fun i y hy => ?_⟩
      have := h' (i + 1) y (by simpa using hy)
      rw [show o + 2 + i * 2 = o + (i + 1) * 2 by omega]
      exact this
theorem errA_tail {X Y n r : Int} {z : Int × Int} {zr : List (Int × Int)} (h : errA X Y n r (z :: zr) = 0) : errA X Y n r zr = 0 := by
  obtain ⟨h1, h2, h3, h4⟩ := errA_ok h
  unfold errA
  rw [if_neg (fun e => e h1), if_neg (by omega), if_pos (fun y hy => h4 y (by simp [hy]))]
end Go.Proofs.Ythebiibiapjdiaa
