/- The cells of a box, as an iterator: its contract, for whoever keeps what the iterator laid. -/
import Derived.Test.YtldpajfendkhbaaDoorIa
import Derived.Lib.Hide
namespace Go.Proofs.YtldpajfendkhbaaDoor
open Go.RowKit Go.Shelf
attribute [local go_sem] Oper.semAt_some

/-- Block b, and all from n₁ on, lie as they lay. -/
def KeptB (b n₁ : Nat) (A B : World) : Prop := A.heap.size ≤ B.heap.size ∧ ∀ k, (k = b ∨ n₁ ≤ k) → k < A.heap.size → B.heap[k]? = A.heap[k]?
theorem KeptB.refl (b n₁ : Nat) (A : World) : KeptB b n₁ A A := ⟨Nat.le_refl _, fun _ _ _ => rfl⟩
theorem KeptB.trans {b n₁ : Nat} {A B C : World} (h : KeptB b n₁ A B) (k : KeptB b n₁ B C) : KeptB b n₁ A C :=
  ⟨Nat.le_trans h.1 k.1, fun i hi hl => (k.2 i hi (Nat.lt_of_lt_of_le hl h.1)).trans (h.2 i hi hl)⟩
theorem KeptB.from {b n₁ B : Nat} {A C : World} (h : KeptB b n₁ A C) (hB : n₁ ≤ B) : KeepsFrom B A C :=
  ⟨h.1, fun k o hk ho _ => by have hl := (Array.getElem?_eq_some_iff.1 ho).1; exact (h.2 k (.inr (by omega)) hl).trans ho⟩
theorem KeptB.at {b n₁ k : Nat} {A C : World} (h : KeptB b n₁ A C) (hk : n₁ ≤ k) (hl : k < A.heap.size) : KeepB k A C := h.2 k (.inr hk) hl

theorem yieldAt_any {m : Nat} (m' : Nat) {P : Program} {l : Nat} {args : Array Value} {W : World} {R : Ending → World → Prop} (h : YieldAt Fence.wide m P l args W R) : YieldAt Fence.wide m' P l args W R := by
  obtain ⟨fn, tmps, assign, body, hy, hR⟩ := h
  exact ⟨fn, tmps, assign, body, hy, ⟨hR.1, fun c cs _ => hR.2 c cs (room_wide _)⟩⟩

theorem roundIn_in {F : Fence} (l' : Nat) {m : Nat} {P : Program} {l : Nat} {f : FuncId} {tmps : Array Value} {assign body : Code} {w : World} {R : Ending → World → Prop}
    (h : RoundIn F m P l f tmps assign body w R) : RoundIn (F.inRound l') m P l f tmps assign body w R := h

/-- The cells that come of some rows. -/
def cellsOf (X : Int) (U : Nat) (ys : List Int) : List (Int × Int) := ys.flatMap (fun y => upto (fun c => (X + (c : Int), y)) U)
theorem cellsOf_snoc (X : Int) (U : Nat) (ys : List Int) (y : Int) : cellsOf X U (ys ++ [y]) = cellsOf X U ys ++ upto (fun c => (X + (c : Int), y)) U := by simp [cellsOf, List.flatMap_append]
theorem cellsOf_len (X : Int) (U : Nat) : ∀ ys : List Int, (cellsOf X U ys).length = ys.length * U
  | [] => by simp [cellsOf]
  | y :: ys => by
    have := cellsOf_len X U ys
    simp only [cellsOf, List.flatMap_cons, List.length_append, upto_length, List.length_cons] at this ⊢
    rw [this, Nat.add_mul, Nat.one_mul, Nat.add_comm]
theorem cellsOf_prefix (X : Int) (U : Nat) {ys zs : List Int} (h : ys <+: zs) : cellsOf X U ys <+: cellsOf X U zs := by
  obtain ⟨t, rfl⟩ := h
  exact ⟨cellsOf X U t, by simp [cellsOf, List.flatMap_append]⟩

theorem boxAt_own (b : Nat) (X Y U V : Int) : Go.Own (fun (_ : List Int) W => BoxAt W b X Y U V) := fun _ _ _ _ hs hg hr =>
  ⟨cell_kept hs.1 hg hr, cell_kept hs.2.1 hg hr, cell_kept hs.2.2.1 hg hr, cell_kept hs.2.2.2 hg hr⟩

set_option maxRecDepth 100000 in
set_option maxHeartbeats 4000000 in
theorem cells1_in (l b : Nat) (X Y U V : Int) (N : Nat) (hN : N = rowsOf X Y U V * U.toNat) (J Jx : List (Int × Int) → World → Prop) (W : World) (hJ : OwnFrom W.heap.size J) (hJx : OwnFrom W.heap.size Jx)
    (hY : ∀ pre p W1, J pre W1 → pre.length < N → YieldAt Fence.wide 0 Tryd.prog l #[.agg #[.int .i64 p.1, .int .i64 p.2]] W1 fun e W' =>
      (e = .returned (.bool true) ∧ J (pre ++ [p]) W' ∧ KeptB b W.heap.size W1 W') ∨ (e = .returned (.bool false) ∧ Jx (pre ++ [p]) W' ∧ KeptB b W.heap.size W1 W'))
    (hB : BoxAt W b X Y U V) (h0 : J [] W) :
    CallsIn Fence.wide 10 Tryd.prog 72 #[.func (.yield l) #[] #[], .pointer (some ⟨b, 0, none⟩)] W fun e W' => (∃ v, e = .returned v) ∧
      (J (cellsOf X U.toNat (upto (fun j => Y + (j : Int)) (rowsOf X Y U V))) W' ∨ ∃ q, q <+: cellsOf X U.toNat (upto (fun j => Y + (j : Int)) (rowsOf X Y U V)) ∧ Jx q W') := by
  have hbl := blk_lt hB.1
  obtain ⟨b0, b1, b2, b3⟩ := hB
  refine callsIn_of_wp_marks Tryd.func72 rfl trivial ?_ rfl
  simp only [Tryd.ntmps72, List.size_toArray, List.length_cons, List.length_nil, Nat.reduceAdd, Nat.reduceSub, Array.replicate_succ, Array.replicate_zero, List.push_toArray, List.append_toArray, List.nil_append, List.cons_append]
  gi_wp2_with fail
  refine ⟨trivial, (rows_in _ _ _ _ _ _).mono ?_⟩
  rintro e w1 ⟨rfl, rfl⟩
  gi_wp2_with fail
  obtain ⟨W0, hW0⟩ : ∃ W0, (W.alloc (.cells #[.func (.yield l) #[] #[]] 93)).alloc (.cells #[.int .i64 X, .int .i64 Y, .int .i64 U, .int .i64 V] 65) = W0 := ⟨_, rfl⟩
  have hz : W0.heap.size = W.heap.size + 2 := by rw [← hW0]; simp
  have hk0 : Below W.heap.size W W0 := by rw [← hW0]; exact bl_al (bl_al (bl0 _) _) _
  have y0 : W0.cell? ⟨W.heap.size, 0, none⟩ = some (.func (.yield l) #[] #[]) := by rw [← hW0]; simp [go_sem]
  have hR : BoxAt W0 (W.heap.size + 1) X Y U V := by rw [← hW0]; refine ⟨?_, ?_, ?_, ?_⟩ <;> simp [go_sem]
  have hB0 : BoxAt W0 b X Y U V := ⟨cell_later hk0 b0, cell_later hk0 b1, cell_later hk0 b2, cell_later hk0 b3⟩
  have hJ0 : J [] W0 := hJ [] W W0 none h0 (grown_of_below hk0) (fun r e => by cases e)
  rw [hW0]
  clear hW0
  refine wpIn_rangeFunc_ownG rfl (by decide) (gf := 80) (lb := #[.pointer (some ⟨W.heap.size + 1, 0, none⟩)]) rfl trivial (enters_of Tryd.func80 (by kernel_rfl) rfl)
    (rows_stops _ (W.heap.size + 1) X Y U V W0 hR) (fun h k => k.trans h) (fun W' l' o o' hl ho hc _ => ?_) (Below.refl _ _) (fun _ => rfl)
    (fun pre W' => (J (cellsOf X U.toNat pre) W' ∧ BoxAt W' b X Y U V) ∧ W'.cell? ⟨W.heap.size, 0, none⟩ = some (.func (.yield l) #[] #[]) ∧ BoxAt W' (W.heap.size + 1) X Y U V)
    (fun c pre W' => c = .ret ∧ ∃ q, q <+: cellsOf X U.toNat pre ∧ Jx q W')
    (fun s A B row hs hg hr => ⟨⟨hJ _ A B row hs.1.1 hg (fun r e => by obtain ⟨h1, h2⟩ := hr r e; exact ⟨by omega, h2⟩), boxAt_own b X Y U V s A B row hs.1.2 hg (fun r e => (hr r e).2)⟩, cell_kept hs.2.1 hg (fun r e => (hr r e).2), boxAt_own _ X Y U V s A B row hs.2.2 hg (fun r e => (hr r e).2)⟩)
    (fun c s A B row hs hg hr => ⟨hs.1, by obtain ⟨_, q, hq, hx⟩ := hs; exact ⟨q, hq, hJx _ A B row hx hg (fun r e => by obtain ⟨h1, h2⟩ := hr r e; exact ⟨by omega, h2⟩)⟩⟩)
    ⟨⟨hJ0, hB0⟩, y0, hR⟩
    (fun x => { tmps := #[.func (.yield l) #[] #[], .pointer (some ⟨b, 0, none⟩), .pointer (some ⟨W.heap.size, 0, none⟩), .int .i64 x, undef, .agg #[.int .i64 X, .int .i64 Y, .int .i64 U, .int .i64 V], .func (.func 80) #[] #[.pointer (some ⟨W.heap.size + 1, 0, none⟩)], .int .i64 x, undef, undef, undef, undef, undef, undef, undef, undef, undef, undef, undef, undef, undef, undef, undef], defers := [] })
    ?assign ?body ?done ?stop
  · exact World.putObj_heap_other (by omega)
  case assign =>
    intro l' x W' K hK
    gi_wp2
    exact hK
  case body =>
    rintro l' pre x W' ⟨⟨hj, hb'⟩, y1, hrow⟩ hlen
    have hr : rightB X Y U V = true := by
      cases h : rightB X Y U V
      · simp [rowsOf, h] at hlen
      · rfl
    obtain ⟨r1, r2, r3, r4, r5, r6, r7, r8⟩ := rightB_iff.1 hr
    obtain ⟨Un, rfl⟩ := Int.eq_ofNat_of_zero_le r5
    rw [Int.toNat_natCast] at hN hj
    have hmul : (pre.length + 1) * Un ≤ rowsOf X Y Un V * Un := Nat.mul_le_mul_right _ hlen
    rw [Nat.add_mul, Nat.one_mul, ← hN] at hmul
    have hcl := cellsOf_len X Un pre
    have HM := Lib.hid hmul
    have HC := Lib.hid hcl
    clear hmul hcl hN
    have hbq := hb'
    obtain ⟨q0, q1, q2, q3⟩ := hb'
    have r6' : Un ≤ 256 := by omega
    gi_wp2
    gi_loopw [10] (fun i wr => ∃ c : Nat, c ≤ Un ∧ i = .int .i64 c ∧ J (cellsOf X Un pre ++ upto (fun c => (X + (c : Int), x)) c) wr ∧ BoxAt wr b X Y Un V ∧ wr.cell? ⟨W.heap.size, 0, none⟩ = some (.func (.yield l) #[] #[]) ∧ KeptB b W.heap.size W' wr) (fun i _ => Un - (intOf i).toNat)
    case atStart => exact ⟨0, Nat.zero_le _, rfl, by rw [upto_zero, List.append_nil]; exact hj, hbq, y1, KeptB.refl _ _ _⟩
    case round =>
      obtain ⟨c, hc, rfl, hjc, hbc, yc, hkc⟩ := hrel
      have hbd := hbc
      obtain ⟨p0, p1, p2, p3⟩ := hbc
      clear q0 q1 q2 q3 b0 b1 b2 b3 y0 y1
      by_cases hlt : c < Un
      · have hlt' : (c : Int) < (Un : Int) := by omega
        have hlen2 : (cellsOf X Un pre ++ upto (fun c => (X + (c : Int), x)) c).length < N := by
          have h1 := HM.out
          have h2 := HC.out
          rw [List.length_append, upto_length, h2]; omega
        obtain ⟨fn, tmps, assign, body, hy, hR⟩ := yieldAt_any 7 (hY _ (X + (c : Int), x) wr hjc hlen2)
        dsimp only at hy
        gi_wp2
        refine (roundIn_in l' hR).mono ?_
        rintro e W3 (⟨rfl, hJ3, hk3⟩ | ⟨rfl, hJx3, hk3⟩)
        · have hbW : b < wr.heap.size := blk_lt p0
          have hyW := blk_lt yc
          have hB3 : BoxAt W3 b X Y Un V := hbd.kept (hk3.2 b (.inl rfl) hbW)
          have yc3 : W3.cell? ⟨W.heap.size, 0, none⟩ = some (.func (.yield l) #[] #[]) := (World.cell?_of_block (a := ⟨W.heap.size, 0, none⟩) (hk3.2 _ (.inr (Nat.le_refl _)) hyW)).trans yc
          have hJ4 : J (cellsOf X Un pre ++ upto (fun c => (X + (c : Int), x)) (c + 1)) W3 := by rw [upto_succ, ← List.append_assoc]; exact hJ3
          clear hJ3 p0 p1 p2 p3 yc
          gi_wp2
          go_roundw
          case rel => exact ⟨c + 1, by omega, by go_num, hJ4, hB3, yc3, hkc.trans hk3⟩
          case measure => simp [intOf]; omega
        · gi_wp2
          refine ⟨(hkc.trans hk3).from (by omega), rfl, _, ?_, hJx3⟩
          rw [Int.toNat_natCast, cellsOf_snoc, List.append_assoc, ← upto_succ]
          exact List.prefix_append_right_inj _ |>.2 (upto_prefix _ (by omega))
      · obtain rfl : c = Un := by omega
        gi_wp2
        have hk1 := hkc.at (k := W.heap.size + 1) (by omega) (blk_lt hrow.1)
        refine ⟨hkc.from (by omega), hk1, ⟨?_, hbd⟩, yc, hrow.kept hk1⟩
        rw [Int.toNat_natCast, cellsOf_snoc]
        exact hjc
  case done =>
    rintro D ys W' hD rfl ⟨⟨hj, _⟩, _⟩ hK
    gi_wp2
    refine ⟨by simp, .inl ⟨_, _, rfl, run_takeDeferred hK, ?_⟩⟩
    exact ⟨_, results_none rfl _ _ _, ⟨_, rfl⟩, .inl (hJ _ W' _ _ hj (grownBy_putObj' W' D (.deferred none)) (fun r e => by cases e; exact ⟨by omega, _, hK, rfl⟩))⟩
  case stop =>
    rintro D c pre W' hD hpre ⟨rfl, q, hq, hx⟩ hK
    gi_wp2
    refine ⟨by simp, .inl ⟨_, _, rfl, run_takeDeferred hK, ?_⟩⟩
    exact ⟨_, results_none rfl _ _ _, ⟨_, rfl⟩, .inr ⟨q, hq.trans (cellsOf_prefix X _ hpre), hJx _ W' _ _ hx (grownBy_putObj' W' D (.deferred none)) (fun r e => by cases e; exact ⟨by omega, _, hK, rfl⟩)⟩⟩
end Go.Proofs.YtldpajfendkhbaaDoor
