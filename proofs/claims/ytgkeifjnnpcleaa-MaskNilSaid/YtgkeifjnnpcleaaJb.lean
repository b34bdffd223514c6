/- The cells of a set, as an iterator: its contract, for whoever keeps what the iterator laid. -/
import Derived.Test.YtgkeifjnnpcleaaJa
import Derived.Test.YtgkeifjnnpcleaaJt
import Derived.Lib.Hide
namespace Go.Proofs.Ytgkeifjnnpcleaa
open Go.RowKit Go.Shelf
attribute [local go_sem] Oper.semAt_some

set_option maxHeartbeats 1000000 in
theorem numbers_in (n : Nat) (v : Option Addr) (w : World) :
    CallsIn Fence.wide n Try.prog 50 #[.pointer v] w fun e w' => e = .returned (.func (.func 52) #[] #[.pointer (some ⟨w.heap.size, 0, none⟩)]) ∧ w' = w.alloc (.cells #[.pointer v] 27) := by
  refine callsIn_of_wp Try.func50 rfl trivial ?_ rfl
  simp only [Try.ntmps50, List.size_toArray, List.length_cons, List.length_nil, Nat.reduceAdd, Nat.reduceSub, Array.replicate_succ, Array.replicate_zero, List.push_toArray, List.append_toArray, List.nil_append, List.cons_append]
  gi_wp2
  go_ret
  exact ⟨rfl, rfl⟩
set_option maxHeartbeats 1000000 in
theorem mcells_in (n : Nat) (v : Option Addr) (w : World) :
    CallsIn Fence.wide n Try.prog 36 #[.pointer v] w fun e w' => e = .returned (.func (.func 49) #[] #[.pointer (some ⟨w.heap.size, 0, none⟩)]) ∧ w' = w.alloc (.cells #[.pointer v] 27) := by
  refine callsIn_of_wp Try.func36 rfl trivial ?_ rfl
  simp only [Try.ntmps36, List.size_toArray, List.length_cons, List.length_nil, Nat.reduceAdd, Nat.reduceSub, Array.replicate_succ, Array.replicate_zero, List.push_toArray, List.append_toArray, List.nil_append, List.cons_append]
  gi_wp2
  go_ret
  exact ⟨rfl, rfl⟩

theorem SetAt.below {W W' : World} {p b h : Nat} {X Y : Int} {bs : List Nat} (s : SetAt W p b h X Y bs) (hb : Below W.heap.size W W') : SetAt W' p b h X Y bs := ⟨cell_later hb s.1, s.2.below hb⟩
theorem SetAt.lt {W : World} {p b h : Nat} {X Y : Int} {bs : List Nat} (s : SetAt W p b h X Y bs) : p < W.heap.size ∧ b < W.heap.size ∧ h < W.heap.size := ⟨blk_lt s.1, s.2.lt.1, s.2.lt.2⟩
theorem setAt_own {α : Type} (p b h : Nat) (X Y : Int) (bs : List Nat) : Own (fun (_ : α) W => SetAt W p b h X Y bs) := fun _ W W' row hs hg hr =>
  ⟨cell_kept hs.1 hg hr, hs.2.kept hg (fun e => by obtain ⟨o, h1, h2⟩ := hr _ e.symm; rw [hs.2.1] at h1; cases h1; simp [Obj.isCells] at h2) (fun e => by obtain ⟨o, h1, h2⟩ := hr _ e.symm; rw [hs.2.2] at h1; cases h1; simp [Obj.isCells] at h2)⟩

/-- **The numbers of a set hand back a value that 'SeqStopsK'**. -/
theorem nums_stops (n p b h : Nat) (X Y : Int) (bs : List Nat) (hbs : IsBytes bs) (hl : bs.length ≤ 65536) (w : World) (hs : SetAt w p b h X Y bs) :
    SeqStopsK Fence.wide n Try.prog 52 #[.pointer (some ⟨p, 0, none⟩)] (fun x : Int => #[Value.int .i64 x]) (Keep3 p b h) (fun ys => ys = numsOf bs) (fun pre => pre <+: numsOf bs) (numsOf bs).length w := fun l J Jx W hW _ _ hY h0 => by
  refine (nums1_in n l p b h X Y bs J Jx W hbs hl hY ((hs.below hW)) h0).mono ?_
  rintro e W' ⟨he, hj | ⟨q, hq, hj⟩⟩
  · exact ⟨he, .inl ⟨_, rfl, hj⟩⟩
  · exact ⟨he, .inr ⟨_, hq, hj⟩⟩

/-- Three blocks, and c blocks from n on, lie as they lay, and whatever from n on is no cells. -/
def KeptM (p b h n c : Nat) (A B : World) : Prop := A.heap.size ≤ B.heap.size ∧ (∀ k, (k = p ∨ k = b ∨ k = h ∨ (n ≤ k ∧ k < n + c)) → k < A.heap.size → B.heap[k]? = A.heap[k]?) ∧ (∀ (k : Nat) (o : Obj), n ≤ k → A.heap[k]? = some o → o.isCells = false → B.heap[k]? = some o)
theorem KeptM.refl (p b h n c : Nat) (A : World) : KeptM p b h n c A A := ⟨Nat.le_refl _, fun _ _ _ => rfl, fun _ _ _ ho _ => ho⟩
theorem KeptM.trans {p b h n c : Nat} {A B C : World} (x : KeptM p b h n c A B) (k : KeptM p b h n c B C) : KeptM p b h n c A C :=
  ⟨Nat.le_trans x.1 k.1, fun i hi hl => (k.2.1 i hi (Nat.lt_of_lt_of_le hl x.1)).trans (x.2.1 i hi hl), fun i o hi ho hc => k.2.2 i o hi (x.2.2 i o hi ho hc) hc⟩
theorem KeptM.from {p b h n c B : Nat} {A C : World} (x : KeptM p b h n c A C) (hB : n ≤ B) : KeepsFrom B A C :=
  ⟨x.1, fun k o hk ho hc => x.2.2 k o (by omega) ho hc⟩
theorem KeptM.of_below {p b h n c : Nat} {A B : World} (hb : Below A.heap.size A B) : KeptM p b h n c A B := ⟨hb.size, fun k _ hl => hb.block k hl, fun k _ _ ho _ => (hb.block k (Array.getElem?_eq_some_iff.1 ho).1).trans ho⟩
theorem KeptM.set {p b h n c : Nat} {A B : World} {X Y : Int} {bs : List Nat} (x : KeptM p b h n c A B) (s : SetAt A p b h X Y bs) : SetAt B p b h X Y bs :=
  s.kept ⟨x.2.1 p (.inl rfl) s.lt.1, x.2.1 b (.inr (.inl rfl)) s.lt.2.1, x.2.1 h (.inr (.inr (.inl rfl))) s.lt.2.2⟩
theorem KeptM.cell {p b h n c k o : Nat} {A B : World} {v : Value} (x : KeptM p b h n c A B) (hk : n ≤ k) (hk2 : k < n + c) (q : A.cell? ⟨k, o, none⟩ = some v) : B.cell? ⟨k, o, none⟩ = some v :=
  (World.cell?_of_block (a := ⟨k, o, none⟩) (x.2.1 k (.inr (.inr (.inr ⟨hk, hk2⟩))) (blk_lt q))).trans q

theorem mYieldAt_any {m : Nat} (m' : Nat) {P : Program} {l : Nat} {args : Array Value} {W : World} {R : Ending → World → Prop} (x : YieldAt Fence.wide m P l args W R) : YieldAt Fence.wide m' P l args W R := by
  obtain ⟨fn, tmps, assign, body, hy, hR⟩ := x
  exact ⟨fn, tmps, assign, body, hy, ⟨hR.1, fun c cs _ => hR.2 c cs (room_wide _)⟩⟩
theorem mRoundIn_in {F : Fence} (l' : Nat) {m : Nat} {P : Program} {l : Nat} {f : FuncId} {tmps : Array Value} {assign body : Code} {w : World} {R : Ending → World → Prop}
    (x : RoundIn F m P l f tmps assign body w R) : RoundIn (F.inRound l') m P l f tmps assign body w R := x

set_option maxRecDepth 100000 in
set_option maxHeartbeats 4000000 in
theorem mcells1_in (l p b h : Nat) (X Y : Int) (bs : List Nat) (hbs : IsBytes bs) (hl : bs.length ≤ 65536) (J Jx : List (Int × Int) → World → Prop) (W : World) (hJ : OwnFrom W.heap.size J) (hJx : OwnFrom W.heap.size Jx)
    (hY : ∀ pre c W1, J pre W1 → W.heap.size + 2 ≤ W1.heap.size → pre.length < (numsOf bs).length → YieldAt Fence.wide 0 Try.prog l #[.agg #[.int .i64 c.1, .int .i64 c.2]] W1 fun e W' =>
      (e = .returned (.bool true) ∧ J (pre ++ [c]) W' ∧ KeptM p b h W.heap.size 2 W1 W') ∨ (e = .returned (.bool false) ∧ Jx (pre ++ [c]) W' ∧ KeptM p b h W.heap.size 2 W1 W'))
    (hs : SetAt W p b h X Y bs) (h0 : J [] W) :
    CallsIn Fence.wide 10 Try.prog 49 #[.func (.yield l) #[] #[], .pointer (some ⟨p, 0, none⟩)] W fun e W' => (∃ v, e = .returned v) ∧
      (J ((numsOf bs).map (cellAt X Y)) W' ∨ ∃ q, q <+: (numsOf bs).map (cellAt X Y) ∧ Jx q W') := by
  obtain ⟨hlp, hlb, hlh⟩ := hs.lt
  have s0 := hs.1
  refine callsIn_of_wp_marks Try.func49 rfl trivial ?_ rfl
  simp only [Try.ntmps49, List.size_toArray, List.length_cons, List.length_nil, Nat.reduceAdd, Nat.reduceSub, Array.replicate_succ, Array.replicate_zero, List.push_toArray, List.append_toArray, List.nil_append, List.cons_append]
  gi_wp2_with fail
  refine ⟨trivial, (numbers_in _ _ _).mono ?_⟩
  rintro e w1 ⟨rfl, rfl⟩
  gi_wp2_with fail
  obtain ⟨W0, hW0⟩ : ∃ W0, (W.alloc (.cells #[.func (.yield l) #[] #[]] 39)).alloc (.cells #[.pointer (some ⟨b, 0, none⟩)] 27) = W0 := ⟨_, rfl⟩
  have hz : W0.heap.size = W.heap.size + 2 := by rw [← hW0]; simp
  have hk0 : Below W.heap.size W W0 := by rw [← hW0]; exact bl_al (bl_al (bl0 _) _) _
  have y0 : W0.cell? ⟨W.heap.size, 0, none⟩ = some (.func (.yield l) #[] #[]) := by rw [← hW0]; simp [go_sem]
  have hs0 : SetAt W0 p b h X Y bs := hs.below hk0
  have hR : SetAt W0 (W.heap.size + 1) b h X Y bs := ⟨by rw [← hW0]; simp [go_sem], hs0.2⟩
  have hJ0 : J [] W0 := hJ [] W W0 none h0 (grown_of_below hk0) (fun r e => by cases e)
  rw [hW0]
  clear hW0
  refine wpIn_rangeFunc_ownG rfl (by decide) (gf := 52) (lb := #[.pointer (some ⟨W.heap.size + 1, 0, none⟩)]) rfl trivial (enters_of Try.func52 (by kernel_rfl) rfl)
    (nums_stops _ (W.heap.size + 1) b h X Y bs hbs hl W0 hR) (fun x k => x.trans k) (fun W' l' o o' hl ho hc _ => ?_) (Below.refl _ _) (fun _ => rfl)
    (fun pre W' => (J (pre.map (cellAt X Y)) W' ∧ SetAt W' p b h X Y bs) ∧ W'.cell? ⟨W.heap.size, 0, none⟩ = some (.func (.yield l) #[] #[]) ∧ SetAt W' (W.heap.size + 1) b h X Y bs)
    (fun c pre W' => c = .ret ∧ Jx (pre.map (cellAt X Y)) W')
    (fun s A B row hs hg hr => ⟨⟨hJ _ A B row hs.1.1 hg (fun r e => by obtain ⟨h1, h2⟩ := hr r e; exact ⟨by omega, h2⟩), setAt_own p b h X Y bs s A B row hs.1.2 hg (fun r e => (hr r e).2)⟩, cell_kept hs.2.1 hg (fun r e => (hr r e).2), setAt_own _ b h X Y bs s A B row hs.2.2 hg (fun r e => (hr r e).2)⟩)
    (fun c s A B row hs hg hr => ⟨hs.1, hJx _ A B row hs.2 hg (fun r e => by obtain ⟨h1, h2⟩ := hr r e; exact ⟨by omega, h2⟩)⟩)
    ⟨⟨hJ0, hs0⟩, y0, hR⟩
    (fun x => { tmps := #[.func (.yield l) #[] #[], .pointer (some ⟨p, 0, none⟩), .pointer (some ⟨W.heap.size, 0, none⟩), .int .i64 x, undef, undef, .pointer (some ⟨b, 0, none⟩), .func (.func 52) #[] #[.pointer (some ⟨W.heap.size + 1, 0, none⟩)], .int .i64 x, undef, undef, undef, undef, undef, undef, undef, undef, undef, undef, undef, undef, undef], defers := [] })
    ?assign ?body ?done ?stop
  · exact ⟨World.putObj_heap_other (by omega), World.putObj_heap_other (by omega), World.putObj_heap_other (by omega)⟩
  case assign =>
    intro l' x W' K hK
    gi_wp2
    exact hK
  case body =>
    rintro l' pre x W' ⟨⟨hj, hsp⟩, y1, hrow⟩ hlen
    have c0 := hsp.2.c0
    have c1 := hsp.2.c1
    have c2 := hsp.1
    clear s0 y0
    gi_wp2_with fail
    refine ⟨trivial, (CallsIn.inRound l' (callsIn_wide.2 (at_any _ _ _ _))).mono ?_⟩
    rintro e W2 ⟨r, rfl, hb2⟩
    have hk2 : KeptM p b h W.heap.size 2 W' W2 := KeptM.of_below hb2
    have hj2 : J (pre.map (cellAt X Y)) W2 := hJ _ W' W2 none hj (grown_of_below hb2) (fun r e => by cases e)
    have hrl := hrow.lt
    replace hsp := hsp.below hb2
    replace hrow := hrow.below hb2
    replace y1 := cell_later hb2 y1
    have hyl := blk_lt y1
    have hyl2 : W.heap.size < W2.heap.size + 1 := by omega
    have hx3 : cellAt X Y x = cellAt X Y x := rfl
    clear hj c0 c1 c2
    have hk3 : Below W2.heap.size W2 (W2.alloc (.cells #[.int .i64 (cellAt X Y x).1, .int .i64 (cellAt X Y x).2] 36)) := bl_al (bl0 _) _
    obtain ⟨fn, tmps, assign, body, hy, hR⟩ := mYieldAt_any 7 (hY _ (cellAt X Y x) (W2.alloc (.cells #[.int .i64 (cellAt X Y x).1, .int .i64 (cellAt X Y x).2] 36)) (hJ _ W2 _ none hj2 (grown_of_below hk3) (fun r e => by cases e)) (by rw [World.size_alloc]; have := hrl.1; omega) (by rw [List.length_map]; exact hlen))
    have hsp3 := hsp.below hk3
    have hrow3 := hrow.below hk3
    have y3 := cell_later hk3 y1
    have hk4 : KeptM p b h W.heap.size 2 W' (W2.alloc (.cells #[.int .i64 (cellAt X Y x).1, .int .i64 (cellAt X Y x).2] 36)) := hk2.trans (KeptM.of_below hk3)
    have hm : pre.map (cellAt X Y) ++ [cellAt X Y x] = (pre ++ [x]).map (cellAt X Y) := by simp
    rw [hm] at hR
    clear hm hx3
    have H1 := Lib.hid hsp3
    have H2 := Lib.hid hrow3
    have H3 := Lib.hid hk4
    have H4 := Lib.hid y3
    clear hsp3 hrow3 hk4 y3 hk3 hk2 hj2 hsp hrow
    generalize cellAt X Y x = cx at *
    gi_wp2
    refine (mRoundIn_in l' hR).mono ?_
    rintro e W3 (⟨rfl, hJ3, hk5⟩ | ⟨rfl, hJx3, hk5⟩)
    · have hsp4 := hk5.set H1.out
      have y4 := hk5.cell (Nat.le_refl _) (by omega) H4.out
      have q4 := hk5.cell (by omega) (by omega) H2.out.1
      have hk6 := H3.out.trans hk5
      clear H1 H2 H3 H4 y1
      gi_wp2
      exact ⟨hk6.from (by omega), ⟨hk6.2.1 _ (.inr (.inr (.inr ⟨by omega, by omega⟩))) hrl.1, hk6.2.1 _ (.inr (.inl rfl)) hrl.2.1, hk6.2.1 _ (.inr (.inr (.inl rfl))) hrl.2.2⟩, ⟨hJ3, hsp4⟩, y4, q4, hsp4.2⟩
    · have hk6 := H3.out.trans hk5
      clear H1 H2 H3 H4 y1
      gi_wp2
      exact ⟨hk6.from (by omega), rfl, hJx3⟩
  case done =>
    rintro D ys W' hD rfl ⟨⟨hj, _⟩, _⟩ hK
    gi_wp2
    refine ⟨by simp, .inl ⟨_, _, rfl, run_takeDeferred hK, ?_⟩⟩
    exact ⟨_, results_none rfl _ _ _, ⟨_, rfl⟩, .inl (hJ _ W' _ _ hj (grownBy_putObj' W' D (.deferred none)) (fun r e => by cases e; exact ⟨by omega, _, hK, rfl⟩))⟩
  case stop =>
    rintro D c pre W' hD hpre ⟨rfl, hx⟩ hK
    gi_wp2
    refine ⟨by simp, .inl ⟨_, _, rfl, run_takeDeferred hK, ?_⟩⟩
    exact ⟨_, results_none rfl _ _ _, ⟨_, rfl⟩, .inr ⟨_, hpre.map _, hJx _ W' _ _ hx (grownBy_putObj' W' D (.deferred none)) (fun r e => by cases e; exact ⟨by omega, _, hK, rfl⟩)⟩⟩
end Go.Proofs.Ytgkeifjnnpcleaa
