/- Things of one's own, each with its blocks, none with another one's; rows of numbers of one's own. -/
import Derived.Test.YtbmpgafndpdnbaaProg
import Derived.WalkKit
import Derived.WalkSpells
import Derived.WalkLawsBesides
import Derived.LoopTactic
import Derived.Deep.QuietTactic
import Derived.BigQuiet
import Derived.Deep.RegionHeld3
import Derived.Lib.Hide
import Derived.OwnWalk
import Derived.Laws.AppendOwn
import Derived.Laws.OwnMore
import Derived.Laws.Rows
import Derived.Maps.OwnSet
import Derived.Maps.AppendAt
import Derived.Laws.Externs
import Derived.Laws.AppendOwnNone
import Derived.RangeFuncBox
namespace Go.Proofs.Ytbmpgafndpdnbaa
open Go.RowKit Go.Maps

theorem ret_bool {a b : Bool} (h : a = b) : Ending.returned (.bool a) = .returned (.bool b) := by rw [h]
theorem ret_int {k : IntKind} {a b : Int} (h : a = b) : Ending.returned (.int k a) = .returned (.int k b) := by rw [h]
theorem bcell {W w1 : World} (hb : Below W.heap.size W w1) : (∀ b o, b < W.heap.size → w1.cell? ⟨b, o, none⟩ = W.cell? ⟨b, o, none⟩) ∧ (∀ b o, b < W.heap.size → w1.frozen? ⟨b, o, none⟩ = W.frozen? ⟨b, o, none⟩) :=
  ⟨fun b o h => hb.cell (p := ⟨b, o, none⟩) h, fun b o h => hb.frozen (p := ⟨b, o, none⟩) h⟩
theorem bl0 (w : World) : Below w.heap.size w w := Below.refl _ _
theorem bl_al {w a : World} (h : Below w.heap.size w a) (o : Obj) : Below w.heap.size w (a.alloc o) := h.alloc h.size o
theorem bl_tr {w a b : World} (h : Below w.heap.size w a) (k : Below a.heap.size a b) : Below w.heap.size w b := h.trans (k.mono h.size)
theorem bl_st {w a : World} (h : Below w.heap.size w a) {b o : Nat} (hp : w.heap.size ≤ b) (u : Value) : Below w.heap.size w (a.setCell ⟨b, o, none⟩ u) := h.setCell (p := ⟨b, o, none⟩) hp u
theorem bl_dr {w a : World} (h : Below w.heap.size w a) : Below w.heap.size w a.drew := h.drew
theorem bl_drn (w : World) (n : Nat) : Below w.heap.size w (w.drewN n) := ⟨rfl, rfl, rfl, Nat.le_refl _, fun _ _ => rfl⟩
theorem blk_lt {w : World} {b o : Nat} {v : Value} (h : w.cell? ⟨b, o, none⟩ = some v) : b < w.heap.size := World.block_lt_of_cell? _ _ h
theorem frozen_later {V w : World} (hb : Below V.heap.size V w) {b o : Nat} {v : Value} (h : V.cell? ⟨b, o, none⟩ = some v) (hf : V.frozen? ⟨b, o, none⟩ = false) : w.frozen? ⟨b, o, none⟩ = false :=
  (hb.frozen (p := ⟨b, o, none⟩) (blk_lt h)).trans hf

/-! ### All but some blocks lie -/
/-- All blocks but those of S lie as they lay. -/
def KeptS (S : Nat → Prop) (A B : World) : Prop := Below 0 A B ∧ ∀ k, k < A.heap.size → ¬ S k → B.heap[k]? = A.heap[k]?
theorem KeptS.refl (S : Nat → Prop) (A : World) : KeptS S A A := ⟨(bl0 A).mono (Nat.zero_le _), fun _ _ _ => rfl⟩
theorem KeptS.of_below {S : Nat → Prop} {A B : World} (h : Below A.heap.size A B) : KeptS S A B := ⟨h.mono (Nat.zero_le _), fun k hk _ => h.block k hk⟩
theorem KeptS.trans {S T : Nat → Prop} {A B C : World} (x : KeptS S A B) (y : KeptS T B C) (h : ∀ k, k < A.heap.size → T k → S k) : KeptS S A C :=
  ⟨x.1.trans y.1, fun k h1 h2 => (y.2 k (Nat.lt_of_lt_of_le h1 x.1.size) (fun t => h2 (h k h1 t))).trans (x.2 k h1 h2)⟩
theorem KeptS.below {S : Nat → Prop} {A B C : World} (x : KeptS S A B) (y : Below B.heap.size B C) : KeptS S A C := x.trans (T := S) (.of_below y) (fun _ _ h => h)
theorem KeptS.cell {S : Nat → Prop} {k o : Nat} {A B : World} {v : Value} (x : KeptS S A B) (c : A.cell? ⟨k, o, none⟩ = some v) (h : ¬ S k) : B.cell? ⟨k, o, none⟩ = some v :=
  (World.cell?_of_block (a := ⟨k, o, none⟩) (x.2 k (blk_lt c) h)).trans c
theorem KeptS.frozen {S : Nat → Prop} {k o : Nat} {A B : World} {v : Value} (x : KeptS S A B) (c : A.cell? ⟨k, o, none⟩ = some v) (f : A.frozen? ⟨k, o, none⟩ = false) (h : ¬ S k) : B.frozen? ⟨k, o, none⟩ = false :=
  (World.frozen?_of_block (a := ⟨k, o, none⟩) (x.2 k (blk_lt c) h)).trans f
theorem KeptS.wide {S T : Nat → Prop} {A B : World} (x : KeptS S A B) (h : ∀ k, S k → T k) : KeptS T A B := ⟨x.1, fun k h1 h2 => x.2 k h1 (fun e => h2 (h k e))⟩
theorem KeptS.of_grown {S : Nat → Prop} {A B : World} {r : Option Nat} (y : A.grownBy B r) (h : ∀ k, r = some k → k < A.heap.size → S k) : KeptS S A B :=
  ⟨⟨y.os, y.tape, y.output, y.size, fun k hk => absurd hk (Nat.not_lt_zero k)⟩, fun k h1 h2 => y.block k h1 (fun e => h2 (h k e.symm h1))⟩
theorem KeptS.to_below {S : Nat → Prop} {B0 : Nat} {A B : World} (x : KeptS S A B) (h : ∀ k, k < B0 → ¬ S k) (hB : B0 ≤ A.heap.size) : Below B0 A B :=
  ⟨x.1.os, x.1.tape, x.1.output, x.1.size, fun k hk => x.2 k (Nat.lt_of_lt_of_le hk hB) (h k hk)⟩
theorem hgrown_set (W : World) (h k : Nat) (u : Value) : W.grownBy (W.setCell ⟨h, k, none⟩ u) (some h) :=
  ⟨rfl, rfl, rfl, by simp, fun i _ hi => Below.heap_setCell _ _ _ i (fun e => hi (by rw [e]))⟩
theorem hset_same (w : World) (g i : Nat) (cs : Array Value) (t : TypeId) (v : Value) (hg : w.heap[g]? = some (.cells cs t (0, 0))) : (w.setCell ⟨g, i, none⟩ v).heap[g]? = some (.cells (cs.setIfInBounds i v) t (0, 0)) := heap_setCell_same w g i cs t v hg
theorem hown_base {w : World} {B B' : Nat} {e : TypeId} {size : Nat} {v : Value} {n : Nat} {xs : List Value} (h : w.ownsRow B e size v n xs) (hB : B' ≤ B) : w.ownsRow B' e size v n xs := by
  refine ⟨h.1, ?_⟩
  rcases h.2 with h | ⟨g, cap, cur, h1, h2, h3⟩
  · exact .inl h
  · exact .inr ⟨g, cap, cur, h1, Nat.le_trans hB h2, h3⟩
theorem KeptS.own {S : Nat → Prop} {w w' : World} {B : Nat} {e : TypeId} {size : Nat} {v : Value} {n : Nat} {xs : List Value} (x : KeptS S w w') (h : w.ownsRow B e size v n xs) (hn : ∀ g, v.ownBlock = some g → ¬ S g) : w'.ownsRow B e size v n xs := by
  refine ⟨h.1, ?_⟩
  rcases h.2 with h | ⟨g, cap, cur, h1, h2, h3, h4⟩
  · exact .inl h
  · exact .inr ⟨g, cap, cur, h1, h2, (x.2 g (Array.getElem?_eq_some_iff.1 h3).1 (hn g (by rw [h1]; rfl))).trans h3, h4⟩

theorem hadd (g k : Nat) : (⟨g, 0, none⟩ : Addr).add k = ⟨g, k, none⟩ := by
  unfold Addr.add
  split <;> simp_all

/-- What holds of a world and of its blocks S, and hangs on these alone. -/
structure Own where
  P : World → (Nat → Prop) → Prop
  lt : ∀ {W : World} {S : Nat → Prop}, P W S → ∀ k, S k → k < W.heap.size
  keep : ∀ {W W' : World} {S : Nat → Prop}, P W S → Below 0 W W' → (∀ k, S k → W'.heap[k]? = W.heap[k]?) → P W' S

/-- All of a list hold, each of blocks of its own, from block B on. -/
def Sep (W : World) (B : Nat) (l : List Own) : Prop :=
  B ≤ W.heap.size ∧ ∃ Z : List (Own × (Nat → Prop)), Z.map Prod.fst = l ∧ (∀ z ∈ Z, z.1.P W z.2 ∧ ∀ k, z.2 k → B ≤ k) ∧ Z.Pairwise (fun x y => ∀ k, x.2 k → ¬ y.2 k)

theorem Sep.base {W : World} {B : Nat} {l : List Own} (h : Sep W B l) : B ≤ W.heap.size := h.1
theorem Sep.nil {W : World} {B : Nat} (h : B ≤ W.heap.size) : Sep W B [] := ⟨h, [], rfl, (fun _ h => by cases h), List.Pairwise.nil⟩
theorem Sep.below {W W' : World} {B : Nat} {l : List Own} (h : Sep W B l) (b : Below W.heap.size W W') : Sep W' B l := by
  obtain ⟨h0, Z, h1, h2, h3⟩ := h
  exact ⟨Nat.le_trans h0 b.size, Z, h1, fun z hz => ⟨z.1.keep (h2 z hz).1 (b.mono (Nat.zero_le _)) fun k hk => b.block k (z.1.lt (h2 z hz).1 k hk), (h2 z hz).2⟩, h3⟩
/-- One of them is turned: the others stay. -/
theorem Sep.turn {W : World} {B : Nat} {l1 l2 : List Own} {o : Own} (h : Sep W B (l1 ++ o :: l2)) :
    ∃ S, o.P W S ∧ (∀ k, S k → B ≤ k ∧ k < W.heap.size) ∧ ∀ (W' : World) (S' : Nat → Prop) (o' : Own), KeptS S W W' → o'.P W' S' → (∀ k, S' k → S k ∨ W.heap.size ≤ k) → Sep W' B (l1 ++ o' :: l2) ∧ Below B W W' := by
  obtain ⟨h0, Z, h1, h2, h3⟩ := h
  obtain ⟨Z1, Zr, rfl, e1, e2⟩ := List.map_eq_append_iff.1 h1
  obtain ⟨z, Z2, rfl, e3, e4⟩ := List.map_eq_cons_iff.1 e2
  obtain ⟨hz1, hz2⟩ := h2 z (by simp)
  rw [e3] at hz1
  refine ⟨z.2, hz1, fun k hk => ⟨hz2 k hk, o.lt hz1 k hk⟩, fun W' S' o' hk hP hS => ?_⟩
  rw [List.pairwise_append, List.pairwise_cons] at h3
  obtain ⟨p1, ⟨p2, p3⟩, p4⟩ := h3
  have hkeep : ∀ y ∈ Z1 ++ Z2, (∀ k, y.2 k → ¬ z.2 k) ∧ (∀ k, y.2 k → ¬ S' k) ∧ (∀ k, S' k → ¬ y.2 k) ∧ y.1.P W' y.2 ∧ ∀ k, y.2 k → B ≤ k := by
    intro y hy
    have hy' : y ∈ Z1 ++ z :: Z2 := by
      rcases List.mem_append.1 hy with h | h
      · exact List.mem_append_left _ h
      · exact List.mem_append_right _ (List.mem_cons_of_mem _ h)
    obtain ⟨q1, q2⟩ := h2 y hy'
    have hyz : ∀ k, y.2 k → ¬ z.2 k := by
      rcases List.mem_append.1 hy with h | h
      · exact p4 y h z (by simp)
      · exact fun k hk hz => p2 y h k hz hk
    have hys : ∀ k, y.2 k → ¬ S' k := fun k hk hs => by
      rcases hS k hs with h | h
      · exact hyz k hk h
      · have := y.1.lt q1 k hk; omega
    exact ⟨hyz, hys, fun k hs hk => hys k hk hs, y.1.keep q1 hk.1 fun k hk' => hk.2 k (y.1.lt q1 k hk') (hyz k hk'), q2⟩
  refine ⟨⟨Nat.le_trans h0 hk.1.size, Z1 ++ (o', S') :: Z2, by simp [e1, e4], ?_, ?_⟩, hk.to_below (fun k hkB hz => by have := hz2 k hz; omega) h0⟩
  · intro y hy
    rcases List.mem_append.1 hy with h | h
    · exact (hkeep y (List.mem_append_left _ h)).2.2.2
    · rcases List.mem_cons.1 h with rfl | h
      · refine ⟨hP, fun k hk' => ?_⟩
        rcases hS k hk' with h | h
        · exact hz2 k h
        · omega
      · exact (hkeep y (List.mem_append_right _ h)).2.2.2
  · rw [List.pairwise_append, List.pairwise_cons]
    refine ⟨p1, ⟨fun y hy => (hkeep y (List.mem_append_right _ hy)).2.2.1, p3⟩, fun x hx y hy => ?_⟩
    rcases List.mem_cons.1 hy with rfl | hy
    · exact (hkeep x (List.mem_append_left _ hx)).2.1
    · exact p4 x hx y (by simp [hy])
/-- A new one. -/
theorem Sep.new {W W' : World} {B : Nat} {l : List Own} (h : Sep W B l) (b : Below W.heap.size W W') {o : Own} {S : Nat → Prop} (hP : o.P W' S) (hS : ∀ k, S k → W.heap.size ≤ k) : Sep W' B (l ++ [o]) := by
  have hlt : ∀ (z : Own × (Nat → Prop)), z.1.P W z.2 → ∀ k, z.2 k → ¬ S k := fun z hz k hk hs => by
    have := z.1.lt hz k hk
    have := hS k hs
    omega
  have h' := h
  obtain ⟨h0, Z, h1, h2, h3⟩ := h
  refine ⟨Nat.le_trans h0 b.size, Z ++ [(o, S)], by simp [h1], ?_, ?_⟩
  · intro y hy
    rcases List.mem_append.1 hy with hy | hy
    · exact ⟨y.1.keep (h2 y hy).1 (b.mono (Nat.zero_le _)) fun k hk => b.block k (y.1.lt (h2 y hy).1 k hk), (h2 y hy).2⟩
    · rcases List.mem_singleton.1 hy with rfl
      exact ⟨hP, fun k hk => Nat.le_trans h0 (hS k hk)⟩
  · rw [List.pairwise_append]
    refine ⟨h3, by simp, fun x hx y hy => ?_⟩
    rcases List.mem_singleton.1 hy with rfl
    exact hlt x (h2 x hx).1
/-- One is read. -/
theorem Sep.at {W : World} {B : Nat} {l1 l2 : List Own} {o : Own} (h : Sep W B (l1 ++ o :: l2)) : ∃ S, o.P W S ∧ ∀ k, S k → B ≤ k ∧ k < W.heap.size := by
  obtain ⟨S, h1, h2, _⟩ := h.turn
  exact ⟨S, h1, h2⟩
/-- One is left out. -/
theorem Sep.drop {W : World} {B : Nat} {l1 l2 : List Own} {o : Own} (h : Sep W B (l1 ++ o :: l2)) : Sep W B (l1 ++ l2) := by
  obtain ⟨h0, Z, h1, h2, h3⟩ := h
  obtain ⟨Z1, Zr, rfl, e1, e2⟩ := List.map_eq_append_iff.1 h1
  obtain ⟨z, Z2, rfl, e3, e4⟩ := List.map_eq_cons_iff.1 e2
  refine ⟨h0, Z1 ++ Z2, by simp [e1, e4], fun y hy => h2 y ?_, h3.sublist ?_⟩
  · rcases List.mem_append.1 hy with h | h
    · exact List.mem_append_left _ h
    · exact List.mem_append_right _ (List.mem_cons_of_mem _ h)
  · exact List.Sublist.append (List.Sublist.refl _) (List.sublist_cons_self _ _)

/-- A row of one's own. -/
def RowO (e : TypeId) (size : Nat) (v : Value) (n : Nat) (xs : List Value) : Own where
  P W S := W.ownsRow 0 e size v n xs ∧ ∀ k, S k ↔ v.ownBlock = some k
  lt h k hk := (h.1.lt k ((h.2 k).1 hk)).2
  keep {W W' S} h b hk := by
    refine ⟨⟨h.1.1, ?_⟩, h.2⟩
    rcases h.1.2 with q | ⟨g, cap, cur, h1, h2, h3, h4⟩
    · exact .inl q
    · exact .inr ⟨g, cap, cur, h1, h2, (hk g ((h.2 g).2 (by rw [h1]; rfl))).trans h3, h4⟩
/-- S's blocks, and new ones, hold another thing. -/
def Turned (S : Nat → Prop) (w w' : World) (o : Own) : Prop := KeptS S w w' ∧ ∃ S', o.P w' S' ∧ ∀ k, S' k → S k ∨ w.heap.size ≤ k
theorem Turned.below {S : Nat → Prop} {w w' w2 : World} {o : Own} (h : Turned S w w' o) (b : Below w'.heap.size w' w2) : Turned S w w2 o := by
  obtain ⟨h1, S', h2, h3⟩ := h
  exact ⟨h1.below b, S', o.keep h2 (b.mono (Nat.zero_le _)) (fun k hk => b.block k (o.lt h2 k hk)), h3⟩
/-- A call turns one of several. -/
theorem Sep.op {w : World} {B : Nat} {l1 l2 : List Own} {o : Own} (h : Sep w B (l1 ++ o :: l2)) {P : Program} {f : Nat} {args : Array Value} {Q : Ending → Prop} {o' : Own}
    (hc : ∀ S, o.P w S → Calls P f args w fun e w' => Q e ∧ Turned S w w' o') : Calls P f args w fun e w' => Q e ∧ Sep w' B (l1 ++ o' :: l2) ∧ Below B w w' := by
  obtain ⟨S, h1, _, h3⟩ := h.turn
  refine (hc S h1).mono fun e w' ⟨hq, hk, S', hp, hs⟩ => ⟨hq, h3 w' S' o' hk hp hs⟩
/-- A call makes one more. -/
theorem Sep.made {w : World} {B : Nat} {l : List Own} (h : Sep w B l) {w' : World} {o : Own} (ht : Turned (fun _ => False) w w' o) : Sep w' B (l ++ [o]) ∧ Below w.heap.size w w' := by
  obtain ⟨hk, S', hp, hs⟩ := ht
  have hb : Below w.heap.size w w' := hk.to_below (fun _ _ h => h) (Nat.le_refl _)
  exact ⟨h.new hb hp (fun k hk => (hs k hk).resolve_left (fun h => h)), hb⟩
/-- A block of one's own. -/
def CellsO (k : Nat) (cs : Array Value) (t : TypeId) : Own where
  P W S := W.heap[k]? = some (.cells cs t (0, 0)) ∧ ∀ x, S x ↔ x = k
  lt h x hx := by
    obtain rfl := (h.2 x).1 hx
    exact (Array.getElem?_eq_some_iff.1 h.1).1
  keep h _ hk := ⟨(hk _ ((h.2 _).2 rfl)).trans h.1, h.2⟩
theorem Sep.box {W : World} {B : Nat} {l : List Own} (h : Sep W B l) (cs : Array Value) (t : TypeId) : Sep (W.alloc (.cells cs t)) B (l ++ [CellsO W.heap.size cs t]) :=
  h.new (S := fun x => x = W.heap.size) (bl_al (bl0 W) _) ⟨heap_alloc_new _ _, fun _ => Iff.rfl⟩ (fun k e => by rw [e]; exact Nat.le_refl _)
theorem Sep.cells {W : World} {B : Nat} {l1 l2 : List Own} {k : Nat} {cs : Array Value} {t : TypeId} (h : Sep W B (l1 ++ CellsO k cs t :: l2)) : W.heap[k]? = some (.cells cs t (0, 0)) ∧ B ≤ k := by
  obtain ⟨S, h1, h2⟩ := h.at
  exact ⟨h1.1, (h2 k ((h1.2 k).2 rfl)).1⟩

/-! ### Cells of one's own -/
theorem Sep.set {W : World} {B : Nat} {l1 l2 : List Own} {k : Nat} {cs : Array Value} {t : TypeId} (h : Sep W B (l1 ++ CellsO k cs t :: l2)) (j : Nat) (u : Value) :
    Sep (W.setCell ⟨k, j, none⟩ u) B (l1 ++ CellsO k (cs.setIfInBounds j u) t :: l2) := by
  obtain ⟨S, h1, h2, h3⟩ := h.turn
  have q := hgrown_set W k j u
  exact (h3 _ S (CellsO k (cs.setIfInBounds j u) t) (.of_grown q (fun x e _ => by cases e; exact (h1.2 _).2 rfl)) ⟨hset_same W k j cs t u h1.1, h1.2⟩ (fun _ h => .inl h)).1
theorem Sep.rowset {W : World} {B : Nat} {l1 l2 : List Own} {e : TypeId} {size g n cap : Nat} {xs : List Value} (h : Sep W B (l1 ++ RowO e size (.slice (some ⟨g, 0, none⟩) n cap) n xs :: l2)) (j : Nat) (u : Value) :
    Sep (W.setCell ⟨g, j, none⟩ u) B (l1 ++ RowO e size (.slice (some ⟨g, 0, none⟩) n cap) n (xs.set j u) :: l2) := by
  obtain ⟨S, h1, h2, h3⟩ := h.turn
  have q := hgrown_set W g j u
  refine (h3 _ S (RowO e size (.slice (some ⟨g, 0, none⟩) n cap) n (xs.set j u)) (.of_grown q (fun x e _ => by cases e; exact (h1.2 _).2 rfl)) ⟨⟨by simpa using h1.1.1, ?_⟩, h1.2⟩ (fun _ h => .inl h)).1
  rcases h1.1.2 with ⟨e, _⟩ | ⟨g', cap', cur, e, hB, hg, l1, l2, l3, l4⟩
  · cases e
  · cases e
    refine .inr ⟨g, cap, _, rfl, hB, hset_same W g j cur _ u hg, l1, l2, by simpa using l3, ?_⟩
    simp only [Array.toList_setIfInBounds]
    rw [List.take_set, l4]
/-- A row's cells. -/
theorem Sep.row {W : World} {B : Nat} {l1 l2 : List Own} {e : TypeId} {size g n cap : Nat} {xs : List Value} (h : Sep W B (l1 ++ RowO e size (.slice (some ⟨g, 0, none⟩) n cap) n xs :: l2)) :
    (∀ j u, xs[j]? = some u → W.cell? ⟨g, j, none⟩ = some u) ∧ (∀ j, W.frozen? ⟨g, j, none⟩ = false) ∧ B ≤ g ∧ g < W.heap.size ∧ n ≤ cap := by
  obtain ⟨S, h1, h2⟩ := h.at
  have hg := h2 g ((h1.2 g).2 rfl)
  refine ⟨fun j u hj => ?_, fun j => ?_, hg.1, hg.2, ?_⟩
  · have := h1.1.cells (g := g) rfl j u hj
    rwa [hadd] at this
  · exact h1.1.frozenAt j
  · rcases h1.1.2 with ⟨e, _⟩ | ⟨g', cap', cur, e, _, _, l1, _⟩
    · cases e
    · cases e; exact l1
/-- Two of them have no block together. -/
theorem Sep.apart {W : World} {B : Nat} {l1 l2 l3 : List Own} {o o' : Own} (h : Sep W B (l1 ++ o :: (l2 ++ o' :: l3))) : ∃ S S', o.P W S ∧ o'.P W S' ∧ ∀ k, S k → ¬ S' k := by
  obtain ⟨h0, Z, h1, h2, h3⟩ := h
  obtain ⟨Z1, Zr, rfl, e1, e2⟩ := List.map_eq_append_iff.1 h1
  obtain ⟨z, Z2, rfl, e3, e4⟩ := List.map_eq_cons_iff.1 e2
  obtain ⟨Z3, Z4, rfl, e5, e6⟩ := List.map_eq_append_iff.1 e4
  obtain ⟨y, Z5, rfl, e7, e8⟩ := List.map_eq_cons_iff.1 e6
  refine ⟨z.2, y.2, e3 ▸ (h2 z (by simp)).1, e7 ▸ (h2 y (by simp)).1, ?_⟩
  rw [List.pairwise_append, List.pairwise_cons] at h3
  exact h3.2.1.1 y (by simp)

theorem Sep.grew {W W' : World} {B : Nat} {l1 l2 : List Own} {e : TypeId} {size n n' : Nat} {v v' : Value} {xs xs' : List Value} (h : Sep W B (l1 ++ RowO e size v n xs :: l2)) (ho : W'.ownsRow 0 e size v' n' xs') (hg : W.grownBy W' v.ownBlock)
    (hl : v'.ownBlock = v.ownBlock ∨ v'.ownBlock = some W.heap.size) : Sep W' B (l1 ++ RowO e size v' n' xs' :: l2) ∧ Below B W W' := by
  obtain ⟨S, h1, h2, h3⟩ := h.turn
  refine h3 W' (fun k => v'.ownBlock = some k) (RowO e size v' n' xs') (.of_grown hg (fun k e _ => (h1.2 k).2 e)) ⟨ho, fun _ => Iff.rfl⟩ (fun k hk => ?_)
  rcases hl with q | q
  · exact .inl ((h1.2 k).2 (q ▸ hk))
  · rw [q] at hk
    cases hk
    exact .inr (Nat.le_refl _)
theorem Sep.own {W : World} {B : Nat} {l1 l2 : List Own} {e : TypeId} {size n : Nat} {v : Value} {xs : List Value} (h : Sep W B (l1 ++ RowO e size v n xs :: l2)) : W.ownsRow 0 e size v n xs := by
  obtain ⟨S, h1, _⟩ := h.at
  exact h1.1
theorem addr_add (b off i : Nat) : (⟨b, off, none⟩ : Addr).add i = ⟨b, off + i, none⟩ := by unfold Addr.add; split <;> simp_all
theorem own_later {w w' : World} {B : Nat} {e : TypeId} {size : Nat} {v : Value} {n : Nat} {xs : List Value} (h : w.ownsRow B e size v n xs) (hb : Below w.heap.size w w') : w'.ownsRow B e size v n xs := by
  refine ⟨h.1, ?_⟩
  rcases h.2 with h | ⟨g, cap, cur, h1, h2, h3, h4⟩
  · exact .inl h
  · exact .inr ⟨g, cap, cur, h1, h2, (hb.block g (Array.getElem?_eq_some_iff.1 h3).1).trans h3, h4⟩
theorem own_capR {w : World} {base : Nat} {e : TypeId} {size n cap : Nat} {a : Option Addr} {xs : List Value} (h : w.ownsRow base e size (.slice a n cap) n xs) : n ≤ cap := by
  rcases h.2 with ⟨e1, h0⟩ | ⟨g, c, cur, e1, _, _, hc, _⟩
  · omega
  · cases e1; exact hc
def cellsI (is : List Int) : List Value := is.map (Value.int .i64)
theorem cellsI_len (is : List Int) : (cellsI is).length = is.length := by simp [cellsI]
theorem cellsI_at {is : List Int} {i : Nat} (h : i < is.length) : (cellsI is)[i]? = some (.int .i64 (is.getD i 0)) := by
  simp [cellsI, List.getD_eq_getElem?_getD, h]
theorem cellsI_snoc (is : List Int) (x : Int) : cellsI is ++ [.int .i64 x] = cellsI (is ++ [x]) := by simp [cellsI]
theorem Try.infoI : (Try.prog.info? 3).map (fun i => (i.zero, i.size, i.bytes)) = some (some (.int .i64 0), 1, 8) := by kernel_rfl
theorem iown_empty (w : World) : (w.alloc (.cells #[] 3)).ownsRow 0 3 1 (.slice (some ⟨w.heap.size, 0, none⟩) 0 0) 0 (cellsI []) :=
  ⟨rfl, .inr ⟨w.heap.size, 0, #[], rfl, Nat.zero_le _, heap_alloc_new w _, Nat.le_refl _, Nat.zero_le _, rfl, rfl⟩⟩
/-- An empty row of numbers. -/
theorem Sep.ints {W : World} {B : Nat} {l : List Own} (h : Sep W B l) : Sep (W.alloc (.cells #[] 3)) B (l ++ [RowO 3 1 (.slice (some ⟨W.heap.size, 0, none⟩) 0 0) 0 (cellsI [])]) :=
  h.new (S := fun k => k = W.heap.size) (bl_al (bl0 W) _) ⟨iown_empty W, fun k => by simp only [Value.ownBlock, Option.some.injEq]; exact eq_comm⟩ (fun k e => by rw [e]; exact Nat.le_refl _)
/-- One number more. -/
theorem wpList_append_int {w : World} {ops : Array Oper} {rest : List Oper} {o : Oper} {a : Act} {Q : Exit → Act → World → Prop} (hgd : o.guard = none) (s x : Operand)
    (ho : o.op = .call { callee := .builtin .append, args := #[s, x], argTypes := #[47, 47] })
    {W : World} (z : Int) (hw : w = W.alloc (.cells #[.int .i64 z] 3)) {B : Nat} {l1 l2 : List Own} {g n cap : Nat} {is : List Int} (h : Sep W B (l1 ++ RowO 3 1 (.slice (some ⟨g, 0, none⟩) n cap) n (cellsI is) :: l2)) (hn : n ≤ 1000000)
    (hs : a.eval s = .slice (some ⟨g, 0, none⟩) n cap) (H : Nat) (hH : W.heap.size = H) (hx : a.eval x = .slice (some ⟨H, 0, none⟩) 1 1)
    (hQ : ∀ g' cap' w', Sep w' B (l1 ++ RowO 3 1 (.slice (some ⟨g', 0, none⟩) (n + 1) cap') (n + 1) (cellsI (is ++ [z])) :: l2) → Below B W w' → wpList Try.prog ops Q rest (a.put o.dst (.slice (some ⟨g', 0, none⟩) (n + 1) cap')) w') : wpList Try.prog ops Q (o :: rest) a w := by
  obtain ⟨i0, hi, hz0, hz1, hz2⟩ := info_parts Try.infoI
  subst hw
  subst hH
  have hb := bl_al (bl0 W) (.cells #[.int .i64 z] 3)
  have h2 := h.below hb
  refine wpList_append_own_at _ hgd s x 47 ho 0 3 i0 (.int .i64 0) 1 8 Try.underlying47 hi hz0 hz1 hz2 rfl (by decide) _ n (cellsI is) hs h2.own ⟨W.heap.size, 0, none⟩ 1 1 [.int .i64 z] hx rfl (cell_one_new W _ _) ?_ (by unfold maxLen; omega) (by omega) (Nat.zero_le _) (fun v' w' h3 h4 _ h6 => ?_)
  · intro u hu
    rw [List.mem_singleton.1 hu]
    rfl
  · obtain ⟨g', cap', rfl⟩ : ∃ g' cap', v' = .slice (some ⟨g', 0, none⟩) (n + 1) cap' := by
      rcases h3.2 with ⟨_, e⟩ | ⟨g', cap', cur, e, _⟩
      · omega
      · exact ⟨g', cap', e⟩
    rw [cellsI_snoc] at h3
    obtain ⟨q1, q2⟩ := h2.grew h3 h4 h6
    exact hQ g' cap' w' q1 ((hb.mono h.base).trans q2)

end Go.Proofs.Ytbmpgafndpdnbaa
