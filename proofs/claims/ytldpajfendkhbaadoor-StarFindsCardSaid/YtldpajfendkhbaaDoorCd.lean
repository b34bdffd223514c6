/- Least costs: things of one's own: heaps, rows of costs, blocks; what costs are together; a cell's number. -/
import Derived.Test.YtldpajfendkhbaaDoorH1
import Derived.Test.YtldpajfendkhbaaDoorUm
import Derived.Test.YtldpajfendkhbaaDoorCc
import Derived.Test.YtldpajfendkhbaaDoorAc
import Derived.Test.YtldpajfendkhbaaDoorGd
import Derived.Laws.Externs
import Derived.Laws.AppendOwnNone
namespace Go.Proofs.YtldpajfendkhbaaDoor
open Go.RowKit Go.Maps

/-- A block of one's own. -/
def CellsO (k : Nat) (cs : Array Value) (t : TypeId) : Own where
  P W S := W.heap[k]? = some (.cells cs t (0, 0)) ∧ ∀ x, S x ↔ x = k
  lt h x hx := by
    obtain rfl := (h.2 x).1 hx
    exact (Array.getElem?_eq_some_iff.1 h.1).1
  keep h _ hk := ⟨(hk _ ((h.2 _).2 rfl)).trans h.1, h.2⟩
theorem Sep.box {W : World} {B : Nat} {l : List Own} (h : Sep W B l) (cs : Array Value) (t : TypeId) : Sep (W.alloc (.cells cs t)) B (l ++ [CellsO W.heap.size cs t]) :=
  h.new (S := fun x => x = W.heap.size) (bl_al (bl0 W) _) ⟨heap_alloc_new _ _, fun _ => Iff.rfl⟩ (fun k e => by rw [e]; exact Nat.le_refl _)
theorem Sep.cells {W : World} {B : Nat} {l1 l2 : List Own} {k : Nat} {cs : Array Value} {t : TypeId} (h : Sep W B (l1 ++ CellsO k cs t :: l2)) : W.heap[k]? = some (.cells cs t (0, 0)) ∧ B ≤ k := by
  obtain ⟨S, h1, h2⟩ := h.at
  exact ⟨h1.1, (h2 k ((h1.2 k).2 rfl)).1⟩

section
variable {w : World} {B : Nat} {l1 l2 : List Own} {p : Nat} {m : List Th}
theorem new_sep {l : List Own} (h : Sep w B l) : Calls Tryd.prog 35 #[] w fun e w' => ∃ p, e = .returned (.pointer (some ⟨p, 0, none⟩)) ∧ Sep w' B (l ++ [HeapO p []]) ∧ Below w.heap.size w w' :=
  (hnew_any w).mono fun _ _ ⟨he, ht⟩ => ⟨_, he, (h.made ht).1, (h.made ht).2⟩
theorem push_sep (t : Th) (h : Sep w B (l1 ++ HeapO p m :: l2)) (ht : wfT t) (hm : m.length ≤ 1000000) :
    Calls Tryd.prog 52 #[.pointer (some ⟨p, 0, none⟩), .int .i64 t.id, .agg #[.int .u64 t.F, .int .u64 t.H, .int .i64 t.Y, .int .i64 t.X]] w fun e w' => e = .returned (.int .i64 (pushE m t.id)) ∧ Sep w' B (l1 ++ HeapO p (pushM m t) :: l2) ∧ Below B w w' :=
  h.op (fun S hS => hpush_any p m t S w hS ht hm)
theorem lower_sep (t : Th) (h : Sep w B (l1 ++ HeapO p m :: l2)) (ht : wfT t) (hm : m.length ≤ 1000000) :
    Calls Tryd.prog 54 #[.pointer (some ⟨p, 0, none⟩), .int .i64 t.id, .agg #[.int .u64 t.F, .int .u64 t.H, .int .i64 t.Y, .int .i64 t.X]] w fun e w' => e = .returned (.int .i64 (lowerE m t)) ∧ Sep w' B (l1 ++ HeapO p (lowerM m t) :: l2) ∧ Below B w w' :=
  h.op (fun S hS => hlower_any p m t S w hS ht hm)
theorem pop_sep (h : Sep w B (l1 ++ HeapO p m :: l2)) (hm : m.length ≤ 1000000) :
    Calls Tryd.prog 55 #[.pointer (some ⟨p, 0, none⟩)] w fun e w' => e = .returned (.tuple #[.int .i64 (firstT m).id, .agg #[.int .u64 (firstT m).F, .int .u64 (firstT m).H, .int .i64 (firstT m).Y, .int .i64 (firstT m).X], .bool (!m.isEmpty)]) ∧ Sep w' B (l1 ++ HeapO p (popM m) :: l2) ∧ Below B w w' :=
  h.op (fun S hS => hpop_any p m S w hS hm)
theorem len_sep (h : Sep w B (l1 ++ HeapO p m :: l2)) : Calls Tryd.prog 37 #[.pointer (some ⟨p, 0, none⟩)] w fun e w' => e = .returned (.int .i64 (m.length : Nat)) ∧ w' = w := by
  obtain ⟨S, h1, _⟩ := h.at
  exact hlen_any p m S w h1
theorem key_sep (x : Int) (h : Sep w B (l1 ++ HeapO p m :: l2)) (hx : (Lit.int .i64 x).wf = true) :
    Calls Tryd.prog 51 #[.pointer (some ⟨p, 0, none⟩), .int .i64 x] w fun e w' => e = .returned (.tuple #[.agg #[.int .u64 (keyA m x).F, .int .u64 (keyA m x).H, .int .i64 (keyA m x).Y, .int .i64 (keyA m x).X], .bool (findT m x).isSome]) ∧ Sep w' B (l1 ++ HeapO p m :: l2) ∧ Below w.heap.size w w' := by
  obtain ⟨S, h1, _⟩ := h.at
  exact (hkey_any p m x S w h1 hx).mono fun _ _ ⟨he, hb⟩ => ⟨he, h.below hb, hb⟩
end

/-! ### Cells of one's own -/
theorem Sep.set {W : World} {B : Nat} {l1 l2 : List Own} {k : Nat} {cs : Array Value} {t : TypeId} (h : Sep W B (l1 ++ CellsO k cs t :: l2)) (j : Nat) (u : Value) :
    Sep (W.setCell ⟨k, j, none⟩ u) B (l1 ++ CellsO k (cs.setIfInBounds j u) t :: l2) := by
  obtain ⟨S, h1, h2, h3⟩ := h.turn
  have q := hgrown_set W k j u
  exact (h3 _ S (CellsO k (cs.setIfInBounds j u) t) (.of_grown q (fun x e _ => by cases e; exact (h1.2 _).2 rfl)) ⟨hset_same W k j cs t u h1.1, h1.2⟩ (fun _ h => .inl h)).1
theorem Sep.rowset {W : World} {B : Nat} {l1 l2 : List Own} {e : TypeId} {size g n cap : Nat} {xs : List Value} (h : Sep W B (l1 ++ RowO e size (.slice (some ⟨g, 0, none⟩) n cap) n xs :: l2)) (j : Nat) (u : Value) :
    Sep (W.setCell ⟨g, j, none⟩ u) B (l1 ++ RowO e size (.slice (some ⟨g, 0, none⟩) n cap) n (xs.set j u) :: l2) := by
  obtain ⟨S, h1, h2, h3⟩ := h.turn
  have q := hgrown_set W g j u
  refine (h3 _ S (RowO e size (.slice (some ⟨g, 0, none⟩) n cap) n (xs.set j u)) (.of_grown q (fun x e _ => by cases e; exact (h1.2 _).2 rfl)) ⟨⟨by simpa using h1.1.1, ?_⟩, h1.2⟩ (fun _ h => .inl h)).1
  rcases h1.1.2 with ⟨e, _⟩ | ⟨g', cap', cur, e, hB, hg, l1, l2, l3, l4⟩
  · cases e
  · cases e
    refine .inr ⟨g, cap, _, rfl, hB, hset_same W g j cur _ u hg, l1, l2, by simpa using l3, ?_⟩
    simp only [Array.toList_setIfInBounds]
    rw [List.take_set, l4]
/-- A row's cells. -/
theorem Sep.row {W : World} {B : Nat} {l1 l2 : List Own} {e : TypeId} {size g n cap : Nat} {xs : List Value} (h : Sep W B (l1 ++ RowO e size (.slice (some ⟨g, 0, none⟩) n cap) n xs :: l2)) :
    (∀ j u, xs[j]? = some u → W.cell? ⟨g, j, none⟩ = some u) ∧ (∀ j, W.frozen? ⟨g, j, none⟩ = false) ∧ B ≤ g ∧ g < W.heap.size ∧ n ≤ cap := by
  obtain ⟨S, h1, h2⟩ := h.at
  have hg := h2 g ((h1.2 g).2 rfl)
  refine ⟨fun j u hj => ?_, fun j => ?_, hg.1, hg.2, ?_⟩
  · have := h1.1.cells (g := g) rfl j u hj
    rwa [hadd] at this
  · exact h1.1.frozenAt j
  · rcases h1.1.2 with ⟨e, _⟩ | ⟨g', cap', cur, e, _, _, l1, _⟩
    · cases e
    · cases e; exact l1
/-- Two of them have no block together. -/
theorem Sep.apart {W : World} {B : Nat} {l1 l2 l3 : List Own} {o o' : Own} (h : Sep W B (l1 ++ o :: (l2 ++ o' :: l3))) : ∃ S S', o.P W S ∧ o'.P W S' ∧ ∀ k, S k → ¬ S' k := by
  obtain ⟨h0, Z, h1, h2, h3⟩ := h
  obtain ⟨Z1, Zr, rfl, e1, e2⟩ := List.map_eq_append_iff.1 h1
  obtain ⟨z, Z2, rfl, e3, e4⟩ := List.map_eq_cons_iff.1 e2
  obtain ⟨Z3, Z4, rfl, e5, e6⟩ := List.map_eq_append_iff.1 e4
  obtain ⟨y, Z5, rfl, e7, e8⟩ := List.map_eq_cons_iff.1 e6
  refine ⟨z.2, y.2, e3 ▸ (h2 z (by simp)).1, e7 ▸ (h2 y (by simp)).1, ?_⟩
  rw [List.pairwise_append, List.pairwise_cons] at h3
  exact h3.2.1.1 y (by simp)

theorem Sep.grew {W W' : World} {B : Nat} {l1 l2 : List Own} {e : TypeId} {size n n' : Nat} {v v' : Value} {xs xs' : List Value} (h : Sep W B (l1 ++ RowO e size v n xs :: l2)) (ho : W'.ownsRow 0 e size v' n' xs') (hg : W.grownBy W' v.ownBlock)
    (hl : v'.ownBlock = v.ownBlock ∨ v'.ownBlock = some W.heap.size) : Sep W' B (l1 ++ RowO e size v' n' xs' :: l2) ∧ Below B W W' := by
  obtain ⟨S, h1, h2, h3⟩ := h.turn
  refine h3 W' (fun k => v'.ownBlock = some k) (RowO e size v' n' xs') (.of_grown hg (fun k e _ => (h1.2 k).2 e)) ⟨ho, fun _ => Iff.rfl⟩ (fun k hk => ?_)
  rcases hl with q | q
  · exact .inl ((h1.2 k).2 (q ▸ hk))
  · rw [q] at hk
    cases hk
    exact .inr (Nat.le_refl _)
theorem Sep.own {W : World} {B : Nat} {l1 l2 : List Own} {e : TypeId} {size n : Nat} {v : Value} {xs : List Value} (h : Sep W B (l1 ++ RowO e size v n xs :: l2)) : W.ownsRow 0 e size v n xs := by
  obtain ⟨S, h1, _⟩ := h.at
  exact h1.1
theorem run_add (a b : Int) (ha : inU a) (hb : inU b) (w : World) :
    (callFunc 71 #[.int .u64 a, .int .u64 b, .int .u64 0]).run Tryd.prog w = .ok (.value (.tuple #[.int .u64 ((a + b) % 18446744073709551616), .int .u64 ((a + b) / 18446744073709551616)])) w := by
  rw [run_callFunc_extern Tryd.func71 (by kernel_rfl) (by kernel_rfl) (by kernel_rfl) (e := add64Entry) (by kernel_rfl), run_add64 a b 0 ha.1 hb.1 (by omega) (by omega)]
  simp [Result.andThen]

theorem add_over {a b : Int} (h : ¬ a + b ≤ 18446744073709551615) (ha : inU a) (hb : inU b) : ((a + b) / 18446744073709551616 == (0 : Int)) = false ∧ ((a + b) / 18446744073709551616 != (0 : Int)) = true := by
  unfold inU at *
  have : (a + b) / 18446744073709551616 = 1 := by omega
  rw [this]; exact ⟨rfl, rfl⟩
theorem add_under {a b : Int} (h : a + b ≤ 18446744073709551615) (ha : inU a) (hb : inU b) : ((a + b) / 18446744073709551616 == (0 : Int)) = true ∧ ((a + b) / 18446744073709551616 != (0 : Int)) = false ∧ (a + b) % 18446744073709551616 = a + b := by
  unfold inU at *
  have e : (a + b) / 18446744073709551616 = 0 := by omega
  rw [e]; exact ⟨rfl, rfl, by omega⟩

set_option maxHeartbeats 400000 in
theorem add_any (a b : Int) (w : World) (ha : inU a) (hb : inU b) :
    Calls Tryd.prog 63 #[.int .u64 a, .int .u64 b] w fun e w' => e = .returned (.int .u64 (addC a b)) ∧ w = w' := by
  have hr := run_add a b ha hb
  have HC : a + b ≤ 18446744073709551615 ∨ ¬ a + b ≤ 18446744073709551615 := by omega
  rcases HC with h | h
  · obtain ⟨h1, h2, h3⟩ := add_under h ha hb
    have he : addC a b = a + b := by unfold addC; rw [if_pos h]
    have HE := Lib.hid he
    have H3 := Lib.hid h3
    clear he h3 h ha hb
    generalize (a + b) / 18446744073709551616 = o at *
    generalize (a + b) % 18446744073709551616 = s at *
    go_enter Tryd.func63, Tryd.ntmps63
    go_wp2_with (simp only [hr])
    go_ret
    exact ⟨ret_int (by rw [HE.out, H3.out]), rfl⟩
  · obtain ⟨h1, h2⟩ := add_over h ha hb
    have he : addC a b = 18446744073709551615 := by unfold addC; rw [if_neg h]
    have HE := Lib.hid he
    clear he h ha hb
    generalize (a + b) / 18446744073709551616 = o at *
    generalize (a + b) % 18446744073709551616 = s at *
    go_enter Tryd.func63, Tryd.ntmps63
    go_wp2_with (simp only [hr])
    go_ret
    exact ⟨ret_int (by rw [HE.out]), rfl⟩

/-- Blocks that stay, whatever stands in them. -/
def HolesO (n c : Nat) : Own where
  P W S := n + c ≤ W.heap.size ∧ ∀ k, S k ↔ n ≤ k ∧ k < n + c
  lt h k hk := by have := (h.2 k).1 hk; omega
  keep h b _ := ⟨Nat.le_trans h.1 b.size, h.2⟩
/-- .. as they lay in a world. -/
def FixO (n c : Nat) (W0 : World) : Own where
  P W S := n + c ≤ W0.heap.size ∧ KP n c W0 W ∧ ∀ k, S k ↔ n ≤ k ∧ k < n + c
  lt {W S} h k hk := by have h1 := (h.2.2 k).1 hk; have h2 := h.2.1.1; have h3 := h.1; omega
  keep {W W' S} h b hk := ⟨h.1, ⟨Nat.le_trans h.2.1.1 b.size, fun k h1 h2 => (hk k ((h.2.2 k).2 ⟨h1, h2⟩)).trans (h.2.1.2 k h1 h2)⟩, h.2.2⟩
theorem Sep.perm {W : World} {B : Nat} {l l' : List Own} (h : Sep W B l) (hp : l.Perm l') : Sep W B l' := by
  obtain ⟨h0, Z, h1, h2, h3⟩ := h
  have hz : ∀ {x y : List Own}, x.Perm y → ∀ Z : List (Own × (Nat → Prop)), Z.map Prod.fst = x → ∃ Z' : List (Own × (Nat → Prop)), Z'.Perm Z ∧ Z'.map Prod.fst = y := by
    intro x y hxy
    induction hxy with
    | nil => intro Z h; exact ⟨Z, List.Perm.refl _, h⟩
    | cons a _ ih =>
      intro Z h
      obtain ⟨z, Z2, rfl, e1, e2⟩ := List.map_eq_cons_iff.1 h
      obtain ⟨Z', q1, q2⟩ := ih Z2 e2
      exact ⟨z :: Z', q1.cons z, by rw [List.map_cons, q2, e1]⟩
    | swap a b l =>
      intro Z h
      obtain ⟨z, Z2, rfl, e1, e2⟩ := List.map_eq_cons_iff.1 h
      obtain ⟨y, Z3, rfl, e3, e4⟩ := List.map_eq_cons_iff.1 e2
      exact ⟨y :: z :: Z3, List.Perm.swap _ _ _, by rw [List.map_cons, List.map_cons, e1, e3, e4]⟩
    | trans _ _ ih1 ih2 =>
      intro Z h
      obtain ⟨Z1, q1, q2⟩ := ih1 Z h
      obtain ⟨Z2, q3, q4⟩ := ih2 Z1 q2
      exact ⟨Z2, q3.trans q1, q4⟩
  obtain ⟨Z', q1, q2⟩ := hz hp Z h1
  exact ⟨h0, Z', q2, fun z hz => h2 z (q1.mem_iff.1 hz), h3.perm q1.symm (fun {x y} h k hk hx => h k hx hk)⟩
theorem Sep.swap {W : World} {B : Nat} {l1 l2 : List Own} {o o' : Own} (h : Sep W B (l1 ++ o :: l2)) (ho : ∀ S, o.P W S → o'.P W S) : Sep W B (l1 ++ o' :: l2) := by
  obtain ⟨S, h1, h2, h3⟩ := h.turn
  exact (h3 W S o' (KeptS.refl _ _) (ho S h1) (fun _ h => .inl h)).1
theorem Sep.fix {W : World} {B : Nat} {l1 l2 : List Own} {n c : Nat} (h : Sep W B (l1 ++ HolesO n c :: l2)) : Sep W B (l1 ++ FixO n c W :: l2) :=
  h.swap fun _ hs => ⟨hs.1, KP.refl _ _ _, hs.2⟩
theorem Sep.unfix {W W0 : World} {B : Nat} {l1 l2 : List Own} {n c : Nat} (h : Sep W B (l1 ++ FixO n c W0 :: l2)) : Sep W B (l1 ++ HolesO n c :: l2) ∧ KP n c W0 W := by
  obtain ⟨S, h1, _⟩ := h.at
  exact ⟨h.swap fun _ hs => ⟨Nat.le_trans hs.1 hs.2.1.1, hs.2.2⟩, h1.2.1⟩
theorem Sep.hole {W W' : World} {B : Nat} {l : List Own} (h : Sep W B l) (b : Below W.heap.size W W') {c : Nat} (hc : W.heap.size + c ≤ W'.heap.size) : Sep W' B (l ++ [HolesO W.heap.size c]) :=
  h.new (S := fun k => W.heap.size ≤ k ∧ k < W.heap.size + c) b ⟨hc, fun _ => Iff.rfl⟩ (fun _ hk => hk.1)
/-- Blocks that are left alone may be turned. -/
theorem Sep.turnHole {W W' : World} {B : Nat} {l1 l2 : List Own} {n c : Nat} (h : Sep W B (l1 ++ HolesO n c :: l2)) {row : Option Nat} (hg : W.grownBy W' row) (hr : ∀ r, row = some r → n ≤ r ∧ r < n + c) : Sep W' B (l1 ++ HolesO n c :: l2) ∧ Below B W W' := by
  obtain ⟨S, h1, h2, h3⟩ := h.turn
  refine h3 W' S (HolesO n c) (.of_grown hg (fun k e _ => (h1.2 k).2 (hr k e))) ⟨Nat.le_trans h1.1 hg.size, h1.2⟩ (fun _ h => .inl h)

/-- Costs as cells; a row of costs in memory. -/
def cellsU (zs : List Int) : List Value := zs.map (Value.int .u64)
theorem cellsU_len (zs : List Int) : (cellsU zs).length = zs.length := by simp [cellsU]
theorem cellsU_at {zs : List Int} {i : Nat} (h : i < zs.length) : (cellsU zs)[i]? = some (.int .u64 (atD zs i)) := by
  simp [cellsU, atD, List.getD_eq_getElem?_getD, h]
theorem cellsU_set (zs : List Int) (i : Nat) (v : Int) : (cellsU zs).set i (.int .u64 v) = cellsU (zs.set i v) := by simp [cellsU, List.map_set]
def RowU (W : World) (a : Option Addr) (zs : List Int) : Prop :=
  zs = [] ∨ ∃ b o, a = some ⟨b, o, none⟩ ∧ ∀ i z, zs[i]? = some z → W.cell? ⟨b, o + i, none⟩ = some (.int .u64 z)
theorem RowU.below {W W' : World} {a : Option Addr} {zs : List Int} (h : RowU W a zs) (hb : Below W.heap.size W W') : RowU W' a zs := by
  rcases h with h | ⟨b, o, h1, h2⟩
  · exact .inl h
  · exact .inr ⟨b, o, h1, fun i z hz => cell_later hb (h2 i z hz)⟩
theorem RowU.cell {W : World} {a : Option Addr} {zs : List Int} (h : RowU W a zs) {k : Nat} (hk : k < zs.length) : ∃ b o, a = some ⟨b, o, none⟩ ∧ W.cell? ⟨b, o + k, none⟩ = some (.int .u64 (atD zs k)) := by
  rcases h with rfl | ⟨b, o, h1, h2⟩
  · simp at hk
  · exact ⟨b, o, h1, h2 k _ (by rw [List.getElem?_eq_getElem hk, atD_get hk])⟩
theorem rowU_own {W : World} {B n cap g : Nat} {e : TypeId} {zs : List Int} (h : W.ownsRow B e 1 (.slice (some ⟨g, 0, none⟩) n cap) n (cellsU zs)) : RowU W (some ⟨g, 0, none⟩) zs := by
  refine .inr ⟨g, 0, rfl, fun i z hz => ?_⟩
  have h1 := h.cells (g := g) rfl i (.int .u64 z) (by simp [cellsU, hz])
  rw [hadd] at h1
  rw [Nat.zero_add]
  exact h1
theorem Tryd.infoU : (Tryd.prog.info? 34).map (fun i => (i.zero, i.size, i.bytes)) = some (some (.int .u64 0), 1, 8) := by kernel_rfl
theorem madeU_eq (n : Nat) : madeCells (Value.int .u64 0).cells (n * 1) = Array.replicate n (Value.int .u64 0) := by
  apply Array.ext
  · simp [size_madeCells]
  · intro i h1 h2
    simp [madeCells, Nat.mod_one, Value.cells]
theorem make_u64 (n : Nat) (hn : n ≤ 1048576) (w : World) : (Instr.makeSlice 46 (.int .i64 (n : Int)) (.int .i64 (n : Int))).run Tryd.prog w = .ok (.slice (some ⟨w.heap.size, 0, none⟩) n n) (w.alloc (.cells (Array.replicate n (Value.int .u64 0)) 34)) := by
  obtain ⟨i0, hi, hz0, hz1, hz2⟩ := info_parts Tryd.infoU
  have hr := run_make (P := Tryd.prog) w 46 34 i0 (.int .u64 0) Tryd.underlying46 hi hz0 .i64 .i64 n n (by omega) (Int.le_refl _) (by rw [hz2]; omega) (by omega)
  simp only [Int.toNat_natCast, hz1] at hr
  rw [madeU_eq] at hr
  exact hr
theorem Tryd.infoH : (Tryd.prog.info? 50).map (fun i => (i.zero, i.size, i.bytes)) = some (some (.int .u16 0), 1, 2) := by kernel_rfl
theorem madeH_eq (n : Nat) : madeCells (Value.int .u16 0).cells (n * 1) = Array.replicate n (Value.int .u16 0) := by
  apply Array.ext
  · simp [size_madeCells]
  · intro i h1 h2
    simp [madeCells, Nat.mod_one, Value.cells]
theorem make_u16 (n : Nat) (hn : n ≤ 1048576) (w : World) : (Instr.makeSlice 24 (.int .i64 (n : Int)) (.int .i64 (n : Int))).run Tryd.prog w = .ok (.slice (some ⟨w.heap.size, 0, none⟩) n n) (w.alloc (.cells (Array.replicate n (Value.int .u16 0)) 50)) := by
  obtain ⟨i0, hi, hz0, hz1, hz2⟩ := info_parts Tryd.infoH
  have hr := run_make (P := Tryd.prog) w 24 50 i0 (.int .u16 0) Tryd.underlying24 hi hz0 .i64 .i64 n n (by omega) (Int.le_refl _) (by rw [hz2]; omega) (by omega)
  simp only [Int.toNat_natCast, hz1] at hr
  rw [madeH_eq] at hr
  exact hr

set_option maxRecDepth 100000 in
set_option maxHeartbeats 1600000 in
/-- A cell's number, of one on the map. -/
theorem number_any (A B : Int) (a : Option Addr) (n cap : Nat) (c : IC) (w : World) (hi : onB A B c = true) :
    Calls Tryd.prog 46 #[.agg #[.int .i64 A, .int .i64 B, .slice a n cap], .agg #[.int .i64 c.1, .int .i64 c.2]] w fun e w' => e = .returned (.int .i64 (numN A c : Nat)) ∧ Below w.heap.size w w' := by
  have hA := bl0 w
  obtain ⟨h1, _⟩ := numN_int hi
  rw [h1]
  clear h1
  go_enter Tryd.func46, Tryd.ntmps46
  go_wp2_with fail
  refine (index_yes _ _ _ _ _ hi).mono ?_
  rintro e w1 ⟨rfl, hb⟩
  have hk : Below w.heap.size w w1 := by first | exact hb | exact bl_tr (bl_al (bl0 _) _) hb | exact bl_tr (bl_dr (bl_al (bl0 _) _)) hb | exact bl_tr (bl_al (bl_al (bl0 _) _) _) hb | exact bl_tr (bl_dr (bl_al (bl_al (bl0 _) _) _)) hb | exact bl_tr (bl_al (bl_al (bl_al (bl0 _) _) _) _) hb | exact bl_tr (bl_dr (bl_al (bl_al (bl_al (bl0 _) _) _) _)) hb | exact bl_tr (bl_al (bl_al (bl_al (bl_al (bl0 _) _) _) _) _) hb | exact bl_tr (bl_dr (bl_al (bl_al (bl_al (bl_al (bl0 _) _) _) _) _)) hb | exact bl_tr (bl_al (bl_al (bl_al (bl_al (bl_al (bl0 _) _) _) _) _) _) hb | exact bl_tr (bl_dr (bl_al (bl_al (bl_al (bl_al (bl_al (bl0 _) _) _) _) _) _)) hb | exact bl_tr (bl_al (bl_al (bl_al (bl_al (bl_al (bl_al (bl0 _) _) _) _) _) _) _) hb | exact bl_tr (bl_dr (bl_al (bl_al (bl_al (bl_al (bl_al (bl_al (bl0 _) _) _) _) _) _) _)) hb | exact bl_tr (bl_dr (bl0 _)) hb
  replace hA := bl_tr hA hk
  clear hb hk
  go_wp2
  go_ret
  exact ⟨rfl, hA⟩
end Go.Proofs.YtldpajfendkhbaaDoor
