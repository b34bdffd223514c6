/- Heap: a heap in memory; which key is less, which thing goes ahead. -/
import Derived.Test.YtofpoenehdmkpaaDoorGa
import Derived.Test.YtofpoenehdmkpaaDoorHm
import Derived.WalkKit
import Derived.WalkSpells
import Derived.WalkLawsBesides
import Derived.LoopTactic
import Derived.Deep.QuietTactic
import Derived.BigQuiet
import Derived.Deep.RegionHeld3
import Derived.Lib.Hide
import Derived.OwnWalk
import Derived.Laws.AppendOwn
import Derived.Laws.OwnMore
import Derived.Laws.Rows
import Derived.Maps.OwnSet
namespace Go.Proofs.YtofpoenehdmkpaaDoor
open Go.RowKit Go.Maps


/-! ### All but some blocks lie -/
/-- All blocks but those of S lie as they lay. -/
def KeptS (S : Nat → Prop) (A B : World) : Prop := Below 0 A B ∧ ∀ k, k < A.heap.size → ¬ S k → B.heap[k]? = A.heap[k]?
theorem KeptS.refl (S : Nat → Prop) (A : World) : KeptS S A A := ⟨(bl0 A).mono (Nat.zero_le _), fun _ _ _ => rfl⟩
theorem KeptS.of_below {S : Nat → Prop} {A B : World} (h : Below A.heap.size A B) : KeptS S A B := ⟨h.mono (Nat.zero_le _), fun k hk _ => h.block k hk⟩
theorem KeptS.trans {S T : Nat → Prop} {A B C : World} (x : KeptS S A B) (y : KeptS T B C) (h : ∀ k, k < A.heap.size → T k → S k) : KeptS S A C :=
  ⟨x.1.trans y.1, fun k h1 h2 => (y.2 k (Nat.lt_of_lt_of_le h1 x.1.size) (fun t => h2 (h k h1 t))).trans (x.2 k h1 h2)⟩
theorem KeptS.below {S : Nat → Prop} {A B C : World} (x : KeptS S A B) (y : Below B.heap.size B C) : KeptS S A C := x.trans (T := S) (.of_below y) (fun _ _ h => h)
theorem KeptS.cell {S : Nat → Prop} {k o : Nat} {A B : World} {v : Value} (x : KeptS S A B) (c : A.cell? ⟨k, o, none⟩ = some v) (h : ¬ S k) : B.cell? ⟨k, o, none⟩ = some v :=
  (World.cell?_of_block (a := ⟨k, o, none⟩) (x.2 k (blk_lt c) h)).trans c
theorem KeptS.frozen {S : Nat → Prop} {k o : Nat} {A B : World} {v : Value} (x : KeptS S A B) (c : A.cell? ⟨k, o, none⟩ = some v) (f : A.frozen? ⟨k, o, none⟩ = false) (h : ¬ S k) : B.frozen? ⟨k, o, none⟩ = false :=
  (World.frozen?_of_block (a := ⟨k, o, none⟩) (x.2 k (blk_lt c) h)).trans f
theorem KeptS.wide {S T : Nat → Prop} {A B : World} (x : KeptS S A B) (h : ∀ k, S k → T k) : KeptS T A B := ⟨x.1, fun k h1 h2 => x.2 k h1 (fun e => h2 (h k e))⟩
theorem KeptS.of_grown {S : Nat → Prop} {A B : World} {r : Option Nat} (y : A.grownBy B r) (h : ∀ k, r = some k → k < A.heap.size → S k) : KeptS S A B :=
  ⟨⟨y.os, y.tape, y.output, y.size, fun k hk => absurd hk (Nat.not_lt_zero k)⟩, fun k h1 h2 => y.block k h1 (fun e => h2 (h k e.symm h1))⟩
theorem KeptS.to_below {S : Nat → Prop} {B0 : Nat} {A B : World} (x : KeptS S A B) (h : ∀ k, k < B0 → ¬ S k) (hB : B0 ≤ A.heap.size) : Below B0 A B :=
  ⟨x.1.os, x.1.tape, x.1.output, x.1.size, fun k hk => x.2 k (Nat.lt_of_lt_of_le hk hB) (h k hk)⟩
theorem hgrown_set (W : World) (h k : Nat) (u : Value) : W.grownBy (W.setCell ⟨h, k, none⟩ u) (some h) :=
  ⟨rfl, rfl, rfl, by simp, fun i _ hi => Below.heap_setCell _ _ _ i (fun e => hi (by rw [e]))⟩
theorem hset_same (w : World) (g i : Nat) (cs : Array Value) (t : TypeId) (v : Value) (hg : w.heap[g]? = some (.cells cs t (0, 0))) : (w.setCell ⟨g, i, none⟩ v).heap[g]? = some (.cells (cs.setIfInBounds i v) t (0, 0)) := heap_setCell_same w g i cs t v hg
theorem hown_base {w : World} {B B' : Nat} {e : TypeId} {size : Nat} {v : Value} {n : Nat} {xs : List Value} (h : w.ownsRow B e size v n xs) (hB : B' ≤ B) : w.ownsRow B' e size v n xs := by
  refine ⟨h.1, ?_⟩
  rcases h.2 with h | ⟨g, cap, cur, h1, h2, h3⟩
  · exact .inl h
  · exact .inr ⟨g, cap, cur, h1, Nat.le_trans hB h2, h3⟩
theorem KeptS.own {S : Nat → Prop} {w w' : World} {B : Nat} {e : TypeId} {size : Nat} {v : Value} {n : Nat} {xs : List Value} (x : KeptS S w w') (h : w.ownsRow B e size v n xs) (hn : ∀ g, v.ownBlock = some g → ¬ S g) : w'.ownsRow B e size v n xs := by
  refine ⟨h.1, ?_⟩
  rcases h.2 with h | ⟨g, cap, cur, h1, h2, h3, h4⟩
  · exact .inl h
  · exact .inr ⟨g, cap, cur, h1, h2, (x.2 g (Array.getElem?_eq_some_iff.1 h3).1 (hn g (by rw [h1]; rfl))).trans h3, h4⟩

theorem hadd (g k : Nat) : (⟨g, 0, none⟩ : Addr).add k = ⟨g, k, none⟩ := by
  unfold Addr.add
  split <;> simp_all

/-! ### Places: a map -/
theorem Tryd.keyInt : Keyed Tryd.prog 3 := int_keyed Tryd.underlying3
theorem zero_int (w : World) : (zeroValue 3).run Tryd.prog w = .ok (.int .i64 0) w := by kernel_rfl
/-- Places in memory: the map in block b, of n entries. -/
def PlacesAt (W : World) (b n : Nat) (f : Int → Option Nat) : Prop := ∃ D : DataW Unit, W.ownsMap Tryd.prog 3 (plainElem Tryd.prog 3) b n D ∧ Maps.size D = n ∧
  ∀ i : Int, (Lit.int .i64 i).wf = true → Maps.has D (.int .i64 i) = (f i).isSome ∧ ∀ p, f i = some p → D.atKey (.int .i64 i) (.lit (.int .i64 0)) = .lit (.int .i64 (p : Int))
theorem PlacesAt.lt {W : World} {b n : Nat} {f : Int → Option Nat} (h : PlacesAt W b n f) : b < W.heap.size := by
  obtain ⟨D, h, _⟩ := h; exact h.lt
theorem PlacesAt.keptS {S : Nat → Prop} {W W' : World} {b n : Nat} {f : Int → Option Nat} (h : PlacesAt W b n f) (x : KeptS S W W') (hn : ¬ S b) : PlacesAt W' b n f := by
  obtain ⟨D, ⟨es, clock, h1, h2⟩, h3⟩ := h
  exact ⟨D, ⟨es, clock, (x.2 b (Array.getElem?_eq_some_iff.1 h1).1 hn).trans h1, h2⟩, h3⟩
theorem PlacesAt.below {W W' : World} {b n : Nat} {f : Int → Option Nat} (h : PlacesAt W b n f) (x : Below W.heap.size W W') : PlacesAt W' b n f :=
  h.keptS (S := fun _ => False) (.of_below x) (fun h => h)
theorem own_tight {W : World} {P : Program} {k : TypeId} {R : Value → Option (DataW Unit × List MemPlace)} {b n : Nat} {D : DataW Unit} (h : W.ownsMap P k R b n D) : W.ownsMap P k R b (Maps.size D) D := by
  obtain ⟨es, clock, h1, h2, h3, rfl⟩ := h
  refine ⟨es, clock, h1, h2, ?_, rfl⟩
  simp [Maps.size, length_sorted]
theorem wf64_nat {p : Nat} (h : p < maxLen) : (Lit.int .i64 (p : Int)).wf = true := WalkArith.wf_i64 (by unfold maxLen at h; omega)
/-- Which place is told. -/
theorem PlacesAt.look {W : World} {b n : Nat} {f : Int → Option Nat} (h : PlacesAt W b n f) {i : Int} (hi : (Lit.int .i64 i).wf = true) :
    (Instr.lookup 132 (.map (some b)) (.int .i64 i) true).run Tryd.prog W = .ok (.tuple #[.int .i64 (((f i).getD 0 : Nat) : Int), .bool (f i).isSome]) W := by
  obtain ⟨D, hown, _, hD⟩ := h
  obtain ⟨h1, h2⟩ := hD i hi
  obtain ⟨v, ps, hrun, hv⟩ := hown.look_ok Tryd.keyInt Tryd.underlying132 (zero_int W) (plainElem_int Tryd.underlying3 (by decide)) (keyOf_int_mk Tryd.underlying3 hi)
  obtain ⟨c, rfl, hc, _⟩ := plainElem_int_inv Tryd.underlying3 hv
  have hc' := congrArg Prod.fst hc
  simp only at hc'
  rw [hrun, h1]
  cases e : f i with
  | none =>
    rw [e] at h1
    rw [atKey_of_not_has h1] at hc'
    cases hc'
    rfl
  | some p =>
    rw [h2 p e] at hc'
    cases hc'
    rfl
/-- A place is told. -/
theorem PlacesAt.store {W : World} {b n : Nat} {f : Int → Option Nat} (h : PlacesAt W b n f) {i : Int} (hi : (Lit.int .i64 i).wf = true) (hn : n < maxLen) {p : Nat} (hp : p < maxLen) :
    ∃ W', (Instr.mapUpdate 132 (.map (some b)) (.int .i64 i) (.int .i64 (p : Int))).run Tryd.prog W = .ok () W' ∧ PlacesAt W' b (if (f i).isSome then n else n + 1) (upd f i (some p)) ∧ W.mapTurned W' b := by
  obtain ⟨D, hown, hs, hD⟩ := h
  have hk : WideAt.IsKeyLit (.int .i64 i) := by trivial
  obtain ⟨W', hrun, h1, h2⟩ := hown.store Tryd.keyInt Tryd.underlying132 hn (keyOf_int_mk Tryd.underlying3 hi) (plainElem_int Tryd.underlying3 (wf64_nat hp))
  have hsz := size_put (hown.tidy Tryd.keyInt) (k := .int .i64 i) (.lit (.int .i64 (p : Int)))
  rw [(hD i hi).1, hs] at hsz
  refine ⟨W', hrun, ⟨_, hsz ▸ own_tight h1, hsz, fun j hj => ?_⟩, h2⟩
  by_cases e : j = i
  · subst e
    rw [has_put_same hown.isMap hk, upd, if_pos rfl]
    refine ⟨rfl, fun q hq => ?_⟩
    cases hq
    exact atKey_put_same hown.isMap hk _ _
  · have hne : Lit.int .i64 j ≠ Lit.int .i64 i := fun h => e (by injection h)
    rw [has_put_other hne, upd, if_neg e]
    refine ⟨(hD j hj).1, fun q hq => ?_⟩
    rw [atKey_put_other hne]
    exact (hD j hj).2 q hq
/-- A place is told no more. -/
theorem PlacesAt.drop {W : World} {b n : Nat} {f : Int → Option Nat} (h : PlacesAt W b n f) {i : Int} (hi : (Lit.int .i64 i).wf = true) (ty : TypeId) :
    ∃ W', (Builtin.delete_ #[132, 3] ty #[.map (some b), .int .i64 i]).run Tryd.prog W = .ok (.tuple #[]) W' ∧ PlacesAt W' b (if (f i).isSome then n - 1 else n) (upd f i none) ∧ W.mapTurned W' b := by
  obtain ⟨D, hown, hs, hD⟩ := h
  obtain ⟨W', hrun, h1, h2⟩ := hown.drop Tryd.keyInt Tryd.underlying132 (keyOf_int_mk Tryd.underlying3 hi) ty
  have hsz := size_del (hown.tidy Tryd.keyInt) (k := .int .i64 i)
  rw [(hD i hi).1, hs] at hsz
  have hsz' : Maps.size (D.del (.int .i64 i)) = (if (f i).isSome then n - 1 else n) := by
    split at hsz <;> split <;> simp_all <;> omega
  refine ⟨W', hrun, ⟨_, hsz' ▸ own_tight h1, hsz', fun j hj => ?_⟩, h2⟩
  by_cases e : j = i
  · subst e
    rw [has_del_same, upd, if_pos rfl]
    exact ⟨rfl, fun q hq => by cases hq⟩
  · have hne : Lit.int .i64 j ≠ Lit.int .i64 i := fun h => e (by injection h)
    rw [has_del_other hne, upd, if_neg e]
    refine ⟨(hD j hj).1, fun q hq => ?_⟩
    rw [atKey_del_other hne]
    exact (hD j hj).2 q hq
theorem places_new (W : World) : PlacesAt (W.alloc (.map #[] 0)) W.heap.size 0 (fun _ => none) :=
  ⟨.map [], World.ownsMap_made _ _ _ _, rfl, fun _ _ => ⟨rfl, fun _ h => by cases h⟩⟩

/-! ### Things -/
/-- Numbers that a machine holds. -/
def wfT (t : Th) : Prop := (Lit.int .i64 t.id).wf = true
def flatT (ts : List Th) : List Value := ts.flatMap (fun t => [.int .i64 t.id, .int .u64 t.F, .int .u64 t.H, .int .i64 t.Y, .int .i64 t.X])
theorem flatT_cons (t : Th) (ts : List Th) : flatT (t :: ts) = .int .i64 t.id :: .int .u64 t.F :: .int .u64 t.H :: .int .i64 t.Y :: .int .i64 t.X :: flatT ts := rfl
theorem flatT_snoc (ts : List Th) (t : Th) : flatT (ts ++ [t]) = flatT ts ++ [.int .i64 t.id, .int .u64 t.F, .int .u64 t.H, .int .i64 t.Y, .int .i64 t.X] := by simp [flatT, List.flatMap_append]
theorem flatT_len : ∀ ts : List Th, (flatT ts).length = ts.length * 5
  | [] => rfl
  | t :: ts => by
    have := flatT_len ts
    rw [flatT_cons]
    simp
    omega
theorem flatT_at : ∀ (ts : List Th) (i : Nat), i < ts.length → (flatT ts)[i * 5]? = some (.int .i64 (atT ts i).id) ∧ (flatT ts)[i * 5 + 1]? = some (.int .u64 (atT ts i).F) ∧ (flatT ts)[i * 5 + 2]? = some (.int .u64 (atT ts i).H) ∧ (flatT ts)[i * 5 + 3]? = some (.int .i64 (atT ts i).Y) ∧ (flatT ts)[i * 5 + 4]? = some (.int .i64 (atT ts i).X)
  | [], i, h => by simp at h
  | t :: ts, 0, _ => by simp [flatT_cons, atT]
  | t :: ts, i + 1, h => by
    have := flatT_at ts i (by simpa using h)
    rw [flatT_cons, show (i + 1) * 5 = i * 5 + 1 + 1 + 1 + 1 + 1 by omega]
    simpa [atT] using this
theorem flatT_set : ∀ (ts : List Th) (n : Nat) (t : Th), n < ts.length → flatT (ts.set n t) = (((((flatT ts).set (n * 5) (.int .i64 t.id)).set (n * 5 + 1) (.int .u64 t.F)).set (n * 5 + 2) (.int .u64 t.H)).set (n * 5 + 3) (.int .i64 t.Y)).set (n * 5 + 4) (.int .i64 t.X)
  | [], n, t, h => by simp at h
  | u :: ts, 0, t, h => by simp [flatT_cons]
  | u :: ts, n + 1, t, h => by
    have ih := flatT_set ts n t (by simpa using h)
    rw [List.set_cons_succ, flatT_cons, flatT_cons, ih, show (n + 1) * 5 = n * 5 + 1 + 1 + 1 + 1 + 1 by omega]
    simp only [List.set_cons_succ]
theorem flatT_one (ts : List Th) : ∀ u ∈ flatT ts, u.oneCell' = true := by
  intro u hu
  simp only [flatT, List.mem_flatMap] at hu
  obtain ⟨o, _, h⟩ := hu
  simp at h
  rcases h with rfl | rfl | rfl | rfl | rfl <;> rfl
theorem flatT_take (ts : List Th) (n : Nat) : flatT (ts.take n) = (flatT ts).take (n * 5) := by
  induction ts generalizing n with
  | nil => simp [flatT]
  | cons t ts ih =>
    cases n with
    | zero => simp [flatT]
    | succ n =>
      rw [List.take_succ_cons, flatT_cons, flatT_cons, ih, show (n + 1) * 5 = n * 5 + 1 + 1 + 1 + 1 + 1 by omega]
      simp only [List.take_succ_cons]

/-- A heap in memory: its block p, the map in block b, its things in the row v; all of it from block B on. -/
structure HeapAt (W : World) (B p b : Nat) (v : Value) (s : HS) : Prop where
  hp : W.heap[p]? = some (.cells #[v, .map (some b)] 135 (0, 0))
  row : W.ownsRow B 138 5 v s.ts.length (flatT s.ts)
  pl : PlacesAt W b s.n s.f
  wf : ∀ t ∈ s.ts, wfT t
  bp : B ≤ p
  bb : B ≤ b
/-- The blocks of a heap. -/
def HB (p b : Nat) (v : Value) : Nat → Prop := fun k => k = p ∨ k = b ∨ v.ownBlock = some k
section
variable {W W' : World} {B p b : Nat} {v : Value} {s : HS}
theorem HeapAt.keptS {S : Nat → Prop} (h : HeapAt W B p b v s) (x : KeptS S W W') (hn : ∀ k, HB p b v k → ¬ S k) : HeapAt W' B p b v s :=
  ⟨(x.2 p (Array.getElem?_eq_some_iff.1 h.hp).1 (hn p (.inl rfl))).trans h.hp, x.own h.row (fun g hg => hn g (.inr (.inr hg))), h.pl.keptS x (hn b (.inr (.inl rfl))), h.wf, h.bp, h.bb⟩
theorem HeapAt.below (h : HeapAt W B p b v s) (x : Below W.heap.size W W') : HeapAt W' B p b v s :=
  h.keptS (S := fun _ => False) (.of_below x) (fun _ _ h => h)
theorem HeapAt.c0 (h : HeapAt W B p b v s) : W.cell? ⟨p, 0, none⟩ = some v := by simp [World.cell?, h.hp]
theorem HeapAt.c1 (h : HeapAt W B p b v s) : W.cell? ⟨p, 1, none⟩ = some (.map (some b)) := by simp [World.cell?, h.hp]
theorem HeapAt.fz (h : HeapAt W B p b v s) (o : Nat) : W.frozen? ⟨p, o, none⟩ = false := by simp [World.frozen?, h.hp]
theorem HeapAt.lt (h : HeapAt W B p b v s) : ∀ k, HB p b v k → B ≤ k ∧ k < W.heap.size := by
  rintro k (rfl | rfl | e)
  · exact ⟨h.bp, (Array.getElem?_eq_some_iff.1 h.hp).1⟩
  · exact ⟨h.bb, h.pl.lt⟩
  · exact h.row.lt k e
theorem HeapAt.pb (h : HeapAt W B p b v s) : p ≠ b := by
  rintro rfl
  obtain ⟨D, ⟨es, clock, h1, _⟩, _⟩ := h.pl
  rw [h.hp] at h1; cases h1
theorem HeapAt.gb (h : HeapAt W B p b v s) : v.ownBlock ≠ some b := fun e => by
  obtain ⟨D, ⟨es, clock, h1, _⟩, _⟩ := h.pl
  rcases h.row.2 with ⟨rfl, _⟩ | ⟨g, cap, cur, rfl, _, h3, _⟩
  · cases e
  · simp only [Value.ownBlock, Option.some.injEq] at e
    subst e
    rw [h1] at h3; cases h3
theorem HeapAt.gp (h : HeapAt W B p b v s) : v.ownBlock ≠ some p := fun e => by
  rcases h.row.2 with ⟨rfl, _⟩ | ⟨g, cap, cur, rfl, _, h3, _⟩
  · cases e
  · simp only [Value.ownBlock, Option.some.injEq] at e
    subst e
    rw [h.hp] at h3
    simp at h3
/-- The row, where there is a thing. -/
theorem HeapAt.slice (h : HeapAt W B p b v s) (h0 : 0 < s.ts.length) : ∃ g cap, v = .slice (some ⟨g, 0, none⟩) s.ts.length cap := by
  rcases h.row.2 with ⟨_, e⟩ | ⟨g, cap, cur, rfl, _⟩
  · omega
  · exact ⟨g, cap, rfl⟩
theorem HeapAt.any (h : HeapAt W B p b v s) : ∃ a cap, v = .slice a s.ts.length cap := by
  rcases h.row.2 with ⟨rfl, e⟩ | ⟨g, cap, cur, rfl, _⟩
  · rw [e]; exact ⟨none, 0, rfl⟩
  · exact ⟨_, cap, rfl⟩
theorem HeapAt.at {g cap : Nat} (h : HeapAt W B p b (.slice (some ⟨g, 0, none⟩) s.ts.length cap) s) {j : Nat} (hj : j < s.ts.length) :
    W.cell? ⟨g, j * 5, none⟩ = some (.int .i64 (atT s.ts j).id) ∧ W.cell? ⟨g, j * 5 + 1, none⟩ = some (.int .u64 (atT s.ts j).F) ∧ W.cell? ⟨g, j * 5 + 2, none⟩ = some (.int .u64 (atT s.ts j).H) ∧ W.cell? ⟨g, j * 5 + 3, none⟩ = some (.int .i64 (atT s.ts j).Y) ∧ W.cell? ⟨g, j * 5 + 4, none⟩ = some (.int .i64 (atT s.ts j).X) := by
  obtain ⟨e0, e1, e2, e3, e4⟩ := flatT_at s.ts j hj
  have a0 := h.row.cells (g := g) rfl _ _ e0
  have a1 := h.row.cells (g := g) rfl _ _ e1
  have a2 := h.row.cells (g := g) rfl _ _ e2
  have a3 := h.row.cells (g := g) rfl _ _ e3
  have a4 := h.row.cells (g := g) rfl _ _ e4
  rw [hadd] at a0 a1 a2 a3 a4
  exact ⟨a0, a1, a2, a3, a4⟩
end

/-! ### Which goes ahead -/
set_option maxHeartbeats 1600000 in
theorem less_any (a b : Th) (w : World) :
    Calls Tryd.prog 87 #[.agg #[.int .u64 a.F, .int .u64 a.H, .int .i64 a.Y, .int .i64 a.X], .agg #[.int .u64 b.F, .int .u64 b.H, .int .i64 b.Y, .int .i64 b.X]] w fun e w' => e = .returned (.bool (lessK a b)) ∧ Below w.heap.size w w' := by
  obtain ⟨r, hr⟩ : ∃ r, lessK a b = r := ⟨_, rfl⟩
  have HR := Lib.hid hr
  rw [hr]
  unfold lessK at hr
  clear HR
  by_cases h1 : a.F = b.F
  · rw [if_pos h1] at hr
    have n1 : (a.F != b.F) = false := by rw [bne_eq_false_iff_eq]; exact h1
    by_cases h2 : a.H = b.H
    · rw [if_pos h2] at hr
      have n2 : (a.H != b.H) = false := by rw [bne_eq_false_iff_eq]; exact h2
      by_cases h3 : a.Y = b.Y
      · rw [if_pos h3] at hr
        have n3 : (a.Y != b.Y) = false := by rw [bne_eq_false_iff_eq]; exact h3
        have HR := Lib.hid hr
        clear h1 h2 h3 hr
        go_enter Tryd.func87, Tryd.ntmps87
        go_wp2
        go_ret
        exact ⟨ret_bool HR.out, bl_al (bl_al (bl0 _) _) _⟩
      · rw [if_neg h3] at hr
        have n3 : (a.Y != b.Y) = true := by rw [bne_iff_ne]; exact h3
        have HR := Lib.hid hr
        clear h1 h2 h3 hr
        go_enter Tryd.func87, Tryd.ntmps87
        go_wp2
        go_ret
        exact ⟨ret_bool HR.out, bl_al (bl_al (bl0 _) _) _⟩
    · rw [if_neg h2] at hr
      have n2 : (a.H != b.H) = true := by rw [bne_iff_ne]; exact h2
      have HR := Lib.hid hr
      clear h1 h2 hr
      go_enter Tryd.func87, Tryd.ntmps87
      go_wp2
      go_ret
      exact ⟨ret_bool HR.out, bl_al (bl_al (bl0 _) _) _⟩
  · rw [if_neg h1] at hr
    have n1 : (a.F != b.F) = true := by rw [bne_iff_ne]; exact h1
    have HR := Lib.hid hr
    clear h1 hr
    go_enter Tryd.func87, Tryd.ntmps87
    go_wp2
    go_ret
    exact ⟨ret_bool HR.out, bl_al (bl_al (bl0 _) _) _⟩

end Go.Proofs.YtofpoenehdmkpaaDoor
