/- Least costs: what is told of all numbers. -/
import Derived.Test.YtgbhafadibdmcaaDoorCg
import Derived.Test.YtgbhafadibdmcaaDoorCh
import Derived.WalkMore
import Derived.Scope
import Derived.Deep.LoopGhost
namespace Go.Proofs.YtgbhafadibdmcaaDoor
open Go.RowKit Go.Shelf
attribute [local go_sem] Oper.semAt_some

theorem Sep.perm {W : World} {B : Nat} {l l' : List Own} (h : Sep W B l) (hp : l.Perm l') : Sep W B l' := by
  obtain ⟨h0, Z, h1, h2, h3⟩ := h
  have hz : ∀ {x y : List Own}, x.Perm y → ∀ Z : List (Own × (Nat → Prop)), Z.map Prod.fst = x → ∃ Z' : List (Own × (Nat → Prop)), Z'.Perm Z ∧ Z'.map Prod.fst = y := by
    intro x y hxy
    induction hxy with
    | nil => intro Z h; exact ⟨Z, List.Perm.refl _, h⟩
    | cons a _ ih =>
      intro Z h
      obtain ⟨z, Z2, rfl, e1, e2⟩ := List.map_eq_cons_iff.1 h
      obtain ⟨Z', q1, q2⟩ := ih Z2 e2
      exact ⟨z :: Z', q1.cons z, by rw [List.map_cons, q2, e1]⟩
    | swap a b l =>
      intro Z h
      obtain ⟨z, Z2, rfl, e1, e2⟩ := List.map_eq_cons_iff.1 h
      obtain ⟨y, Z3, rfl, e3, e4⟩ := List.map_eq_cons_iff.1 e2
      exact ⟨y :: z :: Z3, List.Perm.swap _ _ _, by rw [List.map_cons, List.map_cons, e1, e3, e4]⟩
    | trans _ _ ih1 ih2 =>
      intro Z h
      obtain ⟨Z1, q1, q2⟩ := ih1 Z h
      obtain ⟨Z2, q3, q4⟩ := ih2 Z1 q2
      exact ⟨Z2, q3.trans q1, q4⟩
  obtain ⟨Z', q1, q2⟩ := hz hp Z h1
  exact ⟨h0, Z', q2, fun z hz => h2 z (q1.mem_iff.1 hz), h3.perm q1.symm (fun {x y} h k hk hx => h k hx hk)⟩

/-- Some blocks that stay, whatever stands in them. -/
def HolesT (T : List Nat) : Own where
  P W S := (∀ k ∈ T, k < W.heap.size) ∧ ∀ k, S k ↔ k ∈ T
  lt h k hk := h.1 k ((h.2 k).1 hk)
  keep h b _ := ⟨fun k hk => Nat.lt_of_lt_of_le (h.1 k hk) b.size, h.2⟩
/-- .. as they lay. -/
def FixT (T : List Nat) (W0 : World) : Own where
  P W S := (∀ k ∈ T, k < W.heap.size ∧ W.heap[k]? = W0.heap[k]?) ∧ W0.heap.size ≤ W.heap.size ∧ ∀ k, S k ↔ k ∈ T
  lt h k hk := (h.1 k ((h.2.2 k).1 hk)).1
  keep h b hk := ⟨fun k hkT => ⟨Nat.lt_of_lt_of_le (h.1 k hkT).1 b.size, (hk k ((h.2.2 k).2 hkT)).trans (h.1 k hkT).2⟩, Nat.le_trans h.2.1 b.size, h.2.2⟩
/-- The mark of a loop that ended. -/
def MarkO (D : Nat) : Own where
  P W S := W.heap[D]? = some (.deferred (some [])) ∧ ∀ k, S k ↔ k = D
  lt h k hk := by
    obtain rfl := (h.2 k).1 hk
    exact (Array.getElem?_eq_some_iff.1 h.1).1
  keep h _ hk := ⟨(hk _ ((h.2 _).2 rfl)).trans h.1, h.2⟩
theorem Sep.swap2 {W : World} {B : Nat} {l1 l2 : List Own} {o o' : Own} (h : Sep W B (l1 ++ o :: l2)) (ho : ∀ S, o.P W S → ∃ S', o'.P W S' ∧ ∀ k, S' k → S k) : Sep W B (l1 ++ o' :: l2) := by
  obtain ⟨S, h1, h2, h3⟩ := h.turn
  obtain ⟨S', h4, h5⟩ := ho S h1
  exact (h3 W S' o' (KeptS.refl _ _) h4 (fun k hk => .inl (h5 k hk))).1
theorem Sep.fixT {W : World} {B : Nat} {l1 l2 : List Own} {T : List Nat} (h : Sep W B (l1 ++ HolesT T :: l2)) : Sep W B (l1 ++ FixT T W :: l2) :=
  h.swap fun _ hs => ⟨fun k hk => ⟨hs.1 k hk, rfl⟩, Nat.le_refl _, hs.2⟩
theorem Sep.unfixT {W W0 : World} {B : Nat} {l1 l2 : List Own} {T : List Nat} (h : Sep W B (l1 ++ FixT T W0 :: l2)) : Sep W B (l1 ++ HolesT T :: l2) ∧ ∀ k ∈ T, W.heap[k]? = W0.heap[k]? := by
  obtain ⟨S, h1, _⟩ := h.at
  exact ⟨h.swap fun _ hs => ⟨fun k hk => (hs.1 k hk).1, hs.2.2⟩, fun k hk => (h1.1 k hk).2⟩
theorem Sep.holeT {W W' : World} {B : Nat} {l : List Own} (h : Sep W B l) (b : Below W.heap.size W W') {T : List Nat} (hT : ∀ k ∈ T, W.heap.size ≤ k ∧ k < W'.heap.size) : Sep W' B (l ++ [HolesT T]) :=
  h.new (S := fun k => k ∈ T) b ⟨fun k hk => (hT k hk).2, fun _ => Iff.rfl⟩ (fun k hk => (hT k hk).1)
theorem Sep.turnT {W W' : World} {B : Nat} {l1 l2 : List Own} {T : List Nat} (h : Sep W B (l1 ++ HolesT T :: l2)) {row : Option Nat} (hg : W.grownBy W' row) (hr : ∀ r, row = some r → r ∈ T) : Sep W' B (l1 ++ HolesT T :: l2) ∧ Below B W W' := by
  obtain ⟨S, h1, h2, h3⟩ := h.turn
  refine h3 W' S (HolesT T) (.of_grown hg (fun k e _ => (h1.2 k).2 (hr k e))) ⟨fun k hk => Nat.lt_of_lt_of_le (h1.1 k hk) hg.size, h1.2⟩ (fun _ h => .inl h)
theorem Sep.marks {W : World} {B : Nat} : ∀ {Ds : List Nat} {l : List Own}, Sep W B (l ++ Ds.map MarkO) → Ds.Nodup ∧ ∀ D ∈ Ds, W.heap[D]? = some (.deferred (some [])) ∧ B ≤ D
  | [], _, _ => ⟨List.nodup_nil, fun D h => by cases h⟩
  | D :: Ds, l, h => by
    have h' : Sep W B ((l ++ [MarkO D]) ++ Ds.map MarkO) := by simpa using h
    obtain ⟨q1, q2⟩ := Sep.marks h'
    obtain ⟨S, h1, h2⟩ := Sep.at (l1 := l) (l2 := Ds.map MarkO) h
    refine ⟨List.nodup_cons.2 ⟨fun hD => ?_, q1⟩, fun D' hD' => ?_⟩
    · obtain ⟨l1, l2, e⟩ := List.append_of_mem hD
      rw [List.map_cons, e, List.map_append, List.map_cons] at h
      obtain ⟨S1, S2, p1, p2, p3⟩ := Sep.apart h
      exact p3 D ((p1.2 D).2 rfl) ((p2.2 D).2 rfl)
    · rcases List.mem_cons.1 hD' with rfl | hD'
      · exact ⟨h1.1, (h2 _ ((h1.2 _).2 rfl)).1⟩
      · exact q2 D' hD'

/-- All that is held. -/
def spL (fb rb wb g p cap : Nat) (a : Option Addr) (A B : Int) (n : Nat) (ds : List Int) (m : List Th) (l : List Own) : List Own :=
  RowO 36 1 (.slice (some ⟨g, 0, none⟩) n n) n (cellsU ds) :: HeapO p m :: CellsO fb #[.int .i64 A, .int .i64 B, .slice a n cap] 26 :: CellsO rb #[.slice (some ⟨g, 0, none⟩) n n] 42 :: CellsO wb #[.pointer (some ⟨p, 0, none⟩)] 113 :: l
/-- What the loop holds. -/
def SprF (w : World) (fb rb wb g p cap : Nat) (a : Option Addr) (A B : Int) (zs : List Int) (s : Nat) (k : Nat) (ac : Act) (W : World) : Prop :=
  ∃ (Ds : List Nat) (ds : List Int) (m : List Th) (L : Int), k = untold ds + m.length ∧ Spr (gph A B zs) s ds m L (fun _ _ => False) ∧ Sep W w.heap.size (spL fb rb wb g p cap a A B zs.length ds m (Ds.reverse.map MarkO)) ∧ Below w.heap.size w W ∧
    ∃ x0 x1 x3 x4 x7 x8 x9 x10 x11 x12 x13 x14 x15 x16 x17 x18 x19 x20 x21 x22 x23 x24 x25 x26 x27 x28 x29 x30 x31 x32 x33 x34 x35 x36 x37 x38 x39 x40 x41 x42 x43 x44 x45 x46 x47 x48 x49 x50 x51 x52 x53 : Value, ac = { tmps := #[x0, x1, .pointer (some ⟨fb, 0, none⟩), x3, x4, .pointer (some ⟨rb, 0, none⟩), .pointer (some ⟨wb, 0, none⟩), x7, x8, x9, x10, x11, x12, x13, x14, x15, x16, x17, x18, x19, x20, x21, x22, x23, x24, x25, x26, x27, x28, x29, x30, x31, x32, x33, x34, x35, x36, x37, x38, x39, x40, x41, x42, x43, x44, x45, x46, x47, x48, x49, x50, x51, x52, x53], defers := marksOf Ds }
/-- What the loop over those beside one holds. -/
structure BesI (w : World) (fb rb wb g p cap : Nat) (a : Option Addr) (A B : Int) (zs : List Int) (s : Nat) (Ds : List Nat) (kb b : Nat) (M : Nat) (T1 T2 : List Nat) (pre : List Nat) (W : World) (dQ : Int) (ds : List Int) (m : List Th) : Prop where
  spr : Spr (gph A B zs) s ds m (atD ds b) (fun j i => j = b ∧ i ∉ pre)
  tk : taken ds m b
  dF : atD ds b = dQ
  M : untold ds + m.length = M
  sep : Sep W w.heap.size (spL fb rb wb g p cap a A B zs.length ds m (Ds.reverse.map MarkO ++ [CellsO kb #[.int .u64 dQ, .int .u64 0, .int .i64 0, .int .i64 0] 117, HolesT T1, HolesT T2]))
  bel : Below w.heap.size w W

section
variable {w W W' : World} {fb rb wb g p cap : Nat} {a : Option Addr} {A B : Int} {zs : List Int} {s : Nat} {Ds : List Nat} {kb b M : Nat} {T1 T2 pre : List Nat} {dQ : Int} {ds : List Int} {m : List Th}
theorem BesI.turn2 (h : BesI w fb rb wb g p cap a A B zs s Ds kb b M T1 T2 pre W dQ ds m) {row : Option Nat} (hg : W.grownBy W' row) (hr : ∀ r, row = some r → r ∈ T2) : BesI w fb rb wb g p cap a A B zs s Ds kb b M T1 T2 pre W' dQ ds m := by
  have h2 := Sep.turnT (W := W) (B := w.heap.size) (l1 := spL fb rb wb g p cap a A B zs.length ds m (Ds.reverse.map MarkO ++ [CellsO kb #[.int .u64 dQ, .int .u64 0, .int .i64 0, .int .i64 0] 117, HolesT T1])) (l2 := []) (T := T2) (by
    have h1 := h.sep
    simpa only [spL, List.cons_append, List.append_assoc, List.nil_append] using h1) hg hr
  refine ⟨h.spr, h.tk, h.dF, h.M, ?_, h.bel.trans h2.2⟩
  have h3 := h2.1
  simpa only [spL, List.cons_append, List.append_assoc, List.nil_append] using h3
theorem BesI.turn1 (h : BesI w fb rb wb g p cap a A B zs s Ds kb b M T1 T2 pre W dQ ds m) {row : Option Nat} (hg : W.grownBy W' row) (hr : ∀ r, row = some r → r ∈ T1) : BesI w fb rb wb g p cap a A B zs s Ds kb b M T1 T2 pre W' dQ ds m := by
  have h2 := Sep.turnT (W := W) (B := w.heap.size) (l1 := spL fb rb wb g p cap a A B zs.length ds m (Ds.reverse.map MarkO ++ [CellsO kb #[.int .u64 dQ, .int .u64 0, .int .i64 0, .int .i64 0] 117])) (l2 := [HolesT T2]) (T := T1) (by
    have h1 := h.sep
    simpa only [spL, List.cons_append, List.append_assoc, List.nil_append] using h1) hg hr
  refine ⟨h.spr, h.tk, h.dF, h.M, ?_, h.bel.trans h2.2⟩
  have h3 := h2.1
  simpa only [spL, List.cons_append, List.append_assoc, List.nil_append] using h3
theorem BesI.fix (h : BesI w fb rb wb g p cap a A B zs s Ds kb b M T1 T2 pre W dQ ds m) : Sep W w.heap.size (spL fb rb wb g p cap a A B zs.length ds m (Ds.reverse.map MarkO ++ [CellsO kb #[.int .u64 dQ, .int .u64 0, .int .i64 0, .int .i64 0] 117, FixT T1 W, FixT T2 W])) := by
  have h2 := Sep.fixT (W := W) (B := w.heap.size) (l1 := spL fb rb wb g p cap a A B zs.length ds m (Ds.reverse.map MarkO ++ [CellsO kb #[.int .u64 dQ, .int .u64 0, .int .i64 0, .int .i64 0] 117])) (l2 := [HolesT T2]) (T := T1) (by
    have h1 := h.sep
    simpa only [spL, List.cons_append, List.append_assoc, List.nil_append] using h1)
  have h3 := Sep.fixT (W := W) (B := w.heap.size) (l1 := spL fb rb wb g p cap a A B zs.length ds m (Ds.reverse.map MarkO ++ [CellsO kb #[.int .u64 dQ, .int .u64 0, .int .i64 0, .int .i64 0] 117, FixT T1 W])) (l2 := []) (T := T2) (by
    simpa only [spL, List.cons_append, List.append_assoc, List.nil_append] using h2)
  simpa only [spL, List.cons_append, List.append_assoc, List.nil_append] using h3
theorem sep_unfix {Bq n : Nat} (h : Sep W' Bq (spL fb rb wb g p cap a A B n ds m (Ds.reverse.map MarkO ++ [CellsO kb #[.int .u64 dQ, .int .u64 0, .int .i64 0, .int .i64 0] 117, FixT T1 W, FixT T2 W]))) :
    Sep W' Bq (spL fb rb wb g p cap a A B n ds m (Ds.reverse.map MarkO ++ [CellsO kb #[.int .u64 dQ, .int .u64 0, .int .i64 0, .int .i64 0] 117, HolesT T1, HolesT T2])) ∧ (∀ k ∈ T1, W'.heap[k]? = W.heap[k]?) ∧ (∀ k ∈ T2, W'.heap[k]? = W.heap[k]?) ∧ W'.cell? ⟨kb, 0, none⟩ = some (.int .u64 dQ) := by
  obtain ⟨h2, k2⟩ := Sep.unfixT (W := W') (B := Bq) (l1 := spL fb rb wb g p cap a A B n ds m (Ds.reverse.map MarkO ++ [CellsO kb #[.int .u64 dQ, .int .u64 0, .int .i64 0, .int .i64 0] 117, FixT T1 W])) (l2 := []) (T := T2) (by
    simpa only [spL, List.cons_append, List.append_assoc, List.nil_append] using h)
  obtain ⟨h3, k3⟩ := Sep.unfixT (W := W') (B := Bq) (l1 := spL fb rb wb g p cap a A B n ds m (Ds.reverse.map MarkO ++ [CellsO kb #[.int .u64 dQ, .int .u64 0, .int .i64 0, .int .i64 0] 117])) (l2 := [HolesT T2]) (T := T1) (by
    simpa only [spL, List.cons_append, List.append_assoc, List.nil_append] using h2)
  have h4 := (Sep.cells (W := W') (B := Bq) (l1 := spL fb rb wb g p cap a A B n ds m (Ds.reverse.map MarkO)) (l2 := [HolesT T1, HolesT T2]) (k := kb) (by
    simpa only [spL, List.cons_append, List.append_assoc, List.nil_append] using h3)).1
  exact ⟨by simpa only [spL, List.cons_append, List.append_assoc, List.nil_append] using h3, k3, k2, by simp [World.cell?, h4]⟩
end
theorem spL_cells {W : World} {Bq fb rb wb g p cap n : Nat} {a : Option Addr} {A B : Int} {ds : List Int} {m : List Th} {l : List Own} (h : Sep W Bq (spL fb rb wb g p cap a A B n ds m l)) :
    (W.cell? ⟨fb, 0, none⟩ = some (.int .i64 A) ∧ W.cell? ⟨fb, 1, none⟩ = some (.int .i64 B) ∧ W.cell? ⟨fb, 2, none⟩ = some (.slice a n cap)) ∧ W.cell? ⟨rb, 0, none⟩ = some (.slice (some ⟨g, 0, none⟩) n n) ∧ W.cell? ⟨wb, 0, none⟩ = some (.pointer (some ⟨p, 0, none⟩)) := by
  have h1 := (Sep.cells (l1 := [_, _]) h).1
  have h2 := (Sep.cells (l1 := [_, _, _]) h).1
  have h3 := (Sep.cells (l1 := [_, _, _, _]) h).1
  refine ⟨⟨?_, ?_, ?_⟩, ?_, ?_⟩ <;> simp [World.cell?, h1, h2, h3]
theorem rep_row {W : World} {g n : Nat} (hn : n ≤ 65536) (h : W.heap[g]? = some (.cells (repL n n).toArray 36 (0, 0))) :
    W.ownsRow 0 36 1 (.slice (some ⟨g, 0, none⟩) n n) n (cellsU (List.replicate n 18446744073709551615)) := by
  refine ⟨by simp [cellsU], .inr ⟨g, n, _, rfl, Nat.zero_le _, h, Nat.le_refl _, by unfold maxLen; omega, by simp [repL_len], by simp [repL, cellsU]⟩⟩
set_option maxRecDepth 100000 in
set_option maxHeartbeats 4000000 in
theorem spread_any (A B : Int) (a : Option Addr) (cap : Nat) (zs : List Int) (s : Nat) (w : World) (hm : mayB A B = true) (hn : (zs.length : Int) = A * B) (hz : AllH zs) (hr : RowH w a zs) (hst : Stp w) (hs : s < zs.length) :
    Calls Tryd.prog 54 #[.agg #[.int .i64 A, .int .i64 B, .slice a zs.length cap], .int .i64 (s : Int)] w fun e w' => ∃ g ds, e = .returned (.slice (some ⟨g, 0, none⟩) zs.length zs.length) ∧ ds.length = zs.length ∧
      RowU w' (some ⟨g, 0, none⟩) ds ∧ Far (gph A B zs) s (atD ds) ∧ Below w.heap.size w w' := by
  obtain ⟨ar1, ar2⟩ := area_bd hm
  have hzl : (zs.length : Int) ≤ 65536 := by omega
  have hz1 : 1 ≤ zs.length := by omega
  have HN := Lib.hid hn
  have HG := Lib.hid (gph_ok hm hn hz)
  have HRW := Lib.hid hr
  obtain ⟨gb, go, rfl, q⟩ := hr.cell hs
  rw [getD_get hs] at q
  have hs0 : (0 : Int) ≤ (s : Int) := by omega
  have hs1 : (s : Int) < (zs.length : Int) := by omega
  clear hn
  have hA0 := bl_al (bl_al (bl0 w) (.cells #[.int .i64 A, .int .i64 B, .slice (some ⟨gb, go, none⟩) zs.length cap] 26)) (.cells #[.int .u64 18446744073709551615] 36)
  have hS0 : Sep w w.heap.size [] := Sep.nil (Nat.le_refl _)
  have hS1 := hS0.box #[.int .i64 A, .int .i64 B, .slice (some ⟨gb, go, none⟩) zs.length cap] 26
  have hS2 := hS1.below (bl_al (bl0 _) (.cells #[.int .u64 18446744073709551615] 36))
  refine (callsIn_wide (n := 11)).1 (callsIn_of_wp_marks Tryd.func54 rfl trivial ?_ rfl)
  simp only [Tryd.ntmps54, List.size_toArray, List.length_cons, List.length_nil, Nat.reduceAdd, Nat.reduceSub, Array.replicate_succ, Array.replicate_zero, List.push_toArray, List.append_toArray, List.nil_append, List.cons_append]
  refine wpIn_wide.2 ?_
  go_wp2
  go_step3
  go_wp2_with fail
  have hq0 : ((w.alloc (.cells #[.int .i64 A, .int .i64 B, .slice (some ⟨gb, go, none⟩) zs.length cap] 26)).alloc (.cells #[.int .u64 18446744073709551615] 36)).cell? ⟨w.heap.size + 1, 0, none⟩ = some (.int .u64 18446744073709551615) := by simp [go_sem]
  refine (repeat_any _ _ _ hz1 (by omega) hq0).mono ?_
  rintro e w1 ⟨g, hgl, rfl, hrow, hb1⟩
  have hS3 := (hS2.new (o := RowO 36 1 (.slice (some ⟨g, 0, none⟩) zs.length zs.length) zs.length (cellsU (List.replicate zs.length 18446744073709551615))) (S := fun k => k = g) hb1 ⟨rep_row (by omega) hrow, fun k => by simp only [Value.ownBlock, Option.some.injEq]; exact eq_comm⟩ (fun k e => by rw [e]; exact hgl)).box #[.slice (some ⟨g, 0, none⟩) zs.length zs.length] 42
  have hA1 := bl_al (bl_tr hA0 hb1) (.cells #[.slice (some ⟨g, 0, none⟩) zs.length zs.length] 42)
  clear hb1 hrow hq0 hS2 hS1 hA0 hgl hS0
  go_wp2_with fail
  refine (new_sep hS3).mono ?_
  rintro e w3 ⟨p, rfl, hS4, hb3⟩
  have hS5 := hS4.box #[.pointer (some ⟨p, 0, none⟩)] 113
  have hA3 := bl_al (bl_tr hA1 hb3) (.cells #[.pointer (some ⟨p, 0, none⟩)] 113)
  obtain ⟨rb, hrb⟩ : ∃ rb, w1.heap.size = rb := ⟨_, rfl⟩
  obtain ⟨fb, hfb⟩ : ∃ fb, w.heap.size = fb := ⟨_, rfl⟩
  obtain ⟨wb, hwb⟩ : ∃ wb, w3.heap.size = wb := ⟨_, rfl⟩
  obtain ⟨w4, hw4⟩ : ∃ w4, w3.alloc (.cells #[.pointer (some ⟨p, 0, none⟩)] 113) = w4 := ⟨_, rfl⟩
  rw [hw4] at hS5 hA3
  have hsep : Sep w4 w.heap.size (spL fb rb wb g p cap (some ⟨gb, go, none⟩) A B zs.length (List.replicate zs.length 18446744073709551615) [] []) := by
    rw [hrb, hwb] at hS5
    rw [← hfb]
    refine hS5.perm ?_
    simp only [spL, List.nil_append, List.cons_append]
    refine (List.Perm.swap _ _ _).trans (List.Perm.cons _ ?_)
    refine (List.Perm.cons _ (List.Perm.swap _ _ _)).trans ?_
    exact List.Perm.swap _ _ _
  obtain ⟨⟨-, -, hf0⟩, hrc, hwc⟩ := spL_cells hsep
  replace q := cell_later hA3 q
  clear hS3 hS4 hS5 hb3 hA1
  have hz2 : (gph A B zs).opn s ↔ zs.getD s 0 ≠ 0 := ⟨fun h => h.2, fun h => ⟨hs, h⟩⟩
  obtain ⟨z, hzz⟩ : ∃ z, zs.getD s 0 = z := ⟨_, rfl⟩
  rw [hzz] at q hz2
  have hru := hr.below hA3
  clear hzz hr
  by_cases h0 : z = 0
  · have hspr := Lib.hid (spr_none (G := gph A B zs) (fun h => hz2.1 h h0))
    subst h0
    have HSEP := Lib.hid hsep
    have HBEL := Lib.hid hA3
    clear hsep hA3 hrc hwc hru hz2
    go_wp2_with fail
    go_step3
    go_wp2_with fail
    refine wp_loop_ghost_k (SprF w fb rb wb g p cap (some ⟨gb, go, none⟩) A B zs s) _ ⟨[], _, _, 0, rfl, hspr.out, HSEP.out, HBEL.out, _, _, _, _, _, _, _, _, _, _, _, _, _, _, _, _, _, _, _, _, _, _, _, _, _, _, _, _, _, _, _, _, _, _, _, _, _, _, _, _, _, _, _, _, _, _, _, _, _, _, _, rfl⟩ ?_
    clear hspr HSEP HBEL
    rintro k ac W hI J K2 hJ hK2
    obtain ⟨Ds, ds, m, L, hkk, hspr, hsep, hbel, x0, x1, x3, x4, x7, x8, x9, x10, x11, x12, x13, x14, x15, x16, x17, x18, x19, x20, x21, x22, x23, x24, x25, x26, x27, x28, x29, x30, x31, x32, x33, x34, x35, x36, x37, x38, x39, x40, x41, x42, x43, x44, x45, x46, x47, x48, x49, x50, x51, x52, x53, rfl⟩ := hI
    obtain ⟨⟨-, -, hf0⟩, hrc, hwc⟩ := spL_cells hsep
    have hfew := hspr.few
    have hlen : ds.length = zs.length := hspr.len
    have hml : m.length ≤ 1000000 := by have : (gph A B zs).N = zs.length := rfl; omega
    have hcall := pop_sep (l1 := [RowO 36 1 (.slice (some ⟨g, 0, none⟩) zs.length zs.length) zs.length (cellsU ds)]) hsep hml
    have hzf := blk_lt hf0
    cases m with
    | nil =>
      go_wp2_with fail
      refine hcall.mono ?_
      rintro e W1 ⟨rfl, hsep1, hb1⟩
      have hfar := Lib.hid (hspr.far HG.out)
      have hbel1 := Lib.hid (hbel.trans hb1)
      obtain ⟨-, hrc1, -⟩ := spL_cells hsep1
      have zr1 := blk_lt hrc1
      have HS1 := Lib.hid hsep1
      clear hcall hspr hsep hbel hsep1 hb1 hf0 hrc hwc hzf hfew
      have hsz := bl_al (bl0 W1) (.cells #[.int .u64 (firstT []).F, .int .u64 (firstT []).H, .int .i64 (firstT []).Y, .int .i64 (firstT []).X] 117)
      have hsep9 := Lib.hid (HS1.out.below hsz)
      have hbel9 := Lib.hid (bl_tr hbel1.out hsz)
      clear hsz
      go_wp2_with fail
      rw [Exit.noGoto_ret]
      generalize W1.alloc _ = W9 at *
      obtain ⟨hnd, hdm⟩ := Sep.marks (l := [_, _, _, _, _]) hsep9.out
      obtain ⟨hrow9, -, -, -, -⟩ := Sep.row (l1 := []) hsep9.out
      refine leaves_marks Ds W9 ((List.reverse_perm Ds).nodup_iff.1 hnd) (fun D hD => (hdm D (by simpa using hD)).1) (fun W' q1 q2 q3 => ?_)
      have hgD : g ∉ Ds := fun hD => by
        have e1 := (hdm g (by simpa using hD)).1
        have e2 := hrow9 0 _ (cellsU_at (by omega))
        simp [World.cell?, e1] at e2
      refine ⟨.slice (some ⟨g, 0, none⟩) zs.length zs.length, by simp [results, Tryd.results54, go_sem], g, ds, rfl, hlen, .inr ⟨g, 0, rfl, fun i v hv => ?_⟩, hfar.out, ?_⟩
      · have hc := hrow9 i (.int .u64 v) (by simp [cellsU, hv])
        rw [Nat.zero_add]
        exact (World.cell?_of_block (a := ⟨g, i, none⟩) (q3 g hgD)).trans hc
      · have h9 := hbel9.out
        exact ⟨q2.1.symm.trans h9.os, q2.2.1.symm.trans h9.tape, q2.2.2.symm.trans h9.output, by rw [q1]; exact h9.size, fun k hk => (q3 k (fun hD => by have := (hdm k (by simpa using hD)).2; omega)).trans (h9.block k hk)⟩
    | cons t0 m0 =>
      obtain ⟨b, hft, hbN, hspr2, htk, hcnt⟩ := hspr.pop (by simp)
      rw [hft] at hcall
      obtain ⟨m2, hm2⟩ : ∃ m2, popM (t0 :: m0) = m2 := ⟨_, rfl⟩
      rw [hm2] at hcall hspr2 htk hcnt
      obtain ⟨dF, hdF⟩ : ∃ dF, atD ds b = dF := ⟨_, rfl⟩
      rw [hdF] at hcall
      try simp only [List.isEmpty_cons, Bool.not_false] at hcall
      have HX := Lib.hid (show untold ds + m2.length < k by omega)
      have HSP := Lib.hid hspr2
      have HTK := Lib.hid htk
      have HDF := Lib.hid hdF
      clear hspr hspr2 htk hdF hft hm2 hcnt hkk hfew
      go_wp2_with fail
      refine hcall.mono ?_
      rintro e W1 ⟨rfl, hsep1, hb1⟩
      obtain ⟨⟨hf00, hf01, hf02⟩, hrc1, hwc1⟩ := spL_cells hsep1
      have hbel1 := hbel.trans hb1
      have hsep2 : Sep (W1.alloc (.cells #[.int .u64 dF, .int .u64 0, .int .i64 0, .int .i64 0] 117)) w.heap.size (spL fb rb wb g p cap (some ⟨gb, go, none⟩) A B zs.length ds m2 (Ds.reverse.map MarkO ++ [CellsO W1.heap.size #[.int .u64 dF, .int .u64 0, .int .i64 0, .int .i64 0] 117])) := hsep1.box _ _
      have hzf1 := blk_lt hf00
      clear hcall hsep hb1 hf0 hrc hwc hzf hsep1 hbel
      have hbel2 := bl_al hbel1 (.cells #[.int .u64 dF, .int .u64 0, .int .i64 0, .int .i64 0] 117)
      go_wp2_with fail
      obtain ⟨W2, hW2⟩ : ∃ W2, W1.alloc (.cells #[.int .u64 dF, .int .u64 0, .int .i64 0, .int .i64 0] 117) = W2 := ⟨_, rfl⟩
      obtain ⟨kb, hkb⟩ : ∃ kb, W1.heap.size = kb := ⟨_, rfl⟩
      rw [hW2] at hsep2 hbel2 ⊢
      rw [hkb] at hsep2 ⊢
      clear hW2 hkb hf00 hf01 hf02 hrc1 hwc1 hbel1 hzf1
      refine (beside_mk _ _ _ _ _ _ _).mono ?_
      rintro e W3 ⟨rfl, hbes, hz3, hb3⟩
      have hsep3 : Sep W3 w.heap.size (spL fb rb wb g p cap (some ⟨gb, go, none⟩) A B zs.length ds m2 (Ds.reverse.map MarkO ++ [CellsO kb #[.int .u64 dF, .int .u64 0, .int .i64 0, .int .i64 0] 117, HolesT [W2.heap.size, W2.heap.size + 1]])) := by
        have h := hsep2.holeT hb3 (T := [W2.heap.size, W2.heap.size + 1]) (fun k hk => by simp at hk; omega)
        simpa only [spL, List.cons_append, List.append_assoc, List.nil_append] using h
      have hbel3 := bl_tr hbel2 hb3
      obtain ⟨pI, hpI⟩ : ∃ pI, W2.heap.size = pI := ⟨_, rfl⟩
      rw [hpI] at hbes hz3 hsep3 ⊢
      have hz4 : pI + 2 ≤ W3.heap.size := by omega
      clear hb3 hsep2 hbel2 hpI hz3
      go_wp2_with fail
      refine wpIn_wide.1 (range_s pI 2 88 #[.pointer (some ⟨pI, 0, none⟩), .pointer (some ⟨pI + 1, 0, none⟩)] (nbO A B zs b) (fun W => RowH W (some ⟨gb, go, none⟩) zs ∧ Stp W) (iter_beside pI A B _ cap zs b hm HN.out hbN W3 hbes) rfl (fun _ => rfl) hz4 (enters_of Tryd.func88 (by kernel_rfl) rfl)
        (fun C pre W => ∃ ds' m', BesI w fb rb wb g p cap (some ⟨gb, go, none⟩) A B zs s Ds kb b (untold ds + m2.length) [pI, pI + 1] [W3.heap.size, W3.heap.size + 1, C] pre W dF ds' m')
        (fun _ _ _ _ => False) ?hI (fun _ _ _ _ _ _ h => h.elim) ?hIp ?hIR (fun _ _ _ _ h => h.elim) ?h0
        (fun x a' W => ∃ y0 y1 y3 y4 y7 y9 y11 y12 y13 y14 y15 y16 y17 y18 y19 y20 y21 y22 y23 y24 y25 y26 y27 y28 y29 y30 y31 y32 y33 y34 y35 y36 y37 y38 y39 y40 y41 y42 y43 y44 y45 y46 y47 y48 y49 y50 y51 y52 y53 : Value, a' = { tmps := #[y0, y1, .pointer (some ⟨fb, 0, none⟩), y3, y4, .pointer (some ⟨rb, 0, none⟩), .pointer (some ⟨wb, 0, none⟩), y7, .pointer (some ⟨kb, 0, none⟩), y9, .int .i64 (x : Int), y11, y12, y13, y14, y15, y16, y17, y18, y19, y20, y21, y22, y23, y24, y25, y26, y27, y28, y29, y30, y31, y32, y33, y34, y35, y36, y37, y38, y39, y40, y41, y42, y43, y44, y45, y46, y47, y48, y49, y50, y51, y52, y53], defers := [] }) ?ax ?assign ?body ?done (fun _ _ _ _ _ h => h.elim))
      case hI =>
        rintro C pre A' B' row ⟨ds', m', h⟩ hg hr
        exact ⟨ds', m', h.turn2 hg (fun r e => by have := hr r e; simp; omega)⟩
      case hIp =>
        rintro C pre A' B' row ⟨ds', m', h⟩ hg hr
        exact ⟨ds', m', h.turn1 hg (fun r e => by have := hr r e; simp; omega)⟩
      case hIR =>
        rintro C pre W ⟨ds', m', h⟩
        exact ⟨HRW.out.below h.bel, hst.below h.bel⟩
      case h0 =>
        intro W' C hb hC1 hC2
        refine ⟨ds, m2, HSP.out.weak (fun j i _ _ _ e => ⟨e, by simp⟩), HTK.out, HDF.out, rfl, ?_, bl_tr hbel3 hb⟩
        have h := hsep3.holeT hb (T := [W3.heap.size, W3.heap.size + 1, C]) (fun k hk => by simp at hk; omega)
        simpa only [spL, List.cons_append, List.append_assoc, List.nil_append] using h
      case ax =>
        rintro x a' _ A' B' row ⟨y0, y1, y3, y4, y7, y9, y11, y12, y13, y14, y15, y16, y17, y18, y19, y20, y21, y22, y23, y24, y25, y26, y27, y28, y29, y30, y31, y32, y33, y34, y35, y36, y37, y38, y39, y40, y41, y42, y43, y44, y45, y46, y47, y48, y49, y50, y51, y52, y53, h⟩ hg hr
        exact ⟨_, _, _, _, _, _, _, _, _, _, _, _, _, _, _, _, _, _, _, _, _, _, _, _, _, _, _, _, _, _, _, _, _, _, _, _, _, _, _, _, _, _, _, _, _, _, _, _, _, h⟩
      case assign =>
        rintro C pre x W K hC hI hK
        have HK := Lib.hid hK
        have HI := Lib.hid hI
        clear hK hI
        simp [encI]
        gi_wp2
        exact HK.out _ W (KP.refl _ _ _) (KP.refl _ _ _) (KP.refl _ _ _) HI.out ⟨_, _, _, _, _, _, _, _, _, _, _, _, _, _, _, _, _, _, _, _, _, _, _, _, _, _, _, _, _, _, _, _, _, _, _, _, _, _, _, _, _, _, _, _, _, _, _, _, _, rfl⟩
      case body =>
        rintro C pre x a' W hC ⟨lr, hlr⟩ ⟨ds', m', hI⟩ ⟨y0, y1, y3, y4, y7, y9, y11, y12, y13, y14, y15, y16, y17, y18, y19, y20, y21, y22, y23, y24, y25, y26, y27, y28, y29, y30, y31, y32, y33, y34, y35, y36, y37, y38, y39, y40, y41, y42, y43, y44, y45, y46, y47, y48, y49, y50, y51, y52, y53, rfl⟩ hpre
        obtain ⟨hxn, hxo⟩ := (mem_nbO HN.out).1 (hpre.subset (List.mem_append_right _ (List.mem_singleton.2 rfl)))
        have hxl : x < zs.length := hxo.1
        have hR := hI.spr.reach HG.out hI.tk hxo hxn
        have hval := hI.spr.val b
        have hkx := HG.out.pos x
        have hfewI := hI.spr.few
        have hlenI : ds'.length = zs.length := hI.spr.len
        have hNN : (gph A B zs).N = zs.length := rfl
        have hkk2 : (gph A B zs).k x = zs.getD x 0 := rfl
        have hta := hI.tk.1
        rw [hI.dF] at hR hval hta
        rw [hkk2] at hR hkx
        rw [hNN] at hval hfewI
        obtain ⟨z, hzz⟩ : ∃ z, zs.getD x 0 = z := ⟨_, rfl⟩
        rw [hzz] at hR hkx
        have hun := untold_le ds'
        have hdb : 0 ≤ dF ∧ dF ≤ 4294901760 := by omega
        have hadd : addC dF z = dF + z := by unfold addC; rw [if_pos (by omega)]
        have hDr := bl_dr (bl0 W)
        have hsF := hI.fix.below hDr
        obtain ⟨⟨-, -, f2⟩, r0, w0⟩ := spL_cells hsF
        have kb0 := (sep_unfix hsF).2.2.2
        obtain ⟨gb', go', e, q⟩ := (HRW.out.below (hI.bel.trans (hDr.mono hI.bel.size))).cell hxl
        cases e
        rw [getD_get hxl, hzz] at q
        have hml : m'.length ≤ 1000000 := by omega
        have hcall := reach_sep p g zs.length x (dF + z) ds' m' W.drew w.heap.size _ (by rw [hlenI]; exact hsF) (by omega) (by omega) hml
        rw [hlenI] at hcall
        have hx0 : (0 : Int) ≤ (x : Int) := by omega
        have hx1 : (x : Int) < (zs.length : Int) := by omega
        have hu1 : inU dF := ⟨by omega, by omega⟩
        have hu2 : inU z := ⟨by omega, by omega⟩
        have hwz : IntKind.u64.wrap z = z := IntWalk.u64_in _ (by omega)
        have hac := fun W => add_any dF z W hu1 hu2
        rw [hadd] at hac
        have HR := Lib.hid hR
        have HI := Lib.hid hI
        have HZ := Lib.hid hzz
        have hsz0 := hI.bel.size
        clear hR hval hta hun hzz hkk2 hNN hfewI hlenI hxn hI hsF hadd hml hu1 hu2
        gi_wp2
        refine ordS_begin (S := (fun w' : World => w'.cell? ⟨rb, 0, none⟩ = some (.slice (some ⟨g, 0, none⟩) zs.length zs.length) ∧ w'.cell? ⟨wb, 0, none⟩ = some (.pointer (some ⟨p, 0, none⟩)) ∧ w'.cell? ⟨kb, 0, none⟩ = some (.int .u64 dF) ∧ w'.cell? ⟨fb, 2, none⟩ = some (.slice (some ⟨gb, go, none⟩) zs.length cap) ∧ w'.cell? ⟨gb, go + x, none⟩ = some (.int .u16 z))) (by kernel_rfl) ⟨r0, w0, kb0, f2, q⟩ (fun hH => ?_)
        first
          | (refine' ordS_take (i := 0) (oi := { dst := some 37, op := Op.load 42 (Operand.tmp 5), type := 42, pos := _, after := #[], guard := none }) (v := _) rfl (by kernel_rfl) (by kernel_rfl) (by kernel_rfl) (by kernel_rfl) (fun _ _ _ h => h) (by assumption) (Or.inl ⟨by rfl, ?hy111⟩) (fun _ => rfl) ?rest111
             case hy111 => (intro w hSw; (try dsimp only at hSw); go_simp; try with_reducible rfl))
          | (refine ordS_take (i := 0) (oi := { dst := some 37, op := Op.load 42 (Operand.tmp 5), type := 42, pos := _, after := #[], guard := none }) (v := undef) rfl (by kernel_rfl) (by kernel_rfl) (by kernel_rfl) (by kernel_rfl) (fun _ _ _ h => h) (by assumption) (Or.inr ⟨by rfl, rfl⟩) (fun _ => rfl) ?_)
        try simp only [Act.put, List.setIfInBounds_toArray, List.set_cons_zero, List.set_cons_succ]
        first
          | (refine' ordS_take (i := 1) (oi := { dst := some 38, op := Op.load 113 (Operand.tmp 6), type := 113, pos := _, after := #[], guard := none }) (v := _) rfl (by kernel_rfl) (by kernel_rfl) (by kernel_rfl) (by kernel_rfl) (fun _ _ _ h => h) (by assumption) (Or.inl ⟨by rfl, ?hy112⟩) (fun _ => rfl) ?rest112
             case hy112 => (intro w hSw; (try dsimp only at hSw); go_simp; try with_reducible rfl))
          | (refine ordS_take (i := 1) (oi := { dst := some 38, op := Op.load 113 (Operand.tmp 6), type := 113, pos := _, after := #[], guard := none }) (v := undef) rfl (by kernel_rfl) (by kernel_rfl) (by kernel_rfl) (by kernel_rfl) (fun _ _ _ h => h) (by assumption) (Or.inr ⟨by rfl, rfl⟩) (fun _ => rfl) ?_)
        try simp only [Act.put, List.setIfInBounds_toArray, List.set_cons_zero, List.set_cons_succ]
        first
          | (refine' ordS_take (i := 2) (oi := { dst := some 39, op := Op.move (Operand.tmp 10), type := 3, pos := _, after := #[], guard := none }) (v := _) rfl (by kernel_rfl) (by kernel_rfl) (by kernel_rfl) (by kernel_rfl) (fun _ _ _ h => h) (by assumption) (Or.inl ⟨by rfl, ?hy113⟩) (fun _ => rfl) ?rest113
             case hy113 => (intro w hSw; (try dsimp only at hSw); go_simp; try with_reducible rfl))
          | (refine ordS_take (i := 2) (oi := { dst := some 39, op := Op.move (Operand.tmp 10), type := 3, pos := _, after := #[], guard := none }) (v := undef) rfl (by kernel_rfl) (by kernel_rfl) (by kernel_rfl) (by kernel_rfl) (fun _ _ _ h => h) (by assumption) (Or.inr ⟨by rfl, rfl⟩) (fun _ => rfl) ?_)
        try simp only [Act.put, List.setIfInBounds_toArray, List.set_cons_zero, List.set_cons_succ]
        first
          | (refine' ordS_take (i := 3) (oi := { dst := some 40, op := Op.fieldAddr 117 (Operand.tmp 8) 0, type := 0, pos := _, after := #[], guard := none }) (v := _) rfl (by kernel_rfl) (by kernel_rfl) (by kernel_rfl) (by kernel_rfl) (fun _ _ _ h => h) (by assumption) (Or.inl ⟨by rfl, ?hy114⟩) (fun _ => rfl) ?rest114
             case hy114 => (intro w hSw; (try dsimp only at hSw); go_simp; try with_reducible rfl))
          | (refine ordS_take (i := 3) (oi := { dst := some 40, op := Op.fieldAddr 117 (Operand.tmp 8) 0, type := 0, pos := _, after := #[], guard := none }) (v := undef) rfl (by kernel_rfl) (by kernel_rfl) (by kernel_rfl) (by kernel_rfl) (fun _ _ _ h => h) (by assumption) (Or.inr ⟨by rfl, rfl⟩) (fun _ => rfl) ?_)
        try simp only [Act.put, List.setIfInBounds_toArray, List.set_cons_zero, List.set_cons_succ]
        first
          | (refine' ordS_take (i := 4) (oi := { dst := some 41, op := Op.load 36 (Operand.tmp 40), type := 36, pos := _, after := #[{ on := 3, ground := Ground.data }], guard := none }) (v := _) rfl (by kernel_rfl) (by kernel_rfl) (by kernel_rfl) (by kernel_rfl) (fun _ _ _ h => h) (by assumption) (Or.inl ⟨by rfl, ?hy115⟩) (fun _ => rfl) ?rest115
             case hy115 => (intro w hSw; (try dsimp only at hSw); go_simp; try with_reducible rfl))
          | (refine ordS_take (i := 4) (oi := { dst := some 41, op := Op.load 36 (Operand.tmp 40), type := 36, pos := _, after := #[{ on := 3, ground := Ground.data }], guard := none }) (v := undef) rfl (by kernel_rfl) (by kernel_rfl) (by kernel_rfl) (by kernel_rfl) (fun _ _ _ h => h) (by assumption) (Or.inr ⟨by rfl, rfl⟩) (fun _ => rfl) ?_)
        try simp only [Act.put, List.setIfInBounds_toArray, List.set_cons_zero, List.set_cons_succ]
        first
          | (refine' ordS_take (i := 5) (oi := { dst := some 42, op := Op.fieldAddr 26 (Operand.tmp 2) 1, type := 0, pos := _, after := #[], guard := none }) (v := _) rfl (by kernel_rfl) (by kernel_rfl) (by kernel_rfl) (by kernel_rfl) (fun _ _ _ h => h) (by assumption) (Or.inl ⟨by rfl, ?hy116⟩) (fun _ => rfl) ?rest116
             case hy116 => (intro w hSw; (try dsimp only at hSw); go_simp; try with_reducible rfl))
          | (refine ordS_take (i := 5) (oi := { dst := some 42, op := Op.fieldAddr 26 (Operand.tmp 2) 1, type := 0, pos := _, after := #[], guard := none }) (v := undef) rfl (by kernel_rfl) (by kernel_rfl) (by kernel_rfl) (by kernel_rfl) (fun _ _ _ h => h) (by assumption) (Or.inr ⟨by rfl, rfl⟩) (fun _ => rfl) ?_)
        try simp only [Act.put, List.setIfInBounds_toArray, List.set_cons_zero, List.set_cons_succ]
        first
          | (refine' ordS_take (i := 6) (oi := { dst := some 43, op := Op.load 24 (Operand.tmp 42), type := 24, pos := _, after := #[{ on := 5, ground := Ground.data }], guard := none }) (v := _) rfl (by kernel_rfl) (by kernel_rfl) (by kernel_rfl) (by kernel_rfl) (fun _ _ _ h => h) (by assumption) (Or.inl ⟨by rfl, ?hy117⟩) (fun _ => rfl) ?rest117
             case hy117 => (intro w hSw; (try dsimp only at hSw); go_simp; try with_reducible rfl))
          | (refine ordS_take (i := 6) (oi := { dst := some 43, op := Op.load 24 (Operand.tmp 42), type := 24, pos := _, after := #[{ on := 5, ground := Ground.data }], guard := none }) (v := undef) rfl (by kernel_rfl) (by kernel_rfl) (by kernel_rfl) (by kernel_rfl) (fun _ _ _ h => h) (by assumption) (Or.inr ⟨by rfl, rfl⟩) (fun _ => rfl) ?_)
        try simp only [Act.put, List.setIfInBounds_toArray, List.set_cons_zero, List.set_cons_succ]
        first
          | (refine' ordS_take (i := 7) (oi := { dst := some 44, op := Op.move (Operand.tmp 10), type := 3, pos := _, after := #[], guard := none }) (v := _) rfl (by kernel_rfl) (by kernel_rfl) (by kernel_rfl) (by kernel_rfl) (fun _ _ _ h => h) (by assumption) (Or.inl ⟨by rfl, ?hy118⟩) (fun _ => rfl) ?rest118
             case hy118 => (intro w hSw; (try dsimp only at hSw); go_simp; try with_reducible rfl))
          | (refine ordS_take (i := 7) (oi := { dst := some 44, op := Op.move (Operand.tmp 10), type := 3, pos := _, after := #[], guard := none }) (v := undef) rfl (by kernel_rfl) (by kernel_rfl) (by kernel_rfl) (by kernel_rfl) (fun _ _ _ h => h) (by assumption) (Or.inr ⟨by rfl, rfl⟩) (fun _ => rfl) ?_)
        try simp only [Act.put, List.setIfInBounds_toArray, List.set_cons_zero, List.set_cons_succ]
        first
          | (refine' ordS_take (i := 8) (oi := { dst := some 45, op := Op.indexAddr 24 (Operand.tmp 43) (Operand.tmp 44), type := 0, pos := _, after := #[{ on := 6, ground := Ground.data }, { on := 7, ground := Ground.data }], guard := none }) (v := _) rfl (by kernel_rfl) (by kernel_rfl) (by kernel_rfl) (by kernel_rfl) (fun _ _ _ h => h) (by assumption) (Or.inl ⟨by rfl, ?hy119⟩) (fun _ => rfl) ?rest119
             case hy119 => (intro w hSw; (try dsimp only at hSw); go_simp; try with_reducible rfl))
          | (refine ordS_take (i := 8) (oi := { dst := some 45, op := Op.indexAddr 24 (Operand.tmp 43) (Operand.tmp 44), type := 0, pos := _, after := #[{ on := 6, ground := Ground.data }, { on := 7, ground := Ground.data }], guard := none }) (v := undef) rfl (by kernel_rfl) (by kernel_rfl) (by kernel_rfl) (by kernel_rfl) (fun _ _ _ h => h) (by assumption) (Or.inr ⟨by rfl, rfl⟩) (fun _ => rfl) ?_)
        try simp only [Act.put, List.setIfInBounds_toArray, List.set_cons_zero, List.set_cons_succ]
        first
          | (refine' ordS_take (i := 9) (oi := { dst := some 46, op := Op.load 64 (Operand.tmp 45), type := 64, pos := _, after := #[{ on := 8, ground := Ground.data }], guard := none }) (v := _) rfl (by kernel_rfl) (by kernel_rfl) (by kernel_rfl) (by kernel_rfl) (fun _ _ _ h => h) (by assumption) (Or.inl ⟨by rfl, ?hy120⟩) (fun _ => rfl) ?rest120
             case hy120 => (intro w hSw; (try dsimp only at hSw); go_simp; try with_reducible rfl))
          | (refine ordS_take (i := 9) (oi := { dst := some 46, op := Op.load 64 (Operand.tmp 45), type := 64, pos := _, after := #[{ on := 8, ground := Ground.data }], guard := none }) (v := undef) rfl (by kernel_rfl) (by kernel_rfl) (by kernel_rfl) (by kernel_rfl) (fun _ _ _ h => h) (by assumption) (Or.inr ⟨by rfl, rfl⟩) (fun _ => rfl) ?_)
        try simp only [Act.put, List.setIfInBounds_toArray, List.set_cons_zero, List.set_cons_succ]
        first
          | (refine' ordS_take (i := 10) (oi := { dst := some 47, op := Op.convert 64 36 (Operand.tmp 46), type := 36, pos := _, after := #[{ on := 9, ground := Ground.data }], guard := none }) (v := _) rfl (by kernel_rfl) (by kernel_rfl) (by kernel_rfl) (by kernel_rfl) (fun _ _ _ h => h) (by assumption) (Or.inl ⟨by rfl, ?hy121⟩) (fun _ => rfl) ?rest121
             case hy121 => (intro w hSw; (try dsimp only at hSw); go_simp; try with_reducible rfl))
          | (refine ordS_take (i := 10) (oi := { dst := some 47, op := Op.convert 64 36 (Operand.tmp 46), type := 36, pos := _, after := #[{ on := 9, ground := Ground.data }], guard := none }) (v := undef) rfl (by kernel_rfl) (by kernel_rfl) (by kernel_rfl) (by kernel_rfl) (fun _ _ _ h => h) (by assumption) (Or.inr ⟨by rfl, rfl⟩) (fun _ => rfl) ?_)
        try simp only [Act.put, List.setIfInBounds_toArray, List.set_cons_zero, List.set_cons_succ]
        refine ordS_one (i := 11) (o := { dst := some 48, op := Op.call { callee := Callee.value (Operand.func 46), args := #[Operand.tmp 41, Operand.tmp 47], argTypes := #[36, 36] }, type := 36, pos := _, after := #[{ on := 4, ground := Ground.data }, { on := 10, ground := Ground.data }], guard := none }) (by kernel_rfl) rfl (by rfl) (fun K hK => ?_)
        go_simp
        refine ⟨trivial, ?_⟩
        with_reducible refine (CallsIn.inRound _ (callsIn_wide.2 (hac _))).mono ?_
        rintro e W6 ⟨rfl, rfl⟩
        refine hK _ _ hH ?_
        clear hK K
        try simp only [Act.put, List.setIfInBounds_toArray, List.set_cons_zero, List.set_cons_succ]
        refine ordS_one (i := 12) (o := { dst := some 49, op := Op.call { callee := Callee.value (Operand.func 74), args := #[Operand.tmp 37, Operand.tmp 38, Operand.tmp 39, Operand.tmp 48], argTypes := #[42, 113, 3, 36] }, type := 0, pos := _, after := #[{ on := 0, ground := Ground.data }, { on := 1, ground := Ground.data }, { on := 2, ground := Ground.data }, { on := 11, ground := Ground.data }, { on := 11, ground := Ground.chain }], guard := none }) (by kernel_rfl) rfl (by rfl) (fun K hK => ?_)
        go_simp
        refine ⟨trivial, ?_⟩
        with_reducible refine (CallsIn.inRound _ (callsIn_wide.2 hcall)).mono ?_
        rintro e W6 ⟨rfl, hsF6, hb6⟩
        obtain ⟨hs6, k1, k2, kb6⟩ := sep_unfix (ds := if atD ds' x = 18446744073709551615 then ds'.set x (dF + z) else ds') (m := if atD ds' x = 18446744073709551615 then pushM m' ⟨(x : Int), dF + z, 0, 0, 0⟩ else m') hsF6
        obtain ⟨⟨-, -, f26⟩, r06, w06⟩ := spL_cells hs6
        have hbel6 : Below w.heap.size w W6 := (HI.out.bel.trans ((bl_dr (bl0 W)).mono hsz0)).trans hb6
        obtain ⟨gb', go', e, q6⟩ := (HRW.out.below hbel6).cell hxl
        cases e
        rw [getD_get hxl, HZ.out] at q6
        have HS6 := Lib.hid hs6
        have HB6 := Lib.hid hbel6
        have HK1 := Lib.hid k1
        have HK2 := Lib.hid k2
        have hz6 : W.heap.size ≤ W6.heap.size := hb6.size
        refine hK _ _ ⟨r06, w06, kb6, f26, q6⟩ ?_
        clear hK K hH hsF6 hs6 k1 k2 hbel6 hb6 hcall hac r0 w0 f2 kb0 q r06 w06 f26 kb6 q6 hDr
        try simp only [Act.put, List.setIfInBounds_toArray, List.set_cons_zero, List.set_cons_succ]
        refine ordS_done (by kernel_rfl) ?_
        gi_wp2
        refine ⟨⟨hz6, fun j h1 h2 => HK2.out j (by simp; omega)⟩, ⟨hz6, fun j h1 h2 => HK1.out j (by simp; omega)⟩, ⟨hz6, fun j h1 h2 => HK2.out j (by simp; omega)⟩, ?_⟩
        have hs6 := HS6.out
        by_cases hd : atD ds' x = 18446744073709551615
        · obtain ⟨p1, p2, p3, p4, p5⟩ := HR.out.2 hd
          rw [if_pos hd, if_pos hd, show pushM m' ⟨(x : Int), dF + z, 0, 0, 0⟩ = m' ++ [⟨(x : Int), dF + z, 0, 0, 0⟩] by unfold pushM; rw [p5]; rfl] at hs6
          refine ⟨_, _, p1.weak (fun j i _ _ _ h => ⟨h.1.1, fun hm => ?_⟩), p2, p3, ?_, hs6, HB6.out⟩
          · rcases List.mem_append.1 hm with hm | hm
            · exact h.1.2 hm
            · exact h.2 ⟨h.1.1, List.mem_singleton.1 hm⟩
          · have := HI.out.M
            rw [List.length_append]
            simp
            omega
        · rw [if_neg hd, if_neg hd] at hs6
          refine ⟨_, _, (show Spr (gph A B zs) s ds' m' (atD ds' b) (fun j i => (j = b ∧ i ∉ pre) ∧ ¬ (j = b ∧ i = x)) by rw [HI.out.dF]; exact HR.out.1 hd).weak (fun j i _ _ _ h => ⟨h.1.1, fun hm => ?_⟩), HI.out.tk, HI.out.dF, HI.out.M, hs6, HB6.out⟩
          rcases List.mem_append.1 hm with hm | hm
          · exact h.1.2 hm
          · exact h.2 ⟨h.1.1, List.mem_singleton.1 hm⟩
      case done =>
        rintro C W ⟨ds', m', hI⟩ hdef
        have hsp9 := hI.spr.weak (E' := fun _ _ => False) (fun j i _ ho hi h => h.2 ((mem_nbO HN.out).2 ⟨h.1 ▸ hi, ho⟩))
        have hs9 := Sep.swap2 (W := W) (B := w.heap.size) (o' := MarkO W3.heap.size) (l1 := spL fb rb wb g p cap (some ⟨gb, go, none⟩) A B zs.length ds' m' (Ds.reverse.map MarkO ++ [CellsO kb #[.int .u64 dF, .int .u64 0, .int .i64 0, .int .i64 0] 117, HolesT [pI, pI + 1]])) (l2 := []) (o := HolesT [W3.heap.size, W3.heap.size + 1, C]) (by
          have h1 := hI.sep
          simpa only [spL, List.cons_append, List.append_assoc, List.nil_append] using h1) (fun S hS => ⟨fun k => k = W3.heap.size, ⟨hdef, fun _ => Iff.rfl⟩, fun k hk => (hS.2 k).2 (by simp [hk])⟩)
        have hs8 := Sep.drop (W := W) (B := w.heap.size) (l1 := spL fb rb wb g p cap (some ⟨gb, go, none⟩) A B zs.length ds' m' (Ds.reverse.map MarkO)) (l2 := [HolesT [pI, pI + 1], MarkO W3.heap.size]) (o := CellsO kb #[.int .u64 dF, .int .u64 0, .int .i64 0, .int .i64 0] 117) (by
          simpa only [spL, List.cons_append, List.append_assoc, List.nil_append] using hs9)
        have hs7 := Sep.drop (W := W) (B := w.heap.size) (l1 := spL fb rb wb g p cap (some ⟨gb, go, none⟩) A B zs.length ds' m' (Ds.reverse.map MarkO)) (l2 := [MarkO W3.heap.size]) (o := HolesT [pI, pI + 1]) (by
          simpa only [spL, List.cons_append, List.append_assoc, List.nil_append] using hs8)
        have hs6 : Sep W w.heap.size (spL fb rb wb g p cap (some ⟨gb, go, none⟩) A B zs.length ds' m' ((W3.heap.size :: Ds).reverse.map MarkO)) := by
          rw [List.reverse_cons, List.map_append]
          simpa only [spL, List.cons_append, List.append_assoc, List.nil_append, List.map_cons, List.map_nil] using hs7
        have HM := Lib.hid hI.M
        have HB := Lib.hid hI.bel
        have HS := Lib.hid hs6
        have HP := Lib.hid hsp9
        clear hI hsp9 hs9 hs8 hs7 hs6
        go_wp2
        refine Handed.intro (untold ds' + m'.length) (by rw [HM.out]; exact HX.out) ?_
        refine hJ _ _ _ ?_
        exact ⟨W3.heap.size :: Ds, ds', m', _, rfl, HP.out, HS.out, HB.out, _, _, _, _, _, _, _, _, _, _, _, _, _, _, _, _, _, _, _, _, _, _, _, _, _, _, _, _, _, _, _, _, _, _, _, _, _, _, _, _, _, _, _, _, _, _, _, _, _, _, _, rfl⟩
  · have hspr := Lib.hid (spr_one (hz2.2 h0))
    have hz3 : (z != 0) = true := by rw [bne_iff_ne]; exact h0
    have hcall := reach_sep p g zs.length s 0 (List.replicate zs.length 18446744073709551615) [] w4 w.heap.size _ (by rw [List.length_replicate]; exact hsep) (by simpa using hs) (by simp; omega) (by simp)
    rw [List.length_replicate, atD_rep, if_pos rfl, if_pos rfl, show pushM [] ⟨(s : Int), 0, 0, 0, 0⟩ = [⟨(s : Int), 0, 0, 0, 0⟩] from rfl] at hcall
    clear h0 hz2
    go_wp2_with fail
    refine hcall.mono ?_
    rintro e w5 ⟨rfl, hsep5, hb5⟩
    have hA5 := hA3.trans hb5
    clear hcall hsep hA3 q hf0 hrc hwc hru
    have HSEP := Lib.hid hsep5
    have HBEL := Lib.hid hA5
    clear hsep5 hA5 hb5
    go_wp2_with fail
    go_step3
    go_wp2_with fail
    refine wp_loop_ghost_k (SprF w fb rb wb g p cap (some ⟨gb, go, none⟩) A B zs s) _ ⟨[], _, _, 0, rfl, hspr.out, HSEP.out, HBEL.out, _, _, _, _, _, _, _, _, _, _, _, _, _, _, _, _, _, _, _, _, _, _, _, _, _, _, _, _, _, _, _, _, _, _, _, _, _, _, _, _, _, _, _, _, _, _, _, _, _, _, _, rfl⟩ ?_
    clear hspr HSEP HBEL
    rintro k ac W hI J K2 hJ hK2
    obtain ⟨Ds, ds, m, L, hkk, hspr, hsep, hbel, x0, x1, x3, x4, x7, x8, x9, x10, x11, x12, x13, x14, x15, x16, x17, x18, x19, x20, x21, x22, x23, x24, x25, x26, x27, x28, x29, x30, x31, x32, x33, x34, x35, x36, x37, x38, x39, x40, x41, x42, x43, x44, x45, x46, x47, x48, x49, x50, x51, x52, x53, rfl⟩ := hI
    obtain ⟨⟨-, -, hf0⟩, hrc, hwc⟩ := spL_cells hsep
    have hfew := hspr.few
    have hlen : ds.length = zs.length := hspr.len
    have hml : m.length ≤ 1000000 := by have : (gph A B zs).N = zs.length := rfl; omega
    have hcall := pop_sep (l1 := [RowO 36 1 (.slice (some ⟨g, 0, none⟩) zs.length zs.length) zs.length (cellsU ds)]) hsep hml
    have hzf := blk_lt hf0
    cases m with
    | nil =>
      go_wp2_with fail
      refine hcall.mono ?_
      rintro e W1 ⟨rfl, hsep1, hb1⟩
      have hfar := Lib.hid (hspr.far HG.out)
      have hbel1 := Lib.hid (hbel.trans hb1)
      obtain ⟨-, hrc1, -⟩ := spL_cells hsep1
      have zr1 := blk_lt hrc1
      have HS1 := Lib.hid hsep1
      clear hcall hspr hsep hbel hsep1 hb1 hf0 hrc hwc hzf hfew
      have hsz := bl_al (bl0 W1) (.cells #[.int .u64 (firstT []).F, .int .u64 (firstT []).H, .int .i64 (firstT []).Y, .int .i64 (firstT []).X] 117)
      have hsep9 := Lib.hid (HS1.out.below hsz)
      have hbel9 := Lib.hid (bl_tr hbel1.out hsz)
      clear hsz
      go_wp2_with fail
      rw [Exit.noGoto_ret]
      generalize W1.alloc _ = W9 at *
      obtain ⟨hnd, hdm⟩ := Sep.marks (l := [_, _, _, _, _]) hsep9.out
      obtain ⟨hrow9, -, -, -, -⟩ := Sep.row (l1 := []) hsep9.out
      refine leaves_marks Ds W9 ((List.reverse_perm Ds).nodup_iff.1 hnd) (fun D hD => (hdm D (by simpa using hD)).1) (fun W' q1 q2 q3 => ?_)
      have hgD : g ∉ Ds := fun hD => by
        have e1 := (hdm g (by simpa using hD)).1
        have e2 := hrow9 0 _ (cellsU_at (by omega))
        simp [World.cell?, e1] at e2
      refine ⟨.slice (some ⟨g, 0, none⟩) zs.length zs.length, by simp [results, Tryd.results54, go_sem], g, ds, rfl, hlen, .inr ⟨g, 0, rfl, fun i v hv => ?_⟩, hfar.out, ?_⟩
      · have hc := hrow9 i (.int .u64 v) (by simp [cellsU, hv])
        rw [Nat.zero_add]
        exact (World.cell?_of_block (a := ⟨g, i, none⟩) (q3 g hgD)).trans hc
      · have h9 := hbel9.out
        exact ⟨q2.1.symm.trans h9.os, q2.2.1.symm.trans h9.tape, q2.2.2.symm.trans h9.output, by rw [q1]; exact h9.size, fun k hk => (q3 k (fun hD => by have := (hdm k (by simpa using hD)).2; omega)).trans (h9.block k hk)⟩
    | cons t0 m0 =>
      obtain ⟨b, hft, hbN, hspr2, htk, hcnt⟩ := hspr.pop (by simp)
      rw [hft] at hcall
      obtain ⟨m2, hm2⟩ : ∃ m2, popM (t0 :: m0) = m2 := ⟨_, rfl⟩
      rw [hm2] at hcall hspr2 htk hcnt
      obtain ⟨dF, hdF⟩ : ∃ dF, atD ds b = dF := ⟨_, rfl⟩
      rw [hdF] at hcall
      try simp only [List.isEmpty_cons, Bool.not_false] at hcall
      have HX := Lib.hid (show untold ds + m2.length < k by omega)
      have HSP := Lib.hid hspr2
      have HTK := Lib.hid htk
      have HDF := Lib.hid hdF
      clear hspr hspr2 htk hdF hft hm2 hcnt hkk hfew
      go_wp2_with fail
      refine hcall.mono ?_
      rintro e W1 ⟨rfl, hsep1, hb1⟩
      obtain ⟨⟨hf00, hf01, hf02⟩, hrc1, hwc1⟩ := spL_cells hsep1
      have hbel1 := hbel.trans hb1
      have hsep2 : Sep (W1.alloc (.cells #[.int .u64 dF, .int .u64 0, .int .i64 0, .int .i64 0] 117)) w.heap.size (spL fb rb wb g p cap (some ⟨gb, go, none⟩) A B zs.length ds m2 (Ds.reverse.map MarkO ++ [CellsO W1.heap.size #[.int .u64 dF, .int .u64 0, .int .i64 0, .int .i64 0] 117])) := hsep1.box _ _
      have hzf1 := blk_lt hf00
      clear hcall hsep hb1 hf0 hrc hwc hzf hsep1 hbel
      have hbel2 := bl_al hbel1 (.cells #[.int .u64 dF, .int .u64 0, .int .i64 0, .int .i64 0] 117)
      go_wp2_with fail
      obtain ⟨W2, hW2⟩ : ∃ W2, W1.alloc (.cells #[.int .u64 dF, .int .u64 0, .int .i64 0, .int .i64 0] 117) = W2 := ⟨_, rfl⟩
      obtain ⟨kb, hkb⟩ : ∃ kb, W1.heap.size = kb := ⟨_, rfl⟩
      rw [hW2] at hsep2 hbel2 ⊢
      rw [hkb] at hsep2 ⊢
      clear hW2 hkb hf00 hf01 hf02 hrc1 hwc1 hbel1 hzf1
      refine (beside_mk _ _ _ _ _ _ _).mono ?_
      rintro e W3 ⟨rfl, hbes, hz3, hb3⟩
      have hsep3 : Sep W3 w.heap.size (spL fb rb wb g p cap (some ⟨gb, go, none⟩) A B zs.length ds m2 (Ds.reverse.map MarkO ++ [CellsO kb #[.int .u64 dF, .int .u64 0, .int .i64 0, .int .i64 0] 117, HolesT [W2.heap.size, W2.heap.size + 1]])) := by
        have h := hsep2.holeT hb3 (T := [W2.heap.size, W2.heap.size + 1]) (fun k hk => by simp at hk; omega)
        simpa only [spL, List.cons_append, List.append_assoc, List.nil_append] using h
      have hbel3 := bl_tr hbel2 hb3
      obtain ⟨pI, hpI⟩ : ∃ pI, W2.heap.size = pI := ⟨_, rfl⟩
      rw [hpI] at hbes hz3 hsep3 ⊢
      have hz4 : pI + 2 ≤ W3.heap.size := by omega
      clear hb3 hsep2 hbel2 hpI hz3
      go_wp2_with fail
      refine wpIn_wide.1 (range_s pI 2 88 #[.pointer (some ⟨pI, 0, none⟩), .pointer (some ⟨pI + 1, 0, none⟩)] (nbO A B zs b) (fun W => RowH W (some ⟨gb, go, none⟩) zs ∧ Stp W) (iter_beside pI A B _ cap zs b hm HN.out hbN W3 hbes) rfl (fun _ => rfl) hz4 (enters_of Tryd.func88 (by kernel_rfl) rfl)
        (fun C pre W => ∃ ds' m', BesI w fb rb wb g p cap (some ⟨gb, go, none⟩) A B zs s Ds kb b (untold ds + m2.length) [pI, pI + 1] [W3.heap.size, W3.heap.size + 1, C] pre W dF ds' m')
        (fun _ _ _ _ => False) ?hI (fun _ _ _ _ _ _ h => h.elim) ?hIp ?hIR (fun _ _ _ _ h => h.elim) ?h0
        (fun x a' W => ∃ y0 y1 y3 y4 y7 y9 y11 y12 y13 y14 y15 y16 y17 y18 y19 y20 y21 y22 y23 y24 y25 y26 y27 y28 y29 y30 y31 y32 y33 y34 y35 y36 y37 y38 y39 y40 y41 y42 y43 y44 y45 y46 y47 y48 y49 y50 y51 y52 y53 : Value, a' = { tmps := #[y0, y1, .pointer (some ⟨fb, 0, none⟩), y3, y4, .pointer (some ⟨rb, 0, none⟩), .pointer (some ⟨wb, 0, none⟩), y7, .pointer (some ⟨kb, 0, none⟩), y9, .int .i64 (x : Int), y11, y12, y13, y14, y15, y16, y17, y18, y19, y20, y21, y22, y23, y24, y25, y26, y27, y28, y29, y30, y31, y32, y33, y34, y35, y36, y37, y38, y39, y40, y41, y42, y43, y44, y45, y46, y47, y48, y49, y50, y51, y52, y53], defers := [] }) ?ax ?assign ?body ?done (fun _ _ _ _ _ h => h.elim))
      case hI =>
        rintro C pre A' B' row ⟨ds', m', h⟩ hg hr
        exact ⟨ds', m', h.turn2 hg (fun r e => by have := hr r e; simp; omega)⟩
      case hIp =>
        rintro C pre A' B' row ⟨ds', m', h⟩ hg hr
        exact ⟨ds', m', h.turn1 hg (fun r e => by have := hr r e; simp; omega)⟩
      case hIR =>
        rintro C pre W ⟨ds', m', h⟩
        exact ⟨HRW.out.below h.bel, hst.below h.bel⟩
      case h0 =>
        intro W' C hb hC1 hC2
        refine ⟨ds, m2, HSP.out.weak (fun j i _ _ _ e => ⟨e, by simp⟩), HTK.out, HDF.out, rfl, ?_, bl_tr hbel3 hb⟩
        have h := hsep3.holeT hb (T := [W3.heap.size, W3.heap.size + 1, C]) (fun k hk => by simp at hk; omega)
        simpa only [spL, List.cons_append, List.append_assoc, List.nil_append] using h
      case ax =>
        rintro x a' _ A' B' row ⟨y0, y1, y3, y4, y7, y9, y11, y12, y13, y14, y15, y16, y17, y18, y19, y20, y21, y22, y23, y24, y25, y26, y27, y28, y29, y30, y31, y32, y33, y34, y35, y36, y37, y38, y39, y40, y41, y42, y43, y44, y45, y46, y47, y48, y49, y50, y51, y52, y53, h⟩ hg hr
        exact ⟨_, _, _, _, _, _, _, _, _, _, _, _, _, _, _, _, _, _, _, _, _, _, _, _, _, _, _, _, _, _, _, _, _, _, _, _, _, _, _, _, _, _, _, _, _, _, _, _, _, h⟩
      case assign =>
        rintro C pre x W K hC hI hK
        have HK := Lib.hid hK
        have HI := Lib.hid hI
        clear hK hI
        simp [encI]
        gi_wp2
        exact HK.out _ W (KP.refl _ _ _) (KP.refl _ _ _) (KP.refl _ _ _) HI.out ⟨_, _, _, _, _, _, _, _, _, _, _, _, _, _, _, _, _, _, _, _, _, _, _, _, _, _, _, _, _, _, _, _, _, _, _, _, _, _, _, _, _, _, _, _, _, _, _, _, _, rfl⟩
      case body =>
        rintro C pre x a' W hC ⟨lr, hlr⟩ ⟨ds', m', hI⟩ ⟨y0, y1, y3, y4, y7, y9, y11, y12, y13, y14, y15, y16, y17, y18, y19, y20, y21, y22, y23, y24, y25, y26, y27, y28, y29, y30, y31, y32, y33, y34, y35, y36, y37, y38, y39, y40, y41, y42, y43, y44, y45, y46, y47, y48, y49, y50, y51, y52, y53, rfl⟩ hpre
        obtain ⟨hxn, hxo⟩ := (mem_nbO HN.out).1 (hpre.subset (List.mem_append_right _ (List.mem_singleton.2 rfl)))
        have hxl : x < zs.length := hxo.1
        have hR := hI.spr.reach HG.out hI.tk hxo hxn
        have hval := hI.spr.val b
        have hkx := HG.out.pos x
        have hfewI := hI.spr.few
        have hlenI : ds'.length = zs.length := hI.spr.len
        have hNN : (gph A B zs).N = zs.length := rfl
        have hkk2 : (gph A B zs).k x = zs.getD x 0 := rfl
        have hta := hI.tk.1
        rw [hI.dF] at hR hval hta
        rw [hkk2] at hR hkx
        rw [hNN] at hval hfewI
        obtain ⟨z, hzz⟩ : ∃ z, zs.getD x 0 = z := ⟨_, rfl⟩
        rw [hzz] at hR hkx
        have hun := untold_le ds'
        have hdb : 0 ≤ dF ∧ dF ≤ 4294901760 := by omega
        have hadd : addC dF z = dF + z := by unfold addC; rw [if_pos (by omega)]
        have hDr := bl_dr (bl0 W)
        have hsF := hI.fix.below hDr
        obtain ⟨⟨-, -, f2⟩, r0, w0⟩ := spL_cells hsF
        have kb0 := (sep_unfix hsF).2.2.2
        obtain ⟨gb', go', e, q⟩ := (HRW.out.below (hI.bel.trans (hDr.mono hI.bel.size))).cell hxl
        cases e
        rw [getD_get hxl, hzz] at q
        have hml : m'.length ≤ 1000000 := by omega
        have hcall := reach_sep p g zs.length x (dF + z) ds' m' W.drew w.heap.size _ (by rw [hlenI]; exact hsF) (by omega) (by omega) hml
        rw [hlenI] at hcall
        have hx0 : (0 : Int) ≤ (x : Int) := by omega
        have hx1 : (x : Int) < (zs.length : Int) := by omega
        have hu1 : inU dF := ⟨by omega, by omega⟩
        have hu2 : inU z := ⟨by omega, by omega⟩
        have hwz : IntKind.u64.wrap z = z := IntWalk.u64_in _ (by omega)
        have hac := fun W => add_any dF z W hu1 hu2
        rw [hadd] at hac
        have HR := Lib.hid hR
        have HI := Lib.hid hI
        have HZ := Lib.hid hzz
        have hsz0 := hI.bel.size
        clear hR hval hta hun hzz hkk2 hNN hfewI hlenI hxn hI hsF hadd hml hu1 hu2
        gi_wp2
        refine ordS_begin (S := (fun w' : World => w'.cell? ⟨rb, 0, none⟩ = some (.slice (some ⟨g, 0, none⟩) zs.length zs.length) ∧ w'.cell? ⟨wb, 0, none⟩ = some (.pointer (some ⟨p, 0, none⟩)) ∧ w'.cell? ⟨kb, 0, none⟩ = some (.int .u64 dF) ∧ w'.cell? ⟨fb, 2, none⟩ = some (.slice (some ⟨gb, go, none⟩) zs.length cap) ∧ w'.cell? ⟨gb, go + x, none⟩ = some (.int .u16 z))) (by kernel_rfl) ⟨r0, w0, kb0, f2, q⟩ (fun hH => ?_)
        first
          | (refine' ordS_take (i := 0) (oi := { dst := some 37, op := Op.load 42 (Operand.tmp 5), type := 42, pos := _, after := #[], guard := none }) (v := _) rfl (by kernel_rfl) (by kernel_rfl) (by kernel_rfl) (by kernel_rfl) (fun _ _ _ h => h) (by assumption) (Or.inl ⟨by rfl, ?hy122⟩) (fun _ => rfl) ?rest122
             case hy122 => (intro w hSw; (try dsimp only at hSw); go_simp; try with_reducible rfl))
          | (refine ordS_take (i := 0) (oi := { dst := some 37, op := Op.load 42 (Operand.tmp 5), type := 42, pos := _, after := #[], guard := none }) (v := undef) rfl (by kernel_rfl) (by kernel_rfl) (by kernel_rfl) (by kernel_rfl) (fun _ _ _ h => h) (by assumption) (Or.inr ⟨by rfl, rfl⟩) (fun _ => rfl) ?_)
        try simp only [Act.put, List.setIfInBounds_toArray, List.set_cons_zero, List.set_cons_succ]
        first
          | (refine' ordS_take (i := 1) (oi := { dst := some 38, op := Op.load 113 (Operand.tmp 6), type := 113, pos := _, after := #[], guard := none }) (v := _) rfl (by kernel_rfl) (by kernel_rfl) (by kernel_rfl) (by kernel_rfl) (fun _ _ _ h => h) (by assumption) (Or.inl ⟨by rfl, ?hy123⟩) (fun _ => rfl) ?rest123
             case hy123 => (intro w hSw; (try dsimp only at hSw); go_simp; try with_reducible rfl))
          | (refine ordS_take (i := 1) (oi := { dst := some 38, op := Op.load 113 (Operand.tmp 6), type := 113, pos := _, after := #[], guard := none }) (v := undef) rfl (by kernel_rfl) (by kernel_rfl) (by kernel_rfl) (by kernel_rfl) (fun _ _ _ h => h) (by assumption) (Or.inr ⟨by rfl, rfl⟩) (fun _ => rfl) ?_)
        try simp only [Act.put, List.setIfInBounds_toArray, List.set_cons_zero, List.set_cons_succ]
        first
          | (refine' ordS_take (i := 2) (oi := { dst := some 39, op := Op.move (Operand.tmp 10), type := 3, pos := _, after := #[], guard := none }) (v := _) rfl (by kernel_rfl) (by kernel_rfl) (by kernel_rfl) (by kernel_rfl) (fun _ _ _ h => h) (by assumption) (Or.inl ⟨by rfl, ?hy124⟩) (fun _ => rfl) ?rest124
             case hy124 => (intro w hSw; (try dsimp only at hSw); go_simp; try with_reducible rfl))
          | (refine ordS_take (i := 2) (oi := { dst := some 39, op := Op.move (Operand.tmp 10), type := 3, pos := _, after := #[], guard := none }) (v := undef) rfl (by kernel_rfl) (by kernel_rfl) (by kernel_rfl) (by kernel_rfl) (fun _ _ _ h => h) (by assumption) (Or.inr ⟨by rfl, rfl⟩) (fun _ => rfl) ?_)
        try simp only [Act.put, List.setIfInBounds_toArray, List.set_cons_zero, List.set_cons_succ]
        first
          | (refine' ordS_take (i := 3) (oi := { dst := some 40, op := Op.fieldAddr 117 (Operand.tmp 8) 0, type := 0, pos := _, after := #[], guard := none }) (v := _) rfl (by kernel_rfl) (by kernel_rfl) (by kernel_rfl) (by kernel_rfl) (fun _ _ _ h => h) (by assumption) (Or.inl ⟨by rfl, ?hy125⟩) (fun _ => rfl) ?rest125
             case hy125 => (intro w hSw; (try dsimp only at hSw); go_simp; try with_reducible rfl))
          | (refine ordS_take (i := 3) (oi := { dst := some 40, op := Op.fieldAddr 117 (Operand.tmp 8) 0, type := 0, pos := _, after := #[], guard := none }) (v := undef) rfl (by kernel_rfl) (by kernel_rfl) (by kernel_rfl) (by kernel_rfl) (fun _ _ _ h => h) (by assumption) (Or.inr ⟨by rfl, rfl⟩) (fun _ => rfl) ?_)
        try simp only [Act.put, List.setIfInBounds_toArray, List.set_cons_zero, List.set_cons_succ]
        first
          | (refine' ordS_take (i := 4) (oi := { dst := some 41, op := Op.load 36 (Operand.tmp 40), type := 36, pos := _, after := #[{ on := 3, ground := Ground.data }], guard := none }) (v := _) rfl (by kernel_rfl) (by kernel_rfl) (by kernel_rfl) (by kernel_rfl) (fun _ _ _ h => h) (by assumption) (Or.inl ⟨by rfl, ?hy126⟩) (fun _ => rfl) ?rest126
             case hy126 => (intro w hSw; (try dsimp only at hSw); go_simp; try with_reducible rfl))
          | (refine ordS_take (i := 4) (oi := { dst := some 41, op := Op.load 36 (Operand.tmp 40), type := 36, pos := _, after := #[{ on := 3, ground := Ground.data }], guard := none }) (v := undef) rfl (by kernel_rfl) (by kernel_rfl) (by kernel_rfl) (by kernel_rfl) (fun _ _ _ h => h) (by assumption) (Or.inr ⟨by rfl, rfl⟩) (fun _ => rfl) ?_)
        try simp only [Act.put, List.setIfInBounds_toArray, List.set_cons_zero, List.set_cons_succ]
        first
          | (refine' ordS_take (i := 5) (oi := { dst := some 42, op := Op.fieldAddr 26 (Operand.tmp 2) 1, type := 0, pos := _, after := #[], guard := none }) (v := _) rfl (by kernel_rfl) (by kernel_rfl) (by kernel_rfl) (by kernel_rfl) (fun _ _ _ h => h) (by assumption) (Or.inl ⟨by rfl, ?hy127⟩) (fun _ => rfl) ?rest127
             case hy127 => (intro w hSw; (try dsimp only at hSw); go_simp; try with_reducible rfl))
          | (refine ordS_take (i := 5) (oi := { dst := some 42, op := Op.fieldAddr 26 (Operand.tmp 2) 1, type := 0, pos := _, after := #[], guard := none }) (v := undef) rfl (by kernel_rfl) (by kernel_rfl) (by kernel_rfl) (by kernel_rfl) (fun _ _ _ h => h) (by assumption) (Or.inr ⟨by rfl, rfl⟩) (fun _ => rfl) ?_)
        try simp only [Act.put, List.setIfInBounds_toArray, List.set_cons_zero, List.set_cons_succ]
        first
          | (refine' ordS_take (i := 6) (oi := { dst := some 43, op := Op.load 24 (Operand.tmp 42), type := 24, pos := _, after := #[{ on := 5, ground := Ground.data }], guard := none }) (v := _) rfl (by kernel_rfl) (by kernel_rfl) (by kernel_rfl) (by kernel_rfl) (fun _ _ _ h => h) (by assumption) (Or.inl ⟨by rfl, ?hy128⟩) (fun _ => rfl) ?rest128
             case hy128 => (intro w hSw; (try dsimp only at hSw); go_simp; try with_reducible rfl))
          | (refine ordS_take (i := 6) (oi := { dst := some 43, op := Op.load 24 (Operand.tmp 42), type := 24, pos := _, after := #[{ on := 5, ground := Ground.data }], guard := none }) (v := undef) rfl (by kernel_rfl) (by kernel_rfl) (by kernel_rfl) (by kernel_rfl) (fun _ _ _ h => h) (by assumption) (Or.inr ⟨by rfl, rfl⟩) (fun _ => rfl) ?_)
        try simp only [Act.put, List.setIfInBounds_toArray, List.set_cons_zero, List.set_cons_succ]
        first
          | (refine' ordS_take (i := 7) (oi := { dst := some 44, op := Op.move (Operand.tmp 10), type := 3, pos := _, after := #[], guard := none }) (v := _) rfl (by kernel_rfl) (by kernel_rfl) (by kernel_rfl) (by kernel_rfl) (fun _ _ _ h => h) (by assumption) (Or.inl ⟨by rfl, ?hy129⟩) (fun _ => rfl) ?rest129
             case hy129 => (intro w hSw; (try dsimp only at hSw); go_simp; try with_reducible rfl))
          | (refine ordS_take (i := 7) (oi := { dst := some 44, op := Op.move (Operand.tmp 10), type := 3, pos := _, after := #[], guard := none }) (v := undef) rfl (by kernel_rfl) (by kernel_rfl) (by kernel_rfl) (by kernel_rfl) (fun _ _ _ h => h) (by assumption) (Or.inr ⟨by rfl, rfl⟩) (fun _ => rfl) ?_)
        try simp only [Act.put, List.setIfInBounds_toArray, List.set_cons_zero, List.set_cons_succ]
        first
          | (refine' ordS_take (i := 8) (oi := { dst := some 45, op := Op.indexAddr 24 (Operand.tmp 43) (Operand.tmp 44), type := 0, pos := _, after := #[{ on := 6, ground := Ground.data }, { on := 7, ground := Ground.data }], guard := none }) (v := _) rfl (by kernel_rfl) (by kernel_rfl) (by kernel_rfl) (by kernel_rfl) (fun _ _ _ h => h) (by assumption) (Or.inl ⟨by rfl, ?hy130⟩) (fun _ => rfl) ?rest130
             case hy130 => (intro w hSw; (try dsimp only at hSw); go_simp; try with_reducible rfl))
          | (refine ordS_take (i := 8) (oi := { dst := some 45, op := Op.indexAddr 24 (Operand.tmp 43) (Operand.tmp 44), type := 0, pos := _, after := #[{ on := 6, ground := Ground.data }, { on := 7, ground := Ground.data }], guard := none }) (v := undef) rfl (by kernel_rfl) (by kernel_rfl) (by kernel_rfl) (by kernel_rfl) (fun _ _ _ h => h) (by assumption) (Or.inr ⟨by rfl, rfl⟩) (fun _ => rfl) ?_)
        try simp only [Act.put, List.setIfInBounds_toArray, List.set_cons_zero, List.set_cons_succ]
        first
          | (refine' ordS_take (i := 9) (oi := { dst := some 46, op := Op.load 64 (Operand.tmp 45), type := 64, pos := _, after := #[{ on := 8, ground := Ground.data }], guard := none }) (v := _) rfl (by kernel_rfl) (by kernel_rfl) (by kernel_rfl) (by kernel_rfl) (fun _ _ _ h => h) (by assumption) (Or.inl ⟨by rfl, ?hy131⟩) (fun _ => rfl) ?rest131
             case hy131 => (intro w hSw; (try dsimp only at hSw); go_simp; try with_reducible rfl))
          | (refine ordS_take (i := 9) (oi := { dst := some 46, op := Op.load 64 (Operand.tmp 45), type := 64, pos := _, after := #[{ on := 8, ground := Ground.data }], guard := none }) (v := undef) rfl (by kernel_rfl) (by kernel_rfl) (by kernel_rfl) (by kernel_rfl) (fun _ _ _ h => h) (by assumption) (Or.inr ⟨by rfl, rfl⟩) (fun _ => rfl) ?_)
        try simp only [Act.put, List.setIfInBounds_toArray, List.set_cons_zero, List.set_cons_succ]
        first
          | (refine' ordS_take (i := 10) (oi := { dst := some 47, op := Op.convert 64 36 (Operand.tmp 46), type := 36, pos := _, after := #[{ on := 9, ground := Ground.data }], guard := none }) (v := _) rfl (by kernel_rfl) (by kernel_rfl) (by kernel_rfl) (by kernel_rfl) (fun _ _ _ h => h) (by assumption) (Or.inl ⟨by rfl, ?hy132⟩) (fun _ => rfl) ?rest132
             case hy132 => (intro w hSw; (try dsimp only at hSw); go_simp; try with_reducible rfl))
          | (refine ordS_take (i := 10) (oi := { dst := some 47, op := Op.convert 64 36 (Operand.tmp 46), type := 36, pos := _, after := #[{ on := 9, ground := Ground.data }], guard := none }) (v := undef) rfl (by kernel_rfl) (by kernel_rfl) (by kernel_rfl) (by kernel_rfl) (fun _ _ _ h => h) (by assumption) (Or.inr ⟨by rfl, rfl⟩) (fun _ => rfl) ?_)
        try simp only [Act.put, List.setIfInBounds_toArray, List.set_cons_zero, List.set_cons_succ]
        refine ordS_one (i := 11) (o := { dst := some 48, op := Op.call { callee := Callee.value (Operand.func 46), args := #[Operand.tmp 41, Operand.tmp 47], argTypes := #[36, 36] }, type := 36, pos := _, after := #[{ on := 4, ground := Ground.data }, { on := 10, ground := Ground.data }], guard := none }) (by kernel_rfl) rfl (by rfl) (fun K hK => ?_)
        go_simp
        refine ⟨trivial, ?_⟩
        with_reducible refine (CallsIn.inRound _ (callsIn_wide.2 (hac _))).mono ?_
        rintro e W6 ⟨rfl, rfl⟩
        refine hK _ _ hH ?_
        clear hK K
        try simp only [Act.put, List.setIfInBounds_toArray, List.set_cons_zero, List.set_cons_succ]
        refine ordS_one (i := 12) (o := { dst := some 49, op := Op.call { callee := Callee.value (Operand.func 74), args := #[Operand.tmp 37, Operand.tmp 38, Operand.tmp 39, Operand.tmp 48], argTypes := #[42, 113, 3, 36] }, type := 0, pos := _, after := #[{ on := 0, ground := Ground.data }, { on := 1, ground := Ground.data }, { on := 2, ground := Ground.data }, { on := 11, ground := Ground.data }, { on := 11, ground := Ground.chain }], guard := none }) (by kernel_rfl) rfl (by rfl) (fun K hK => ?_)
        go_simp
        refine ⟨trivial, ?_⟩
        with_reducible refine (CallsIn.inRound _ (callsIn_wide.2 hcall)).mono ?_
        rintro e W6 ⟨rfl, hsF6, hb6⟩
        obtain ⟨hs6, k1, k2, kb6⟩ := sep_unfix (ds := if atD ds' x = 18446744073709551615 then ds'.set x (dF + z) else ds') (m := if atD ds' x = 18446744073709551615 then pushM m' ⟨(x : Int), dF + z, 0, 0, 0⟩ else m') hsF6
        obtain ⟨⟨-, -, f26⟩, r06, w06⟩ := spL_cells hs6
        have hbel6 : Below w.heap.size w W6 := (HI.out.bel.trans ((bl_dr (bl0 W)).mono hsz0)).trans hb6
        obtain ⟨gb', go', e, q6⟩ := (HRW.out.below hbel6).cell hxl
        cases e
        rw [getD_get hxl, HZ.out] at q6
        have HS6 := Lib.hid hs6
        have HB6 := Lib.hid hbel6
        have HK1 := Lib.hid k1
        have HK2 := Lib.hid k2
        have hz6 : W.heap.size ≤ W6.heap.size := hb6.size
        refine hK _ _ ⟨r06, w06, kb6, f26, q6⟩ ?_
        clear hK K hH hsF6 hs6 k1 k2 hbel6 hb6 hcall hac r0 w0 f2 kb0 q r06 w06 f26 kb6 q6 hDr
        try simp only [Act.put, List.setIfInBounds_toArray, List.set_cons_zero, List.set_cons_succ]
        refine ordS_done (by kernel_rfl) ?_
        gi_wp2
        refine ⟨⟨hz6, fun j h1 h2 => HK2.out j (by simp; omega)⟩, ⟨hz6, fun j h1 h2 => HK1.out j (by simp; omega)⟩, ⟨hz6, fun j h1 h2 => HK2.out j (by simp; omega)⟩, ?_⟩
        have hs6 := HS6.out
        by_cases hd : atD ds' x = 18446744073709551615
        · obtain ⟨p1, p2, p3, p4, p5⟩ := HR.out.2 hd
          rw [if_pos hd, if_pos hd, show pushM m' ⟨(x : Int), dF + z, 0, 0, 0⟩ = m' ++ [⟨(x : Int), dF + z, 0, 0, 0⟩] by unfold pushM; rw [p5]; rfl] at hs6
          refine ⟨_, _, p1.weak (fun j i _ _ _ h => ⟨h.1.1, fun hm => ?_⟩), p2, p3, ?_, hs6, HB6.out⟩
          · rcases List.mem_append.1 hm with hm | hm
            · exact h.1.2 hm
            · exact h.2 ⟨h.1.1, List.mem_singleton.1 hm⟩
          · have := HI.out.M
            rw [List.length_append]
            simp
            omega
        · rw [if_neg hd, if_neg hd] at hs6
          refine ⟨_, _, (show Spr (gph A B zs) s ds' m' (atD ds' b) (fun j i => (j = b ∧ i ∉ pre) ∧ ¬ (j = b ∧ i = x)) by rw [HI.out.dF]; exact HR.out.1 hd).weak (fun j i _ _ _ h => ⟨h.1.1, fun hm => ?_⟩), HI.out.tk, HI.out.dF, HI.out.M, hs6, HB6.out⟩
          rcases List.mem_append.1 hm with hm | hm
          · exact h.1.2 hm
          · exact h.2 ⟨h.1.1, List.mem_singleton.1 hm⟩
      case done =>
        rintro C W ⟨ds', m', hI⟩ hdef
        have hsp9 := hI.spr.weak (E' := fun _ _ => False) (fun j i _ ho hi h => h.2 ((mem_nbO HN.out).2 ⟨h.1 ▸ hi, ho⟩))
        have hs9 := Sep.swap2 (W := W) (B := w.heap.size) (o' := MarkO W3.heap.size) (l1 := spL fb rb wb g p cap (some ⟨gb, go, none⟩) A B zs.length ds' m' (Ds.reverse.map MarkO ++ [CellsO kb #[.int .u64 dF, .int .u64 0, .int .i64 0, .int .i64 0] 117, HolesT [pI, pI + 1]])) (l2 := []) (o := HolesT [W3.heap.size, W3.heap.size + 1, C]) (by
          have h1 := hI.sep
          simpa only [spL, List.cons_append, List.append_assoc, List.nil_append] using h1) (fun S hS => ⟨fun k => k = W3.heap.size, ⟨hdef, fun _ => Iff.rfl⟩, fun k hk => (hS.2 k).2 (by simp [hk])⟩)
        have hs8 := Sep.drop (W := W) (B := w.heap.size) (l1 := spL fb rb wb g p cap (some ⟨gb, go, none⟩) A B zs.length ds' m' (Ds.reverse.map MarkO)) (l2 := [HolesT [pI, pI + 1], MarkO W3.heap.size]) (o := CellsO kb #[.int .u64 dF, .int .u64 0, .int .i64 0, .int .i64 0] 117) (by
          simpa only [spL, List.cons_append, List.append_assoc, List.nil_append] using hs9)
        have hs7 := Sep.drop (W := W) (B := w.heap.size) (l1 := spL fb rb wb g p cap (some ⟨gb, go, none⟩) A B zs.length ds' m' (Ds.reverse.map MarkO)) (l2 := [MarkO W3.heap.size]) (o := HolesT [pI, pI + 1]) (by
          simpa only [spL, List.cons_append, List.append_assoc, List.nil_append] using hs8)
        have hs6 : Sep W w.heap.size (spL fb rb wb g p cap (some ⟨gb, go, none⟩) A B zs.length ds' m' ((W3.heap.size :: Ds).reverse.map MarkO)) := by
          rw [List.reverse_cons, List.map_append]
          simpa only [spL, List.cons_append, List.append_assoc, List.nil_append, List.map_cons, List.map_nil] using hs7
        have HM := Lib.hid hI.M
        have HB := Lib.hid hI.bel
        have HS := Lib.hid hs6
        have HP := Lib.hid hsp9
        clear hI hsp9 hs9 hs8 hs7 hs6
        go_wp2
        refine Handed.intro (untold ds' + m'.length) (by rw [HM.out]; exact HX.out) ?_
        refine hJ _ _ _ ?_
        exact ⟨W3.heap.size :: Ds, ds', m', _, rfl, HP.out, HS.out, HB.out, _, _, _, _, _, _, _, _, _, _, _, _, _, _, _, _, _, _, _, _, _, _, _, _, _, _, _, _, _, _, _, _, _, _, _, _, _, _, _, _, _, _, _, _, _, _, _, _, _, _, _, rfl⟩
end Go.Proofs.YtgbhafadibdmcaaDoor
