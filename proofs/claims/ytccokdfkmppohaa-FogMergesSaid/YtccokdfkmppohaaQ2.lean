/- Texts joined: Td, Tf, Oz, Te, Tg, Th, Ti, Tj, Tl, Tm, Tn, To, Tp, Wo, Sk, Tq, Tr, Si, Ts, Tk, Tt. -/
import Derived.Test.YtccokdfkmppohaaQ1
import Derived.RangeFuncBox
import Derived.Test.YtccokdfkmppohaaRows
import Derived.ProofKit
import Derived.OpenShut
import Derived.Stop.Joined
import Derived.Lib.SmallJoins
import Derived.Deep.SlicePairs
import Derived.Deep.Matrix
import Derived.Laws.AppendOwnNone
/- Fog: View. -/
namespace Go.Proofs.Ytccokdfkmppohaa
open Go.RowKit

/-- The view's costs. -/
def viewL (ms : List (Option Int)) : List Int := ms.map (fun o => o.getD 1)
theorem viewL_len (ms : List (Option Int)) : (viewL ms).length = ms.length := by simp [viewL]
/-- The view behind k rounds. -/
def viewK (ms : List (Option Int)) (k : Nat) : List Int := viewL (ms.take k) ++ List.replicate (ms.length - k) 0
theorem viewK_zero (ms : List (Option Int)) : viewK ms 0 = List.replicate ms.length 0 := by simp [viewK, viewL]
theorem viewK_all (ms : List (Option Int)) : viewK ms ms.length = viewL ms := by simp [viewK]
theorem viewK_len {ms : List (Option Int)} {k : Nat} (hk : k ≤ ms.length) : (viewK ms k).length = ms.length := by simp [viewK, viewL]; omega
theorem viewK_set {ms : List (Option Int)} {k : Nat} (hk : k < ms.length) : (viewK ms k).set k (ms[k].getD 1) = viewK ms (k + 1) := by
  unfold viewK viewL
  rw [List.take_succ_eq_append_getElem hk, List.map_append, List.set_append_right _ _ (by simp; omega)]
  rw [show ms.length - k = (ms.length - (k + 1)) + 1 by omega, List.replicate_succ]
  simp [Nat.min_eq_left (Nat.le_of_lt hk)]
theorem two_allocs (W : World) (A B : Obj) : ((W.alloc A).alloc B).heap[W.heap.size]? = some A ∧ ((W.alloc A).alloc B).heap[W.heap.size + 1]? = some B := by
  refine ⟨?_, ?_⟩
  · rw [Below.heap_alloc _ _ _ (by simp), heap_alloc_new]
  · have h := heap_alloc_new (W.alloc A) B
    rw [World.size_alloc] at h
    exact h
theorem heap_al {W : World} {hv : Nat} {o : Obj} (h : W.heap[hv]? = some o) (X : Obj) : (W.alloc X).heap[hv]? = some o := ((bl_al (bl0 W) X).block hv (Array.getElem?_eq_some_iff.1 h).1).trans h
theorem grown_al (W : World) (X : Obj) (r : Option Nat) : W.grownBy (W.alloc X) r := grown_weak (grown_of_below (bl_al (bl0 W) X)) r
theorem heap_st {W : World} {hv b i : Nat} {o : Obj} (h : W.heap[hv]? = some o) (hne : b ≠ hv) (v : Value) : (W.setCell ⟨b, i, none⟩ v).heap[hv]? = some o := ((grown_set W b i v).block hv (Array.getElem?_eq_some_iff.1 h).1 (fun e => hne (by cases e; rfl))).trans h
theorem zeros_row (n : Nat) : (cellsH (List.replicate n 0)).toArray = Array.replicate n (Value.int .u16 0) := by simp [cellsH]
theorem row_set {W : World} {hv j : Nat} {l : List Int} {z : Int} (hq : W.heap[hv]? = some (.cells (cellsH l).toArray 53 (0, 0))) : (W.setCell ⟨hv, j, none⟩ (.int .u16 z)).heap[hv]? = some (.cells (cellsH (l.set j z)).toArray 53 (0, 0)) := by
  rw [heap_set_same _ _ _ _ _ _ hq]
  simp [cellsH, List.map_set]
theorem row_cell {W : World} {hv j : Nat} {l : List Int} (hq : W.heap[hv]? = some (.cells (cellsH l).toArray 53 (0, 0))) (hj : j < l.length) : W.cell? ⟨hv, j, none⟩ = some (.int .u16 l[j]) ∧ W.frozen? ⟨hv, j, none⟩ = false := by
  simp [World.cell?, World.frozen?, hq, cellsH, hj]
theorem make_u16 (n : Nat) (hn : n ≤ 1048576) (w : World) : (Instr.makeSlice 35 (.int .i64 (n : Int)) (.int .i64 (n : Int))).run Try.prog w = .ok (.slice (some ⟨w.heap.size, 0, none⟩) n n) (w.alloc (.cells (Array.replicate n (Value.int .u16 0)) 53)) := by
  have := run_make_row' (P := Try.prog) 35 53 (.int .u16 0) 2 Try.underlying35 Try.infoH rfl .i64 .i64 n (by omega) (by omega) w
  rw [made_eq] at this
  exact this

set_option maxHeartbeats 800000 in
theorem view_nil (w : World) :
    Calls Try.prog 20 #[.pointer none] w fun e w' => e = .returned (.agg #[.int .i64 0, .int .i64 0, .slice none 0 0]) ∧ Below w.heap.size w w' := by
  go_enter Try.func20, Try.ntmps20
  go_wp2
  refine bodyPost_ret (v := .agg #[.int .i64 0, .int .i64 0, .slice none 0 0]) (by simp [results, Try.results20, go_sem]) rfl ⟨rfl, ?_⟩
  exact bl_al (bl0 _) _

set_option maxRecDepth 100000 in
set_option maxHeartbeats 3200000 in
theorem view_any (B g h cap : Nat) (X Y : Int) (ms : List (Option Int)) (k : Int) (w : World) (m : FogAt w B g h cap X Y ms k) (hl : ms.length ≤ 1048576) :
    Calls Try.prog 20 #[.pointer (some ⟨g, 0, none⟩)] w fun e w' => ∃ h', e = .returned (.agg #[.int .i64 X, .int .i64 Y, .slice (some ⟨h', 0, none⟩) ms.length ms.length]) ∧ w'.heap[h']? = some (.cells (cellsH (viewL ms)).toArray 53 (0, 0)) ∧ w.heap.size ≤ h' ∧ Below w.heap.size w w' := by
  have c0 := m.c0
  have c1 := m.c1
  have c2 := m.c2
  have hr := m.row
  have hmk := fun w => make_u16 ms.length hl w
  obtain ⟨w0, hw0⟩ : ∃ w0, w.alloc (.cells #[.int .i64 0, .int .i64 0, .slice none 0 0] 37) = w0 := ⟨_, rfl⟩
  have hz0 : w0.heap.size = w.heap.size + 1 := by rw [← hw0]; simp
  have hb0 : Below w.heap.size w w0 := by rw [← hw0]; exact bl_al (bl0 _) _
  have r0 : w0.heap[w.heap.size]? = some (.cells #[.int .i64 0, .int .i64 0, .slice none 0 0] 37 (0, 0)) := by rw [← hw0]; exact heap_alloc_new _ _
  have HW := Lib.hid hw0
  clear hw0
  replace c0 := cell_later hb0 c0
  replace c1 := cell_later hb0 c1
  replace c2 := cell_later hb0 c2
  go_enter Try.func20, Try.ntmps20
  go_wp2
  rw [HW.out]
  have hA := bl_dr (bl0 w0)
  go_cut [3] from 9 to 19 (fun s wx => ∃ hv fv, s = .pointer (some ⟨fv, 0, none⟩) ∧ hv ≠ fv ∧ w0.heap.size ≤ hv ∧ w0.heap.size ≤ fv ∧ wx.heap[hv]? = some (.cells (cellsH (viewK ms 0)).toArray 53 (0, 0)) ∧ wx.heap[fv]? = some (.cells #[.int .i64 X, .int .i64 Y, .slice (some ⟨hv, 0, none⟩) ms.length ms.length] 37 (0, 0)) ∧ Below w0.heap.size w0 wx)
  case first =>
    go_region_held3 (fun w2 => w2.cell? ⟨g, 0, none⟩ = some (.int .i64 X) ∧ w2.cell? ⟨g, 1, none⟩ = some (.int .i64 Y) ∧ w2.cell? ⟨g, 2, none⟩ = some (.slice (some ⟨h, 0, none⟩) ms.length cap))
      (first | exact ⟨cell_later hA c0, cell_later hA c1, cell_later hA c2⟩ | exact ⟨cell_later (bl_al hA _) c0, cell_later (bl_al hA _) c1, cell_later (bl_al hA _) c2⟩ | exact ⟨cell_later (bl_al (bl_al hA _) _) c0, cell_later (bl_al (bl_al hA _) _) c1, cell_later (bl_al (bl_al hA _) _) c2⟩)
      (fail)
    all_goals
      go_wp2_with fail
      go_meet
      rw [← hz0, viewK_zero, zeros_row]
      first
        | exact ⟨w0.heap.size, w0.heap.size + 1, rfl, by omega, by omega, by omega, (two_allocs _ _ _).1, (two_allocs _ _ _).2, bl_tr (bl_al (bl_al (bl0 _) _) _) (bl_dr (bl0 _))⟩
        | exact ⟨w0.heap.size + 1, w0.heap.size, rfl, by omega, by omega, by omega, (two_allocs _ _ _).2, (two_allocs _ _ _).1, bl_tr (bl_al (bl_al (bl0 _) _) _) (bl_dr (bl0 _))⟩
  case rest =>
    obtain ⟨hv, fv, rfl, hne, hv1, fv1, hv2, fv2, hB⟩ := hcut
    have lv := (Array.getElem?_eq_some_iff.1 hv2).1
    have lf := (Array.getElem?_eq_some_iff.1 fv2).1
    clear hA hmk
    replace c2 := cell_later hB c2
    replace hr := (hr.below hb0).below hB
    have hgl := (m.below hb0).lt
    go_wp2
    go_loopw [4, 5, 25] (fun _ _ i wr => ∃ j : Nat, j ≤ ms.length ∧ i = .int .i64 j ∧ wr.heap[hv]? = some (.cells (cellsH (viewK ms j)).toArray 53 (0, 0)) ∧ wc.grownBy wr (some hv)) (fun _ _ i _ => ms.length - (intOf i).toNat)
    case atStart => exact ⟨0, Nat.zero_le _, rfl, hv2, World.grownBy.refl _ _⟩
    case round =>
      obtain ⟨j, hj, rfl, hq, hg⟩ := hrel
      have F2 : wr.cell? ⟨fv, 2, none⟩ = some (.slice (some ⟨hv, 0, none⟩) ms.length ms.length) := hg.cell (by simp [World.cell?, fv2]) (by simp; omega)
      have zF := blk_lt F2
      have hne2 : fv ≠ hv := fun e => hne e.symm
      have lvr := (Array.getElem?_eq_some_iff.1 hq).1
      by_cases hlt : j < ms.length
      · have hlt2 : (j : Int) < (ms.length : Int) := by omega
        have hj0 : (0 : Int) ≤ (j : Int) := by omega
        have hl2 : (ms.length : Int) ≤ 1048576 := by omega
        obtain ⟨b', o', e, q0, q1⟩ := hr.cell hlt
        cases e
        rw [Nat.zero_add] at q0 q1
        replace q0 := hg.cell q0 (by simp; omega)
        replace q1 := hg.cell q1 (by simp; omega)
        obtain ⟨t0, t1⟩ := row_cell hq (show j < (viewK ms j).length by rw [viewK_len hj]; exact hlt)
        have hst := viewK_set hlt
        obtain ⟨o, ho⟩ : ∃ o, ms[j] = o := ⟨_, rfl⟩
        rw [ho] at q0 q1 hst
        obtain ⟨z, hz⟩ : ∃ z, (viewK ms j)[j]'(by rw [viewK_len hj]; exact hlt) = z := ⟨_, rfl⟩
        rw [hz] at t0
        have HS := Lib.hid hst
        have HQ := Lib.hid hq
        have HG := Lib.hid hg
        have HR := Lib.hid hr
        clear hst hq hg hr ho hz fv2 hv2 m
        cases o with
        | none =>
          simp only [Option.isSome_none, Option.getD_none] at q0 q1
          go_wp2
          refine ⟨⟨j + 1, by omega, by go_num, ?_, (HG.out.trans (grown_set _ _ _ _)).trans (grown_al _ _ _)⟩, by simp [intOf]; omega⟩
          have e := HS.out
          simp only [Option.getD_none] at e
          rw [← e]
          exact heap_al (row_set HQ.out) _
        | some c =>
          simp only [Option.isSome_some, Option.getD_some] at q0 q1
          go_wp2
          refine ⟨⟨j + 1, by omega, by go_num, ?_, ((HG.out.trans (grown_set _ _ _ _)).trans (grown_set _ _ _ _)).trans (grown_al _ _ _)⟩, by simp [intOf]; omega⟩
          have e := HS.out
          simp only [Option.getD_some] at e
          rw [← e]
          have q2 := row_set (z := c) (j := j) (row_set (z := 1) (j := j) HQ.out)
          rw [List.set_set] at q2
          exact heap_al q2 _
      · have hge : (ms.length : Int) ≤ (j : Int) := by omega
        obtain rfl : j = ms.length := by omega
        rw [viewK_all] at hq
        have hwv : w.heap.size ≠ hv := by omega
        have hwf : w.heap.size < w0.heap.size := by omega
        have F0 : wr.cell? ⟨fv, 0, none⟩ = some (.int .i64 X) := hg.cell (by simp [World.cell?, fv2]) (by simp; omega)
        have F1 : wr.cell? ⟨fv, 1, none⟩ = some (.int .i64 Y) := hg.cell (by simp [World.cell?, fv2]) (by simp; omega)
        have rb : wr.heap[w.heap.size]? = some (.cells #[.int .i64 0, .int .i64 0, .slice none 0 0] 37 (0, 0)) := (hg.block _ (by have := hB.size; omega) (by simp; omega)).trans ((hB.block _ hwf).trans r0)
        have R0 : wr.cell? ⟨w.heap.size, 0, none⟩ = some (.int .i64 0) := by simp [World.cell?, rb]
        have R1 : wr.cell? ⟨w.heap.size, 1, none⟩ = some (.int .i64 0) := by simp [World.cell?, rb]
        have R2 : wr.cell? ⟨w.heap.size, 2, none⟩ = some (.slice none 0 0) := by simp [World.cell?, rb]
        have Z0 : wr.frozen? ⟨w.heap.size, 0, none⟩ = false := by simp [World.frozen?, rb]
        have Z1 : wr.frozen? ⟨w.heap.size, 1, none⟩ = false := by simp [World.frozen?, rb]
        have Z2 : wr.frozen? ⟨w.heap.size, 2, none⟩ = false := by simp [World.frozen?, rb]
        have hBw : Below w.heap.size w wr := (bl_tr hb0 hB).grown hg (by have := hB.size; omega) (fun r e => by cases e; omega)
        have HQ := Lib.hid hq
        have HG := Lib.hid hBw
        have zR := blk_lt R0
        clear hq hg hBw rb r0 fv2 hv2 m c0 c1 c2
        go_wp2
        refine bodyPost_ret (v := .agg #[.int .i64 X, .int .i64 Y, .slice (some ⟨hv, 0, none⟩) ms.length ms.length]) (by simp [results, Try.results20, go_sem, R0, R1, R2]) rfl ⟨hv, rfl, ?_, by omega, ?_⟩
        · exact heap_st (heap_st (heap_st HQ.out hwv _) hwv _) hwv _
        · exact bl_st (bl_st (bl_st HG.out (Nat.le_refl _) _) (Nat.le_refl _) _) (Nat.le_refl _) _
end Go.Proofs.Ytccokdfkmppohaa

/- Fog: a cell is remembered; what Merge's loop holds is its own. -/
namespace Go.Proofs.Ytccokdfkmppohaa
open Go.RowKit Go.Shelf

theorem flatM_set : ∀ (ms : List (Option Int)) (n : Nat) (z : Int), n < ms.length → flatM (ms.set n (some z)) = ((flatM ms).set (n * 2) (.bool true)).set (n * 2 + 1) (.int .u16 z)
  | [], n, z, h => by simp at h
  | o :: ms, 0, z, h => by simp [flatM]
  | o :: ms, n + 1, z, h => by
    have ih := flatM_set ms n z (by simpa using h)
    have e : ∀ (o : Option Int) ms, flatM (o :: ms) = .bool o.isSome :: .int .u16 (o.getD 0) :: flatM ms := fun _ _ => rfl
    rw [List.set_cons_succ, e, e, ih, show (n + 1) * 2 = n * 2 + 1 + 1 by omega]
    simp only [List.set_cons_succ]
theorem fog_set {W : World} {B g h cap : Nat} {X Y : Int} {ms : List (Option Int)} {k : Int} (m : FogAt W B g h cap X Y ms k) {n : Nat} (hn : n < ms.length) (z : Int) :
    FogAt ((W.setCell ⟨h, n * 2, none⟩ (.bool true)).setCell ⟨h, n * 2 + 1, none⟩ (.int .u16 z)) B g h cap X Y (ms.set n (some z)) k := by
  have hne := m.ne
  obtain ⟨m1, m2, m3⟩ := m
  refine ⟨m1, ?_, ?_⟩
  · rw [List.length_set]
    exact heap_st (heap_st m2 (fun e => hne e.symm) _) (fun e => hne e.symm) _
  · rw [List.length_set]
    refine ⟨by rw [flatM_len, List.length_set], ?_⟩
    rcases m3.2 with ⟨e, _⟩ | ⟨g', cap', cur, e, hB, hg, h1, h2, h3, h4⟩
    · cases e
    · cases e
      have q1 := heap_set_same W h (n * 2) cur 78 (.bool true) hg
      have q2 := heap_set_same _ h (n * 2 + 1) _ 78 (.int .u16 z) q1
      refine .inr ⟨h, cap, _, rfl, hB, q2, h1, h2, by simpa using h3, ?_⟩
      rw [flatM_set _ _ _ hn, ← h4]
      simp [List.take_set]
theorem fog_same {W : World} {B g h cap : Nat} {X Y : Int} {ms : List (Option Int)} {k : Int} (m : FogAt W B g h cap X Y ms k) {B' : Nat} (hB : B' ≤ B) : FogAt W B' g h cap X Y ms k :=
  ⟨Nat.le_trans hB m.1, m.2.1, own_baseM m.2.2 hB⟩

/-- What one cell that is seen adds. -/
def stepS (X : Int) (fs : List Int) (s : List (Option Int) × List (Int × Int)) (c : Int × Int) : List (Option Int) × List (Int × Int) :=
  if s.1[numC X c]? = some (some (fs.getD (numC X c) 0)) then s else (s.1.set (numC X c) (some (fs.getD (numC X c) 0)), s.2 ++ [c])
/-- What is known, and what is new, behind cells that are seen. -/
def mergeS (X : Int) (fs : List Int) (ms : List (Option Int)) (cs : List (Int × Int)) : List (Option Int) × List (Int × Int) := cs.foldl (stepS X fs) (ms, [])
theorem mergeS_snoc (X : Int) (fs : List Int) (ms : List (Option Int)) (cs : List (Int × Int)) (c : Int × Int) : mergeS X fs ms (cs ++ [c]) = stepS X fs (mergeS X fs ms cs) c := by simp [mergeS, List.foldl_append]
theorem stepS_len (X : Int) (fs : List Int) (s : List (Option Int) × List (Int × Int)) (c : Int × Int) : (stepS X fs s c).1.length = s.1.length ∧ (stepS X fs s c).2.length ≤ s.2.length + 1 := by
  unfold stepS; split <;> simp
theorem foldS_len (X : Int) (fs : List Int) : ∀ (cs : List (Int × Int)) (s : List (Option Int) × List (Int × Int)), (cs.foldl (stepS X fs) s).1.length = s.1.length ∧ (cs.foldl (stepS X fs) s).2.length ≤ s.2.length + cs.length
  | [], s => by simp
  | c :: cs, s => by
    obtain ⟨h1, h2⟩ := foldS_len X fs cs (stepS X fs s c)
    obtain ⟨h3, h4⟩ := stepS_len X fs s c
    simp only [List.foldl_cons, List.length_cons]
    exact ⟨h1.trans h3, by omega⟩
theorem mergeS_len (X : Int) (fs : List Int) (ms : List (Option Int)) (cs : List (Int × Int)) : (mergeS X fs ms cs).1.length = ms.length ∧ (mergeS X fs ms cs).2.length ≤ cs.length := by
  have := foldS_len X fs cs (ms, [])
  unfold mergeS
  simpa using this

/-- All but two blocks lie as they lay. -/
def KeptT (g h : Nat) (A B : World) : Prop := Below 0 A B ∧ ∀ k, k < A.heap.size → k ≠ g → k ≠ h → B.heap[k]? = A.heap[k]?
theorem KeptT.refl (g h : Nat) (A : World) : KeptT g h A A := ⟨(bl0 A).mono (Nat.zero_le _), fun _ _ _ _ => rfl⟩
theorem KeptT.trans {g h : Nat} {A B C : World} (x : KeptT g h A B) (y : KeptT g h B C) : KeptT g h A C :=
  ⟨x.1.trans y.1, fun k h1 h2 h3 => (y.2 k (Nat.lt_of_lt_of_le h1 x.1.size) h2 h3).trans (x.2 k h1 h2 h3)⟩
theorem KeptT.cell {g h k o : Nat} {A B : World} {v : Value} (x : KeptT g h A B) (c : A.cell? ⟨k, o, none⟩ = some v) (h1 : k ≠ g) (h2 : k ≠ h) : B.cell? ⟨k, o, none⟩ = some v :=
  (World.cell?_of_block (a := ⟨k, o, none⟩) (x.2 k (blk_lt c) h1 h2)).trans c
/-- From a world on: what is laid later may change. -/
theorem KeptT.grown {g h : Nat} {A B C : World} {r : Option Nat} (x : KeptT g h A B) (y : B.grownBy C r) (hr : ∀ j, r = some j → A.heap.size ≤ j ∨ j = g ∨ j = h) : KeptT g h A C :=
  ⟨x.1.trans ⟨y.os, y.tape, y.output, y.size, fun k hk => absurd hk (Nat.not_lt_zero _)⟩, fun k h1 h2 h3 => (y.block k (Nat.lt_of_lt_of_le h1 x.1.size) (fun e => by rcases hr k e.symm with h | rfl | rfl <;> first | omega | contradiction)).trans (x.2 k h1 h2 h3)⟩
theorem FogAt.kept {W W' : World} {row : Option Nat} {B g h cap : Nat} {X Y : Int} {ms : List (Option Int)} {k : Int} (m : FogAt W B g h cap X Y ms k) (hg : W.grownBy W' row) (h1 : some g ≠ row) (h2 : some h ≠ row) : FogAt W' B g h cap X Y ms k :=
  ⟨m.1, (hg.block g (Array.getElem?_eq_some_iff.1 m.2.1).1 h1).trans m.2.1, m.2.2.kept hg (.inr (fun e => h2 (by simpa [Value.ownBlock] using e)))⟩

/-- What Merge's loop holds. -/
def MergeI (W0 : World) (B g h cap bx nb : Nat) (X Y : Int) (k : Int) (fs : List Int) (ms : List (Option Int)) (pre : List (Int × Int)) (W : World) : Prop :=
  KeptT h bx W0 W ∧ FogAt W B g h cap X Y (mergeS X fs ms pre).1 k ∧ ∃ v, Boxed W bx 38 v ∧ W.ownsRow nb 26 2 v (mergeS X fs ms pre).2.length (flatC (mergeS X fs ms pre).2)
theorem mergeI_own {W0 : World} {B g h cap bx nb n₁ : Nat} {X Y k : Int} {fs : List Int} {ms : List (Option Int)} (hg : g < n₁) (hh : h < n₁) (hn : W0.heap.size ≤ n₁) : OwnFrom n₁ (MergeI W0 B g h cap bx nb X Y k fs ms) := fun s C D row hs hgr hr => by
  obtain ⟨hk, hf, v, hb, hro⟩ := hs
  refine ⟨hk.grown hgr (fun j e => .inl (by have := (hr j e).1; omega)), hf.kept hgr (fun e => by have := (hr g e.symm).1; omega) (fun e => by have := (hr h e.symm).1; omega), ?_⟩
  obtain ⟨v', q1, q2, _⟩ := holdsRow_own nb bx 38 26 2 (fun s : List (Int × Int) => (mergeS X fs ms s).2.length) (fun s => flatC (mergeS X fs ms s).2) (fun _ _ => True) s C D row ⟨v, hb, hro, trivial⟩ hgr (fun r e => (hr r e).2)
  exact ⟨v', q1, q2⟩
theorem MergeI.below {W0 W W' : World} {B g h cap bx nb : Nat} {X Y k : Int} {fs : List Int} {ms : List (Option Int)} {pre : List (Int × Int)} (i : MergeI W0 B g h cap bx nb X Y k fs ms pre W) (hb : Below W.heap.size W W') : MergeI W0 B g h cap bx nb X Y k fs ms pre W' := by
  obtain ⟨hk, hf, v, hbx, hro⟩ := i
  exact ⟨hk.grown (grown_of_below hb) (fun j e => by cases e), hf.below hb, v, hbx.kept (grown_of_below hb) (fun e => by cases e), own_later hro hb⟩
end Go.Proofs.Ytccokdfkmppohaa

/- As text Oh, for a region with a store at its end (operation z): the condition S need not hold behind it. -/
namespace Go.Proofs.Ytccokdfkmppohaa
open Go

section
variable {F : Fence} {n : Nat} {P : Program} {ops : Array Oper} {Q : Exit → Act → World → Prop} {md : Region.Mode} {S : World → Prop} {z : Nat}

/-- From here on, in each order that may come, the region ends in Q; S holds behind each step until z is done. -/
def OrdZ (F : Fence) (n : Nat) (P : Program) (md : Region.Mode) (ops : Array Oper) (Q : Exit → Act → World → Prop) (S : World → Prop) (z : Nat) : Nat → Array Bool → Act → World → Prop
  | 0, l, a, w => Region.ready md ops l = [] ∧ Q .normal a w
  | k + 1, l, a, w => (Region.ready md ops l = [] → Q .normal a w) ∧
      ∀ i, i ∈ Region.ready md ops l → wpOpIn F n P ops Q i (fun a1 w1 => ((l.setIfInBounds i true).getD z true = false → S w1) ∧ OrdZ F n P md ops Q S z k (l.setIfInBounds i true) a1 w1) a w
/-- z comes behind i. -/
def behindB (md : Region.Mode) (ops : Array Oper) (z i : Nat) : Bool := match ops[z]? with | some o => o.after.any (fun e => e.on == i && Region.binds md e) | none => false
theorem behindB_ready {md : Region.Mode} {ops : Array Oper} {z i : Nat} {l : Array Bool} (h : behindB md ops z i = true) (hr : z ∈ Region.ready md ops l) : l.getD i false = true := by
  obtain ⟨_, o, ho, hall⟩ := mem_ready.1 hr
  unfold behindB at h
  rw [ho] at h
  simp only [Array.any_eq_true'] at h
  obtain ⟨e, he, h2⟩ := h
  rw [Bool.and_eq_true, beq_iff_eq] at h2
  have := hall e he h2.2
  rw [h2.1] at this
  exact this

theorem OrdZ.plain (k : Nat) : ∀ (l : Array Bool) (a : Act) (w : World), OrdZ F n P md ops Q S z k l a w → wpAnyIn F n P md ops Q k l a w := by
  induction k with
  | zero => intro l a w h; exact h
  | succ k ih => intro l a w h; exact ⟨h.1, fun i hi => wpOpIn_mono (fun a1 w1 h1 => ih _ a1 w1 h1.2) (h.2 i hi)⟩

/-- The beginning. -/
theorem ordZ_begin {id : Nat} {a : Act} {w : World} (hm : P.follows .mixedOrders = true) (hS : S w.drew) (h : S w.drew → OrdZ F n P .any ops Q S z ops.size (Array.replicate ops.size false) a w.drew) :
    (Code.region id ops true).wpIn F n P Q a w := wpIn_region_any hm (OrdZ.plain _ _ _ _ (h hS))

theorem OrdZ.first {i : Nat} {oi : Oper} {v : Value} (hi : ops[i]? = some oi) (hsel : ∀ (j : Nat) (o : Oper) cs b, ops[j]? = some o → o.op ≠ .select cs b) (hdef : ∀ (j : Nat) (o : Oper) c, ops[j]? = some o → o.op ≠ .defer c)
    (hQ : ∀ c a w, Q (.panic c) (a.put oi.dst v) w → Q (.panic c) a w) (hz : behindB md ops z i = true) (hzi : i ≠ z) (k : Nat) : ∀ (l : Array Bool) (a : Act) (w : World), l.getD z true = false →
      (∀ j oj, ops[j]? = some oj → j ≠ i → l.getD j true = false → (∀ e ∈ oj.after, Region.binds md e = true → e.on ≠ i) → oi.apart ops oj = true) →
      i ∈ Region.ready md ops l → TellsS P ops S oi v a → S w → OrdZ F n P md ops Q S z k (l.setIfInBounds i true) (a.put oi.dst v) w → OrdZ F n P md ops Q S z (k + 1) l a w := by
  induction k with
  | zero =>
    intro l a w hlz _ hr hy hS H
    refine ⟨fun h => absurd hr (by simp [h]), fun j hj => ?_⟩
    by_cases e : j = i
    · subst e
      exact hy.step hi (fun c => hdef _ _ c hi) hS ⟨fun _ => hS, H⟩
    · have hm := ready_mono hj e
      rw [H.1] at hm
      cases hm
  | succ k ih =>
    intro l a w hlz hfree hr hy hS H
    refine ⟨fun h => absurd hr (by simp [h]), fun j hj => ?_⟩
    by_cases e : j = i
    · subst e
      exact hy.step hi (fun c => hdef _ _ c hi) hS ⟨fun _ => hS, H⟩
    · obtain ⟨hun, oj, hoj, hall⟩ := mem_ready.1 hj
      have hli : l.getD i true = false := (mem_ready.1 hr).1
      have hnot : ∀ x ∈ oj.after, Region.binds md x = true → x.on ≠ i := fun x hx hb heq => by
        have h1 := hall x hx hb
        rw [heq] at h1
        rcases Nat.lt_or_ge i l.size with hl | hl <;> simp_all
      have h2 := hy.past hoj (hfree j oj hoj e hun hnot) (fun cs b => hsel i oi cs b hi) (fun cs b => hsel j oj cs b hoj) (fun c => hdef j oj c hoj) hQ (H.2 j (ready_mono hj e))
      refine wpOpIn_mono (fun a1 w1 h3 => ?_) h2
      obtain ⟨hy1, hS1, H1⟩ := h3
      have hjz : j ≠ z := by
        rintro rfl
        have h5 := behindB_ready hz hj
        rcases Nat.lt_or_ge i l.size with hl | hl <;> simp_all
      have hlz2 : (l.setIfInBounds j true).getD z true = false := by rw [getD_set_ne true hjz]; exact hlz
      replace hS1 := hS1 (by rw [getD_set_ne true hjz, getD_set_ne true hzi]; exact hlz)
      refine ⟨fun _ => hS1, ih (l.setIfInBounds j true) a1 w1 hlz2 ?_ (ready_mono hr (Ne.symm e)) hy1 hS1 (by rw [Array.setIfInBounds_comm _ _ e]; exact H1)⟩
      intro x ox hx hxi hxun hno
      refine hfree x ox hx hxi ?_ hno
      by_cases hjx : j = x
      · subst hjx; exact hun
      · rwa [getD_set_ne true hjx] at hxun

/-- Take number i first. -/
theorem ordZ_take {i : Nat} {oi : Oper} {v : Value} {k : Nat} {l : Array Bool} {a : Act} {w : World} (hi : ops[i]? = some oi) (hr : (Region.ready md ops l).contains i = true) (hf : Region.free md ops l i = true)
    (hs : Region.noSelect ops = true) (hd : noDefer ops = true) (hQ : ∀ c a w, Q (.panic c) (a.put oi.dst v) w → Q (.panic c) a w) (hS : S w)
    (hz : behindB md ops z i = true) (hzi : i ≠ z) (hlz : l.getD z true = false) (hy : YieldsIf P ops S oi v a) (hab : ∀ w, oi.about P w a.eval = none) (h : OrdZ F n P md ops Q S z k (l.setIfInBounds i true) (a.put oi.dst v) w) : OrdZ F n P md ops Q S z (k + 1) l a w :=
  OrdZ.first hi (Region.noSelect_spec hs) (noDefer_spec hd) hQ hz hzi k l a w hlz (Region.free_spec hi hf) (by simpa using hr) ⟨hy, hab⟩ hS h

/-- One alone may come. -/
theorem ordZ_one {i : Nat} {o : Oper} {k : Nat} {l : Array Bool} {a : Act} {w : World} (hr : Region.ready md ops l = [i]) (ho : ops[i]? = some o) (hw : Region.wanted o (yielded ops a.tmps) = true)
    (h : ∀ K : Act → World → Prop, (∀ a1 w1, ((l.setIfInBounds i true).getD z true = false → S w1) → OrdZ F n P md ops Q S z k (l.setIfInBounds i true) a1 w1 → K a1 w1) → Oper.wpIn F n P o a w K Q) : OrdZ F n P md ops Q S z (k + 1) l a w := by
  refine ⟨fun h0 => absurd (hr.symm.trans h0) (by simp), fun j hj => ?_⟩
  rw [hr] at hj
  obtain rfl := List.mem_singleton.1 hj
  refine wpOpIn_step ho fun K' hK' => ?_
  rw [if_pos hw]
  exact h K' fun a1 w1 hs hrest => hK' a1 w1 ⟨hs, hrest⟩

/-- One alone may come, and its guard passes it over. -/
theorem ordZ_skip {i : Nat} {o : Oper} {k : Nat} {l : Array Bool} {a : Act} {w : World} (hr : Region.ready md ops l = [i]) (ho : ops[i]? = some o) (hw : Region.wanted o (yielded ops a.tmps) = false) (hF : ∀ f, F.fn f) (hS : S w)
    (h : OrdZ F n P md ops Q S z k (l.setIfInBounds i true) (a.put o.dst undef) w) : OrdZ F n P md ops Q S z (k + 1) l a w := by
  refine ⟨fun h0 => absurd (hr.symm.trans h0) (by simp), fun j hj => ?_⟩
  rw [hr] at hj
  obtain rfl := List.mem_singleton.1 hj
  refine wpOpIn_step ho fun K' hK' => ?_
  rw [if_neg (by rw [hw]; exact Bool.false_ne_true)]
  exact ⟨fun f _ => hF f, hK' _ _ ⟨fun _ => hS, h⟩⟩

/-- All have come. -/
theorem ordZ_done {l : Array Bool} {a : Act} {w : World} {k : Nat} (hr : Region.ready md ops l = []) (h : Q .normal a w) : OrdZ F n P md ops Q S z k l a w := by
  cases k with
  | zero => exact ⟨hr, h⟩
  | succ k => exact ⟨fun _ => h, by rw [hr]; simp⟩
end

theorem ordZ_append {F : Fence} {n : Nat} {P : Program} {ops : Array Oper} {Q : Exit → Act → World → Prop} {md : Region.Mode} {S : World → Prop} {z : Nat} {i : Nat} {o : Oper} {j : Nat} {l : Array Bool} {a : Act} (w : World)
    (hr : Region.ready md ops l = [i]) (ho : ops[i]? = some o) (hw : Region.wanted o (yielded ops a.tmps) = true) (s x : Operand) (t : TypeId) (hop : o.op = Op.call { callee := Callee.builtin Builtin.append, args := #[s, x], argTypes := #[t, t] })
    (base : Nat) (e : TypeId) (ti : TypeInfo) (zv : Value) (size bytes : Nat) (h1 : P.underlying t = some (.slice e)) (h2 : P.info? e = some ti) (h3 : ti.zero = some zv) (h4 : ti.size = size) (h5 : ti.bytes = bytes) (h6 : zv.cells.size = size) (h7 : 0 < size)
    (v : Value) (k : Nat) (xs : List Value) (hs : a.eval s = v) (hown : w.ownsRow base e size v k xs) (ad : Addr) (m c : Nat) (news : List Value) (hx : a.eval x = .slice (some ad) m c) (hn : news.length = m * size)
    (hc : ∀ j u, news[j]? = some u → w.cell? (ad.add j) = some u) (h1c : ∀ u ∈ news, u.oneCell' = true) (b1 : k + m ≤ maxLen) (b2 : (k + m) * bytes ≤ 140737488355328) (b3 : base ≤ w.heap.size)
    (hK : ∀ v' w', w'.ownsRow base e size v' (k + m) (xs ++ news) → w.grownBy w' v.ownBlock → ((l.setIfInBounds i true).getD z true = false → S w') ∧ OrdZ F n P md ops Q S z j (l.setIfInBounds i true) (a.put o.dst v') w') :
    OrdZ F n P md ops Q S z (j + 1) l a w := by
  refine ordZ_one hr ho hw fun K hK' => ?_
  obtain ⟨v', w', hrun, r1, r2, r3⟩ := run_append_own (P := P) w base t o.type e ti zv size bytes h1 h2 h3 h4 h5 h6 h7 v k xs hown ad m c news hn hc h1c b1 b2 b3
  unfold Oper.wpIn
  refine ⟨?_, ?_⟩
  · simp [Oper.about, hop, resolve, Target.leads, Sem.run_pure]
  · rw [Oper.semAt_plain F _ _ (by rw [hop]; intro c hc'; cases hc')]
    simp [execOp, hop, resolve, invoke, builtin, hs, hx, hrun, Result.andThen]
    exact hK' _ _ (hK v' w' r1 r2).1 (hK v' w' r1 r2).2
end Go.Proofs.Ytccokdfkmppohaa

/- Fog: Merge. -/
namespace Go.Proofs.Ytccokdfkmppohaa
open Go.RowKit Go.Shelf
attribute [local go_sem] Oper.semAt_some

/-- How two that are known compare. -/
theorem new_if {α : Type} (o : Option Int) (z : Int) (R : Bool → α) : (if o.isSome = false then R true else if o.getD 0 = z then R false else R true) = R (!decide (o = some z)) := by
  cases o with
  | none => simp
  | some x =>
    by_cases h : x = z
    · simp [h]
    · simp [h]

theorem fog_ver {W : World} {B g h cap : Nat} {X Y : Int} {ms : List (Option Int)} {k : Int} (m : FogAt W B g h cap X Y ms k) (k' : Int) : FogAt (W.setCell ⟨g, 3, none⟩ (.int .i64 k')) B g h cap X Y ms k' := by
  have hne := m.ne
  obtain ⟨m1, m2, m3⟩ := m
  refine ⟨m1, ?_, m3.kept (grown_set W g 3 _) (.inr (fun e => hne (by simpa [Value.ownBlock] using e.symm)))⟩
  rw [heap_set_same _ _ _ _ _ _ m2]
  rfl
theorem keptT_fold {g h bx : Nat} {A B C : World} (x : Below A.heap.size A B) (y : KeptT h bx B C) (hb : A.heap.size ≤ bx) : KeptT g h A C :=
  ⟨(x.mono (Nat.zero_le _)).trans y.1, fun k h1 _ h3 => (y.2 k (Nat.lt_of_lt_of_le h1 x.size) h3 (by omega)).trans (x.block k h1)⟩

/-- What Merge tells and leaves. -/
def MergeP (w : World) (B g h cap : Nat) (X Y k : Int) (fs : List Int) (ms : List (Option Int)) (cs : List (Int × Int)) (e : Ending) (w' : World) : Prop := ∃ a' cap', e = .returned (.tuple #[.slice a' (mergeS X fs ms cs).2.length cap', .int .i64 0]) ∧
  RowC w' a' (mergeS X fs ms cs).2 ∧ (∀ gb o, a' = some ⟨gb, o, none⟩ → w.heap.size ≤ gb) ∧ FogAt w' B g h cap X Y (mergeS X fs ms cs).1 (k + if (mergeS X fs ms cs).2 = [] then 0 else 1) ∧ KeptT g h w w'
theorem append_keptM {W w1 : World} {n₀ B n : Nat} {e : TypeId} {size : Nat} {v v' : Value} {k p b h : Nat} {xs : List Value} {tmp : Obj}
    (hrow : W.ownsRow n₀ e size v k xs) (hgrow : (W.alloc tmp).grownBy w1 v.ownBlock) (hn : n + 4 ≤ n₀) (hp : p < n) (hb : b < n) (hh : h < n) (hBn : B < n) (h1 : B ≠ p) (h2 : B ≠ b) (h3 : B ≠ h) :
    KeptM p b h n 4 W (w1.setCell ⟨B, 0, none⟩ v') := by
  have hz : W.heap.size ≤ w1.heap.size := by have := hgrow.size; rw [World.size_alloc] at this; omega
  have hlow : ∀ j, v.ownBlock = some j → n₀ ≤ j := fun j e1 => (hrow.lt j e1).1
  refine ⟨by simpa using hz, fun i hi hl => ?_, fun i o hi ho hc => ?_⟩
  · refine (Below.heap_setCell _ _ _ i (show i ≠ B by rcases hi with h | h | h | h <;> omega)).trans ((hgrow.block i (by rw [World.size_alloc]; omega) (fun e1 => ?_)).trans (Below.heap_alloc _ _ _ hl))
    have := hlow i e1.symm
    omega
  · have hl := (Array.getElem?_eq_some_iff.1 ho).1
    refine ((Below.heap_setCell _ _ _ i (show i ≠ B by omega)).trans ((hgrow.block i (by rw [World.size_alloc]; omega) (fun e1 => ?_)).trans (Below.heap_alloc _ _ _ hl))).trans ho
    rcases hrow.2 with ⟨rfl, _⟩ | ⟨g, cap, cur, rfl, _, hgb, _⟩
    · simp [Value.ownBlock] at e1
    · obtain rfl : i = g := by simpa [Value.ownBlock] using e1
      rw [hgb] at ho; cases ho; cases hc

set_option maxRecDepth 100000 in
set_option maxHeartbeats 8000000 in
theorem merge_yes (B g h cap b hm : Nat) (X Y k : Int) (ms : List (Option Int)) (bs : List Nat) (a : Option Addr) (c : Nat) (fs : List Int) (w : World) (hx : chkF X Y (fs.length : Int) = 0) (hmay : mayB X Y = true) (hrf : RowH w a fs) (hah : ∀ gb o, a = some ⟨gb, o, none⟩ → gb ≠ h)
    (hf : FogAt w B g h cap X Y ms k) (hl : ms.length = fs.length) (hbs : MaskAt w b hm X Y bs) (hgd : Good X Y bs) (hhb : h ≠ b) (hhm : h ≠ hm) (hk : k ≤ 1048576) (hk0 : 0 ≤ k) :
    Calls Try.prog 9 #[.pointer (some ⟨g, 0, none⟩), .agg #[.int .i64 X, .int .i64 Y, .slice a fs.length c], .pointer (some ⟨b, 0, none⟩)] w (MergeP w B g h cap X Y k fs ms (cellsM X Y bs)) := by
  obtain ⟨i0, hi, hz0, hz1, hz2⟩ := info_parts Try.infoCell
  have hA := bl0 w
  have HQ := Lib.hid hx
  have bx := beq_self_eq_true X
  have bY := beq_self_eq_true Y
  have nx : (X != X) = false := by simp
  have ny : (Y != Y) = false := by simp
  clear hx
  have lt1 := hf.lt
  have lt2 := hbs.lt
  have G0 := hf.c0
  have G1 := hf.c1
  refine (callsIn_wide (n := 11)).1 (callsIn_of_wp_marks Try.func9 rfl trivial ?_ rfl)
  simp only [Try.ntmps9, List.size_toArray, List.length_cons, List.length_nil, Nat.reduceAdd, Nat.reduceSub, Array.replicate_succ, Array.replicate_zero, List.push_toArray, List.append_toArray, List.nil_append, List.cons_append]
  refine wpIn_wide.2 ?_
  go_wp2_with fail
  refine (check_any _ _ _ _ _ _).mono ?_
  rintro e w1 ⟨rfl, hb⟩
  have hk : Below w.heap.size w w1 := by first | exact hb | exact bl_tr (bl_al (bl0 _) _) hb | exact bl_tr (bl_dr (bl_al (bl0 _) _)) hb | exact bl_tr (bl_al (bl_al (bl0 _) _) _) hb | exact bl_tr (bl_dr (bl_al (bl_al (bl0 _) _) _)) hb | exact bl_tr (bl_al (bl_al (bl_al (bl0 _) _) _) _) hb | exact bl_tr (bl_dr (bl_al (bl_al (bl_al (bl0 _) _) _) _)) hb | exact bl_tr (bl_al (bl_al (bl_al (bl_al (bl0 _) _) _) _) _) hb | exact bl_tr (bl_dr (bl_al (bl_al (bl_al (bl_al (bl0 _) _) _) _) _)) hb | exact bl_tr (bl_al (bl_al (bl_al (bl_al (bl_al (bl0 _) _) _) _) _) _) hb | exact bl_tr (bl_dr (bl_al (bl_al (bl_al (bl_al (bl_al (bl0 _) _) _) _) _) _)) hb | exact bl_tr (bl_al (bl_al (bl_al (bl_al (bl_al (bl_al (bl0 _) _) _) _) _) _) _) hb | exact bl_tr (bl_dr (bl_al (bl_al (bl_al (bl_al (bl_al (bl_al (bl0 _) _) _) _) _) _) _)) hb | exact bl_tr (bl_dr (bl0 _)) hb
  replace hA := bl_tr hA hk
  replace G0 := cell_later hk G0
  replace G1 := cell_later hk G1
  have p0 := cell_later hb (v := .pointer (some ⟨g, 0, none⟩)) (a := ⟨w.heap.size, 0, none⟩) (by simp [go_sem])
  have f0 := cell_later hb (v := .int .i64 X) (a := ⟨w.heap.size + 1, 0, none⟩) (by simp [go_sem])
  have f1 := cell_later hb (v := .int .i64 Y) (a := ⟨w.heap.size + 1, 1, none⟩) (by simp [go_sem])
  have f2 := cell_later hb (v := .slice a fs.length c) (a := ⟨w.heap.size + 1, 2, none⟩) (by simp [go_sem])
  clear hb hk
  have zG0 := blk_lt G0
  have zG1 := blk_lt G1
  have zp0 := blk_lt p0
  have zf0 := blk_lt f0
  have zf1 := blk_lt f1
  have zf2 := blk_lt f2
  rw [HQ.out]
  go_upto_region 6 with fail
  have hB := bl_dr (bl0 w1)
  go_region_held3 (fun w2 => w2.cell? ⟨w.heap.size + 1, 0, none⟩ = some (.int .i64 X) ∧ w2.cell? ⟨w.heap.size + 1, 1, none⟩ = some (.int .i64 Y) ∧ w2.cell? ⟨w.heap.size, 0, none⟩ = some (.pointer (some ⟨g, 0, none⟩)) ∧ w2.cell? ⟨g, 0, none⟩ = some (.int .i64 X) ∧ w2.cell? ⟨g, 1, none⟩ = some (.int .i64 Y))
    (exact ⟨cell_later hB f0, cell_later hB f1, cell_later hB p0, cell_later hB G0, cell_later hB G1⟩)
    ((go_at_call 30; refine (size_any b hm X Y bs _ ((hbs.below hA).below hB)).mono ?_; rintro e W2 ⟨rfl, hb⟩; replace hB := bl_tr hB hb; clear hb))
  all_goals
    replace p0 := cell_later hB p0
    replace f0 := cell_later hB f0
    replace f1 := cell_later hB f1
    replace f2 := cell_later hB f2
    replace hA := bl_tr hA hB
    clear hB G0 G1
    go_wp2_with fail
    refine ((callsIn_wide (n := 11)).1 (mcells_in _ _ _)).mono ?_
    rintro e w5 ⟨rfl, rfl⟩
    go_wp2_with fail
    refine (wpIn_wide (n := 11)).1 ?_
    obtain ⟨W0, hW0⟩ : ∃ W0, (W2.alloc (.cells #[.slice none 0 0] 38)).alloc (.cells #[.pointer (some ⟨b, 0, none⟩)] 41) = W0 := ⟨_, rfl⟩
    rw [hW0]
    have hzz : W0.heap.size = W2.heap.size + 2 := by rw [← hW0]; simp
    have hk0' : Below W2.heap.size W2 W0 := by rw [← hW0]; exact bl_al (bl_al (bl0 _) _) _
    have hb0 : Boxed W0 W2.heap.size 38 (.slice none 0 0) := by rw [← hW0]; exact (Boxed.new W2 _ _).alloc _
    have hs0 : SetAt W0 (W2.heap.size + 1) b hm X Y bs := ⟨by rw [← hW0]; simp [go_sem], (hbs.below hA).below hk0'⟩
    have zp := blk_lt p0
    have zf := blk_lt f0
    replace p0 := cell_later hk0' p0
    replace f0 := cell_later hk0' f0
    replace f1 := cell_later hk0' f1
    replace f2 := cell_later hk0' f2
    have hAsz := hA.size
    replace hA := bl_tr hA hk0'
    clear hW0
    have hf0 := hf.below hA
    have hrf0 := hrf.below hA
    refine range_iterP (P := fun c => inB X Y c.1 c.2 = true) (W2.heap.size + 1) b hm 38 #[.pointer (some ⟨W2.heap.size + 1, 0, none⟩)] (cellsM X Y bs) (iter_setP _ _ _ X Y bs hmay hgd.2.2.1 hgd.small W0 hs0) rfl rfl (by omega) (by omega) (by omega)
      (enters_of Try.func38 (by kernel_rfl) rfl)
      (MergeI W0 B g h cap W2.heap.size (W0.heap.size + 4) X Y k fs ms) (fun _ _ _ => False)
      (mergeI_own (by omega) (by omega) (Nat.le_refl _)) (fun _ _ _ _ _ h _ _ => h)
      ⟨KeptT.refl _ _ _, hf0, _, hb0, World.ownsRow_nil _ _ _ _⟩
      (fun e a' W => ∃ Bx, W0.heap.size ≤ Bx ∧ W.cell? ⟨Bx, 0, none⟩ = some (.int .i64 e.1) ∧ W.cell? ⟨Bx, 1, none⟩ = some (.int .i64 e.2) ∧ a' = { tmps := #[.pointer (some ⟨g, 0, none⟩), .agg #[.int .i64 X, .int .i64 Y, .slice a fs.length c], .pointer (some ⟨b, 0, none⟩), .pointer (some ⟨w.heap.size, 0, none⟩), .pointer (some ⟨w.heap.size + 1, 0, none⟩), undef, .slice none 0 0, .int .i64 0, .int .i64 0, .pointer (some ⟨W2.heap.size, 0, none⟩), .pointer (some ⟨Bx, 0, none⟩), undef, undef, undef, .pointer (some ⟨g, 0, none⟩), .bool false, .bool false, .pointer (some ⟨b, 0, none⟩), .bool false, .bool false, .agg #[.int .i64 X, .int .i64 Y, .slice a fs.length c], .int .i64 0, .int .i64 0, .bool false, undef, .pointer (some ⟨w.heap.size + 1, 0, none⟩), .agg #[.int .i64 X, .int .i64 Y], .pointer (some ⟨g, 0, none⟩), .pointer (some ⟨g, 0, none⟩), .pointer (some ⟨g, 0, none⟩), .agg #[.int .i64 X, .int .i64 Y], .bool false, .bool false, .pointer (some ⟨b, 0, none⟩), .agg #[.int .i64 X, .int .i64 Y], .pointer (some ⟨g, 0, none⟩), .pointer (some ⟨g, 0, none⟩), .pointer (some ⟨g, 0, none⟩), .agg #[.int .i64 X, .int .i64 Y], .bool false, .bool false, .pointer (some ⟨b, 0, none⟩), .func (.func 38) #[] #[.pointer (some ⟨W2.heap.size + 1, 0, none⟩)], .agg #[.int .i64 e.1, .int .i64 e.2], undef, undef, undef, undef, undef, undef, undef, undef, undef, undef, undef, undef, undef, undef, undef, undef, undef, undef, undef, undef, undef, undef, undef, undef, undef, undef, undef, undef, undef, undef, undef, undef, undef, undef, undef, undef, undef, undef, undef, undef, undef, undef, undef, undef, undef, undef], defers := [] })
      ?ax ?assign ?body ?done ?stop
    case ax =>
      rintro e a' _ C D row ⟨Bx, x1, x2, x3, x4⟩ hg' hr'
      exact ⟨Bx, x1, cell_kept x2 hg' (fun r e => (hr' r e).2), cell_kept x3 hg' (fun r e => (hr' r e).2), x4⟩
    case assign =>
      rintro l pre e W K hi' hK
      have hbW := bl_al (bl0 W) (.cells #[.int .i64 e.1, .int .i64 e.2] 26)
      have hK' := hK _ _ (KeptM.of_below hbW) (hi'.below hbW) ⟨W.heap.size, hi'.1.1.size, by simp [go_sem], by simp [go_sem], rfl⟩
      clear hK
      simp
      gi_wp2
      exact hK'
    case stop =>
      rintro D cc q W hD hq h hK
      exact h.elim
    case done =>
      rintro D W hD ⟨hkt, hfW, v, hbx, hrow⟩ hK
      have cb := hbx.cell
      have P0 := hkt.cell p0 (show w.heap.size ≠ h by omega) (by omega)
      have G3 := hfW.c3
      have fz := hfW.fz 3
      have hww : IntKind.i64.wrap (k + 1) = k + 1 := IntWalk.i64_in _ (by omega)
      obtain ⟨S2, hS2⟩ : ∃ S2, (mergeS X fs ms (cellsM X Y bs)).2 = S2 := ⟨_, rfl⟩
      rw [hS2] at hrow
      have HS2 := Lib.hid hS2
      have HFW := Lib.hid hfW
      have HKT := Lib.hid (keptT_fold (g := g) hA hkt (by omega))
      have hgD : g ≠ D := by omega
      have hhD : h ≠ D := by omega
      have hwD : w.heap.size ≤ D := by omega
      have zg := hfW.lt
      have zP := blk_lt P0
      clear hfW hkt hf hf0 hS2
      by_cases h0 : S2 = []
      · subst h0
        obtain ⟨a', cap', rfl, hrc⟩ := rowC_of_own (ownsRow_putObj hrow (.deferred none) hK rfl)
        have HRC := Lib.hid hrc
        have HAF := Lib.hid (show ∀ gb o, a' = some ⟨gb, o, none⟩ → w.heap.size ≤ gb by rintro gb o rfl; have := (hrow.lt gb rfl).1; omega)
        clear hrc hrow hbx
        go_wp2
        refine ⟨by simp, .inl ⟨_, _, rfl, run_takeDeferred hK, ?_⟩⟩
        have hgp := grownBy_putObj' W D (.deferred none)
        refine ⟨_, by simp [results, Try.results9, go_sem]; rfl, ?_⟩
        unfold MergeP
        refine ⟨a', cap', ?_, ?_, HAF.out, ?_, HKT.out.grown hgp (fun j e => by cases e; exact .inl hwD)⟩
        · rw [HS2.out]
          rfl
        · rw [HS2.out]
          exact HRC.out
        · rw [HS2.out, if_pos rfl, Int.add_zero]
          exact HFW.out.kept hgp (by simp; omega) (by simp; omega)
      · have hlp : 0 < S2.length := List.length_pos_iff.2 h0
        have hlp2 : (0 : Int) < (S2.length : Int) := by omega
        have HNE := Lib.hid h0
        have hbr : S2.length ≠ 0 := by omega
        obtain ⟨a', cap', rfl, hrc0⟩ := rowC_of_own hrow
        clear hrc0
        have hgr := grown_set W g 3 (.int .i64 (k + 1))
        have hrow2 := hrow.kept hgr (.inr (fun e => by have := (hrow.lt g e).1; omega))
        have hK2 : (W.setCell ⟨g, 3, none⟩ (.int .i64 (k + 1))).heap[D]? = some (.deferred (some [])) := heap_st hK hgD _
        obtain ⟨a2, cap2, e2, hrc⟩ := rowC_of_own (ownsRow_putObj hrow2 (.deferred none) hK2 rfl)
        cases e2
        have HRC := Lib.hid hrc
        have HAF := Lib.hid (show ∀ gb o, a' = some ⟨gb, o, none⟩ → w.heap.size ≤ gb by rintro gb o rfl; have := (hrow.lt gb rfl).1; omega)
        have HV := Lib.hid (fog_ver HFW.out (k + 1))
        have HKT2 := Lib.hid (HKT.out.grown hgr (fun j e => by cases e; exact .inr (.inl rfl)))
        have HK2 := Lib.hid hK2
        have hbx2 : W2.heap.size ≠ g := by omega
        clear hrc hrow hrow2 hbx hgr hK2 h0
        go_wp2
        refine ⟨by simp, .inl ⟨_, _, rfl, run_takeDeferred HK2.out, ?_⟩⟩
        have hgp := grownBy_putObj' (W.setCell ⟨g, 3, none⟩ (.int .i64 (k + 1))) D (.deferred none)
        refine ⟨_, by simp [results, Try.results9, go_sem]; rfl, ?_⟩
        unfold MergeP
        refine ⟨a', cap', ?_, ?_, HAF.out, ?_, HKT2.out.grown hgp (fun j e => by cases e; exact .inl hwD)⟩
        · rw [HS2.out]
        · rw [HS2.out]
          exact HRC.out
        · rw [HS2.out, if_neg HNE.out]
          exact HV.out.kept hgp (by simp; omega) (by simp; omega)
    case body =>
      rintro l pre e a' W ⟨r0, hl0⟩ hPe ⟨hkt, hfW, v, hbx, hrow⟩ ⟨Bx, hBx, d0, d1, rfl⟩ hsz hlt
      obtain ⟨ex, ey⟩ := e
      dsimp only at hPe d0 d1
      have P0 := hkt.cell p0 (show w.heap.size ≠ h by omega) (by omega)
      have F2 := hkt.cell f2 (show w.heap.size + 1 ≠ h by omega) (by omega)
      have G0 := hfW.c0
      have G1 := hfW.c1
      have G2 := hfW.c2
      rw [(mergeS_len X fs ms pre).1] at G2
      have hlen := (mergeS_len X fs ms pre).1
      obtain ⟨i1, i2⟩ := idx_lt hPe
      rw [← chk_area HQ.out] at i2
      obtain ⟨n, hn⟩ : ∃ n : Nat, ey * X + ex = n := ⟨(ey * X + ex).toNat, by omega⟩
      have hnl : n < fs.length := by omega
      obtain ⟨o, ho⟩ : ∃ o, (mergeS X fs ms pre).1[n]? = some o := ⟨_, List.getElem?_eq_getElem (by omega)⟩
      obtain ⟨q0, q1⟩ := hfW.at ho
      obtain ⟨ga, oa, ea, qf⟩ := hrf.cell hnl
      have hga := hah ga oa ea
      have zga := blk_lt qf
      replace qf := hkt.cell (cell_later hA qf) hga (by omega)
      subst ea
      obtain ⟨z, hz⟩ : ∃ z, fs[n] = z := ⟨_, rfl⟩
      rw [hz] at qf
      have hst : mergeS X fs ms (pre ++ [(ex, ey)]) = (if o = some z then mergeS X fs ms pre else ((mergeS X fs ms pre).1.set n (some z), (mergeS X fs ms pre).2 ++ [(ex, ey)])) := by
        rw [mergeS_snoc]
        unfold stepS
        have e1 : numC X (ex, ey) = n := by simp [numC, hn]
        have e2 : fs.getD n 0 = z := by simp [List.getD, hnl, hz]
        rw [e1, e2, ho]
        simp
      have HS := Lib.hid hst
      have HI := Lib.hid (show MergeI W0 B g h cap W2.heap.size (W0.heap.size + 4) X Y k fs ms pre W from ⟨hkt, hfW, v, hbx, hrow⟩)
      have E0 := Lib.hid d0
      have E1 := Lib.hid d1
      have HN := Lib.hid hn
      have HO := Lib.hid ho
      have HM := Lib.hid hlen
      have hnl2 : (n : Int) < (ms.length : Int) := by omega
      have hnl3 : (n : Int) < (fs.length : Int) := by omega
      have hn0 : (0 : Int) ≤ (n : Int) := by omega
      have zP := blk_lt P0
      have zF := blk_lt F2
      have zG := blk_lt G0
      have zD := blk_lt d0
      clear hst hkt hfW hbx hrow ho hz hlen hrf hrf0 hf hf0 hn i1 i2 hs0 hb0
      gi_wp2
      have hD := bl_dr (bl0 W)
      refine ordS_begin (S := (fun w' : World => w'.cell? ⟨w.heap.size, 0, none⟩ = some (.pointer (some ⟨g, 0, none⟩)) ∧ w'.cell? ⟨g, 0, none⟩ = some (.int .i64 X) ∧ w'.cell? ⟨g, 1, none⟩ = some (.int .i64 Y) ∧ w'.cell? ⟨Bx, 0, none⟩ = some (.int .i64 ex) ∧ w'.cell? ⟨Bx, 1, none⟩ = some (.int .i64 ey))) (by kernel_rfl) ⟨cell_later hD P0, cell_later hD G0, cell_later hD G1, cell_later hD d0, cell_later hD d1⟩ (fun hH => ?_)
      first
        | (refine' ordS_take (i := 0) (oi := { dst := some 45, op := Op.load 29 (Operand.tmp 3), type := 29, pos := _, after := #[], guard := none }) (v := _) rfl (by kernel_rfl) (by kernel_rfl) (by kernel_rfl) (by kernel_rfl) (fun _ _ _ h => h) (by assumption) (Or.inl ⟨by rfl, ?hy1⟩) (fun _ => rfl) ?rest1
           case hy1 => (intro w hSw; (try dsimp only at hSw); go_simp; try with_reducible rfl))
        | (refine ordS_take (i := 0) (oi := { dst := some 45, op := Op.load 29 (Operand.tmp 3), type := 29, pos := _, after := #[], guard := none }) (v := undef) rfl (by kernel_rfl) (by kernel_rfl) (by kernel_rfl) (by kernel_rfl) (fun _ _ _ h => h) (by assumption) (Or.inr ⟨by rfl, rfl⟩) (fun _ => rfl) ?_)
      try simp only [Act.put, List.setIfInBounds_toArray, List.set_cons_zero, List.set_cons_succ]
      first
        | (refine' ordS_take (i := 1) (oi := { dst := some 46, op := Op.nilCheck (Operand.tmp 45), type := 0, pos := _, after := #[{ on := 0, ground := Ground.data }], guard := none }) (v := _) rfl (by kernel_rfl) (by kernel_rfl) (by kernel_rfl) (by kernel_rfl) (fun _ _ _ h => h) (by assumption) (Or.inl ⟨by rfl, ?hy2⟩) (fun _ => rfl) ?rest2
           case hy2 => (intro w hSw; (try dsimp only at hSw); go_simp; try with_reducible rfl))
        | (refine ordS_take (i := 1) (oi := { dst := some 46, op := Op.nilCheck (Operand.tmp 45), type := 0, pos := _, after := #[{ on := 0, ground := Ground.data }], guard := none }) (v := undef) rfl (by kernel_rfl) (by kernel_rfl) (by kernel_rfl) (by kernel_rfl) (fun _ _ _ h => h) (by assumption) (Or.inr ⟨by rfl, rfl⟩) (fun _ => rfl) ?_)
      try simp only [Act.put, List.setIfInBounds_toArray, List.set_cons_zero, List.set_cons_succ]
      first
        | (refine' ordS_take (i := 2) (oi := { dst := some 47, op := Op.fieldAddr 66 (Operand.tmp 46) 0, type := 0, pos := _, after := #[{ on := 1, ground := Ground.data }], guard := none }) (v := _) rfl (by kernel_rfl) (by kernel_rfl) (by kernel_rfl) (by kernel_rfl) (fun _ _ _ h => h) (by assumption) (Or.inl ⟨by rfl, ?hy3⟩) (fun _ => rfl) ?rest3
           case hy3 => (intro w hSw; (try dsimp only at hSw); go_simp; try with_reducible rfl))
        | (refine ordS_take (i := 2) (oi := { dst := some 47, op := Op.fieldAddr 66 (Operand.tmp 46) 0, type := 0, pos := _, after := #[{ on := 1, ground := Ground.data }], guard := none }) (v := undef) rfl (by kernel_rfl) (by kernel_rfl) (by kernel_rfl) (by kernel_rfl) (fun _ _ _ h => h) (by assumption) (Or.inr ⟨by rfl, rfl⟩) (fun _ => rfl) ?_)
      try simp only [Act.put, List.setIfInBounds_toArray, List.set_cons_zero, List.set_cons_succ]
      first
        | (refine' ordS_take (i := 3) (oi := { dst := some 48, op := Op.load 23 (Operand.tmp 47), type := 23, pos := _, after := #[{ on := 2, ground := Ground.data }], guard := none }) (v := _) rfl (by kernel_rfl) (by kernel_rfl) (by kernel_rfl) (by kernel_rfl) (fun _ _ _ h => h) (by assumption) (Or.inl ⟨by rfl, ?hy4⟩) (fun _ => rfl) ?rest4
           case hy4 => (intro w hSw; (try dsimp only at hSw); go_simp; try with_reducible rfl))
        | (refine ordS_take (i := 3) (oi := { dst := some 48, op := Op.load 23 (Operand.tmp 47), type := 23, pos := _, after := #[{ on := 2, ground := Ground.data }], guard := none }) (v := undef) rfl (by kernel_rfl) (by kernel_rfl) (by kernel_rfl) (by kernel_rfl) (fun _ _ _ h => h) (by assumption) (Or.inr ⟨by rfl, rfl⟩) (fun _ => rfl) ?_)
      try simp only [Act.put, List.setIfInBounds_toArray, List.set_cons_zero, List.set_cons_succ]
      first
        | (refine' ordS_take (i := 4) (oi := { dst := some 49, op := Op.load 26 (Operand.tmp 10), type := 26, pos := _, after := #[], guard := none }) (v := _) rfl (by kernel_rfl) (by kernel_rfl) (by kernel_rfl) (by kernel_rfl) (fun _ _ _ h => h) (by assumption) (Or.inl ⟨by rfl, ?hy5⟩) (fun _ => rfl) ?rest5
           case hy5 => (intro w hSw; (try dsimp only at hSw); go_simp; try with_reducible rfl))
        | (refine ordS_take (i := 4) (oi := { dst := some 49, op := Op.load 26 (Operand.tmp 10), type := 26, pos := _, after := #[], guard := none }) (v := undef) rfl (by kernel_rfl) (by kernel_rfl) (by kernel_rfl) (by kernel_rfl) (fun _ _ _ h => h) (by assumption) (Or.inr ⟨by rfl, rfl⟩) (fun _ => rfl) ?_)
      try simp only [Act.put, List.setIfInBounds_toArray, List.set_cons_zero, List.set_cons_succ]
      refine ordS_one (i := 5) (o := { dst := some 50, op := Op.call { callee := Callee.value (Operand.func 32), args := #[Operand.tmp 48, Operand.tmp 49], argTypes := #[23, 26] }, type := 75, pos := _, after := #[{ on := 3, ground := Ground.data }, { on := 4, ground := Ground.data }], guard := none }) (by kernel_rfl) rfl (by rfl) (fun K hK => ?_)
      go_simp
      refine ⟨trivial, ?_⟩
      with_reducible refine (CallsIn.inRound l (callsIn_wide.2 (index_yes X Y ex ey _ hPe))).mono ?_
      rintro e w8 ⟨rfl, hb8⟩
      rw [HN.out]
      have hb8' := bl_tr hD hb8
      replace P0 := cell_later hb8' P0
      replace G0 := cell_later hb8' G0
      replace G1 := cell_later hb8' G1
      replace d0 := cell_later hb8' d0
      replace d1 := cell_later hb8' d1
      replace F2 := cell_later hb8' F2
      replace G2 := cell_later hb8' G2
      replace q0 := cell_later hb8' q0
      replace q1 := cell_later hb8' q1
      replace qf := cell_later hb8' qf
      have hS8 : (fun w' : World => w'.cell? ⟨w.heap.size, 0, none⟩ = some (.pointer (some ⟨g, 0, none⟩)) ∧ w'.cell? ⟨g, 0, none⟩ = some (.int .i64 X) ∧ w'.cell? ⟨g, 1, none⟩ = some (.int .i64 Y) ∧ w'.cell? ⟨Bx, 0, none⟩ = some (.int .i64 ex) ∧ w'.cell? ⟨Bx, 1, none⟩ = some (.int .i64 ey)) w8 := ⟨P0, G0, G1, d0, d1⟩
      refine hK _ _ hS8 ?_
      clear hK K
      try simp only [Act.put, List.setIfInBounds_toArray, List.set_cons_zero, List.set_cons_succ]
      first
        | (refine' ordS_take (i := 6) (oi := { dst := some 44, op := Op.move (Operand.tmp 50), type := 75, pos := _, after := #[{ on := 5, ground := Ground.data }], guard := none }) (v := _) rfl (by kernel_rfl) (by kernel_rfl) (by kernel_rfl) (by kernel_rfl) (fun _ _ _ h => h) (by assumption) (Or.inl ⟨by rfl, ?hy6⟩) (fun _ => rfl) ?rest6
           case hy6 => (intro w hSw; (try dsimp only at hSw); go_simp; try with_reducible rfl))
        | (refine ordS_take (i := 6) (oi := { dst := some 44, op := Op.move (Operand.tmp 50), type := 75, pos := _, after := #[{ on := 5, ground := Ground.data }], guard := none }) (v := undef) rfl (by kernel_rfl) (by kernel_rfl) (by kernel_rfl) (by kernel_rfl) (fun _ _ _ h => h) (by assumption) (Or.inr ⟨by rfl, rfl⟩) (fun _ => rfl) ?_)
      try simp only [Act.put, List.setIfInBounds_toArray, List.set_cons_zero, List.set_cons_succ]
      first
        | (refine' ordS_take (i := 7) (oi := { dst := some 51, op := Op.extract (Operand.tmp 44) 0, type := 3, pos := _, after := #[{ on := 6, ground := Ground.data }], guard := none }) (v := _) rfl (by kernel_rfl) (by kernel_rfl) (by kernel_rfl) (by kernel_rfl) (fun _ _ _ h => h) (by assumption) (Or.inl ⟨by rfl, ?hy7⟩) (fun _ => rfl) ?rest7
           case hy7 => (intro w hSw; (try dsimp only at hSw); go_simp; try with_reducible rfl))
        | (refine ordS_take (i := 7) (oi := { dst := some 51, op := Op.extract (Operand.tmp 44) 0, type := 3, pos := _, after := #[{ on := 6, ground := Ground.data }], guard := none }) (v := undef) rfl (by kernel_rfl) (by kernel_rfl) (by kernel_rfl) (by kernel_rfl) (fun _ _ _ h => h) (by assumption) (Or.inr ⟨by rfl, rfl⟩) (fun _ => rfl) ?_)
      try simp only [Act.put, List.setIfInBounds_toArray, List.set_cons_zero, List.set_cons_succ]
      first
        | (refine' ordS_take (i := 8) (oi := { dst := some 52, op := Op.extract (Operand.tmp 44) 1, type := 30, pos := _, after := #[{ on := 6, ground := Ground.data }, { on := 9, ground := Ground.gcOnly Departure.lateStores }], guard := none }) (v := _) rfl (by kernel_rfl) (by kernel_rfl) (by kernel_rfl) (by kernel_rfl) (fun _ _ _ h => h) (by assumption) (Or.inl ⟨by rfl, ?hy8⟩) (fun _ => rfl) ?rest8
           case hy8 => (intro w hSw; (try dsimp only at hSw); go_simp; try with_reducible rfl))
        | (refine ordS_take (i := 8) (oi := { dst := some 52, op := Op.extract (Operand.tmp 44) 1, type := 30, pos := _, after := #[{ on := 6, ground := Ground.data }, { on := 9, ground := Ground.gcOnly Departure.lateStores }], guard := none }) (v := undef) rfl (by kernel_rfl) (by kernel_rfl) (by kernel_rfl) (by kernel_rfl) (fun _ _ _ h => h) (by assumption) (Or.inr ⟨by rfl, rfl⟩) (fun _ => rfl) ?_)
      try simp only [Act.put, List.setIfInBounds_toArray, List.set_cons_zero, List.set_cons_succ]
      first
        | (refine' ordS_take (i := 9) (oi := { dst := some 11, op := Op.assign (Operand.tmp 51), type := 3, pos := _, after := #[{ on := 7, ground := Ground.data }, { on := 5, ground := Ground.chain }, { on := 0, ground := Ground.phase }, { on := 1, ground := Ground.phase }, { on := 2, ground := Ground.phase }, { on := 3, ground := Ground.phase }, { on := 4, ground := Ground.phase }, { on := 5, ground := Ground.phase }, { on := 6, ground := Ground.phase }, { on := 7, ground := Ground.phase }, { on := 8, ground := Ground.textOnly Departure.lateStores }], guard := none }) (v := _) rfl (by kernel_rfl) (by kernel_rfl) (by kernel_rfl) (by kernel_rfl) (fun _ _ _ h => h) (by assumption) (Or.inl ⟨by rfl, ?hy9⟩) (fun _ => rfl) ?rest9
           case hy9 => (intro w hSw; (try dsimp only at hSw); go_simp; try with_reducible rfl))
        | (refine ordS_take (i := 9) (oi := { dst := some 11, op := Op.assign (Operand.tmp 51), type := 3, pos := _, after := #[{ on := 7, ground := Ground.data }, { on := 5, ground := Ground.chain }, { on := 0, ground := Ground.phase }, { on := 1, ground := Ground.phase }, { on := 2, ground := Ground.phase }, { on := 3, ground := Ground.phase }, { on := 4, ground := Ground.phase }, { on := 5, ground := Ground.phase }, { on := 6, ground := Ground.phase }, { on := 7, ground := Ground.phase }, { on := 8, ground := Ground.textOnly Departure.lateStores }], guard := none }) (v := undef) rfl (by kernel_rfl) (by kernel_rfl) (by kernel_rfl) (by kernel_rfl) (fun _ _ _ h => h) (by assumption) (Or.inr ⟨by rfl, rfl⟩) (fun _ => rfl) ?_)
      try simp only [Act.put, List.setIfInBounds_toArray, List.set_cons_zero, List.set_cons_succ]
      first
        | (refine' ordS_take (i := 10) (oi := { dst := some 12, op := Op.assign (Operand.tmp 52), type := 30, pos := _, after := #[{ on := 8, ground := Ground.data }, { on := 9, ground := Ground.chain }, { on := 0, ground := Ground.phase }, { on := 1, ground := Ground.phase }, { on := 2, ground := Ground.phase }, { on := 3, ground := Ground.phase }, { on := 4, ground := Ground.phase }, { on := 5, ground := Ground.phase }, { on := 6, ground := Ground.phase }, { on := 7, ground := Ground.phase }, { on := 8, ground := Ground.phase }, { on := 9, ground := Ground.phase }], guard := none }) (v := _) rfl (by kernel_rfl) (by kernel_rfl) (by kernel_rfl) (by kernel_rfl) (fun _ _ _ h => h) (by assumption) (Or.inl ⟨by rfl, ?hy10⟩) (fun _ => rfl) ?rest10
           case hy10 => (intro w hSw; (try dsimp only at hSw); go_simp; try with_reducible rfl))
        | (refine ordS_take (i := 10) (oi := { dst := some 12, op := Op.assign (Operand.tmp 52), type := 30, pos := _, after := #[{ on := 8, ground := Ground.data }, { on := 9, ground := Ground.chain }, { on := 0, ground := Ground.phase }, { on := 1, ground := Ground.phase }, { on := 2, ground := Ground.phase }, { on := 3, ground := Ground.phase }, { on := 4, ground := Ground.phase }, { on := 5, ground := Ground.phase }, { on := 6, ground := Ground.phase }, { on := 7, ground := Ground.phase }, { on := 8, ground := Ground.phase }, { on := 9, ground := Ground.phase }], guard := none }) (v := undef) rfl (by kernel_rfl) (by kernel_rfl) (by kernel_rfl) (by kernel_rfl) (fun _ _ _ h => h) (by assumption) (Or.inr ⟨by rfl, rfl⟩) (fun _ => rfl) ?_)
      try simp only [Act.put, List.setIfInBounds_toArray, List.set_cons_zero, List.set_cons_succ]
      refine ordS_done (by kernel_rfl) ?_
      gi_wp2
      obtain ⟨W9, hW9⟩ : ∃ W9, w8.alloc (.cells #[.bool true, .int .u16 z] 78) = W9 := ⟨_, rfl⟩
      rw [hW9]
      have hz9 : W9.heap.size = w8.heap.size + 1 := by rw [← hW9]; simp
      have hb9 : Below w8.heap.size w8 W9 := by rw [← hW9]; exact bl_al (bl0 _) _
      have N0 : W9.cell? ⟨w8.heap.size, 0, none⟩ = some (.bool true) := by rw [← hW9]; simp [go_sem]
      have N1 : W9.cell? ⟨w8.heap.size, 1, none⟩ = some (.int .u16 z) := by rw [← hW9]; simp [go_sem]
      replace P0 := cell_later hb9 P0
      replace G2 := cell_later hb9 G2
      replace q0 := cell_later hb9 q0
      replace q1 := cell_later hb9 q1
      replace d0 := cell_later hb9 d0
      replace d1 := cell_later hb9 d1
      have hbW9 := bl_tr hb8' hb9
      have HI9 := Lib.hid (HI.out.below hbW9)
      clear hW9 hb9 hb8 hb8' hS8 hH G0 G1 F2 qf
      obtain ⟨s, hs⟩ : ∃ s, o.isSome = s := ⟨_, rfl⟩
      obtain ⟨y, hy⟩ : ∃ y, o.getD 0 = y := ⟨_, rfl⟩
      rw [hs] at q0
      rw [hy] at q1
      have HSO := Lib.hid hs
      have HYO := Lib.hid hy
      clear hs hy
      have hD9 := bl_dr (bl0 W9)
      refine ordS_begin (S := (fun w' : World => w'.cell? ⟨w.heap.size, 0, none⟩ = some (.pointer (some ⟨g, 0, none⟩)) ∧ w'.cell? ⟨g, 2, none⟩ = some (.slice (some ⟨h, 0, none⟩) ms.length cap) ∧ w'.cell? ⟨h, n * 2, none⟩ = some (.bool s) ∧ w'.cell? ⟨h, n * 2 + 1, none⟩ = some (.int .u16 y) ∧ w'.cell? ⟨w8.heap.size, 0, none⟩ = some (.bool true) ∧ w'.cell? ⟨w8.heap.size, 1, none⟩ = some (.int .u16 z))) (by kernel_rfl) ⟨cell_later hD9 P0, cell_later hD9 G2, cell_later hD9 q0, cell_later hD9 q1, cell_later hD9 N0, cell_later hD9 N1⟩ (fun hH => ?_)
      first
        | (refine' ordS_take (i := 0) (oi := { dst := some 59, op := Op.load 29 (Operand.tmp 3), type := 29, pos := _, after := #[], guard := none }) (v := _) rfl (by kernel_rfl) (by kernel_rfl) (by kernel_rfl) (by kernel_rfl) (fun _ _ _ h => h) (by assumption) (Or.inl ⟨by rfl, ?hy11⟩) (fun _ => rfl) ?rest11
           case hy11 => (intro w hSw; (try dsimp only at hSw); go_simp; try with_reducible rfl))
        | (refine ordS_take (i := 0) (oi := { dst := some 59, op := Op.load 29 (Operand.tmp 3), type := 29, pos := _, after := #[], guard := none }) (v := undef) rfl (by kernel_rfl) (by kernel_rfl) (by kernel_rfl) (by kernel_rfl) (fun _ _ _ h => h) (by assumption) (Or.inr ⟨by rfl, rfl⟩) (fun _ => rfl) ?_)
      try simp only [Act.put, List.setIfInBounds_toArray, List.set_cons_zero, List.set_cons_succ]
      first
        | (refine' ordS_take (i := 1) (oi := { dst := some 60, op := Op.nilCheck (Operand.tmp 59), type := 0, pos := _, after := #[{ on := 0, ground := Ground.data }], guard := none }) (v := _) rfl (by kernel_rfl) (by kernel_rfl) (by kernel_rfl) (by kernel_rfl) (fun _ _ _ h => h) (by assumption) (Or.inl ⟨by rfl, ?hy12⟩) (fun _ => rfl) ?rest12
           case hy12 => (intro w hSw; (try dsimp only at hSw); go_simp; try with_reducible rfl))
        | (refine ordS_take (i := 1) (oi := { dst := some 60, op := Op.nilCheck (Operand.tmp 59), type := 0, pos := _, after := #[{ on := 0, ground := Ground.data }], guard := none }) (v := undef) rfl (by kernel_rfl) (by kernel_rfl) (by kernel_rfl) (by kernel_rfl) (fun _ _ _ h => h) (by assumption) (Or.inr ⟨by rfl, rfl⟩) (fun _ => rfl) ?_)
      try simp only [Act.put, List.setIfInBounds_toArray, List.set_cons_zero, List.set_cons_succ]
      first
        | (refine' ordS_take (i := 2) (oi := { dst := some 61, op := Op.fieldAddr 66 (Operand.tmp 60) 1, type := 0, pos := _, after := #[{ on := 1, ground := Ground.data }], guard := none }) (v := _) rfl (by kernel_rfl) (by kernel_rfl) (by kernel_rfl) (by kernel_rfl) (fun _ _ _ h => h) (by assumption) (Or.inl ⟨by rfl, ?hy13⟩) (fun _ => rfl) ?rest13
           case hy13 => (intro w hSw; (try dsimp only at hSw); go_simp; try with_reducible rfl))
        | (refine ordS_take (i := 2) (oi := { dst := some 61, op := Op.fieldAddr 66 (Operand.tmp 60) 1, type := 0, pos := _, after := #[{ on := 1, ground := Ground.data }], guard := none }) (v := undef) rfl (by kernel_rfl) (by kernel_rfl) (by kernel_rfl) (by kernel_rfl) (fun _ _ _ h => h) (by assumption) (Or.inr ⟨by rfl, rfl⟩) (fun _ => rfl) ?_)
      try simp only [Act.put, List.setIfInBounds_toArray, List.set_cons_zero, List.set_cons_succ]
      first
        | (refine' ordS_take (i := 3) (oi := { dst := some 62, op := Op.load 64 (Operand.tmp 61), type := 64, pos := _, after := #[{ on := 2, ground := Ground.data }], guard := none }) (v := _) rfl (by kernel_rfl) (by kernel_rfl) (by kernel_rfl) (by kernel_rfl) (fun _ _ _ h => h) (by assumption) (Or.inl ⟨by rfl, ?hy14⟩) (fun _ => rfl) ?rest14
           case hy14 => (intro w hSw; (try dsimp only at hSw); go_simp; try with_reducible rfl))
        | (refine ordS_take (i := 3) (oi := { dst := some 62, op := Op.load 64 (Operand.tmp 61), type := 64, pos := _, after := #[{ on := 2, ground := Ground.data }], guard := none }) (v := undef) rfl (by kernel_rfl) (by kernel_rfl) (by kernel_rfl) (by kernel_rfl) (fun _ _ _ h => h) (by assumption) (Or.inr ⟨by rfl, rfl⟩) (fun _ => rfl) ?_)
      try simp only [Act.put, List.setIfInBounds_toArray, List.set_cons_zero, List.set_cons_succ]
      first
        | (refine' ordS_take (i := 4) (oi := { dst := some 63, op := Op.move (Operand.tmp 11), type := 3, pos := _, after := #[], guard := none }) (v := _) rfl (by kernel_rfl) (by kernel_rfl) (by kernel_rfl) (by kernel_rfl) (fun _ _ _ h => h) (by assumption) (Or.inl ⟨by rfl, ?hy15⟩) (fun _ => rfl) ?rest15
           case hy15 => (intro w hSw; (try dsimp only at hSw); go_simp; try with_reducible rfl))
        | (refine ordS_take (i := 4) (oi := { dst := some 63, op := Op.move (Operand.tmp 11), type := 3, pos := _, after := #[], guard := none }) (v := undef) rfl (by kernel_rfl) (by kernel_rfl) (by kernel_rfl) (by kernel_rfl) (fun _ _ _ h => h) (by assumption) (Or.inr ⟨by rfl, rfl⟩) (fun _ => rfl) ?_)
      try simp only [Act.put, List.setIfInBounds_toArray, List.set_cons_zero, List.set_cons_succ]
      first
        | (refine' ordS_take (i := 5) (oi := { dst := some 64, op := Op.indexAddr 64 (Operand.tmp 62) (Operand.tmp 63), type := 0, pos := _, after := #[{ on := 3, ground := Ground.data }, { on := 4, ground := Ground.data }], guard := none }) (v := _) rfl (by kernel_rfl) (by kernel_rfl) (by kernel_rfl) (by kernel_rfl) (fun _ _ _ h => h) (by assumption) (Or.inl ⟨by rfl, ?hy16⟩) (fun _ => rfl) ?rest16
           case hy16 => (intro w hSw; (try dsimp only at hSw); go_simp; try with_reducible rfl))
        | (refine ordS_take (i := 5) (oi := { dst := some 64, op := Op.indexAddr 64 (Operand.tmp 62) (Operand.tmp 63), type := 0, pos := _, after := #[{ on := 3, ground := Ground.data }, { on := 4, ground := Ground.data }], guard := none }) (v := undef) rfl (by kernel_rfl) (by kernel_rfl) (by kernel_rfl) (by kernel_rfl) (fun _ _ _ h => h) (by assumption) (Or.inr ⟨by rfl, rfl⟩) (fun _ => rfl) ?_)
      try simp only [Act.put, List.setIfInBounds_toArray, List.set_cons_zero, List.set_cons_succ]
      first
        | (refine' ordS_take (i := 6) (oi := { dst := some 65, op := Op.load 78 (Operand.tmp 64), type := 78, pos := _, after := #[{ on := 5, ground := Ground.data }], guard := none }) (v := _) rfl (by kernel_rfl) (by kernel_rfl) (by kernel_rfl) (by kernel_rfl) (fun _ _ _ h => h) (by assumption) (Or.inl ⟨by rfl, ?hy17⟩) (fun _ => rfl) ?rest17
           case hy17 => (intro w hSw; (try dsimp only at hSw); go_simp; try with_reducible rfl))
        | (refine ordS_take (i := 6) (oi := { dst := some 65, op := Op.load 78 (Operand.tmp 64), type := 78, pos := _, after := #[{ on := 5, ground := Ground.data }], guard := none }) (v := undef) rfl (by kernel_rfl) (by kernel_rfl) (by kernel_rfl) (by kernel_rfl) (fun _ _ _ h => h) (by assumption) (Or.inr ⟨by rfl, rfl⟩) (fun _ => rfl) ?_)
      try simp only [Act.put, List.setIfInBounds_toArray, List.set_cons_zero, List.set_cons_succ]
      first
        | (refine' ordS_take (i := 7) (oi := { dst := some 66, op := Op.load 78 (Operand.tmp 13), type := 78, pos := _, after := #[], guard := none }) (v := _) rfl (by kernel_rfl) (by kernel_rfl) (by kernel_rfl) (by kernel_rfl) (fun _ _ _ h => h) (by assumption) (Or.inl ⟨by rfl, ?hy18⟩) (fun _ => rfl) ?rest18
           case hy18 => (intro w hSw; (try dsimp only at hSw); go_simp; try with_reducible rfl))
        | (refine ordS_take (i := 7) (oi := { dst := some 66, op := Op.load 78 (Operand.tmp 13), type := 78, pos := _, after := #[], guard := none }) (v := undef) rfl (by kernel_rfl) (by kernel_rfl) (by kernel_rfl) (by kernel_rfl) (fun _ _ _ h => h) (by assumption) (Or.inr ⟨by rfl, rfl⟩) (fun _ => rfl) ?_)
      try simp only [Act.put, List.setIfInBounds_toArray, List.set_cons_zero, List.set_cons_succ]
      refine ordS_one (i := 8) (o := { dst := some 67, op := Op.binOp BinOp.neq 78 (Operand.tmp 65) (Operand.tmp 66) 78, type := 4, pos := _, after := #[{ on := 6, ground := Ground.data }, { on := 7, ground := Ground.data }], guard := none }) (by kernel_rfl) rfl (by rfl) (fun K hK => ?_)
      go_simp
      have hif := new_if o z (fun b => Result.ok (Next.value (Value.bool b)) W9.drew)
      rw [HSO.out, HYO.out] at hif
      try dsimp only at hif
      rw [hif]
      clear hif
      obtain ⟨t, ht⟩ : ∃ t, (!decide (o = some z)) = t := ⟨_, rfl⟩
      rw [ht]
      have HT := Lib.hid ht
      clear ht
      go_simp
      refine hK _ _ hH ?_
      clear hK K
      try simp only [Act.put, List.setIfInBounds_toArray, List.set_cons_zero, List.set_cons_succ]
      refine ordS_done (by kernel_rfl) ?_
      have hb10 := bl_tr hbW9 hD9
      have HI10 := Lib.hid (HI9.out.below hD9)
      cases t with
      | false =>
        have eo : o = some z := by have := HT.out; simpa using this
        have hst := HS.out
        rw [if_pos eo] at hst
        have HF := Lib.hid (show MergeI W0 B g h cap W2.heap.size (W0.heap.size + 4) X Y k fs ms (pre ++ [(ex, ey)]) W9.drew by unfold MergeI; rw [hst]; exact HI10.out)
        have HK := Lib.hid (show KeptM (W2.heap.size + 1) b hm W0.heap.size 4 W W9.drew from KeptM.of_below hb10)
        clear hst hb10
        gi_wp2
        exact ⟨HK.out, HF.out⟩
      | true =>
        have eo : o ≠ some z := by have := HT.out; simpa using this
        have hst := HS.out
        rw [if_neg eo] at hst
        replace P0 := cell_later hD9 P0
        replace G2 := cell_later hD9 G2
        replace N0 := cell_later hD9 N0
        replace N1 := cell_later hD9 N1
        replace q0 := cell_later hD9 q0
        replace q1 := cell_later hD9 q1
        obtain ⟨W10, hW10⟩ : ∃ W10, W9.drew = W10 := ⟨_, rfl⟩
        rw [hW10] at HI10 hb10 P0 G2 N0 N1 q0 q1 ⊢
        clear hW10 hH hD9
        have hD10 := bl_dr (bl0 W10)
        gi_wp2
        refine ordZ_begin (z := 7) (S := (fun w' : World => w'.cell? ⟨w.heap.size, 0, none⟩ = some (.pointer (some ⟨g, 0, none⟩)) ∧ w'.cell? ⟨g, 2, none⟩ = some (.slice (some ⟨h, 0, none⟩) ms.length cap) ∧ w'.cell? ⟨w8.heap.size, 0, none⟩ = some (.bool true) ∧ w'.cell? ⟨w8.heap.size, 1, none⟩ = some (.int .u16 z))) (by kernel_rfl) ⟨cell_later hD10 P0, cell_later hD10 G2, cell_later hD10 N0, cell_later hD10 N1⟩ (fun hH => ?_)
        first
          | (refine' ordZ_take (i := 0) (oi := { dst := some 68, op := Op.load 29 (Operand.tmp 3), type := 29, pos := _, after := #[], guard := none }) (v := _) rfl (by kernel_rfl) (by kernel_rfl) (by kernel_rfl) (by kernel_rfl) (fun _ _ _ h => h) (by assumption) (by kernel_rfl) (by decide) (by rfl) (Or.inl ⟨by rfl, ?hy19⟩) (fun _ => rfl) ?rest19
             case hy19 => (intro w hSw; (try dsimp only at hSw); go_simp; try with_reducible rfl))
          | (refine ordZ_take (i := 0) (oi := { dst := some 68, op := Op.load 29 (Operand.tmp 3), type := 29, pos := _, after := #[], guard := none }) (v := undef) rfl (by kernel_rfl) (by kernel_rfl) (by kernel_rfl) (by kernel_rfl) (fun _ _ _ h => h) (by assumption) (by kernel_rfl) (by decide) (by rfl) (Or.inr ⟨by rfl, rfl⟩) (fun _ => rfl) ?_)
        try simp only [Act.put, List.setIfInBounds_toArray, List.set_cons_zero, List.set_cons_succ]
        first
          | (refine' ordZ_take (i := 1) (oi := { dst := some 69, op := Op.nilCheck (Operand.tmp 68), type := 0, pos := _, after := #[{ on := 0, ground := Ground.data }], guard := none }) (v := _) rfl (by kernel_rfl) (by kernel_rfl) (by kernel_rfl) (by kernel_rfl) (fun _ _ _ h => h) (by assumption) (by kernel_rfl) (by decide) (by rfl) (Or.inl ⟨by rfl, ?hy20⟩) (fun _ => rfl) ?rest20
             case hy20 => (intro w hSw; (try dsimp only at hSw); go_simp; try with_reducible rfl))
          | (refine ordZ_take (i := 1) (oi := { dst := some 69, op := Op.nilCheck (Operand.tmp 68), type := 0, pos := _, after := #[{ on := 0, ground := Ground.data }], guard := none }) (v := undef) rfl (by kernel_rfl) (by kernel_rfl) (by kernel_rfl) (by kernel_rfl) (fun _ _ _ h => h) (by assumption) (by kernel_rfl) (by decide) (by rfl) (Or.inr ⟨by rfl, rfl⟩) (fun _ => rfl) ?_)
        try simp only [Act.put, List.setIfInBounds_toArray, List.set_cons_zero, List.set_cons_succ]
        first
          | (refine' ordZ_take (i := 2) (oi := { dst := some 70, op := Op.fieldAddr 66 (Operand.tmp 69) 1, type := 0, pos := _, after := #[{ on := 1, ground := Ground.data }], guard := none }) (v := _) rfl (by kernel_rfl) (by kernel_rfl) (by kernel_rfl) (by kernel_rfl) (fun _ _ _ h => h) (by assumption) (by kernel_rfl) (by decide) (by rfl) (Or.inl ⟨by rfl, ?hy21⟩) (fun _ => rfl) ?rest21
             case hy21 => (intro w hSw; (try dsimp only at hSw); go_simp; try with_reducible rfl))
          | (refine ordZ_take (i := 2) (oi := { dst := some 70, op := Op.fieldAddr 66 (Operand.tmp 69) 1, type := 0, pos := _, after := #[{ on := 1, ground := Ground.data }], guard := none }) (v := undef) rfl (by kernel_rfl) (by kernel_rfl) (by kernel_rfl) (by kernel_rfl) (fun _ _ _ h => h) (by assumption) (by kernel_rfl) (by decide) (by rfl) (Or.inr ⟨by rfl, rfl⟩) (fun _ => rfl) ?_)
        try simp only [Act.put, List.setIfInBounds_toArray, List.set_cons_zero, List.set_cons_succ]
        first
          | (refine' ordZ_take (i := 3) (oi := { dst := some 71, op := Op.load 64 (Operand.tmp 70), type := 64, pos := _, after := #[{ on := 2, ground := Ground.data }], guard := none }) (v := _) rfl (by kernel_rfl) (by kernel_rfl) (by kernel_rfl) (by kernel_rfl) (fun _ _ _ h => h) (by assumption) (by kernel_rfl) (by decide) (by rfl) (Or.inl ⟨by rfl, ?hy22⟩) (fun _ => rfl) ?rest22
             case hy22 => (intro w hSw; (try dsimp only at hSw); go_simp; try with_reducible rfl))
          | (refine ordZ_take (i := 3) (oi := { dst := some 71, op := Op.load 64 (Operand.tmp 70), type := 64, pos := _, after := #[{ on := 2, ground := Ground.data }], guard := none }) (v := undef) rfl (by kernel_rfl) (by kernel_rfl) (by kernel_rfl) (by kernel_rfl) (fun _ _ _ h => h) (by assumption) (by kernel_rfl) (by decide) (by rfl) (Or.inr ⟨by rfl, rfl⟩) (fun _ => rfl) ?_)
        try simp only [Act.put, List.setIfInBounds_toArray, List.set_cons_zero, List.set_cons_succ]
        first
          | (refine' ordZ_take (i := 4) (oi := { dst := some 72, op := Op.move (Operand.tmp 11), type := 3, pos := _, after := #[], guard := none }) (v := _) rfl (by kernel_rfl) (by kernel_rfl) (by kernel_rfl) (by kernel_rfl) (fun _ _ _ h => h) (by assumption) (by kernel_rfl) (by decide) (by rfl) (Or.inl ⟨by rfl, ?hy23⟩) (fun _ => rfl) ?rest23
             case hy23 => (intro w hSw; (try dsimp only at hSw); go_simp; try with_reducible rfl))
          | (refine ordZ_take (i := 4) (oi := { dst := some 72, op := Op.move (Operand.tmp 11), type := 3, pos := _, after := #[], guard := none }) (v := undef) rfl (by kernel_rfl) (by kernel_rfl) (by kernel_rfl) (by kernel_rfl) (fun _ _ _ h => h) (by assumption) (by kernel_rfl) (by decide) (by rfl) (Or.inr ⟨by rfl, rfl⟩) (fun _ => rfl) ?_)
        try simp only [Act.put, List.setIfInBounds_toArray, List.set_cons_zero, List.set_cons_succ]
        first
          | (refine' ordZ_take (i := 5) (oi := { dst := some 73, op := Op.load 78 (Operand.tmp 13), type := 78, pos := _, after := #[], guard := none }) (v := _) rfl (by kernel_rfl) (by kernel_rfl) (by kernel_rfl) (by kernel_rfl) (fun _ _ _ h => h) (by assumption) (by kernel_rfl) (by decide) (by rfl) (Or.inl ⟨by rfl, ?hy24⟩) (fun _ => rfl) ?rest24
             case hy24 => (intro w hSw; (try dsimp only at hSw); go_simp; try with_reducible rfl))
          | (refine ordZ_take (i := 5) (oi := { dst := some 73, op := Op.load 78 (Operand.tmp 13), type := 78, pos := _, after := #[], guard := none }) (v := undef) rfl (by kernel_rfl) (by kernel_rfl) (by kernel_rfl) (by kernel_rfl) (fun _ _ _ h => h) (by assumption) (by kernel_rfl) (by decide) (by rfl) (Or.inr ⟨by rfl, rfl⟩) (fun _ => rfl) ?_)
        try simp only [Act.put, List.setIfInBounds_toArray, List.set_cons_zero, List.set_cons_succ]
        first
          | (refine' ordZ_take (i := 6) (oi := { dst := some 74, op := Op.indexAddr 64 (Operand.tmp 71) (Operand.tmp 72), type := 0, pos := _, after := #[{ on := 3, ground := Ground.data }, { on := 4, ground := Ground.data }, { on := 0, ground := Ground.phase }, { on := 1, ground := Ground.phase }, { on := 2, ground := Ground.phase }, { on := 3, ground := Ground.phase }, { on := 4, ground := Ground.phase }, { on := 5, ground := Ground.phase }], guard := none }) (v := _) rfl (by kernel_rfl) (by kernel_rfl) (by kernel_rfl) (by kernel_rfl) (fun _ _ _ h => h) (by assumption) (by kernel_rfl) (by decide) (by rfl) (Or.inl ⟨by rfl, ?hy25⟩) (fun _ => rfl) ?rest25
             case hy25 => (intro w hSw; (try dsimp only at hSw); go_simp; try with_reducible rfl))
          | (refine ordZ_take (i := 6) (oi := { dst := some 74, op := Op.indexAddr 64 (Operand.tmp 71) (Operand.tmp 72), type := 0, pos := _, after := #[{ on := 3, ground := Ground.data }, { on := 4, ground := Ground.data }, { on := 0, ground := Ground.phase }, { on := 1, ground := Ground.phase }, { on := 2, ground := Ground.phase }, { on := 3, ground := Ground.phase }, { on := 4, ground := Ground.phase }, { on := 5, ground := Ground.phase }], guard := none }) (v := undef) rfl (by kernel_rfl) (by kernel_rfl) (by kernel_rfl) (by kernel_rfl) (fun _ _ _ h => h) (by assumption) (by kernel_rfl) (by decide) (by rfl) (Or.inr ⟨by rfl, rfl⟩) (fun _ => rfl) ?_)
        try simp only [Act.put, List.setIfInBounds_toArray, List.set_cons_zero, List.set_cons_succ]
        have HI11 := Lib.hid (HI10.out.below hD10)
        have y0 := cell_later hD10 q0
        have y1 := cell_later hD10 q1
        have fh0 := HI11.out.2.1.fh (n * 2)
        have fh1 := HI11.out.2.1.fh (n * 2 + 1)
        refine ordZ_one (i := 7) (o := { dst := none, op := Op.store 78 (Operand.tmp 74) (Operand.tmp 73), type := 0, pos := _, after := #[{ on := 6, ground := Ground.data }, { on := 5, ground := Ground.data }, { on := 0, ground := Ground.phase }, { on := 1, ground := Ground.phase }, { on := 2, ground := Ground.phase }, { on := 3, ground := Ground.phase }, { on := 4, ground := Ground.phase }, { on := 5, ground := Ground.phase }], guard := none }) (by kernel_rfl) rfl (by rfl) (fun K hK => ?_)
        go_simp
        rw [if_neg (by rw [HI10.out.2.1.fh]; decide)]
        go_simp
        refine hK _ _ (fun h => by cases h) ?_
        clear hK K
        try simp only [Act.put, List.setIfInBounds_toArray, List.set_cons_zero, List.set_cons_succ]
        refine ordZ_done (by kernel_rfl) ?_
        have hlo := HM.out
        have hlen2 := (mergeS_len X fs ms pre).2
        have hcl : (cellsM X Y bs).length ≤ 524288 := by
          rw [cellsM_len X Y bs hgd.2.2.1]
          have h1 := ones_le bs hgd.2.2.1
          have h2 := hgd.small
          omega
        obtain ⟨hkt, hfW, vv, hbx, hrow⟩ := HI10.out
        have hfn := fog_set hfW (n := n) (by omega) z
        have hgs := (grown_set W10 h (n * 2) (.bool true)).trans (grown_set _ h (n * 2 + 1) (.int .u16 z))
        obtain ⟨W11, hW11⟩ : ∃ W11, (W10.setCell ⟨h, n * 2, none⟩ (.bool true)).setCell ⟨h, n * 2 + 1, none⟩ (.int .u16 z) = W11 := ⟨_, rfl⟩
        rw [hW11] at hfn hgs ⊢
        clear hW11
        have hD11 := bl_dr (bl0 W11)
        have hgW := hgs.trans (grown_weak (grown_of_below hD11) (some h))
        replace hfn := hfn.below hD11
        obtain ⟨W12, hW12⟩ : ∃ W12, W11.drew = W12 := ⟨_, rfl⟩
        rw [hW12] at hgW hfn ⊢
        clear hW12 hD11 hgs
        have hrb : some h ≠ vv.ownBlock := fun e => by have := (hrow.lt h e.symm).1; omega
        replace hrow := hrow.kept hgW (.inr (fun e => hrb e.symm))
        replace hbx := hbx.kept hgW (by simp; omega)
        replace hkt := hkt.grown hgW (fun j e => by cases e; exact .inr (.inl rfl))
        have hKM := (KeptM.of_below (p := W2.heap.size + 1) (b := b) (h := hm) (n := W0.heap.size) (c := 4) hb10).trans (KeptM.of_grown hgW (by omega) hhb hhm (by omega))
        have D0 := hgW.cell (cell_later hb10 (show W.cell? ⟨Bx, 0, none⟩ = _ from E0.out)) (by simp; omega)
        have D1 := hgW.cell (cell_later hb10 (show W.cell? ⟨Bx, 1, none⟩ = _ from E1.out)) (by simp; omega)
        have cb := hbx.cell
        have fb := hbx.frozen
        have hWz := hkt.1.size
        have zB12 := blk_lt D0
        gi_wp2_with (gi_at_builtin; refine wpListIn_append_own _ rfl _ _ 38 rfl (W0.heap.size + 4) 26 i0 (.agg #[.int .i64 0, .int .i64 0]) 2 16 Try.underlying38 hi hz0 hz1 hz2 rfl (by decide) _ _ _ rfl (hrow.alloc _) ⟨W12.heap.size, 0, none⟩ 1 1 [.int .i64 ex, .int .i64 ey] rfl rfl ?c1 ?c2 ?c3 ?c4 ?c5 ?_)
        case c1 => exact cell_two_new _ _ _ _
        case c2 => intro u hu; simp at hu; rcases hu with rfl | rfl <;> rfl
        case c3 => unfold maxLen; omega
        case c4 => omega
        case c5 => rw [World.size_alloc]; have := hgW.size; have := hb10.size; omega
        intro v' w13 hown' hgrow _
        have hk2 := append_keptM (n := W0.heap.size) (v' := v') (B := W2.heap.size) (p := W2.heap.size + 1) (b := b) (h := hm) hrow hgrow (Nat.le_refl _) (by omega) (by omega) (by omega) (by omega) (by omega) (by omega) (by omega)
        have hb1 : Boxed w13 W2.heap.size 38 vv := (hbx.alloc _).kept hgrow (hbx.not_row (by decide) hrow)
        have hrow2 := hown'.kept (grownBy_setCell' w13 W2.heap.size v') (.inr (hb1.not_row (by decide) hown').symm)
        have hb2 := hb1.set v'
        have hkt2 : KeptT h W2.heap.size W0 (w13.setCell ⟨W2.heap.size, 0, none⟩ v') := ((hkt.grown (grown_al W12 _ none) (fun j e => by cases e)).grown hgrow (fun j e => .inl (by have := (hrow.lt j e).1; omega))).grown (grownBy_setCell' _ _ _) (fun j e => by cases e; exact .inr (.inr rfl))
        have hf2 := ((hfn.kept (grown_al W12 _ none) (by simp) (by simp)).kept hgrow (fun e => by have := (hrow.lt g e.symm).1; omega) (fun e => by have := (hrow.lt h e.symm).1; omega)).kept (grownBy_setCell' w13 W2.heap.size v') (by simp; omega) (by simp; omega)
        obtain ⟨gr, capr, rfl⟩ := ownsRow_succ hown'
        have c1 := hb1.cell
        have f1' := hb1.frozen
        have hfl : flatC ((mergeS X fs ms pre).2 ++ [(ex, ey)]) = flatC (mergeS X fs ms pre).2 ++ [.int .i64 ex, .int .i64 ey] := flatC_snoc _ _
        rw [← hfl] at hrow2
        have HF := Lib.hid (show MergeI W0 B g h cap W2.heap.size (W0.heap.size + 4) X Y k fs ms (pre ++ [(ex, ey)]) (w13.setCell ⟨W2.heap.size, 0, none⟩ _) by unfold MergeI; rw [hst]; exact ⟨hkt2, hf2, _, hb2, by rw [List.length_append, hzz]; exact hrow2⟩)
        have HK := Lib.hid (hKM.trans hk2)
        clear hk2 hkt2 hf2 hrow2 hb2 hown' hgrow hbx hrow hkt hfW hfn hKM cb fb D0 D1 hb1 hst
        gi_wp2
        exact ⟨HK.out, HF.out⟩
end Go.Proofs.Ytccokdfkmppohaa

/- Fog: Merge where nothing is remembered: a nil fog, a nil set, a field that is not right, sizes that differ. -/
namespace Go.Proofs.Ytccokdfkmppohaa
open Go.RowKit

set_option maxHeartbeats 1600000 in
theorem merge_nil1 (A B : Int) (a : Option Addr) (n c : Nat) (m : Option Addr) (w : World) :
    Calls Try.prog 9 #[.pointer none, .agg #[.int .i64 A, .int .i64 B, .slice a n c], .pointer m] w fun e w' => e = .returned (.tuple #[.slice none 0 0, .int .i64 2]) ∧ Below w.heap.size w w' := by
  go_enter Try.func9, Try.ntmps9
  go_wp2
  go_ret2
  exact ⟨rfl, bl_al (bl_al (bl0 _) _) _⟩
set_option maxHeartbeats 1600000 in
theorem merge_nil2 (g : Nat) (A B : Int) (a : Option Addr) (n c : Nat) (w : World) :
    Calls Try.prog 9 #[.pointer (some ⟨g, 0, none⟩), .agg #[.int .i64 A, .int .i64 B, .slice a n c], .pointer none] w fun e w' => e = .returned (.tuple #[.slice none 0 0, .int .i64 2]) ∧ Below w.heap.size w w' := by
  go_enter Try.func9, Try.ntmps9
  go_wp2
  go_ret2
  exact ⟨rfl, bl_al (bl_al (bl0 _) _) _⟩
set_option maxHeartbeats 1600000 in
theorem merge_chk (g b : Nat) (A B : Int) (a : Option Addr) (n c : Nat) (w : World) (hc : chkF A B n ≠ 0) :
    Calls Try.prog 9 #[.pointer (some ⟨g, 0, none⟩), .agg #[.int .i64 A, .int .i64 B, .slice a n c], .pointer (some ⟨b, 0, none⟩)] w fun e w' => e = .returned (.tuple #[.slice none 0 0, .int .i64 (chkF A B n)]) ∧ Below w.heap.size w w' := by
  have hc2 : (chkF A B n != 0) = true := by rw [bne_iff_ne]; exact hc
  have hA := bl0 w
  generalize hq : chkF A B n = q at *
  have HQ := Lib.hid hq
  clear hq
  go_enter Try.func9, Try.ntmps9
  go_wp2_with fail
  refine (check_any _ _ _ _ _ _).mono ?_
  rintro e w1 ⟨rfl, hb⟩
  have hk : Below w.heap.size w w1 := by first | exact hb | exact bl_tr (bl_al (bl0 _) _) hb | exact bl_tr (bl_dr (bl_al (bl0 _) _)) hb | exact bl_tr (bl_al (bl_al (bl0 _) _) _) hb | exact bl_tr (bl_dr (bl_al (bl_al (bl0 _) _) _)) hb | exact bl_tr (bl_al (bl_al (bl_al (bl0 _) _) _) _) hb | exact bl_tr (bl_dr (bl_al (bl_al (bl_al (bl0 _) _) _) _)) hb | exact bl_tr (bl_al (bl_al (bl_al (bl_al (bl0 _) _) _) _) _) hb | exact bl_tr (bl_dr (bl_al (bl_al (bl_al (bl_al (bl0 _) _) _) _) _)) hb | exact bl_tr (bl_al (bl_al (bl_al (bl_al (bl_al (bl0 _) _) _) _) _) _) hb | exact bl_tr (bl_dr (bl_al (bl_al (bl_al (bl_al (bl_al (bl0 _) _) _) _) _) _)) hb | exact bl_tr (bl_al (bl_al (bl_al (bl_al (bl_al (bl_al (bl0 _) _) _) _) _) _) _) hb | exact bl_tr (bl_dr (bl_al (bl_al (bl_al (bl_al (bl_al (bl_al (bl0 _) _) _) _) _) _) _)) hb | exact bl_tr (bl_dr (bl0 _)) hb
  replace hA := bl_tr hA hk
  clear hb hk
  rw [HQ.out]
  go_wp2
  go_ret2
  exact ⟨rfl, hA⟩
set_option maxRecDepth 100000 in
set_option maxHeartbeats 3200000 in
theorem merge_arg (C g h cap b : Nat) (X Y A B : Int) (ms : List (Option Int)) (k : Int) (a : Option Addr) (n c : Nat) (w : World) (hc : chkF A B n = 0) (hne : ¬ (A = X ∧ B = Y)) (hf : FogAt w C g h cap X Y ms k) :
    Calls Try.prog 9 #[.pointer (some ⟨g, 0, none⟩), .agg #[.int .i64 A, .int .i64 B, .slice a n c], .pointer (some ⟨b, 0, none⟩)] w fun e w' => e = .returned (.tuple #[.slice none 0 0, .int .i64 1]) ∧ Below w.heap.size w w' := by
  have HQ := Lib.hid hc
  have hA := bl0 w
  have G0 := hf.c0
  have G1 := hf.c1
  clear hc
  go_enter Try.func9, Try.ntmps9
  go_wp2_with fail
  refine (check_any _ _ _ _ _ _).mono ?_
  rintro e w1 ⟨rfl, hb⟩
  have hk : Below w.heap.size w w1 := by first | exact hb | exact bl_tr (bl_al (bl0 _) _) hb | exact bl_tr (bl_dr (bl_al (bl0 _) _)) hb | exact bl_tr (bl_al (bl_al (bl0 _) _) _) hb | exact bl_tr (bl_dr (bl_al (bl_al (bl0 _) _) _)) hb | exact bl_tr (bl_al (bl_al (bl_al (bl0 _) _) _) _) hb | exact bl_tr (bl_dr (bl_al (bl_al (bl_al (bl0 _) _) _) _)) hb | exact bl_tr (bl_al (bl_al (bl_al (bl_al (bl0 _) _) _) _) _) hb | exact bl_tr (bl_dr (bl_al (bl_al (bl_al (bl_al (bl0 _) _) _) _) _)) hb | exact bl_tr (bl_al (bl_al (bl_al (bl_al (bl_al (bl0 _) _) _) _) _) _) hb | exact bl_tr (bl_dr (bl_al (bl_al (bl_al (bl_al (bl_al (bl0 _) _) _) _) _) _)) hb | exact bl_tr (bl_al (bl_al (bl_al (bl_al (bl_al (bl_al (bl0 _) _) _) _) _) _) _) hb | exact bl_tr (bl_dr (bl_al (bl_al (bl_al (bl_al (bl_al (bl_al (bl0 _) _) _) _) _) _) _)) hb | exact bl_tr (bl_dr (bl0 _)) hb
  replace hA := bl_tr hA hk
  replace G0 := cell_later hk G0
  replace G1 := cell_later hk G1
  have p0 := cell_later hb (v := .pointer (some ⟨g, 0, none⟩)) (a := ⟨w.heap.size, 0, none⟩) (by simp [go_sem])
  have f0 := cell_later hb (v := .int .i64 A) (a := ⟨w.heap.size + 1, 0, none⟩) (by simp [go_sem])
  have f1 := cell_later hb (v := .int .i64 B) (a := ⟨w.heap.size + 1, 1, none⟩) (by simp [go_sem])
  have f2 := cell_later hb (v := .slice a n c) (a := ⟨w.heap.size + 1, 2, none⟩) (by simp [go_sem])
  clear hb hk
  have zG0 := blk_lt G0
  have zG1 := blk_lt G1
  have zp0 := blk_lt p0
  have zf0 := blk_lt f0
  have zf1 := blk_lt f1
  have zf2 := blk_lt f2
  rw [HQ.out]
  go_upto_region 6 with fail
  by_cases h1 : A = X
  · have h2 : (B == Y) = false := by rw [beq_eq_false_iff_ne]; exact fun e => hne ⟨h1, e⟩
    subst h1
    have h3 := beq_self_eq_true A
    clear hne
    go_quiet (fail)
    have HB := Lib.hid hA
    go_wp2
    go_ret2
    exact ⟨rfl, bl_tr HB.out (bl_drn _ _)⟩
  · have h2 : (A == X) = false := by rw [beq_eq_false_iff_ne]; exact h1
    clear hne h1
    go_quiet (fail)
    have HB := Lib.hid hA
    go_wp2
    go_ret2
    exact ⟨rfl, bl_tr HB.out (bl_drn _ _)⟩
end Go.Proofs.Ytccokdfkmppohaa

/- Fog's laws: the set of the cells of a list that are on a map. -/
namespace Go.Proofs.Ytccokdfkmppohaa
open Go.RowKit

/-- The set's bytes behind the cells of a list, those off the map left out. -/
def putIn (X Y : Int) (bs : List Nat) (zs : List (Int × Int)) : List Nat := zs.foldl (fun bs p => if inB X Y p.1 p.2 = true then setB bs (p.2 * X + p.1).toNat true else bs) bs
theorem putIn_succ (X Y : Int) (bs : List Nat) (zs : List (Int × Int)) (k : Nat) (hk : k < zs.length) : putIn X Y bs (zs.take (k + 1)) = if inB X Y zs[k].1 zs[k].2 = true then setB (putIn X Y bs (zs.take k)) (zs[k].2 * X + zs[k].1).toNat true else putIn X Y bs (zs.take k) := by
  unfold putIn
  rw [List.take_succ_eq_append_getElem hk, List.foldl_append]
  rfl
theorem Good.putIn {X Y : Int} : ∀ (zs : List (Int × Int)) (bs : List Nat), Good X Y bs → Good X Y (putIn X Y bs zs)
  | [], _, g => g
  | z :: zs, bs, g => by
    have e : Proofs.Ytccokdfkmppohaa.putIn X Y bs (z :: zs) = Proofs.Ytccokdfkmppohaa.putIn X Y (if inB X Y z.1 z.2 = true then setB bs (z.2 * X + z.1).toNat true else bs) zs := rfl
    rw [e]
    refine Good.putIn zs _ ?_
    split
    · rename_i h; exact g.set h true
    · exact g

set_option maxHeartbeats 1600000 in
theorem fset_no (X Y : Int) (a : Option Addr) (n c : Nat) (w : World) (hm : mayB X Y = false) :
    Calls Try.prog 8 #[.agg #[.int .i64 X, .int .i64 Y], .slice a n c] w fun e w' => e = .returned (.pointer none) ∧ Below w.heap.size w w' := by
  have hA := bl0 w
  go_enter Try.func8, Try.ntmps8
  go_wp2_with fail
  refine (new_no _ _ _ hm).mono ?_
  rintro e w1 ⟨rfl, hb⟩
  have hk : Below w.heap.size w w1 := by first | exact hb | exact bl_tr (bl_al (bl0 _) _) hb | exact bl_tr (bl_dr (bl_al (bl0 _) _)) hb | exact bl_tr (bl_al (bl_al (bl0 _) _) _) hb | exact bl_tr (bl_dr (bl_al (bl_al (bl0 _) _) _)) hb | exact bl_tr (bl_al (bl_al (bl_al (bl0 _) _) _) _) hb | exact bl_tr (bl_dr (bl_al (bl_al (bl_al (bl0 _) _) _) _)) hb | exact bl_tr (bl_al (bl_al (bl_al (bl_al (bl0 _) _) _) _) _) hb | exact bl_tr (bl_dr (bl_al (bl_al (bl_al (bl_al (bl0 _) _) _) _) _)) hb | exact bl_tr (bl_al (bl_al (bl_al (bl_al (bl_al (bl0 _) _) _) _) _) _) hb | exact bl_tr (bl_dr (bl_al (bl_al (bl_al (bl_al (bl_al (bl0 _) _) _) _) _) _)) hb | exact bl_tr (bl_al (bl_al (bl_al (bl_al (bl_al (bl_al (bl0 _) _) _) _) _) _) _) hb | exact bl_tr (bl_dr (bl_al (bl_al (bl_al (bl_al (bl_al (bl_al (bl0 _) _) _) _) _) _) _)) hb | exact bl_tr (bl_dr (bl0 _)) hb
  replace hA := bl_tr hA hk
  clear hb hk
  go_wp2
  go_ret
  exact ⟨rfl, hA⟩

set_option maxRecDepth 100000 in
set_option maxHeartbeats 1600000 in
theorem fset_yes (X Y : Int) (a : Option Addr) (cap : Nat) (zs : List (Int × Int)) (w : World) (hm : mayB X Y = true) (hr : RowC w a zs) (hl : zs.length ≤ 1048576) :
    Calls Try.prog 8 #[.agg #[.int .i64 X, .int .i64 Y], .slice a zs.length cap] w fun e w' => ∃ b h, e = .returned (.pointer (some ⟨b, 0, none⟩)) ∧ MaskAt w' b h X Y (putIn X Y (List.replicate ((X * Y + 7) / 8).toNat 0) zs) ∧ w.heap.size ≤ b ∧ w.heap.size ≤ h ∧ b ≠ h ∧ Below w.heap.size w w' := by
  have hl2 : (zs.length : Int) ≤ 1048576 := by omega
  have hA := bl0 w
  have hgz := good_zero0 hm
  obtain ⟨z0, hz0⟩ : ∃ z0, List.replicate ((X * Y + 7) / 8).toNat 0 = z0 := ⟨_, rfl⟩
  rw [hz0] at hgz ⊢
  have HZ := Lib.hid hz0
  clear hz0
  go_enter Try.func8, Try.ntmps8
  go_wp2_with fail
  refine (new_yes X Y _ hm).mono ?_
  rintro e w1 ⟨b, h, rfl, hmk, hb1, hh1, hne, hb⟩
  rw [HZ.out] at hmk
  have hA1 := bl_tr (bl_al hA (.cells #[.int .i64 X, .int .i64 Y] 23)) hb
  have hzz : (w.alloc (.cells #[.int .i64 X, .int .i64 Y] 23)).heap.size = w.heap.size + 1 := World.size_alloc _ _
  have hb2 : w.heap.size ≤ b := by omega
  have hh2 : w.heap.size ≤ h := by omega
  clear hb hb1 hh1 hA hzz
  go_wp2
  go_loopw [7] (fun i wr => ∃ k : Nat, k ≤ zs.length ∧ i = .int .i64 k ∧ MaskAt wr b h X Y (putIn X Y z0 (zs.take k)) ∧ Below w.heap.size w wr) (fun i _ => zs.length - (intOf i).toNat)
  case atStart => exact ⟨0, Nat.zero_le _, rfl, hmk, hA1⟩
  case round =>
    obtain ⟨k, hk, rfl, hmr, hAr⟩ := hrel
    clear hmk hA1
    by_cases hlt : k < zs.length
    · have hlt2 : (k : Int) < (zs.length : Int) := by omega
      have hk0 : (0 : Int) ≤ (k : Int) := by omega
      obtain ⟨gb, go, rfl, q0, q1⟩ := hr.cell hlt
      replace q0 := cell_later hAr q0
      replace q1 := cell_later hAr q1
      have hg := Good.putIn (zs.take k) z0 hgz
      have hsu := putIn_succ X Y z0 zs k hlt
      clear hr
      cases hi : inB X Y zs[k].1 zs[k].2
      · rw [if_neg (by rw [hi]; decide)] at hsu
        have HS := Lib.hid hsu
        clear hsu
        go_wp2_with fail
        refine (set_no b h X Y _ _ _ true _ hmr hi).mono ?_
        rintro e w2 ⟨rfl, hb2'⟩
        have hm2 := hmr.below hb2'
        rw [← HS.out] at hm2
        have hA2 := bl_tr hAr hb2'
        clear hb2' hmr hAr q0 q1 HS hi
        go_wp2
        go_roundw
        case rel => exact ⟨k + 1, by omega, by go_num, hm2, hA2⟩
        case measure => simp [intOf]; omega
      · rw [if_pos hi] at hsu
        have HS := Lib.hid hsu
        clear hsu
        go_wp2_with fail
        refine (set_yes b h X Y _ _ _ true _ hmr hg hne hi).mono ?_
        rintro e w2 ⟨rfl, hm2, hg2⟩
        rw [← HS.out] at hm2
        have hA2 := hAr.grown hg2 hAr.size (fun r e => by cases e; exact hh2)
        clear hg2 hmr hAr q0 q1 HS hi
        go_wp2
        go_roundw
        case rel => exact ⟨k + 1, by omega, by go_num, hm2, hA2⟩
        case measure => simp [intOf]; omega
    · have hge : (zs.length : Int) ≤ (k : Int) := by omega
      rw [List.take_of_length_le (by omega)] at hmr
      have HM := Lib.hid hmr
      have HA := Lib.hid hAr
      clear hmr hAr
      go_wp2
      go_ret
      exact ⟨b, h, rfl, HM.out, hb2, hh2, hne, HA.out⟩
end Go.Proofs.Ytccokdfkmppohaa

/- Fog's laws: whether two lists of cells are one. -/
namespace Go.Proofs.Ytccokdfkmppohaa
open Go.RowKit Go.Shelf

set_option maxHeartbeats 2000000 in
theorem fcells_any (a a2 : Option Addr) (cap cap2 : Nat) (xs ys : List (Int × Int)) (w : World) (hr : RowC w a xs) (hr2 : RowC w a2 ys) (hl : xs.length ≤ 100000) :
    Calls Try.prog 12 #[.slice a xs.length cap, .slice a2 ys.length cap2] w fun e w' => e = .returned (.bool (decide (xs = ys))) ∧ Below w.heap.size w w' := by
  have hl2 : (xs.length : Int) ≤ 100000 := by omega
  by_cases he : xs.length = ys.length
  · have h1 : ((xs.length : Int) != (ys.length : Int)) = false := by rw [bne_eq_false_iff_eq]; omega
    have HE := Lib.hid he
    clear he
    have hA0 := bl0 w
    go_enter Try.func12, Try.ntmps12
    go_wp2
    go_loopw [5] (fun i wr => ∃ k : Nat, k ≤ xs.length ∧ i = .int .i64 k ∧ xs.take k = ys.take k ∧ Below w.heap.size w wr) (fun i _ => xs.length - (intOf i).toNat)
    case atStart => exact ⟨0, Nat.zero_le _, rfl, rfl, hA0⟩
    case round =>
      obtain ⟨k, hk, rfl, ht, hB⟩ := hrel
      have HT := Lib.hid ht
      clear hA0 ht
      by_cases hlt : k < xs.length
      · have hlt2 : (k : Int) < (xs.length : Int) := by omega
        have hk0 : (0 : Int) ≤ (k : Int) := by omega
        have hlty : k < ys.length := by rw [← HE.out]; exact hlt
        obtain ⟨gb, go, rfl, q0, q1⟩ := hr.cell hlt
        obtain ⟨gb2, go2, rfl, r0, r1⟩ := hr2.cell hlty
        replace q0 := cell_later hB q0
        replace q1 := cell_later hB q1
        replace r0 := cell_later hB r0
        replace r1 := cell_later hB r1
        have hlty2 : (k : Int) < (ys.length : Int) := by omega
        clear hr hr2
        by_cases hx : xs[k] = ys[k]
        · have HS := Lib.hid (take_sameC hlt hlty HT.out hx)
          rw [← hx] at r0 r1
          clear hx
          generalize xs[k].1 = x at *
          generalize xs[k].2 = y at *
          have b1 := beq_self_eq_true x
          have b2 := beq_self_eq_true y
          go_wp2
          go_quiet (fail)
          go_wp2
          go_roundw
          case rel => exact ⟨k + 1, by omega, by go_num, HS.out, bl_tr hB (bl_drn _ _)⟩
          case measure => simp [intOf]; omega
        · have HS := Lib.hid (show xs ≠ ys by rintro rfl; exact hx rfl)
          by_cases h2 : xs[k].1 = ys[k].1
          · have h3 : (xs[k].2 == ys[k].2) = false := by rw [beq_eq_false_iff_ne]; exact fun e => hx (Prod.ext h2 e)
            rw [← h2] at r0
            clear hx h2
            generalize xs[k].1 = x at *
            generalize xs[k].2 = y at *
            generalize ys[k].2 = y' at *
            have b1 := beq_self_eq_true x
            go_wp2
            go_quiet (fail)
            go_wp2
            go_ret
            exact ⟨ret_bool (by simp [HS.out]), bl_tr hB (bl_drn _ _)⟩
          · have h3 : (xs[k].1 == ys[k].1) = false := by rw [beq_eq_false_iff_ne]; exact h2
            clear hx h2
            generalize xs[k].1 = x at *
            generalize xs[k].2 = y at *
            generalize ys[k].1 = x' at *
            generalize ys[k].2 = y' at *
            go_wp2
            go_quiet (fail)
            go_wp2
            go_ret
            exact ⟨ret_bool (by simp [HS.out]), bl_tr hB (bl_drn _ _)⟩
      · have hge : (xs.length : Int) ≤ (k : Int) := by omega
        have HS := Lib.hid (take_allC (by omega) HE.out HT.out)
        go_wp2
        go_ret
        exact ⟨ret_bool (by simp [HS.out]), hB⟩
  · have h1 : ((xs.length : Int) != (ys.length : Int)) = true := by rw [bne_iff_ne]; omega
    have HE := Lib.hid (show xs ≠ ys from fun e => he (by rw [e]))
    clear he
    go_enter Try.func12, Try.ntmps12
    go_wp2
    go_ret
    exact ⟨ret_bool (by simp [HE.out]), bl0 _⟩
end Go.Proofs.Ytccokdfkmppohaa

/- Fog's laws: the chapter's example. -/
namespace Go.Proofs.Ytccokdfkmppohaa
open Go.RowKit Go.Shelf

theorem KeptT.mask {g h b k : Nat} {A B : World} {X Y : Int} {bs : List Nat} (x : KeptT g h A B) (m : MaskAt A b k X Y bs) (h1 : b ≠ g) (h2 : b ≠ h) (h3 : k ≠ g) (h4 : k ≠ h) : MaskAt B b k X Y bs :=
  ⟨(x.2 b m.lt.1 h1 h2).trans m.1, (x.2 k m.lt.2 h3 h4).trans m.2⟩
theorem KeptT.below {g h n : Nat} {A B C : World} (y : Below n A B) (hn : n ≤ A.heap.size) (x : KeptT g h B C) (hg : n ≤ g) (hh : n ≤ h) : Below n A C :=
  ⟨x.1.os.trans y.os, x.1.tape.trans y.tape, x.1.output.trans y.output, Nat.le_trans y.size x.1.size, fun k hk => (x.2 k (Nat.lt_of_lt_of_le (Nat.lt_of_lt_of_le hk hn) y.size) (by omega) (by omega)).trans (y.block k hk)⟩

theorem aw_put : putIn 2 1 (List.replicate (((2 : Int) * 1 + 7) / 8).toNat 0) [(1, 0)] = [2] := by decide
theorem aw_one : mergeS 2 [7, 0] (List.replicate 2 none) (cellsM 2 1 [2]) = ([none, some 0], [(1, 0)]) := by decide
theorem aw_two : mergeS 2 [7, 0] [none, some 0] (cellsM 2 1 [2]) = ([none, some 0], []) := by decide
theorem aw_row (b : Nat) (W : World) (h0 : W.cell? ⟨b, 0, none⟩ = some (.int .u16 7)) (h1 : W.cell? ⟨b, 1, none⟩ = some (.int .u16 0)) : RowH W (some ⟨b, 0, none⟩) [7, 0] := by
  refine .inr ⟨_, 0, rfl, fun i z hz => ?_⟩
  match i, hz with
  | 0, hz => simp at hz; subst hz; exact h0
  | 1, hz => simp at hz; subst hz; exact h1
  | i + 2, hz => simp at hz
theorem aw_good : Good 2 1 [2] := by
  have h := Good.putIn [(1, 0)] _ (good_zero0 (show mayB 2 1 = true by decide))
  rw [aw_put] at h
  exact h

set_option maxRecDepth 100000 in
set_option maxHeartbeats 4000000 in
theorem fawake (w : World) : Calls Try.prog 5 #[] w fun e w' => e = .returned (.bool true) ∧ Below w.heap.size w w' := by
  have hA := bl0 w
  go_enter Try.func5, Try.ntmps5
  go_wp2_with fail
  refine (fnew_yes 2 1 _ (by decide) 2 (by decide)).mono ?_
  rintro e w1 ⟨g, h, rfl, hf, hb⟩
  have hA1 := bl_tr (bl_al hA (.cells #[.int .i64 2, .int .i64 1] 23)) hb
  have s0 : w1.cell? ⟨w.heap.size, 0, none⟩ = some (.int .i64 2) := cell_later hb (by simp [go_sem])
  have s1 : w1.cell? ⟨w.heap.size, 1, none⟩ = some (.int .i64 1) := cell_later hb (by simp [go_sem])
  have hsz : (w.alloc (.cells #[.int .i64 2, .int .i64 1] 23)).heap.size = w.heap.size + 1 := World.size_alloc _ _
  have hB1 := hf.1
  have hB2 := hf.lt
  rw [hsz] at hB1 hB2
  have zs0 := blk_lt s0
  clear hA hb
  go_wp2_with fail
  obtain ⟨V1, hV1⟩ : ∃ V1, w1.alloc (.cells #[.int .i64 1, .int .i64 0] 26) = V1 := ⟨_, rfl⟩
  rw [hV1]
  have hbV1 : Below w1.heap.size w1 V1 := by rw [← hV1]; exact bl_al (bl0 _) _
  have hzV1 : V1.heap.size = w1.heap.size + 1 := by rw [← hV1]; simp
  have hrc : RowC V1 (some ⟨w1.heap.size, 0, none⟩) [(1, 0)] := by
    refine .inr ⟨_, 0, rfl, fun i z hz => ?_⟩
    cases i with
    | succ i => simp at hz
    | zero =>
      simp at hz
      subst hz
      rw [← hV1]
      simp [go_sem]
  clear hV1
  refine (fset_yes 2 1 (some ⟨w1.heap.size, 0, none⟩) 1 [(1, 0)] V1 (by decide) hrc (by decide)).mono ?_
  rintro e w2 ⟨b, hm, rfl, hmk, hb1, hh1, hne, hb⟩
  rw [aw_put] at hmk
  have hb12 := bl_tr hbV1 hb
  replace s0 := cell_later hb12 s0
  replace s1 := cell_later hb12 s1
  replace hf := hf.below hb12
  have hA2 := bl_tr hA1 hb12
  have hmlt := hmk.lt
  have hflt := hf.lt
  clear hb hbV1 hrc hb12 hA1
  go_wp2_with fail
  obtain ⟨V2, hV2⟩ : ∃ V2, (w2.alloc (.cells #[.int .u16 7, .int .u16 0] 53)).alloc (.cells #[.int .i64 2, .int .i64 1, .slice (some ⟨w2.heap.size, 0, none⟩) 2 2] 37) = V2 := ⟨_, rfl⟩
  rw [hV2]
  have hbV2 : Below w2.heap.size w2 V2 := by rw [← hV2]; exact bl_al (bl_al (bl0 _) _) _
  have hzV2 : V2.heap.size = w2.heap.size + 2 := by rw [← hV2]; simp
  have r0 : V2.cell? ⟨w2.heap.size, 0, none⟩ = some (.int .u16 7) := by rw [← hV2]; simp [go_sem]
  have r1 : V2.cell? ⟨w2.heap.size, 1, none⟩ = some (.int .u16 0) := by rw [← hV2]; simp [go_sem]
  have f0 : V2.cell? ⟨w2.heap.size + 1, 0, none⟩ = some (.int .i64 2) := by rw [← hV2]; simp [go_sem]
  have f1 : V2.cell? ⟨w2.heap.size + 1, 1, none⟩ = some (.int .i64 1) := by rw [← hV2]; simp [go_sem]
  have f2 : V2.cell? ⟨w2.heap.size + 1, 2, none⟩ = some (.slice (some ⟨w2.heap.size, 0, none⟩) 2 2) := by rw [← hV2]; simp [go_sem]
  clear hV2
  have hA3 := bl_tr hA2 hbV2
  refine (merge_yes _ g h 2 b hm 2 1 0 (List.replicate 2 none) [2] (some ⟨w2.heap.size, 0, none⟩) 2 [7, 0] V2 (by decide) (by decide) (aw_row _ V2 r0 r1) (by rintro gb o e; cases e; omega) (hf.below hbV2) rfl (hmk.below hbV2) aw_good (by omega) (by omega) (by decide) (by decide)).mono ?_
  rintro e w3 ⟨a3, c3, rfl, hr3, ha3, hf3, hk3⟩
  rw [aw_one] at hr3 hf3 ⊢
  replace hf3 : FogAt w3 _ g h 2 2 1 [none, some 0] 1 := hf3
  replace hr3 : RowC w3 a3 [(1, 0)] := hr3
  have hA4 := KeptT.below hA3 (Nat.le_refl _) hk3 (by omega) (by omega)
  replace r0 := hk3.cell r0 (by omega) (by omega)
  replace r1 := hk3.cell r1 (by omega) (by omega)
  replace f0 := hk3.cell f0 (by omega) (by omega)
  replace f1 := hk3.cell f1 (by omega) (by omega)
  replace f2 := hk3.cell f2 (by omega) (by omega)
  replace hmk := hk3.mask (hmk.below hbV2) (by omega) (by omega) (by omega) (by omega)
  have hz3 := hk3.1.size
  have hz2 := hbV2.size
  clear hk3 hA3 hf hbV2 hA2 s0 s1
  go_wp2_with fail
  refine (view_any _ g h 2 2 1 [none, some 0] 1 w3 hf3 (by decide)).mono ?_
  rintro e w4 ⟨h4, rfl, hv4, hh4, hb4⟩
  replace r0 := cell_later hb4 r0
  replace r1 := cell_later hb4 r1
  replace f0 := cell_later hb4 f0
  replace f1 := cell_later hb4 f1
  replace f2 := cell_later hb4 f2
  replace hmk := hmk.below hb4
  replace hf3 := hf3.below hb4
  replace hr3 := hr3.below hb4
  replace hA4 := bl_tr hA4 hb4
  have hz4 := hb4.size
  clear hb4
  have zf0 := blk_lt f0
  have zr0 := blk_lt r0
  go_wp2_with fail
  obtain ⟨V4, hV4⟩ : ∃ V4, w4.alloc (.cells #[.int .i64 2, .int .i64 1, .slice (some ⟨h4, 0, none⟩) 2 2] 37) = V4 := ⟨_, rfl⟩
  rw [hV4]
  have hbV4 : Below w4.heap.size w4 V4 := by rw [← hV4]; exact bl_al (bl0 _) _
  have hzV4 : V4.heap.size = w4.heap.size + 1 := by rw [← hV4]; simp
  have v2 : V4.cell? ⟨w4.heap.size, 2, none⟩ = some (.slice (some ⟨h4, 0, none⟩) 2 2) := by rw [← hV4]; simp [go_sem]
  have u0 : V4.cell? ⟨h4, 0, none⟩ = some (.int .u16 1) := cell_later hbV4 (by simp [World.cell?, hv4, cellsH, viewL])
  have u1 : V4.cell? ⟨h4, 1, none⟩ = some (.int .u16 0) := cell_later hbV4 (by simp [World.cell?, hv4, cellsH, viewL])
  have zh4 := (Array.getElem?_eq_some_iff.1 hv4).1
  clear hV4 hv4
  replace r0 := cell_later hbV4 r0
  replace r1 := cell_later hbV4 r1
  replace hmk := hmk.below hbV4
  replace hf3 := hf3.below hbV4
  replace hr3 := hr3.below hbV4
  replace hA4 := bl_tr hA4 hbV4
  clear hbV4
  refine (merge_yes _ g h 2 b hm 2 1 1 [none, some 0] [2] (some ⟨w2.heap.size, 0, none⟩) 2 [7, 0] V4 (by decide) (by decide) (aw_row _ V4 r0 r1) (by rintro gb o e; cases e; omega) hf3 rfl hmk aw_good (by omega) (by omega) (by decide) (by decide)).mono ?_
  rintro e w5 ⟨a5, c5, rfl, hr5, ha5, hf5, hk5⟩
  rw [aw_two] at hr5 hf5 ⊢
  replace hf5 : FogAt w5 _ g h 2 2 1 [none, some 0] 1 := hf5
  have hA5 := KeptT.below hA4 (Nat.le_refl _) hk5 (by omega) (by omega)
  replace u0 := hk5.cell u0 (by omega) (by omega)
  replace u1 := hk5.cell u1 (by omega) (by omega)
  replace v2 := hk5.cell v2 (by omega) (by omega)
  have hz5 := hk5.1.size
  have hr6 : RowC w5 a3 [(1, 0)] := by
    refine .inr ?_
    rcases hr3 with h' | ⟨ba, oa, rfl, hc⟩
    · cases h'
    · have hba := ha3 ba oa rfl
      exact ⟨ba, oa, rfl, fun i z hz => ⟨hk5.cell (hc i z hz).1 (by omega) (by omega), hk5.cell (hc i z hz).2 (by omega) (by omega)⟩⟩
  have HR := Lib.hid hr6
  have HF := Lib.hid hf5
  have HA := Lib.hid hA5
  have zv2 := blk_lt v2
  have zu0 := blk_lt u0
  clear hk5 hr5 hf5 hr6 hr3 hf3 hmk r0 r1 f0 f1 f2 hA4 hA5 ha3 ha5
  go_wp2_with fail
  obtain ⟨V5, hV5⟩ : ∃ V5, w5.alloc (.cells #[.int .i64 1, .int .i64 0] 26) = V5 := ⟨_, rfl⟩
  rw [hV5]
  have hbV5 : Below w5.heap.size w5 V5 := by rw [← hV5]; exact bl_al (bl0 _) _
  have hlit : RowC V5 (some ⟨w5.heap.size, 0, none⟩) [(1, 0)] := by
    refine .inr ⟨_, 0, rfl, fun i z hz => ?_⟩
    cases i with
    | succ i => simp at hz
    | zero =>
      simp at hz
      subst hz
      rw [← hV5]
      simp [go_sem]
  clear hV5
  refine (fcells_any a3 (some ⟨w5.heap.size, 0, none⟩) c3 1 [(1, 0)] [(1, 0)] V5 (HR.out.below hbV5) hlit (by decide)).mono ?_
  rintro e w6 ⟨rfl, hb6⟩
  rw [show decide ([((1 : Int), (0 : Int))] = [(1, 0)]) = true by decide]
  have hb56 := bl_tr hbV5 hb6
  replace u0 := cell_later hb56 u0
  replace u1 := cell_later hb56 u1
  replace v2 := cell_later hb56 v2
  have HA6 := Lib.hid (bl_tr HA.out hb56)
  have HF6 := Lib.hid (HF.out.below hb56)
  clear hbV5 hb6 hb56 hlit
  go_wp2_with fail
  refine (version_any _ g h 2 2 1 _ 1 w6 HF6.out).mono ?_
  rintro e w7 ⟨rfl, rfl⟩
  go_wp2
  go_ret
  exact ⟨rfl, HA6.out⟩
end Go.Proofs.Ytccokdfkmppohaa

/- Fog: the mathematics of Merge: what is known behind it, cell by cell; a second time tells nothing. -/
namespace Go.Proofs.Ytccokdfkmppohaa
open Go.RowKit

theorem stepS_at (X : Int) (fs : List Int) (s : List (Option Int) × List (Int × Int)) (c : Int × Int) (n : Nat) (hn : n < s.1.length) :
    (stepS X fs s c).1[n]? = if numC X c = n then some (some (fs.getD n 0)) else s.1[n]? := by
  unfold stepS
  split
  · rename_i h
    split
    · rename_i h2
      rw [h2] at h
      exact h
    · rfl
  · split
    · rename_i h2
      rw [h2]
      simp [hn]
    · rename_i h2
      simp [h2]
/-- What is known behind cells that are seen: their costs; of the others what was known. -/
theorem foldS_at (X : Int) (fs : List Int) (n : Nat) : ∀ (cs : List (Int × Int)) (s : List (Option Int) × List (Int × Int)), n < s.1.length →
    (cs.foldl (stepS X fs) s).1[n]? = if n ∈ cs.map (numC X) then some (some (fs.getD n 0)) else s.1[n]?
  | [], s, _ => by simp
  | c :: cs, s, hn => by
    have h1 := foldS_at X fs n cs (stepS X fs s c) (by rw [(stepS_len X fs s c).1]; exact hn)
    have h2 := stepS_at X fs s c n hn
    rw [List.foldl_cons, h1, h2]
    by_cases a : n ∈ cs.map (numC X)
    · rw [if_pos a, if_pos (by simp only [List.map_cons, List.mem_cons]; exact .inr a)]
    · by_cases b : numC X c = n
      · rw [if_neg a, if_pos b, if_pos (by simp only [List.map_cons, List.mem_cons]; exact .inl b.symm)]
      · rw [if_neg a, if_neg b, if_neg (by simp only [List.map_cons, List.mem_cons]; exact fun h => h.elim (fun h => b h.symm) a)]
theorem mergeS_at (X : Int) (fs : List Int) (ms : List (Option Int)) (cs : List (Int × Int)) (n : Nat) (hn : n < ms.length) :
    (mergeS X fs ms cs).1[n]? = if n ∈ cs.map (numC X) then some (some (fs.getD n 0)) else ms[n]? := foldS_at X fs n cs (ms, []) hn
theorem foldS_fix (X : Int) (fs : List Int) : ∀ (cs : List (Int × Int)) (s : List (Option Int) × List (Int × Int)), (∀ c ∈ cs, s.1[numC X c]? = some (some (fs.getD (numC X c) 0))) → cs.foldl (stepS X fs) s = s
  | [], _, _ => rfl
  | c :: cs, s, h => by
    have e : stepS X fs s c = s := by unfold stepS; rw [if_pos (h c (by simp))]
    rw [List.foldl_cons, e]
    exact foldS_fix X fs cs s (fun c hc => h c (by simp [hc]))
/-- Who sees the same once more learns nothing. -/
theorem mergeS_twice (X : Int) (fs : List Int) (ms : List (Option Int)) (cs : List (Int × Int)) (h : ∀ c ∈ cs, numC X c < ms.length) : mergeS X fs (mergeS X fs ms cs).1 cs = ((mergeS X fs ms cs).1, []) := by
  refine foldS_fix X fs cs _ (fun c hc => ?_)
  rw [mergeS_at X fs ms cs _ (h c hc), if_pos (List.mem_map_of_mem hc)]
/-- Two that know the same of each cell know the same. -/
theorem mem_ext {a b : List (Option Int)} (hl : a.length = b.length) (h : ∀ n, n < a.length → a[n]? = b[n]?) : a = b := by
  apply List.ext_getElem?
  intro n
  by_cases hn : n < a.length
  · exact h n hn
  · rw [List.getElem?_eq_none (by omega), List.getElem?_eq_none (by omega)]
/-- Where the costs of the cells that are seen are the same, all is the same. -/
theorem foldS_hangs (X : Int) (fs gs : List Int) : ∀ (cs : List (Int × Int)) (s : List (Option Int) × List (Int × Int)), (∀ c ∈ cs, fs.getD (numC X c) 0 = gs.getD (numC X c) 0) → cs.foldl (stepS X fs) s = cs.foldl (stepS X gs) s
  | [], _, _ => rfl
  | c :: cs, s, h => by
    have e : stepS X fs s c = stepS X gs s c := by unfold stepS; rw [h c (by simp)]
    rw [List.foldl_cons, List.foldl_cons, e]
    exact foldS_hangs X fs gs cs _ (fun c hc => h c (by simp [hc]))
theorem mergeS_hangs (X : Int) (fs gs : List Int) (ms : List (Option Int)) (cs : List (Int × Int)) (h : ∀ c ∈ cs, fs.getD (numC X c) 0 = gs.getD (numC X c) 0) : mergeS X fs ms cs = mergeS X gs ms cs := foldS_hangs X fs gs cs (ms, []) h
theorem foldS_grow (X : Int) (fs : List Int) : ∀ (cs : List (Int × Int)) (s : List (Option Int) × List (Int × Int)), s.2.length ≤ (cs.foldl (stepS X fs) s).2.length
  | [], _ => Nat.le_refl _
  | c :: cs, s => by
    have h1 := foldS_grow X fs cs (stepS X fs s c)
    have h2 : s.2.length ≤ (stepS X fs s c).2.length := by unfold stepS; split <;> simp
    rw [List.foldl_cons]
    omega
/-- Nothing is new just if each cell was known so. -/
theorem foldS_nil (X : Int) (fs : List Int) : ∀ (cs : List (Int × Int)) (s : List (Option Int) × List (Int × Int)), (cs.foldl (stepS X fs) s).2.length = s.2.length → ∀ c ∈ cs, s.1[numC X c]? = some (some (fs.getD (numC X c) 0))
  | [], _, _ => by simp
  | c :: cs, s, h => by
    rw [List.foldl_cons] at h
    by_cases e : s.1[numC X c]? = some (some (fs.getD (numC X c) 0))
    · have e1 : stepS X fs s c = s := by unfold stepS; rw [if_pos e]
      rw [e1] at h
      intro d hd
      rcases List.mem_cons.1 hd with rfl | hd
      · exact e
      · exact foldS_nil X fs cs s h d hd
    · have e1 : (stepS X fs s c).2.length = s.2.length + 1 := by unfold stepS; rw [if_neg e]; simp
      have h1 := foldS_grow X fs cs (stepS X fs s c)
      omega
theorem mergeS_nil (X : Int) (fs : List Int) (ms : List (Option Int)) (cs : List (Int × Int)) : (mergeS X fs ms cs).2 = [] ↔ ∀ c ∈ cs, ms[numC X c]? = some (some (fs.getD (numC X c) 0)) := by
  constructor
  · intro h
    exact foldS_nil X fs cs (ms, []) (by have e : (cs.foldl (stepS X fs) (ms, [])).2 = [] := h; rw [e])
  · intro h
    have e : mergeS X fs ms cs = (ms, []) := foldS_fix X fs cs (ms, []) h
    rw [e]
end Go.Proofs.Ytccokdfkmppohaa

/- Fog's laws: a look's set, nil where its size may not be; Merge of any look. -/
namespace Go.Proofs.Ytccokdfkmppohaa
open Go.RowKit Go.Shelf

/-- The bytes of the set of a list's cells. -/
def setL (A B : Int) (zs : List (Int × Int)) : List Nat := putIn A B (List.replicate ((A * B + 7) / 8).toNat 0) zs
theorem setL_good {A B : Int} (h : mayB A B = true) (zs : List (Int × Int)) : Good A B (setL A B zs) := Good.putIn zs _ (good_zero0 h)
/-- A set by its pointer: none of a size that may not be. -/
def MaskP (W : World) (n : Nat) (A B : Int) (bs : List Nat) (p : Option Addr) : Prop :=
  (mayB A B = false ∧ p = none) ∨ (mayB A B = true ∧ Good A B bs ∧ ∃ b h, p = some ⟨b, 0, none⟩ ∧ MaskAt W b h A B bs ∧ n ≤ b ∧ n ≤ h ∧ b ≠ h)
theorem MaskP.below {W W' : World} {n : Nat} {A B : Int} {bs : List Nat} {p : Option Addr} (m : MaskP W n A B bs p) (hb : Below W.heap.size W W') : MaskP W' n A B bs p := by
  rcases m with m | ⟨m1, m2, b, h, m3, m4, m5⟩
  · exact .inl m
  · exact .inr ⟨m1, m2, b, h, m3, m4.below hb, m5⟩
theorem MaskP.keptT {W W' : World} {n g k : Nat} {A B : Int} {bs : List Nat} {p : Option Addr} (m : MaskP W n A B bs p) (x : KeptT g k W W') (hg : g < n) (hk : k < n) : MaskP W' n A B bs p := by
  rcases m with m | ⟨m1, m2, b, h, m3, m4, m5, m6, m7⟩
  · exact .inl m
  · exact .inr ⟨m1, m2, b, h, m3, x.mask m4 (by omega) (by omega) (by omega) (by omega), m5, m6, m7⟩
theorem MaskP.base {W : World} {n n' : Nat} {A B : Int} {bs : List Nat} {p : Option Addr} (m : MaskP W n A B bs p) (hn : n' ≤ n) : MaskP W n' A B bs p := by
  rcases m with m | ⟨m1, m2, b, h, m3, m4, m5, m6, m7⟩
  · exact .inl m
  · exact .inr ⟨m1, m2, b, h, m3, m4, by omega, by omega, m7⟩
/-- What set tells and leaves. -/
def FsetP (w : World) (A B : Int) (zs : List (Int × Int)) (e : Ending) (w' : World) : Prop := ∃ p, e = .returned (.pointer p) ∧ MaskP w' w.heap.size A B (setL A B zs) p ∧ Below w.heap.size w w'
theorem fset_any (A B : Int) (a : Option Addr) (cap : Nat) (zs : List (Int × Int)) (w : World) (hr : RowC w a zs) (hl : zs.length ≤ 1048576) :
    Calls Try.prog 8 #[.agg #[.int .i64 A, .int .i64 B], .slice a zs.length cap] w (FsetP w A B zs) := by
  cases hm : mayB A B with
  | false => exact (fset_no A B a _ cap w hm).mono fun e w' ⟨he, hb⟩ => ⟨none, he, .inl ⟨hm, rfl⟩, hb⟩
  | true => exact (fset_yes A B a cap zs w hm hr hl).mono fun e w' ⟨b, h, he, hk, h1, h2, h3, hb⟩ => ⟨_, he, .inr ⟨hm, setL_good hm zs, b, h, rfl, hk, h1, h2, h3⟩, hb⟩

/-- Merge's error: no set; the field's own; another size. -/
def lookE (X Y A B n : Int) : Int := if mayB A B = false then 2 else if chkF A B n = 0 then (if A = X ∧ B = Y then 0 else 1) else chkF A B n
/-- What is known behind a look, and what is new. -/
def lookS (X Y A B : Int) (fs : List Int) (bs : List Nat) (ms : List (Option Int)) : List (Option Int) × List (Int × Int) := if lookE X Y A B fs.length = 0 then mergeS X fs ms (cellsM X Y bs) else (ms, [])
theorem lookS_len (X Y A B : Int) (fs : List Int) (bs : List Nat) (ms : List (Option Int)) : (lookS X Y A B fs bs ms).1.length = ms.length := by
  unfold lookS
  split
  · exact (mergeS_len _ _ _ _).1
  · rfl
theorem lookE_ok {X Y A B n : Int} (h : lookE X Y A B n = 0) : mayB A B = true ∧ chkF A B n = 0 ∧ A = X ∧ B = Y := by
  unfold lookE at h
  split at h
  · cases h
  · rename_i h1
    split at h
    · rename_i h2
      split at h
      · rename_i h3; exact ⟨by simpa using h1, h2, h3.1, h3.2⟩
      · cases h
    · rename_i h2; exact absurd h h2
/-- What Merge of any look tells and leaves. -/
def MergeR (w : World) (B g h cap : Nat) (X Y k A C : Int) (fs : List Int) (bs : List Nat) (ms : List (Option Int)) (e : Ending) (w' : World) : Prop := ∃ a' cap', e = .returned (.tuple #[.slice a' (lookS X Y A C fs bs ms).2.length cap', .int .i64 (lookE X Y A C fs.length)]) ∧
  RowC w' a' (lookS X Y A C fs bs ms).2 ∧ (∀ gb o, a' = some ⟨gb, o, none⟩ → w.heap.size ≤ gb) ∧ FogAt w' B g h cap X Y (lookS X Y A C fs bs ms).1 (k + if (lookS X Y A C fs bs ms).2 = [] then 0 else 1) ∧ KeptT g h w w'
theorem chkF_len {A B n : Int} (h : chkF A B n = 0) : mayB A B = true ∧ n = A * B := by
  unfold chkF at h
  split at h
  · rename_i hm
    split at h
    · rename_i hn; exact ⟨hm, hn⟩
    · cases h
  · cases h
theorem keptT_of_below {g h : Nat} {w w' : World} (hb : Below w.heap.size w w') : KeptT g h w w' := ⟨hb.mono (Nat.zero_le _), fun k hk _ _ => hb.block k hk⟩
theorem merge_off {B g h cap : Nat} {X Y k A C : Int} {fs : List Int} {bs : List Nat} {ms : List (Option Int)} {w w' : World} {e : Ending} {q : Int} (hf : FogAt w B g h cap X Y ms k) (he : e = .returned (.tuple #[.slice none 0 0, .int .i64 q])) (hb : Below w.heap.size w w')
    (hq : lookE X Y A C fs.length = q) (hq0 : q ≠ 0) : MergeR w B g h cap X Y k A C fs bs ms e w' := by
  have e1 : lookS X Y A C fs bs ms = (ms, []) := by unfold lookS; rw [if_neg (by rw [hq]; exact hq0)]
  unfold MergeR
  rw [e1, hq]
  refine ⟨none, 0, he, .inl rfl, (fun gb o h => by cases h), ?_, keptT_of_below hb⟩
  rw [if_pos rfl, Int.add_zero]
  exact hf.below hb
theorem merge_any (B g h cap : Nat) (X Y k : Int) (ms : List (Option Int)) (A C : Int) (a : Option Addr) (c : Nat) (fs : List Int) (bs : List Nat) (p : Option Addr) (n : Nat) (w : World) (hrf : RowH w a fs) (hah : ∀ gb o, fs ≠ [] → a = some ⟨gb, o, none⟩ → gb ≠ h)
    (hf : FogAt w B g h cap X Y ms k) (hl : (ms.length : Int) = X * Y) (hp : MaskP w n A C bs p) (hn : h < n) (hk : k ≤ 1048576) (hk0 : 0 ≤ k) :
    Calls Try.prog 9 #[.pointer (some ⟨g, 0, none⟩), .agg #[.int .i64 A, .int .i64 C, .slice a fs.length c], .pointer p] w (MergeR w B g h cap X Y k A C fs bs ms) := by
  rcases hp with ⟨hm, rfl⟩ | ⟨hm, hg, b, hb, rfl, hmk, h1, h2, h3⟩
  · exact (merge_nil2 g A C a fs.length c w).mono fun e w' ⟨he, hbl⟩ => merge_off hf he hbl (by unfold lookE; rw [if_pos hm]) (by decide)
  · by_cases hc : chkF A C fs.length = 0
    · by_cases hs : A = X ∧ C = Y
      · obtain ⟨rfl, rfl⟩ := hs
        obtain ⟨_, hlen⟩ := chkF_len hc
        have hpos := area_bd hm
        have hne : fs ≠ [] := by rintro rfl; simp at hlen; omega
        have e0 : lookE A C A C fs.length = 0 := by unfold lookE; rw [if_neg (by rw [hm]; decide), if_pos hc, if_pos ⟨rfl, rfl⟩]
        have e1 : lookS A C A C fs bs ms = mergeS A fs ms (cellsM A C bs) := by unfold lookS; rw [if_pos e0]
        unfold MergeR
        rw [e0, e1]
        exact merge_yes B g h cap b hb A C k ms bs a c fs w hc hm hrf (fun gb o e => hah gb o hne e) hf (by omega) hmk hg (by omega) (by omega) hk hk0
      · exact (merge_arg B g h cap b X Y A C ms k a _ c w hc hs hf).mono fun e w' ⟨he, hbl⟩ => merge_off hf he hbl (by unfold lookE; rw [if_neg (by rw [hm]; decide), if_pos hc, if_neg hs]) (by decide)
    · exact (merge_chk g b A C a fs.length c w hc).mono fun e w' ⟨he, hbl⟩ => merge_off hf he hbl (by unfold lookE; rw [if_neg (by rw [hm]; decide), if_neg hc]) hc
end Go.Proofs.Ytccokdfkmppohaa

/- Fog's laws: looks in memory; few, looks. -/
namespace Go.Proofs.Ytccokdfkmppohaa
open Go.RowKit Go.Shelf

/-- A look as it lies in memory: a field, and cells. -/
structure LookD where
  A : Int
  B : Int
  a : Option Addr
  c : Nat
  fs : List Int
  b : Option Addr
  d : Nat
  zs : List (Int × Int)
instance : Inhabited LookD := ⟨⟨0, 0, none, 0, [], none, 0, []⟩⟩
/-- Looks in memory. -/
def RowL (W : World) (a : Option Addr) (ls : List LookD) : Prop := ls = [] ∨ ∃ b o, a = some ⟨b, o, none⟩ ∧ ∀ (i : Nat) (l : LookD), ls[i]? = some l →
  W.cell? ⟨b, o + i * 4, none⟩ = some (.int .i64 l.A) ∧ W.cell? ⟨b, o + i * 4 + 1, none⟩ = some (.int .i64 l.B) ∧ W.cell? ⟨b, o + i * 4 + 2, none⟩ = some (.slice l.a l.fs.length l.c) ∧ W.cell? ⟨b, o + i * 4 + 3, none⟩ = some (.slice l.b l.zs.length l.d) ∧ RowH W l.a l.fs ∧ RowC W l.b l.zs
theorem RowL.cell {W : World} {a : Option Addr} {ls : List LookD} (h : RowL W a ls) {k : Nat} {l : LookD} (hk : ls[k]? = some l) : ∃ gb go, a = some ⟨gb, go, none⟩ ∧
    W.cell? ⟨gb, go + k * 4, none⟩ = some (.int .i64 l.A) ∧ W.cell? ⟨gb, go + k * 4 + 1, none⟩ = some (.int .i64 l.B) ∧ W.cell? ⟨gb, go + k * 4 + 2, none⟩ = some (.slice l.a l.fs.length l.c) ∧ W.cell? ⟨gb, go + k * 4 + 3, none⟩ = some (.slice l.b l.zs.length l.d) ∧ RowH W l.a l.fs ∧ RowC W l.b l.zs := by
  rcases h with rfl | ⟨b, o, h1, h2⟩
  · simp at hk
  · exact ⟨b, o, h1, h2 k l hk⟩
theorem RowL.below {W W' : World} {a : Option Addr} {ls : List LookD} (h : RowL W a ls) (hb : Below W.heap.size W W') : RowL W' a ls := by
  rcases h with h | ⟨b, o, h1, h2⟩
  · exact .inl h
  · refine .inr ⟨b, o, h1, fun i l hl => ?_⟩
    obtain ⟨q0, q1, q2, q3, q4, q5⟩ := h2 i l hl
    exact ⟨cell_later hb q0, cell_later hb q1, cell_later hb q2, cell_later hb q3, q4.below hb, q5.below hb⟩

def msmallB (X Y : Int) : Bool := !mayB X Y || (decide (X ≤ 24) && decide (Y ≤ 24))
set_option maxHeartbeats 800000 in
theorem msmall_any (X Y : Int) (w : World) :
    Calls Try.prog 23 #[.agg #[.int .i64 X, .int .i64 Y]] w fun e w' => e = .returned (.bool (msmallB X Y)) ∧ Below w.heap.size w w' := by
  cases hm : mayB X Y
  all_goals
    go_enter Try.func23, Try.ntmps23
    go_wp2_with (go_at_call 26; refine (rmay_any _ _ _).mono ?_; rintro e w' ⟨rfl, hb⟩; obtain ⟨hc, hf⟩ := bcell hb)
    all_goals
      go_ret
      refine ⟨ret_bool (by first | (simp [msmallB, *]; done) | (simp [msmallB, *]; omega)), ?_⟩
      exact bl_tr (bl_al (bl0 _) _) hb

def okL (l : LookD) : Bool := smallB l.A l.B l.fs.length && decide (l.zs.length ≤ 100)
def fewB (X Y : Int) (ls : List LookD) : Bool := msmallB X Y && (decide (ls.length ≤ 20) && ls.all okL)
theorem few_out1 {X Y : Int} {ls : List LookD} (h : msmallB X Y = false) : fewB X Y ls = false := by unfold fewB; rw [h]; rfl
theorem few_out2 {X Y : Int} {ls : List LookD} (h : ¬ ls.length ≤ 20) : fewB X Y ls = false := by unfold fewB; rw [decide_eq_false h]; simp
theorem few_out3 {X Y : Int} {ls : List LookD} {l : LookD} (h : l ∈ ls) (hl : okL l = false) : fewB X Y ls = false := by
  unfold fewB
  have e : ls.all okL = false := by
    rw [List.all_eq_false]
    exact ⟨l, h, by rw [hl]; decide⟩
  rw [e]; simp
theorem few_in {X Y : Int} {ls : List LookD} (h1 : msmallB X Y = true) (h2 : ls.length ≤ 20) (h3 : ∀ l ∈ ls, okL l = true) : fewB X Y ls = true := by
  unfold fewB
  rw [h1, decide_eq_true h2, List.all_eq_true.2 h3]; rfl
theorem few_iff {X Y : Int} {ls : List LookD} (h : fewB X Y ls = true) : msmallB X Y = true ∧ ls.length ≤ 20 ∧ ∀ l ∈ ls, okL l = true := by
  unfold fewB at h
  rw [Bool.and_eq_true, Bool.and_eq_true, decide_eq_true_eq, List.all_eq_true] at h
  exact ⟨h.1, h.2.1, h.2.2⟩
theorem okL_no1 {l : LookD} (h : smallB l.A l.B l.fs.length = false) : okL l = false := by unfold okL; rw [h]; rfl
theorem okL_no2 {l : LookD} (h : ¬ l.zs.length ≤ 100) : okL l = false := by unfold okL; rw [decide_eq_false h]; simp
theorem okL_yes {l : LookD} (h : smallB l.A l.B l.fs.length = true) (h2 : l.zs.length ≤ 100) : okL l = true := by unfold okL; rw [h, decide_eq_true h2]; rfl
theorem okL_iff {l : LookD} (h : okL l = true) : smallB l.A l.B l.fs.length = true ∧ l.zs.length ≤ 100 := by
  unfold okL at h
  rw [Bool.and_eq_true, decide_eq_true_eq] at h
  exact h

set_option maxHeartbeats 2000000 in
theorem few_any (X Y : Int) (a : Option Addr) (cap : Nat) (ls : List LookD) (w : World) (hr : RowL w a ls) :
    Calls Try.prog 4 #[.agg #[.int .i64 X, .int .i64 Y], .slice a ls.length cap] w fun e w' => e = .returned (.bool (fewB X Y ls)) ∧ Below w.heap.size w w' := by
  have hA := bl0 w
  cases h1 : msmallB X Y with
  | false =>
    have H0 := Lib.hid (few_out1 (ls := ls) h1)
    have H1 := Lib.hid h1
    clear h1
    go_enter Try.func4, Try.ntmps4
    go_wp2_with fail
    refine (msmall_any _ _ _).mono ?_
    rintro e w1 ⟨rfl, hb⟩
    have hk : Below w.heap.size w w1 := by first | exact hb | exact bl_tr (bl_al (bl0 _) _) hb | exact bl_tr (bl_dr (bl_al (bl0 _) _)) hb | exact bl_tr (bl_al (bl_al (bl0 _) _) _) hb | exact bl_tr (bl_dr (bl_al (bl_al (bl0 _) _) _)) hb | exact bl_tr (bl_al (bl_al (bl_al (bl0 _) _) _) _) hb | exact bl_tr (bl_dr (bl_al (bl_al (bl_al (bl0 _) _) _) _)) hb | exact bl_tr (bl_al (bl_al (bl_al (bl_al (bl0 _) _) _) _) _) hb | exact bl_tr (bl_dr (bl_al (bl_al (bl_al (bl_al (bl0 _) _) _) _) _)) hb | exact bl_tr (bl_al (bl_al (bl_al (bl_al (bl_al (bl0 _) _) _) _) _) _) hb | exact bl_tr (bl_dr (bl_al (bl_al (bl_al (bl_al (bl_al (bl0 _) _) _) _) _) _)) hb | exact bl_tr (bl_al (bl_al (bl_al (bl_al (bl_al (bl_al (bl0 _) _) _) _) _) _) _) hb | exact bl_tr (bl_dr (bl_al (bl_al (bl_al (bl_al (bl_al (bl_al (bl0 _) _) _) _) _) _) _)) hb | exact bl_tr (bl_dr (bl0 _)) hb
    replace hA := bl_tr hA hk
    clear hb hk
    rw [H1.out]
    go_wp2
    go_ret
    exact ⟨ret_bool H0.out.symm, hA⟩
  | true =>
  by_cases h2 : ls.length ≤ 20
  · have h2' : (ls.length : Int) ≤ 20 := by omega
    have H1 := Lib.hid h1
    have H2 := Lib.hid h2
    clear h1 h2
    go_enter Try.func4, Try.ntmps4
    go_wp2_with fail
    refine (msmall_any _ _ _).mono ?_
    rintro e w1 ⟨rfl, hb⟩
    have hk : Below w.heap.size w w1 := by first | exact hb | exact bl_tr (bl_al (bl0 _) _) hb | exact bl_tr (bl_dr (bl_al (bl0 _) _)) hb | exact bl_tr (bl_al (bl_al (bl0 _) _) _) hb | exact bl_tr (bl_dr (bl_al (bl_al (bl0 _) _) _)) hb | exact bl_tr (bl_al (bl_al (bl_al (bl0 _) _) _) _) hb | exact bl_tr (bl_dr (bl_al (bl_al (bl_al (bl0 _) _) _) _)) hb | exact bl_tr (bl_al (bl_al (bl_al (bl_al (bl0 _) _) _) _) _) hb | exact bl_tr (bl_dr (bl_al (bl_al (bl_al (bl_al (bl0 _) _) _) _) _)) hb | exact bl_tr (bl_al (bl_al (bl_al (bl_al (bl_al (bl0 _) _) _) _) _) _) hb | exact bl_tr (bl_dr (bl_al (bl_al (bl_al (bl_al (bl_al (bl0 _) _) _) _) _) _)) hb | exact bl_tr (bl_al (bl_al (bl_al (bl_al (bl_al (bl_al (bl0 _) _) _) _) _) _) _) hb | exact bl_tr (bl_dr (bl_al (bl_al (bl_al (bl_al (bl_al (bl_al (bl0 _) _) _) _) _) _) _)) hb | exact bl_tr (bl_dr (bl0 _)) hb
    replace hA := bl_tr hA hk
    clear hb hk
    rw [H1.out]
    have HA := Lib.hid hA
    clear hA
    go_wp2
    go_loopw [5] (fun i wr => ∃ k : Nat, k ≤ ls.length ∧ i = .int .i64 k ∧ (∀ l ∈ ls.take k, okL l = true) ∧ Below w.heap.size w wr) (fun i _ => ls.length - (intOf i).toNat)
    case atStart => exact ⟨0, Nat.zero_le _, rfl, fun l hl => by simp at hl, HA.out⟩
    case round =>
      obtain ⟨k, hk, rfl, hall, hAr⟩ := hrel
      have HALL := Lib.hid hall
      clear hall
      by_cases hlt : k < ls.length
      · have hlt2 : (k : Int) < (ls.length : Int) := by omega
        have hk0 : (0 : Int) ≤ (k : Int) := by omega
        obtain ⟨l, hl⟩ : ∃ l, ls[k]? = some l := ⟨_, List.getElem?_eq_getElem hlt⟩
        obtain ⟨gb, go, rfl, q0, q1, q2, q3, _, _⟩ := hr.cell hl
        replace q0 := cell_later hAr q0
        replace q1 := cell_later hAr q1
        replace q2 := cell_later hAr q2
        replace q3 := cell_later hAr q3
        have HM := Lib.hid (List.mem_of_getElem? hl)
        have HN := Lib.hid (show ls.take (k + 1) = ls.take k ++ [l] by rw [List.take_add_one, hl]; rfl)
        clear hr hl
        obtain ⟨A, hA'⟩ : ∃ A, l.A = A := ⟨_, rfl⟩
        obtain ⟨B, hB'⟩ : ∃ B, l.B = B := ⟨_, rfl⟩
        obtain ⟨n, hn'⟩ : ∃ n, l.fs.length = n := ⟨_, rfl⟩
        obtain ⟨m, hm'⟩ : ∃ m, l.zs.length = m := ⟨_, rfl⟩
        have N1 := Lib.hid (fun h : smallB A B n = false => few_out3 (X := X) (Y := Y) HM.out (okL_no1 (l := l) (by rw [hA', hB', hn']; exact h)))
        have N2 := Lib.hid (fun h : ¬ m ≤ 100 => few_out3 (X := X) (Y := Y) HM.out (okL_no2 (l := l) (by rw [hm']; exact h)))
        have N3 := Lib.hid (fun (h : smallB A B n = true) (h2 : m ≤ 100) => okL_yes (l := l) (by rw [hA', hB', hn']; exact h) (by rw [hm']; exact h2))
        rw [hA'] at q0
        rw [hB'] at q1
        rw [hn'] at q2
        rw [hm'] at q3
        clear hA' hB' hn' hm'
        cases hs : smallB A B n with
        | false =>
          have HF := Lib.hid (N1.out hs)
          have HS := Lib.hid hs
          clear hs
          go_wp2_with fail
          refine (small_any _ _ _ _ _ _).mono ?_
          rintro e w2 ⟨rfl, hb⟩
          rw [HS.out]
          have HB := Lib.hid (bl_tr hAr hb)
          clear hAr hb q0 q1 q2 q3
          go_wp2
          go_ret
          exact ⟨ret_bool HF.out.symm, HB.out⟩
        | true =>
          have HS := Lib.hid hs
          by_cases hm : m ≤ 100
          · have HF := Lib.hid (N3.out hs hm)
            have hm2 : (m : Int) ≤ 100 := by omega
            clear hs
            go_wp2_with fail
            refine (small_any _ _ _ _ _ _).mono ?_
            rintro e w2 ⟨rfl, hb⟩
            rw [HS.out]
            replace q3 := cell_later hb q3
            have HB := Lib.hid (bl_tr hAr hb)
            clear hAr hb q0 q1 q2
            go_wp2
            go_roundw
            case rel => exact ⟨k + 1, by omega, by go_num, fun x hx => by
              rw [HN.out, List.mem_append] at hx
              rcases hx with hx | hx
              · exact HALL.out x hx
              · simp at hx; subst hx; exact HF.out, HB.out⟩
            case measure => simp [intOf]; omega
          · have HF := Lib.hid (N2.out hm)
            have hm2 : (100 : Int) < (m : Int) := by omega
            clear hs hm
            go_wp2_with fail
            refine (small_any _ _ _ _ _ _).mono ?_
            rintro e w2 ⟨rfl, hb⟩
            rw [HS.out]
            replace q3 := cell_later hb q3
            have HB := Lib.hid (bl_tr hAr hb)
            clear hAr hb q0 q1 q2
            go_wp2
            go_ret
            exact ⟨ret_bool HF.out.symm, HB.out⟩
      · have hge : (ls.length : Int) ≤ (k : Int) := by omega
        have HF := Lib.hid (few_in H1.out H2.out (fun l hl => HALL.out l (by rw [List.take_of_length_le (by omega)]; exact hl)))
        go_wp2
        go_ret
        exact ⟨ret_bool HF.out.symm, hAr⟩
  · have H0 := Lib.hid (few_out2 (X := X) (Y := Y) h2)
    have h2' : (20 : Int) < (ls.length : Int) := by omega
    have H1 := Lib.hid h1
    clear h1 h2
    go_enter Try.func4, Try.ntmps4
    go_wp2_with fail
    refine (msmall_any _ _ _).mono ?_
    rintro e w1 ⟨rfl, hb⟩
    have hk : Below w.heap.size w w1 := by first | exact hb | exact bl_tr (bl_al (bl0 _) _) hb | exact bl_tr (bl_dr (bl_al (bl0 _) _)) hb | exact bl_tr (bl_al (bl_al (bl0 _) _) _) hb | exact bl_tr (bl_dr (bl_al (bl_al (bl0 _) _) _)) hb | exact bl_tr (bl_al (bl_al (bl_al (bl0 _) _) _) _) hb | exact bl_tr (bl_dr (bl_al (bl_al (bl_al (bl0 _) _) _) _)) hb | exact bl_tr (bl_al (bl_al (bl_al (bl_al (bl0 _) _) _) _) _) hb | exact bl_tr (bl_dr (bl_al (bl_al (bl_al (bl_al (bl0 _) _) _) _) _)) hb | exact bl_tr (bl_al (bl_al (bl_al (bl_al (bl_al (bl0 _) _) _) _) _) _) hb | exact bl_tr (bl_dr (bl_al (bl_al (bl_al (bl_al (bl_al (bl0 _) _) _) _) _) _)) hb | exact bl_tr (bl_al (bl_al (bl_al (bl_al (bl_al (bl_al (bl0 _) _) _) _) _) _) _) hb | exact bl_tr (bl_dr (bl_al (bl_al (bl_al (bl_al (bl_al (bl_al (bl0 _) _) _) _) _) _) _)) hb | exact bl_tr (bl_dr (bl0 _)) hb
    replace hA := bl_tr hA hk
    clear hb hk
    rw [H1.out]
    go_wp2
    go_ret
    exact ⟨ret_bool H0.out.symm, hA⟩
end Go.Proofs.Ytccokdfkmppohaa

/- Fog's laws: a fog behind looks. -/
namespace Go.Proofs.Ytccokdfkmppohaa
open Go.RowKit Go.Shelf
attribute [local go_sem] Oper.semAt_some

/-- What is known behind one look more, and the version. -/
def stepL (X Y : Int) (s : List (Option Int) × Int) (l : LookD) : List (Option Int) × Int :=
  ((lookS X Y l.A l.B l.fs (setL l.A l.B l.zs) s.1).1, s.2 + if (lookS X Y l.A l.B l.fs (setL l.A l.B l.zs) s.1).2 = [] then 0 else 1)
/-- What is known behind looks, and the version. -/
def looksL (X Y : Int) (ls : List LookD) : List (Option Int) × Int := ls.foldl (stepL X Y) (List.replicate (X * Y).toNat none, 0)
theorem looksL_snoc (X Y : Int) (ls : List LookD) (l : LookD) : looksL X Y (ls ++ [l]) = stepL X Y (looksL X Y ls) l := by simp [looksL, List.foldl_append]
theorem foldL_len (X Y : Int) : ∀ (ls : List LookD) (s : List (Option Int) × Int), (ls.foldl (stepL X Y) s).1.length = s.1.length
  | [], _ => rfl
  | l :: ls, s => by
    rw [List.foldl_cons, foldL_len X Y ls]
    exact lookS_len _ _ _ _ _ _ _
theorem looksL_len (X Y : Int) (ls : List LookD) (h : mayB X Y = true) : ((looksL X Y ls).1.length : Int) = X * Y := by
  have := area_bd h
  unfold looksL
  rw [foldL_len, List.length_replicate]
  omega
theorem foldL_ver (X Y : Int) : ∀ (ls : List LookD) (s : List (Option Int) × Int), s.2 ≤ (ls.foldl (stepL X Y) s).2 ∧ (ls.foldl (stepL X Y) s).2 ≤ s.2 + ls.length
  | [], s => by simp
  | l :: ls, s => by
    obtain ⟨h1, h2⟩ := foldL_ver X Y ls (stepL X Y s l)
    have h3 : s.2 ≤ (stepL X Y s l).2 ∧ (stepL X Y s l).2 ≤ s.2 + 1 := by unfold stepL; dsimp only; split <;> omega
    rw [List.foldl_cons, List.length_cons]
    omega
theorem looksL_ver (X Y : Int) (ls : List LookD) : 0 ≤ (looksL X Y ls).2 ∧ (looksL X Y ls).2 ≤ ls.length := by
  have h : _ ∧ _ := foldL_ver X Y ls (List.replicate (X * Y).toNat none, 0)
  unfold looksL
  dsimp only at h
  omega

/-- What looks tells and leaves. -/
def LooksP (w : World) (X Y : Int) (ls : List LookD) (e : Ending) (w' : World) : Prop := ∃ g h cap, e = .returned (.pointer (some ⟨g, 0, none⟩)) ∧ FogAt w' w.heap.size g h cap X Y (looksL X Y ls).1 (looksL X Y ls).2 ∧ Below w.heap.size w w'

end Go.Proofs.Ytccokdfkmppohaa

/- Fog: what is known behind looks, cell by cell; the version; two looks in whichever order. -/
namespace Go.Proofs.Ytccokdfkmppohaa
open Go.RowKit

theorem cells_num {X Y : Int} {bs : List Nat} (hg : Good X Y bs) (n : Nat) : n ∈ (cellsM X Y bs).map (numC X) ↔ bitAt bs n = true := by
  unfold cellsM
  rw [List.map_map, List.mem_map]
  constructor
  · rintro ⟨i, hi, e⟩
    have h := (num_of_cell hg hi).1
    obtain ⟨h0, hb⟩ := (mem_nums bs i).1 hi
    have e2 : i.toNat = n := by rw [← e]; show i.toNat = numC X (cellAt X Y i); unfold numC; rw [h]
    rw [← e2]; exact hb
  · intro hb
    have hi : (n : Int) ∈ numsOf bs := (mem_nums bs n).2 ⟨by omega, by simpa using hb⟩
    exact ⟨n, hi, by show numC X (cellAt X Y n) = n; unfold numC; rw [(num_of_cell hg hi).1]; simp⟩
/-- A cell of a list that is on the map has this number. -/
def inL (X Y : Int) (zs : List (Int × Int)) (n : Nat) : Prop := ∃ z ∈ zs, inB X Y z.1 z.2 = true ∧ numC X z = n
theorem bit_putIn {X Y : Int} : ∀ (zs : List (Int × Int)) (bs : List Nat), Good X Y bs → ∀ i : Nat, bitAt (putIn X Y bs zs) i = true ↔ (bitAt bs i = true ∨ inL X Y zs i)
  | [], bs, _, i => by simp [putIn, inL]
  | z :: zs, bs, g, i => by
    have e : putIn X Y bs (z :: zs) = putIn X Y (if inB X Y z.1 z.2 = true then setB bs (z.2 * X + z.1).toNat true else bs) zs := rfl
    rw [e]
    by_cases hz : inB X Y z.1 z.2 = true
    · rw [if_pos hz, bit_putIn zs _ (g.set hz true) i, bitAt_setB _ _ _ (g.idx hz)]
      constructor
      · rintro (h | ⟨y, hy, e⟩)
        · by_cases hi : i = (z.2 * X + z.1).toNat
          · exact .inr ⟨z, by simp, hz, by unfold numC; exact hi.symm⟩
          · rw [if_neg hi] at h; exact .inl h
        · exact .inr ⟨y, by simp [hy], e⟩
      · rintro (h | ⟨y, hy, h1, h2⟩)
        · by_cases hi : i = (z.2 * X + z.1).toNat
          · rw [if_pos hi]; exact .inl rfl
          · rw [if_neg hi]; exact .inl h
        · rcases List.mem_cons.1 hy with rfl | hy
          · rw [if_pos (show i = (y.2 * X + y.1).toNat from h2.symm)]; exact .inl rfl
          · exact .inr ⟨y, hy, h1, h2⟩
    · rw [if_neg hz, bit_putIn zs _ g i]
      constructor
      · rintro (h | ⟨y, hy, e⟩)
        · exact .inl h
        · exact .inr ⟨y, by simp [hy], e⟩
      · rintro (h | ⟨y, hy, h1, h2⟩)
        · exact .inl h
        · rcases List.mem_cons.1 hy with rfl | hy
          · exact absurd h1 hz
          · exact .inr ⟨y, hy, h1, h2⟩
theorem bit_zero (n i : Nat) : bitAt (List.replicate n 0) i = false := by
  unfold bitAt
  rw [List.getD_eq_getElem?_getD, List.getElem?_replicate]
  split <;> simp
theorem bit_setL {X Y : Int} (h : mayB X Y = true) (zs : List (Int × Int)) (n : Nat) : bitAt (setL X Y zs) n = true ↔ inL X Y zs n := by
  unfold setL
  rw [bit_putIn zs _ (good_zero0 h), bit_zero]
  simp

theorem look_off {X Y A B : Int} {fs : List Int} {bs : List Nat} {ms : List (Option Int)} (he : lookE X Y A B fs.length ≠ 0) : lookS X Y A B fs bs ms = (ms, []) := by unfold lookS; rw [if_neg he]
theorem look_on {X Y A B : Int} {fs : List Int} {bs : List Nat} {ms : List (Option Int)} (he : lookE X Y A B fs.length = 0) : lookS X Y A B fs bs ms = mergeS X fs ms (cellsM X Y bs) := by unfold lookS; rw [if_pos he]
theorem look_at {X Y A B : Int} {fs : List Int} {bs : List Nat} {ms : List (Option Int)} (he : lookE X Y A B fs.length = 0) (hg : Good X Y bs) {n : Nat} (hn : n < ms.length) :
    (lookS X Y A B fs bs ms).1[n]? = if bitAt bs n = true then some (some (fs.getD n 0)) else ms[n]? := by
  rw [look_on he, mergeS_at X fs ms _ n hn]
  simp only [cells_num hg]
/-- Who learns nothing knows what was known. -/
theorem look_nil {X Y A B : Int} {fs : List Int} {bs : List Nat} {ms : List (Option Int)} (h : (lookS X Y A B fs bs ms).2 = []) : lookS X Y A B fs bs ms = (ms, []) := by
  by_cases he : lookE X Y A B fs.length = 0
  · rw [look_on he] at h ⊢
    exact foldS_fix X fs _ (ms, []) ((mergeS_nil X fs ms _).1 h)
  · exact look_off he
theorem nums_lt {X Y : Int} {bs : List Nat} (hg : Good X Y bs) {c : Int × Int} (hc : c ∈ cellsM X Y bs) {ms : List (Option Int)} (hl : (ms.length : Int) = X * Y) : numC X c < ms.length := by
  have hi : inB X Y c.1 c.2 = true := by
    unfold cellsM at hc
    obtain ⟨i, hi, rfl⟩ := List.mem_map.1 hc
    exact (num_of_cell hg hi).2
  have := idx_lt hi
  unfold numC
  omega
/-- Who learns something knows something. -/
theorem look_new {X Y A B : Int} {fs : List Int} {bs : List Nat} {ms : List (Option Int)} (h : (lookS X Y A B fs bs ms).2 ≠ []) (hg : mayB A B = true → Good A B bs) (hl : (ms.length : Int) = X * Y) : ∃ (n : Nat) (z : Int), (lookS X Y A B fs bs ms).1[n]? = some (some z) := by
  by_cases he : lookE X Y A B fs.length = 0
  · obtain ⟨h1, _, rfl, rfl⟩ := lookE_ok he
    rw [look_on he] at h
    have h2 : ¬ ∀ c ∈ cellsM A B bs, ms[numC A c]? = some (some (fs.getD (numC A c) 0)) := fun e => h ((mergeS_nil A fs ms _).2 e)
    obtain ⟨c, hc⟩ := Classical.not_forall.1 h2
    have hm : c ∈ cellsM A B bs := Classical.byContradiction fun e => hc (fun h => absurd h e)
    refine ⟨numC A c, fs.getD (numC A c) 0, ?_⟩
    rw [look_on he, mergeS_at A fs ms _ _ (nums_lt (hg h1) hm hl), if_pos (List.mem_map_of_mem hm)]
  · exact absurd (by rw [look_off he]) h
/-- What is known is known. -/
theorem look_keeps {X Y A B : Int} {fs : List Int} {bs : List Nat} {ms : List (Option Int)} (hg : mayB A B = true → Good A B bs) {n : Nat} {z : Int} (hn : ms[n]? = some (some z)) : ∃ z', (lookS X Y A B fs bs ms).1[n]? = some (some z') := by
  by_cases he : lookE X Y A B fs.length = 0
  · obtain ⟨h1, _, rfl, rfl⟩ := lookE_ok he
    rw [look_at he (hg h1) (List.getElem?_eq_some_iff.1 hn).1]
    split
    · exact ⟨_, rfl⟩
    · exact ⟨_, hn⟩
  · rw [look_off he]; exact ⟨z, hn⟩
def anyK (ms : List (Option Int)) : Prop := ∃ (n : Nat) (z : Int), ms[n]? = some (some z)
theorem foldL_pos (X Y : Int) : ∀ (ls : List LookD) (s : List (Option Int) × Int), (s.1.length : Int) = X * Y → 0 ≤ s.2 → (0 < s.2 ↔ anyK s.1) → (0 < (ls.foldl (stepL X Y) s).2 ↔ anyK (ls.foldl (stepL X Y) s).1)
  | [], _, _, _, h => h
  | l :: ls, s, hl, h0, h => by
    rw [List.foldl_cons]
    refine foldL_pos X Y ls (stepL X Y s l) ?_ ?_ ?_
    · show (((lookS X Y l.A l.B l.fs (setL l.A l.B l.zs) s.1).1.length : Nat) : Int) = _
      rw [lookS_len]; exact hl
    · unfold stepL; dsimp only; split <;> omega
    · unfold stepL
      dsimp only
      by_cases hn : (lookS X Y l.A l.B l.fs (setL l.A l.B l.zs) s.1).2 = []
      · rw [if_pos hn, look_nil hn, Int.add_zero]; exact h
      · rw [if_neg hn]
        exact ⟨fun _ => look_new hn (fun hm => setL_good hm _) hl, fun _ => by omega⟩
/-- The version is more than 0 just if something is known. -/
theorem looksL_pos {X Y : Int} (h : mayB X Y = true) (ls : List LookD) : 0 < (looksL X Y ls).2 ↔ anyK (looksL X Y ls).1 := by
  have hab := area_bd h
  refine foldL_pos X Y ls _ ?_ (Int.le_refl 0) ?_
  · simp; omega
  · refine ⟨fun h => absurd h (Int.lt_irrefl 0), ?_⟩
    rintro ⟨n, z, hz⟩
    rw [List.getElem?_replicate] at hz
    split at hz <;> simp at hz
theorem none_at {X Y : Int} {n : Nat} (hn : n < (X * Y).toNat) : (List.replicate (X * Y).toNat (none : Option Int))[n]? = some none := by rw [List.getElem?_replicate, if_pos hn]

theorem looks_two {X Y : Int} {l0 l1 : LookD} (h0 : lookE X Y l0.A l0.B l0.fs.length = 0) (h1 : lookE X Y l1.A l1.B l1.fs.length = 0) {n : Nat} (hn : n < (X * Y).toNat) :
    (looksL X Y [l0, l1]).1[n]? = if bitAt (setL X Y l1.zs) n = true then some (some (l1.fs.getD n 0)) else if bitAt (setL X Y l0.zs) n = true then some (some (l0.fs.getD n 0)) else some none := by
  obtain ⟨m0, _, a0, b0⟩ := lookE_ok h0
  obtain ⟨m1, _, a1, b1⟩ := lookE_ok h1
  have e : (looksL X Y [l0, l1]).1 = (lookS X Y l1.A l1.B l1.fs (setL l1.A l1.B l1.zs) (lookS X Y l0.A l0.B l0.fs (setL l0.A l0.B l0.zs) (List.replicate (X * Y).toNat none)).1).1 := rfl
  rw [a0, b0] at h0 m0
  rw [a1, b1] at h1
  rw [e, a0, b0, a1, b1, look_at h1 (setL_good m0 _) (by rw [lookS_len]; simpa using hn), look_at h0 (setL_good m0 _) (by simpa using hn), none_at hn]
theorem looks_one {X Y : Int} {l0 : LookD} (h0 : lookE X Y l0.A l0.B l0.fs.length = 0) {n : Nat} (hn : n < (X * Y).toNat) :
    (looksL X Y [l0]).1[n]? = if bitAt (setL X Y l0.zs) n = true then some (some (l0.fs.getD n 0)) else some none := by
  obtain ⟨m0, _, a0, b0⟩ := lookE_ok h0
  have e : (looksL X Y [l0]).1 = (lookS X Y l0.A l0.B l0.fs (setL l0.A l0.B l0.zs) (List.replicate (X * Y).toNat none)).1 := rfl
  rw [a0, b0] at h0 m0
  rw [e, a0, b0, look_at h0 (setL_good m0 _) (by simpa using hn), none_at hn]
theorem looksL_size (X Y : Int) (ls : List LookD) : (looksL X Y ls).1.length = (X * Y).toNat := by unfold looksL; rw [foldL_len, List.length_replicate]
/-- Two looks at one field come to the same in whichever order, and to what one look at all of their cells comes to. -/
theorem looks_order {X Y : Int} {l0 l1 l2 : LookD} (h0 : lookE X Y l0.A l0.B l0.fs.length = 0) (h1 : lookE X Y l1.A l1.B l1.fs.length = 0) (h2 : lookE X Y l2.A l2.B l2.fs.length = 0) (e1 : l1.fs = l0.fs) (e2 : l2.fs = l0.fs) (ez : l2.zs = l0.zs ++ l1.zs) :
    (looksL X Y [l0, l1]).1 = (looksL X Y [l1, l0]).1 ∧ (looksL X Y [l0, l1]).1 = (looksL X Y [l2]).1 := by
  obtain ⟨m0, _, a0, b0⟩ := lookE_ok h0
  rw [a0, b0] at m0
  refine ⟨mem_ext (by rw [looksL_size, looksL_size]) fun n hn => ?_, mem_ext (by rw [looksL_size, looksL_size]) fun n hn => ?_⟩
  · rw [looksL_size] at hn
    rw [looks_two h0 h1 hn, looks_two h1 h0 hn, e1]
    split <;> split <;> rfl
  · rw [looksL_size] at hn
    rw [looks_two h0 h1 hn, looks_one h2 hn, e1, e2, ez]
    have hb : bitAt (setL X Y (l0.zs ++ l1.zs)) n = true ↔ (bitAt (setL X Y l1.zs) n = true ∨ bitAt (setL X Y l0.zs) n = true) := by
      rw [bit_setL m0, bit_setL m0, bit_setL m0]
      unfold inL
      constructor
      · rintro ⟨z, hz, h⟩
        rcases List.mem_append.1 hz with hz | hz
        · exact .inr ⟨z, hz, h⟩
        · exact .inl ⟨z, hz, h⟩
      · rintro (⟨z, hz, h⟩ | ⟨z, hz, h⟩)
        · exact ⟨z, by simp [hz], h⟩
        · exact ⟨z, by simp [hz], h⟩
    by_cases q1 : bitAt (setL X Y l1.zs) n = true
    · rw [if_pos q1, if_pos (hb.2 (.inl q1))]
    · by_cases q0 : bitAt (setL X Y l0.zs) n = true
      · rw [if_neg q1, if_pos q0, if_pos (hb.2 (.inr q0))]
      · rw [if_neg q1, if_neg q0, if_neg (fun h => (hb.1 h).elim q1 q0)]
end Go.Proofs.Ytccokdfkmppohaa

/- The frame's parts: sizes, cells, rows of cells and fields as arguments, where no variable is listed. -/
namespace Go.Proofs.Ytccokdfkmppohaa
open Go.ChangeShapes Go.WideShapes Go.ChangeAt Go.RowKit Go.Joins

theorem Try.own : ownKnob Try.prog.godebug = none := by kernel_rfl
theorem Try.cInt : Try.prog.cellsOf 3 = 1 := by kernel_rfl
theorem Try.cCell : Try.prog.cellsOf 26 = 2 := by kernel_rfl
theorem Try.cSize : Try.prog.cellsOf 23 = 2 := by kernel_rfl
theorem Try.cCells : Try.prog.cellsOf 38 = 1 := by kernel_rfl
theorem Try.laidOut : laidOutB Try.prog = true := by kernel_rfl

set_option maxRecDepth 100000 in
theorem open_size {H : Type} {enc : TypeId × Value → H} {W : World} {r : Reach} {b0 base : Nat} {sp : Nat → Bool} {held : Bool} {v : Value} {d : DataW H} {p : List MemPlace}
    (hv : Value.okWide Try.prog W r b0 23 v) (h : DataW.Trod enc Try.prog W base sp held 23 v d p) : ∃ a b : Int, v = .agg #[.int .i64 a, .int .i64 b] ∧ (Lit.int .i64 a).wf = true ∧ (Lit.int .i64 b).wf = true := by
  obtain ⟨c0, c1, y0, y1, m, rfl, rfl, rfl, hy0, hy1⟩ := open_agg2 Try.underlying23 (by kernel_rfl) Try.cSize hv h
  obtain ⟨a, e0, rfl, wa⟩ := DataW.trod_int Try.underlying3 hy0
  obtain ⟨b, e1, rfl, wb⟩ := DataW.trod_int Try.underlying3 hy1
  simp at e0 e1
  subst e0 e1
  exact ⟨a, b, rfl, wa, wb⟩
set_option maxRecDepth 100000 in
theorem open_cell {H : Type} {enc : TypeId × Value → H} {W : World} {r : Reach} {b0 base : Nat} {sp : Nat → Bool} {held : Bool} {v : Value} {d : DataW H} {p : List MemPlace}
    (hv : Value.okWide Try.prog W r b0 26 v) (h : DataW.Trod enc Try.prog W base sp held 26 v d p) : ∃ a b : Int, v = .agg #[.int .i64 a, .int .i64 b] ∧ (Lit.int .i64 a).wf = true ∧ (Lit.int .i64 b).wf = true := by
  obtain ⟨c0, c1, y0, y1, m, rfl, rfl, rfl, hy0, hy1⟩ := open_agg2 Try.underlying26 (by kernel_rfl) Try.cCell hv h
  obtain ⟨a, e0, rfl, wa⟩ := DataW.trod_int Try.underlying3 hy0
  obtain ⟨b, e1, rfl, wb⟩ := DataW.trod_int Try.underlying3 hy1
  simp at e0 e1
  subst e0 e1
  exact ⟨a, b, rfl, wa, wb⟩

theorem add_none (b off i : Nat) : (⟨b, off, none⟩ : Addr).add i = ⟨b, off + i, none⟩ := by unfold Addr.add; split <;> simp_all
/-- A row of cells, read off its cells. -/
theorem read_row {H : Type} {enc : TypeId × Value → H} {W : World} {held : Bool} {m : Nat} {cs : List Value} {x : DataW H × List MemPlace}
    (h : DataW.trod enc Try.prog W 0 (fun _ => true) held m 38 cs = some x) : ∃ (a : Option Addr) (cap : Nat) (zs : List (Int × Int)), cs = [.slice a zs.length cap] ∧ zs.length ≤ maxLen ∧ RowC W a zs := by
  rcases Go.Deep.open_slice_pairs Try.underlying38 Try.underlying26 Try.cCell rfl rfl Try.cInt Try.cInt h with ⟨rfl, _⟩ | ⟨a, len, cap, m', n, V0, V1, D0, D1, P0, P1, rfl, _, hl, hm, hmm, _, hc⟩
  · exact ⟨none, 0, [], rfl, Nat.zero_le _, .inl rfl⟩
  · have hmm' : m' = cap := by simpa using hmm
    subst hmm'
    refine ⟨some a, m', (List.range len).map (fun i => (intOf (V0 i), intOf (V1 i))), by simp, by rw [List.length_map, List.length_range]; exact Nat.le_trans hl hm, ?_⟩
    by_cases h0 : len = 0
    · exact .inl (by simp [h0])
    · obtain ⟨b, off, spot⟩ := a
      have hspot : spot = none := by simpa [Addr.add] using World.cell?_spot (hc 0 (by omega)).1
      subst hspot
      have hadd := add_none b off
      refine .inr ⟨b, off, rfl, fun i z hz => ?_⟩
      have hi : i < len := by
        have := (List.getElem?_eq_some_iff.1 hz).1
        simpa using this
      simp [hi] at hz
      subst hz
      obtain ⟨q0, q1, t0, t1⟩ := hc i (by omega)
      obtain ⟨p, e0, _, _⟩ := DataW.trod_int Try.underlying3 t0
      obtain ⟨q, e1, _, _⟩ := DataW.trod_int Try.underlying3 t1
      simp at e0 e1
      rw [hadd, e0] at q0
      rw [hadd, e1] at q1
      rw [e0, e1]
      exact ⟨q0, q1⟩
theorem row_small {n : Nat} (h : n ≤ maxLen) : n ≤ 9223372036854775807 := by unfold maxLen at h; omega


theorem Try.cRow : Try.prog.cellsOf 35 = 1 := by kernel_rfl
theorem Try.cField : Try.prog.cellsOf 37 = 3 := by kernel_rfl
theorem Try.cU16 : Try.prog.cellsOf 53 = 1 := by kernel_rfl
theorem spot_none {W : World} {a : Addr} {v : Value} (h : W.cell? (a.add 0) = some v) : ∃ b o, a = ⟨b, o, none⟩ := by
  obtain ⟨b, off, spot⟩ := a
  have : spot = none := by simpa [Addr.add] using World.cell?_spot h
  exact ⟨b, off, by rw [this]⟩
/-- A row of costs, by its cells. -/
theorem rowH_cells {W : World} {A : Option Addr} {L C : Nat} {zs : List Int} (hl : L ≤ zs.length) (hA : A = none → C = 0) (hz : zs.length = C)
    (h : ∀ a', A = some a' → ∀ i, i < zs.length → W.cell? (a'.add i) = some (.int .u16 (zs.getD i 0))) : RowH W A (zs.take L) := by
  by_cases h0 : L = 0
  · exact .inl (by rw [h0]; rfl)
  · cases hA' : A with
    | none => have := hA hA'; omega
    | some a' =>
      obtain ⟨b, o, rfl⟩ := spot_none (h a' hA' 0 (by omega))
      refine .inr ⟨b, o, rfl, fun i z hz => ?_⟩
      rw [List.getElem?_take] at hz
      split at hz
      · have hi := (List.getElem?_eq_some_iff.1 hz).1
        have := h _ hA' i hi
        rw [add_none] at this
        rw [this, List.getD_eq_getElem?_getD, hz]
        rfl
      · cases hz
theorem inH_of {z : Int} (h : (Lit.int .u16 z).wf = true) : inH z := by
  unfold inH
  simp only [Lit.wf, Bool.and_eq_true, decide_eq_true_eq] at h
  exact h
theorem read_u16s {H : Type} {enc : TypeId × Value → H} {W : World} {base : Nat} {held : Bool} {m : Nat} {cs : List Value} {x : DataW H × List MemPlace}
    (h : DataW.trod enc Try.prog W base (fun _ => true) held m 35 cs = some x) : ∃ (a : Option Addr) (cap : Nat) (zs : List Int), cs = [.slice a zs.length cap] ∧ zs.length ≤ maxLen ∧ RowH W a zs ∧ AllH zs := by
  rcases open_ints Try.underlying35 Try.underlying53 Try.cU16 h with ⟨rfl, _⟩ | ⟨a, l, c, zs, rfl, _, hl, hm, hz, _, hcell, hwf⟩
  · exact ⟨none, 0, [], rfl, Nat.zero_le _, .inl rfl, fun z hz => by simp at hz⟩
  · have hz' : zs.length = c := by simpa using hz
    refine ⟨some a, c, zs.take l, by simp; omega, by simp; omega, rowH_cells (C := c) (by omega) (fun e => by cases e) hz' (fun a' e => by cases e; exact hcell), fun z hz => inH_of (hwf z (List.mem_of_mem_take hz))⟩
set_option maxRecDepth 100000 in
theorem open_field {H : Type} {enc : TypeId × Value → H} {W : World} {r : Reach} {b0 base : Nat} {held : Bool} {v : Value} {d : DataW H} {p : List MemPlace}
    (hv : Value.okWide Try.prog W r b0 37 v) (h : DataW.Trod enc Try.prog W base (fun _ => true) held 37 v d p) : ∃ (X Y : Int) (a : Option Addr) (cap : Nat) (zs : List Int),
      v = .agg #[.int .i64 X, .int .i64 Y, .slice a zs.length cap] ∧ zs.length ≤ maxLen ∧ RowH W a zs ∧ AllH zs := by
  simp only [Value.okWide, Try.underlying37] at hv
  obtain ⟨cs, rfl, hsz, _⟩ := hv
  rw [Try.cField] at hsz
  obtain ⟨c0, c1, c2, rfl⟩ := array3 hsz
  obtain ⟨fuel, hf⟩ := h
  obtain ⟨y0, y1, n, _, _, hy0, hy1⟩ := trod_struct2 Try.underlying37 hf
  simp only [Value.cells] at hy0 hy1
  have h0 : DataW.trod enc Try.prog W base (fun _ => true) held n 23 [c0, c1] = some y0 := by
    have e : (([c0, c1, c2].drop 0).take (Try.prog.cellsOf 23)) = [c0, c1] := by rw [Try.cSize]; rfl
    rw [← e]; exact hy0
  have h1 : DataW.trod enc Try.prog W base (fun _ => true) held n 35 [c2] = some y1 := by
    have e : (([c0, c1, c2].drop 2).take (Try.prog.cellsOf 35)) = [c2] := by rw [Try.cRow]; rfl
    rw [← e]; exact hy1
  obtain ⟨z0, z1, m, _, _, hz0, hz1⟩ := trod_struct2 Try.underlying23 h0
  have g0 : DataW.trod enc Try.prog W base (fun _ => true) held m 3 [c0] = some z0 := by
    have e : (([c0, c1].drop 0).take (Try.prog.cellsOf 3)) = [c0] := by rw [Try.cInt]; rfl
    rw [← e]; exact hz0
  have g1 : DataW.trod enc Try.prog W base (fun _ => true) held m 3 [c1] = some z1 := by
    have e : (([c0, c1].drop 1).take (Try.prog.cellsOf 3)) = [c1] := by rw [Try.cInt]; rfl
    rw [← e]; exact hz1
  obtain ⟨X, e0, _, _⟩ := DataW.trod_int Try.underlying3 g0
  obtain ⟨Y, e1, _, _⟩ := DataW.trod_int Try.underlying3 g1
  obtain ⟨a, cap, zs, e2, hl, hr, hu⟩ := read_u16s h1
  simp at e0 e1 e2
  subst e0 e1 e2
  exact ⟨X, Y, a, cap, zs, rfl, hl, hr, hu⟩
end Go.Proofs.Ytccokdfkmppohaa

/- Arguments of the laws of sight: rows of cells, eyes. -/
namespace Go.Proofs.Ytccokdfkmppohaa
open Go.ChangeShapes Go.WideShapes Go.ChangeAt Go.RowKit Go.Joins

set_option maxRecDepth 100000 in
theorem open_cells {H : Type} {enc : TypeId × Value → H} {W : World} {r : Reach} {b0 : Nat} {held : Bool} {v : Value} {d : DataW H} {p : List MemPlace}
    (hv : Value.okWide Try.prog W r b0 38 v) (h : DataW.Trod enc Try.prog W 0 (fun _ => true) held 38 v d p) : ∃ (a : Option Addr) (cap : Nat) (zs : List (Int × Int)), v = .slice a zs.length cap ∧ zs.length ≤ maxLen ∧ RowC W a zs := by
  obtain ⟨a, len, cap, rfl⟩ := okWide_slice Try.underlying38 hv
  obtain ⟨fuel, hf⟩ := h
  obtain ⟨a', cap', zs, e, r⟩ := read_row hf
  simp [Value.cells] at e
  obtain ⟨rfl, rfl, rfl⟩ := e
  exact ⟨_, _, _, rfl, r⟩
/-- A row of cells, read off its cells: it is no longer than its room. -/
theorem read_rowc {H : Type} {enc : TypeId × Value → H} {W : World} {held : Bool} {m : Nat} {cs : List Value} {x : DataW H × List MemPlace}
    (h : DataW.trod enc Try.prog W 0 (fun _ => true) held m 38 cs = some x) : ∃ (a : Option Addr) (cap : Nat) (zs : List (Int × Int)), cs = [.slice a zs.length cap] ∧ zs.length ≤ maxLen ∧ RowC W a zs ∧ zs.length ≤ cap := by
  obtain ⟨a, cap, zs, rfl, h1, h2⟩ := read_row h
  refine ⟨a, cap, zs, rfl, h1, h2, ?_⟩
  rcases Go.Deep.open_slice_pairs Try.underlying38 Try.underlying26 Try.cCell rfl rfl Try.cInt Try.cInt h with ⟨e, _⟩ | ⟨a', len, cap', m', n, V0, V1, D0, D1, P0, P1, e, _, hl, hm, hmm, _, hc⟩
  · simp at e
    rw [e.2.1]; simp
  · have hmm' : m' = cap' := by simpa using hmm
    simp at e
    omega
end Go.Proofs.Ytccokdfkmppohaa

/- Fog's laws: looks, and two rows of cells, as arguments; a row of cells appended whole; looks that a law lays itself. -/
namespace Go.Proofs.Ytccokdfkmppohaa
open Go.ChangeShapes Go.WideShapes Go.ChangeAt Go.RowKit Go.Joins

/-- A row of cells, read off its cells: where there is none, there is no room. -/
theorem read_rown {H : Type} {enc : TypeId × Value → H} {W : World} {held : Bool} {m : Nat} {cs : List Value} {x : DataW H × List MemPlace}
    (h : DataW.trod enc Try.prog W 0 (fun _ => true) held m 38 cs = some x) : ∃ (a : Option Addr) (cap : Nat) (zs : List (Int × Int)), cs = [.slice a zs.length cap] ∧ zs.length ≤ maxLen ∧ RowC W a zs ∧ zs.length ≤ cap ∧ (a = none → cap = 0) := by
  obtain ⟨a, cap, zs, rfl, h1, h2, h3⟩ := read_rowc h
  refine ⟨a, cap, zs, rfl, h1, h2, h3, fun ha => ?_⟩
  rcases Go.Deep.open_slice_pairs Try.underlying38 Try.underlying26 Try.cCell rfl rfl Try.cInt Try.cInt h with ⟨e, _⟩ | ⟨a', len, cap', m', n, V0, V1, D0, D1, P0, P1, e, _, hl, hm, hmm, _, hc⟩
  · simp at e; exact e.2.2
  · simp at e
    rw [ha] at e
    cases e.1

theorem Try.cLook : Try.prog.cellsOf 40 = 4 := by kernel_rfl
theorem read_look {H : Type} {enc : TypeId × Value → H} {W : World} {held : Bool} {n : Nat} {c0 c1 c2 c3 : Value} {x : DataW H × List MemPlace}
    (hf : DataW.trod enc Try.prog W 0 (fun _ => true) held n 40 [c0, c1, c2, c3] = some x) : ∃ l : LookD, c0 = .int .i64 l.A ∧ c1 = .int .i64 l.B ∧ c2 = .slice l.a l.fs.length l.c ∧ c3 = .slice l.b l.zs.length l.d ∧ RowH W l.a l.fs ∧ RowC W l.b l.zs := by
  obtain ⟨u0, u1, k, _, _, hu0, hu1⟩ := trod_struct2 Try.underlying40 hf
  have f0 : DataW.trod enc Try.prog W 0 (fun _ => true) held k 37 [c0, c1, c2] = some u0 := by
    have e : (([c0, c1, c2, c3].drop 0).take (Try.prog.cellsOf 37)) = [c0, c1, c2] := by rw [Try.cField]; rfl
    rw [← e]; exact hu0
  have f1 : DataW.trod enc Try.prog W 0 (fun _ => true) held k 38 [c3] = some u1 := by
    have e : (([c0, c1, c2, c3].drop 3).take (Try.prog.cellsOf 38)) = [c3] := by rw [Try.cCells]; rfl
    rw [← e]; exact hu1
  obtain ⟨y0, y1, n, _, _, hy0, hy1⟩ := trod_struct2 Try.underlying37 f0
  have h0 : DataW.trod enc Try.prog W 0 (fun _ => true) held n 23 [c0, c1] = some y0 := by
    have e : (([c0, c1, c2].drop 0).take (Try.prog.cellsOf 23)) = [c0, c1] := by rw [Try.cSize]; rfl
    rw [← e]; exact hy0
  have h1 : DataW.trod enc Try.prog W 0 (fun _ => true) held n 35 [c2] = some y1 := by
    have e : (([c0, c1, c2].drop 2).take (Try.prog.cellsOf 35)) = [c2] := by rw [Try.cRow]; rfl
    rw [← e]; exact hy1
  obtain ⟨z0, z1, m, _, _, hz0, hz1⟩ := trod_struct2 Try.underlying23 h0
  have g0 : DataW.trod enc Try.prog W 0 (fun _ => true) held m 3 [c0] = some z0 := by
    have e : (([c0, c1].drop 0).take (Try.prog.cellsOf 3)) = [c0] := by rw [Try.cInt]; rfl
    rw [← e]; exact hz0
  have g1 : DataW.trod enc Try.prog W 0 (fun _ => true) held m 3 [c1] = some z1 := by
    have e : (([c0, c1].drop 1).take (Try.prog.cellsOf 3)) = [c1] := by rw [Try.cInt]; rfl
    rw [← e]; exact hz1
  obtain ⟨X, e0, _, _⟩ := DataW.trod_int Try.underlying3 g0
  obtain ⟨Y, e1, _, _⟩ := DataW.trod_int Try.underlying3 g1
  obtain ⟨a, cap, fs, e2, hl, hr, hu⟩ := read_u16s h1
  obtain ⟨b, d, zs, e3, _, hz, _, _⟩ := read_rown f1
  simp at e0 e1 e2 e3
  exact ⟨⟨X, Y, a, cap, fs, b, d, zs⟩, e0, e1, e2, e3, hr, hz⟩
set_option maxRecDepth 100000 in
theorem open_looks {H : Type} {enc : TypeId × Value → H} {W : World} {r : Reach} {b0 : Nat} {held : Bool} {v : Value} {d : DataW H} {p : List MemPlace}
    (hv : Value.okWide Try.prog W r b0 24 v) (h : DataW.Trod enc Try.prog W 0 (fun _ => true) held 24 v d p) : ∃ (a : Option Addr) (cap : Nat) (ls : List LookD),
      v = .slice a ls.length cap ∧ ls.length ≤ maxLen ∧ RowL W a ls ∧ ls.length ≤ cap := by
  obtain ⟨a, len, cap, rfl⟩ := okWide_slice Try.underlying24 hv
  obtain ⟨fuel, hf⟩ := h
  rcases Go.Deep.open_slice Try.underlying24 hf with ⟨e, _⟩ | ⟨a', len', cap', m, n, D, Pl, e, _, hl, hm, hmm, _, hx⟩
  · simp [Value.cells] at e
    obtain ⟨rfl, rfl, rfl⟩ := e
    exact ⟨none, 0, [], rfl, Nat.zero_le _, .inl rfl, Nat.le_refl _⟩
  · simp [Value.cells] at e
    obtain ⟨rfl, rfl, rfl⟩ := e
    have hmm' : m = cap := by simpa using hmm
    subst hmm'
    have each : ∀ i, i < m → ∃ l : LookD, W.cell? (a'.add (i * 4)) = some (.int .i64 l.A) ∧ W.cell? ((a'.add (i * 4)).add 1) = some (.int .i64 l.B) ∧ W.cell? ((a'.add (i * 4)).add 2) = some (.slice l.a l.fs.length l.c) ∧
        W.cell? ((a'.add (i * 4)).add 3) = some (.slice l.b l.zs.length l.d) ∧ RowH W l.a l.fs ∧ RowC W l.b l.zs := fun i hi => by
      obtain ⟨cs', h1, h2⟩ := hx i hi
      rw [Try.cLook] at h1
      obtain ⟨_, hlen, hcell⟩ := World.cells?_some h1
      match cs', hlen with
      | [c0, c1, c2, c3], _ =>
        obtain ⟨l, e0, e1, e2, e3, r0, r1⟩ := read_look h2
        have k0 := hcell 0 (by decide)
        have k1 := hcell 1 (by decide)
        have k2 := hcell 2 (by decide)
        have k3 := hcell 3 (by decide)
        simp at k0 k1 k2 k3
        rw [e0] at k0
        rw [e1] at k1
        rw [e2] at k2
        rw [e3] at k3
        exact ⟨l, k0, k1, k2, k3, r0, r1⟩
    obtain ⟨f, hf'⟩ := Go.Deep.choose_lt each
    refine ⟨some a', m, (List.range len).map f, by simp, by simp; omega, ?_, by simp; omega⟩
    by_cases h0 : len = 0
    · exact .inl (by simp [h0])
    · obtain ⟨b, off, spot⟩ := a'
      have hspot : spot = none := by simpa [Addr.add] using World.cell?_spot (hf' 0 (by omega)).1
      subst hspot
      refine .inr ⟨b, off, rfl, fun i t ht => ?_⟩
      have hi : i < len := by
        have := (List.getElem?_eq_some_iff.1 ht).1
        simpa using this
      simp [hi] at ht
      subst ht
      obtain ⟨k0, k1, k2, k3, r0, r1⟩ := hf' i (by omega)
      rw [add_none] at k0
      rw [add_none, add_none] at k1 k2 k3
      exact ⟨k0, k1, k2, k3, r0, r1⟩

theorem flatC_len2 (zs : List (Int × Int)) : (flatC zs).length = zs.length * 2 := by
  induction zs with
  | nil => rfl
  | cons z zs ih => simp [flatC] at ih ⊢; omega
theorem flatC_one (zs : List (Int × Int)) : ∀ u ∈ flatC zs, u.oneCell' = true := by
  intro u hu
  simp only [flatC, List.mem_flatMap] at hu
  obtain ⟨z, _, hz⟩ := hu
  simp at hz
  rcases hz with rfl | rfl <;> rfl
theorem flatC_cells {W : World} {b o : Nat} : ∀ (zs : List (Int × Int)), (∀ (i : Nat) (z : Int × Int), zs[i]? = some z → W.cell? ⟨b, o + i * 2, none⟩ = some (.int .i64 z.1) ∧ W.cell? ⟨b, o + i * 2 + 1, none⟩ = some (.int .i64 z.2)) → ∀ (j : Nat) u, (flatC zs)[j]? = some u → W.cell? ⟨b, o + j, none⟩ = some u := by
  intro zs h j u hu
  have hj : j < (flatC zs).length := (List.getElem?_eq_some_iff.1 hu).1
  have hl := flatC_len2 zs
  obtain ⟨z, hz⟩ : ∃ z, zs[j / 2]? = some z := ⟨_, List.getElem?_eq_getElem (by omega)⟩
  obtain ⟨h0, h1⟩ := h _ _ hz
  obtain ⟨e0, e1⟩ := flatC_at zs _ _ hz
  rcases Nat.mod_two_eq_zero_or_one j with m | m
  · rw [show j / 2 * 2 = j by omega] at h0 e0
    rw [hu] at e0; cases e0
    exact h0
  · rw [show j / 2 * 2 + 1 = j by omega] at e1
    rw [show o + j / 2 * 2 + 1 = o + j by omega] at h1
    rw [hu] at e1; cases e1
    exact h1
/-- A row of cells appended whole, nil or not. -/
theorem wpList_append_rowC {w : World} {ops : Array Oper} {rest : List Oper} {o : Oper} {a : Act} {Q : Exit → Act → World → Prop} (hgd : o.guard = none) (s x : Operand)
    (ho : o.op = .call { callee := .builtin .append, args := #[s, x], argTypes := #[38, 38] })
    (base : Nat) (v : Value) (n : Nat) (xs : List Value) (hs : a.eval s = v) (hown : w.ownsRow base 26 2 v n xs) (r : Option Addr) (c : Nat) (zs : List (Int × Int)) (hx : a.eval x = .slice r zs.length c) (hr : RowC w r zs) (hc : r = none → c = 0)
    (h63 : n + zs.length ≤ 1048576) (hbase : base ≤ w.heap.size)
    (h : ∀ v' w', w'.ownsRow base 26 2 v' (n + zs.length) (xs ++ flatC zs) → w.grownBy w' v.ownBlock → wpList Try.prog ops Q rest (a.put o.dst v') w') : wpList Try.prog ops Q (o :: rest) a w := by
  obtain ⟨i0, hi, hz0, hz1, hz2⟩ := info_parts Try.infoCell
  cases r with
  | none =>
    have hn : zs = [] := by
      rcases hr with h | ⟨b, o, e, _⟩
      · exact h
      · cases e
    subst hn
    rw [hc rfl] at hx
    refine wpList_append_own_none hgd s x 38 ho base 26 i0 2 Try.underlying38 hi v n xs hs hown hx (h v w ?_ (World.grownBy.refl _ _))
    simpa [flatC] using hown
  | some ad =>
    refine wpList_append_own w hgd s x 38 ho base 26 i0 (.agg #[.int .i64 0, .int .i64 0]) 2 16 Try.underlying38 hi hz0 hz1 hz2 rfl (by decide) v n xs hs hown ad zs.length c (flatC zs) hx (flatC_len2 zs) ?_ (flatC_one zs) (by unfold maxLen; omega) (by omega) hbase (fun v' w' h1 h2 _ => h v' w' h1 h2)
    intro j u hu
    rcases hr with rfl | ⟨b, o, e, hcell⟩
    · simp [flatC] at hu
    · cases e
      rw [add_none]
      exact flatC_cells zs hcell j u hu

theorem rowL_two (W : World) (A B : Int) (a : Option Addr) (c : Nat) (fs : List Int) (b0 b1 : Option Addr) (d0 d1 : Nat) (z0 z1 : List (Int × Int)) (hr : RowH W a fs) (h0 : RowC W b0 z0) (h1 : RowC W b1 z1) :
    RowL (W.alloc (.cells #[.int .i64 A, .int .i64 B, .slice a fs.length c, .slice b0 z0.length d0, .int .i64 A, .int .i64 B, .slice a fs.length c, .slice b1 z1.length d1] 40)) (some ⟨W.heap.size, 0, none⟩) [⟨A, B, a, c, fs, b0, d0, z0⟩, ⟨A, B, a, c, fs, b1, d1, z1⟩] := by
  have hb := bl_al (bl0 W) (.cells #[.int .i64 A, .int .i64 B, .slice a fs.length c, .slice b0 z0.length d0, .int .i64 A, .int .i64 B, .slice a fs.length c, .slice b1 z1.length d1] 40)
  refine .inr ⟨_, 0, rfl, fun i l hl => ?_⟩
  match i, hl with
  | 0, hl =>
    simp at hl; subst hl
    exact ⟨by simp [go_sem], by simp [go_sem], by simp [go_sem], by simp [go_sem], hr.below hb, h0.below hb⟩
  | 1, hl =>
    simp at hl; subst hl
    exact ⟨by simp [go_sem], by simp [go_sem], by simp [go_sem], by simp [go_sem], hr.below hb, h1.below hb⟩
  | i + 2, hl => simp at hl
theorem rowL_one (W : World) (A B : Int) (a : Option Addr) (c : Nat) (fs : List Int) (b0 : Option Addr) (d0 : Nat) (z0 : List (Int × Int)) (hr : RowH W a fs) (h0 : RowC W b0 z0) :
    RowL (W.alloc (.cells #[.int .i64 A, .int .i64 B, .slice a fs.length c, .slice b0 z0.length d0] 40)) (some ⟨W.heap.size, 0, none⟩) [⟨A, B, a, c, fs, b0, d0, z0⟩] := by
  have hb := bl_al (bl0 W) (.cells #[.int .i64 A, .int .i64 B, .slice a fs.length c, .slice b0 z0.length d0] 40)
  refine .inr ⟨_, 0, rfl, fun i l hl => ?_⟩
  match i, hl with
  | 0, hl =>
    simp at hl; subst hl
    exact ⟨by simp [go_sem], by simp [go_sem], by simp [go_sem], by simp [go_sem], hr.below hb, h0.below hb⟩
  | i + 1, hl => simp at hl
theorem two_le {l0 l1 : LookD} {k : Nat} (h0 : l0.zs.length ≤ k) (h1 : l1.zs.length ≤ k) : ∀ l ∈ [l0, l1], l.zs.length ≤ k := by
  intro l hl
  simp at hl
  rcases hl with rfl | rfl
  · exact h0
  · exact h1
theorem one_le {l0 : LookD} {k : Nat} (h0 : l0.zs.length ≤ k) : ∀ l ∈ [l0], l.zs.length ≤ k := by
  intro l hl
  simp at hl
  subst hl
  exact h0
theorem flatC_app (xs ys : List (Int × Int)) : flatC xs ++ flatC ys = flatC (xs ++ ys) := by simp [flatC]
theorem two_len (l0 l1 : LookD) : [l0, l1].length ≤ 1000 := by simp
theorem one_len (l0 : LookD) : [l0].length ≤ 1000 := by simp
end Go.Proofs.Ytccokdfkmppohaa

/- Fog's laws: what is known of any cell; a look told once more; a set asked by its pointer. -/
namespace Go.Proofs.Ytccokdfkmppohaa
open Go.RowKit

/-- What is known of a cell, on the map or off it. -/
def knA (X Y x y : Int) (ms : List (Option Int)) : Option Int := if inB X Y x y = true then (ms[numC X (x, y)]?).getD none else none
theorem known_any (B g h cap : Nat) (X Y x y : Int) (ms : List (Option Int)) (k : Int) (w : World) (m : FogAt w B g h cap X Y ms k) (hl : (ms.length : Int) = X * Y) :
    Calls Try.prog 14 #[.pointer (some ⟨g, 0, none⟩), .agg #[.int .i64 x, .int .i64 y]] w fun e w' => e = .returned (.tuple #[.int .u16 ((knA X Y x y ms).getD 0), .bool (knA X Y x y ms).isSome]) ∧ Below w.heap.size w w' := by
  unfold knA
  cases hi : inB X Y x y with
  | false => exact known_no B g h cap X Y x y ms k w m hi
  | true =>
    have hb := idx_lt hi
    have hj : numC X (x, y) < ms.length := by unfold numC; dsimp only; omega
    have ho := List.getElem?_eq_getElem hj
    rw [if_pos rfl, ho]
    exact known_yes B g h cap X Y x y ms k w m hi (numC X (x, y)) (by unfold numC; dsimp only; omega) _ ho
theorem kn_look {X Y A B x y : Int} {fs : List Int} {bs : List Nat} {ms : List (Option Int)} (he : lookE X Y A B fs.length = 0) (hg : Good X Y bs) (hl : (ms.length : Int) = X * Y) :
    knA X Y x y (lookS X Y A B fs bs ms).1 = if inM X Y bs (x, y) = true then some (fs.getD (numC X (x, y)) 0) else knA X Y x y ms := by
  unfold knA
  cases hi : inB X Y x y with
  | false => rw [inM_off (by exact hi)]; rfl
  | true =>
    have hb := idx_lt hi
    have hj : numC X (x, y) < ms.length := by unfold numC; dsimp only; omega
    rw [if_pos rfl, if_pos rfl, look_at he hg hj]
    have e : inM X Y bs (x, y) = bitAt bs (numC X (x, y)) := by unfold inM; rw [show inB X Y (x, y).1 (x, y).2 = true from hi]; rfl
    rw [e]
    split <;> rfl
theorem look_twice {X Y A B : Int} {fs : List Int} {bs : List Nat} {ms : List (Option Int)} (he : lookE X Y A B fs.length = 0) (hg : Good X Y bs) (hl : (ms.length : Int) = X * Y) :
    lookS X Y A B fs bs (lookS X Y A B fs bs ms).1 = ((lookS X Y A B fs bs ms).1, []) := by
  rw [look_on he, look_on he]
  exact mergeS_twice X fs ms _ (fun c hc => nums_lt hg hc hl)
/-- A set asked by its pointer. -/
def hasP (A B : Int) (bs : List Nat) (c : Int × Int) : Bool := mayB A B && inM A B bs c
theorem has_ptr (A B x y : Int) (bs : List Nat) (p : Option Addr) (n : Nat) (w : World) (h : MaskP w n A B bs p) :
    Calls Try.prog 22 #[.pointer p, .agg #[.int .i64 x, .int .i64 y]] w fun e w' => e = .returned (.bool (hasP A B bs (x, y))) ∧ Below w.heap.size w w' := by
  unfold hasP
  rcases h with ⟨hm, rfl⟩ | ⟨hm, hg, b, k, rfl, hmk, _⟩
  · rw [hm]; exact has_nil x y w
  · rw [hm]; exact has_all b k A B x y bs w hmk hg
end Go.Proofs.Ytccokdfkmppohaa

/- Sight: what is seen hangs on the costs of what is seen; with fewer walls one sees no less. -/
namespace Go.Proofs.Ytccokdfkmppohaa
open Go.RowKit

theorem takeTo_same {wl wl2 : Int × Int → Bool} : ∀ (l : List (Int × Int)), (∀ c ∈ takeTo wl l, wl2 c = wl c) → takeTo wl2 l = takeTo wl l
  | [], _ => rfl
  | c :: r, h => by
    have hc : wl2 c = wl c := h c (by rw [takeTo]; split <;> simp)
    rw [takeTo, takeTo, hc]
    by_cases hw : wl c = true
    · rw [if_pos hw, if_pos hw]
    · rw [if_neg hw, if_neg hw]
      rw [takeTo_same r (fun d hd => h d (by rw [takeTo, if_neg hw]; exact List.mem_cons_of_mem _ hd))]
theorem walkL_same {wl wl2 : Int × Int → Bool} (l : List (Int × Int)) (h : ∀ c ∈ walkL wl l, wl2 c = wl c) : walkL wl2 l = walkL wl l := by
  cases l with
  | nil => rfl
  | cons c r =>
    rw [walkL, walkL, takeTo_same r (fun d hd => h d (by rw [walkL]; exact List.mem_cons_of_mem _ hd))]
theorem takeTo_more {wl wl2 : Int × Int → Bool} (h : ∀ c, wl2 c = true → wl c = true) : ∀ (l : List (Int × Int)) (c : Int × Int), c ∈ takeTo wl l → c ∈ takeTo wl2 l
  | [], c, hc => hc
  | d :: r, c, hc => by
    rw [takeTo] at hc ⊢
    by_cases hw : wl d = true
    · rw [if_pos hw] at hc
      split
      · exact hc
      · simp at hc; rw [hc]; simp
    · rw [if_neg hw] at hc
      rw [if_neg (fun e => hw (h d e))]
      rcases List.mem_cons.1 hc with rfl | hc
      · simp
      · exact List.mem_cons_of_mem _ (takeTo_more h r c hc)
theorem walkL_more {wl wl2 : Int × Int → Bool} (h : ∀ c, wl2 c = true → wl c = true) (l : List (Int × Int)) (c : Int × Int) (hc : c ∈ walkL wl l) : c ∈ walkL wl2 l := by
  cases l with
  | nil => exact hc
  | cons d r =>
    rw [walkL] at hc ⊢
    rcases List.mem_cons.1 hc with rfl | hc
    · simp
    · exact List.mem_cons_of_mem _ (takeTo_more h r c hc)

theorem sees_same {X Y r : Int} {fs gs : List Int} {e : Int × Int} (h : ∀ c, Sees X Y fs r e c → wallB X gs c = wallB X fs c) (c : Int × Int) : Sees X Y gs r e c ↔ Sees X Y fs r e c := by
  have key : ∀ q : Int × Int, inB X Y q.1 q.2 = true → (farN e q : Int) ≤ r → seenF X gs e.1 e.2 q.1 q.2 (farN e q) = seenF X fs e.1 e.2 q.1 q.2 (farN e q) := fun q hq hf =>
    walkL_same _ (fun d hd => h d ⟨q, hq, hf, hd⟩)
  unfold Sees
  constructor
  · rintro ⟨q, hq, hf, hc⟩; exact ⟨q, hq, hf, by rw [← key q hq hf]; exact hc⟩
  · rintro ⟨q, hq, hf, hc⟩; exact ⟨q, hq, hf, by rw [key q hq hf]; exact hc⟩
theorem sees_more {X Y r r2 : Int} {fs gs : List Int} {e : Int × Int} (h : ∀ c, wallB X gs c = true → wallB X fs c = true) (hr : r ≤ r2) (c : Int × Int) (hc : Sees X Y fs r e c) : Sees X Y gs r2 e c := by
  obtain ⟨q, hq, hf, hm⟩ := hc
  exact ⟨q, hq, by omega, walkL_more h _ c hm⟩

theorem allB_same {X Y r : Int} {fs gs : List Int} {zs : List (Int × Int)} (hm : mayB X Y = true) (h : ∀ z ∈ zs, inB X Y z.1 z.2 = true) (h0 : 0 ≤ r) (h1 : r ≤ 16)
    (hw : ∀ c, inM X Y (allB X Y fs r zs) c = true → wallB X gs c = wallB X fs c) : allB X Y gs r zs = allB X Y fs r zs := by
  refine set_ext (allB_good hm h) (allB_good hm h) fun c => ?_
  rw [allB_iff hm h h0 h1, allB_iff hm h h0 h1]
  have key : ∀ e ∈ zs, ∀ d, Sees X Y gs r e d ↔ Sees X Y fs r e d := fun e he d => sees_same (fun d hd => hw d ((allB_iff hm h h0 h1 d).2 ⟨e, he, hd⟩)) d
  constructor
  · rintro ⟨e, he, hs⟩; exact ⟨e, he, (key e he c).1 hs⟩
  · rintro ⟨e, he, hs⟩; exact ⟨e, he, (key e he c).2 hs⟩
/-- The cell of a number. -/
def atC (X : Int) (i : Nat) : Int × Int := ((i : Int) % X, (i : Int) / X)
theorem atC_num {X Y : Int} {i : Nat} (hm : mayB X Y = true) (hi : (i : Int) < X * Y) : inB X Y (atC X i).1 (atC X i).2 = true ∧ numC X (atC X i) = i ∧ atB X Y i = true := by
  obtain ⟨h1, h2, h3, h4⟩ := mayB_iff.1 hm
  have hat : atB X Y i = true := atB_iff.2 ⟨h1, h2, h3, h4, by omega, hi⟩
  have hin := cellAt_in hm i
  have e : cellAt X Y i = atC X i := by unfold cellAt atC; rw [if_pos hat]
  rw [e] at hin
  refine ⟨hin, ?_, hat⟩
  unfold numC atC
  have := Int.emod_add_mul_ediv i X
  rw [Int.mul_comm] at this
  show ((i : Int) / X * X + (i : Int) % X).toNat = i
  omega
theorem atC_of {X Y : Int} {c : Int × Int} (h : inB X Y c.1 c.2 = true) : atC X (numC X c) = c := by
  obtain ⟨a1, a2⟩ := idx_lt h
  have e := cellAt_num h
  unfold cellAt at e
  obtain ⟨h1, h2, h3, h4, _⟩ := inB_iff.1 h
  rw [if_pos (atB_iff.2 ⟨h1, h2, h3, h4, a1, a2⟩)] at e
  unfold atC numC
  rw [Int.toNat_of_nonneg a1]
  exact e
/-- The costs of one field where a set has a cell, of another one elsewhere. -/
def mixF (X Y : Int) (ms : List Nat) (fs gs : List Int) : List Int := (List.range fs.length).map (fun i => if inM X Y ms (atC X i) = true then fs.getD i 0 else gs.getD i 0)
theorem mixF_len (X Y : Int) (ms : List Nat) (fs gs : List Int) : (mixF X Y ms fs gs).length = fs.length := by simp [mixF]
theorem mixF_at {X Y : Int} {ms : List Nat} {fs gs : List Int} {i : Nat} (hi : i < fs.length) : (mixF X Y ms fs gs)[i]? = some (if inM X Y ms (atC X i) = true then fs.getD i 0 else gs.getD i 0) := by
  unfold mixF
  rw [List.getElem?_map, List.getElem?_range hi]
  rfl
theorem mixF_take {X Y : Int} {ms : List Nat} {fs gs : List Int} {i : Nat} (hi : i < fs.length) : (mixF X Y ms fs gs).take (i + 1) = (mixF X Y ms fs gs).take i ++ [if inM X Y ms (atC X i) = true then fs.getD i 0 else gs.getD i 0] := by
  have hl : i < (mixF X Y ms fs gs).length := by rw [mixF_len]; exact hi
  rw [List.take_succ_eq_append_getElem hl]
  have := mixF_at (X := X) (Y := Y) (ms := ms) (gs := gs) hi
  rw [List.getElem?_eq_getElem hl] at this
  rw [Option.some.inj this]
theorem wall_mix {X Y : Int} {ms : List Nat} {fs gs : List Int} (hl : (fs.length : Int) = X * Y) {c : Int × Int} (hc : inM X Y ms c = true) : wallB X (mixF X Y ms fs gs) c = wallB X fs c := by
  have hi := inM_in hc
  obtain ⟨a1, a2⟩ := idx_lt hi
  have hlt : numC X c < fs.length := by unfold numC; omega
  have e := mixF_at (X := X) (Y := Y) (ms := ms) (fs := fs) (gs := gs) hlt
  rw [atC_of hi, if_pos hc] at e
  unfold wallB
  show (_ == _) = (_ == _)
  have e1 : (mixF X Y ms fs gs).getD (c.2 * X + c.1).toNat 1 = fs.getD (numC X c) 0 := by
    rw [List.getD_eq_getElem?_getD, show (c.2 * X + c.1).toNat = numC X c from rfl, e]; rfl
  have e2 : fs.getD (c.2 * X + c.1).toNat 1 = fs.getD (numC X c) 0 := by
    rw [show (c.2 * X + c.1).toNat = numC X c from rfl, List.getD_eq_getElem?_getD, List.getD_eq_getElem?_getD, List.getElem?_eq_getElem hlt]; rfl
  rw [e1, e2]
/-- What is seen where the costs of what is seen are the same. -/
theorem allB_mix {X Y r : Int} {fs gs : List Int} {zs : List (Int × Int)} (hm : mayB X Y = true) (hl : (fs.length : Int) = X * Y) (h : ∀ z ∈ zs, inB X Y z.1 z.2 = true) (h0 : 0 ≤ r) (h1 : r ≤ 16) :
    allB X Y (mixF X Y (allB X Y fs r zs) fs gs) r zs = allB X Y fs r zs := allB_same hm h h0 h1 fun _ hc => wall_mix hl hc
end Go.Proofs.Ytccokdfkmppohaa

/- Fog's laws: a field that has other costs where a set has no cell; rows that stay. -/
namespace Go.Proofs.Ytccokdfkmppohaa
open Go.RowKit

/-- Whether a cell's cost is that of the first field. -/
def pickB (A B : Int) (bs : List Nat) (m i : Nat) : Bool := (atB A B i && hasP A B bs (atC A i)) || decide (m ≤ i)
def mixP (A B : Int) (bs : List Nat) (fs gs : List Int) : List Int := (List.range fs.length).map (fun i => if pickB A B bs gs.length i = true then fs.getD i 0 else gs.getD i 0)
theorem mixP_len (A B : Int) (bs : List Nat) (fs gs : List Int) : (mixP A B bs fs gs).length = fs.length := by simp [mixP]
theorem mixP_at {A B : Int} {bs : List Nat} {fs gs : List Int} {i : Nat} (hi : i < fs.length) : (mixP A B bs fs gs)[i]? = some (if pickB A B bs gs.length i = true then fs.getD i 0 else gs.getD i 0) := by
  unfold mixP
  rw [List.getElem?_map, List.getElem?_range hi]
  rfl
theorem mixP_take {A B : Int} {bs : List Nat} {fs gs : List Int} {i : Nat} (hi : i < fs.length) : (mixP A B bs fs gs).take (i + 1) = (mixP A B bs fs gs).take i ++ [if pickB A B bs gs.length i = true then fs.getD i 0 else gs.getD i 0] := by
  have hl : i < (mixP A B bs fs gs).length := by rw [mixP_len]; exact hi
  rw [List.take_succ_eq_append_getElem hl]
  have := mixP_at (A := A) (B := B) (bs := bs) (gs := gs) hi
  rw [List.getElem?_eq_getElem hl] at this
  rw [Option.some.inj this]
theorem look_mix {X Y A B : Int} {fs gs : List Int} {bs : List Nat} {ms : List (Option Int)} (hg : mayB A B = true → Good A B bs) : lookS X Y A B (mixP A B bs fs gs) bs ms = lookS X Y A B fs bs ms := by
  unfold lookS
  rw [mixP_len]
  split
  · rename_i he
    obtain ⟨hm, hc, rfl, rfl⟩ := lookE_ok he
    obtain ⟨_, hl⟩ := chkF_len hc
    refine mergeS_hangs A _ _ ms _ fun c hc => ?_
    have hin := (cellsM_iff (hg hm) c).1 hc
    have hi := inM_in hin
    obtain ⟨a1, a2⟩ := idx_lt hi
    have hlt : numC A c < fs.length := by unfold numC; omega
    have e := mixP_at (A := A) (B := B) (bs := bs) (fs := fs) (gs := gs) hlt
    have hlt2 : ((numC A c : Nat) : Int) < A * B := by omega
    have hp : pickB A B bs gs.length (numC A c) = true := by
      unfold pickB hasP
      rw [(atC_num hm hlt2).2.2, atC_of hi, hm, hin]
      rfl
    rw [hp, if_pos rfl] at e
    rw [List.getD_eq_getElem?_getD, e]
    rfl
  · rfl
theorem look_newlen {X Y A B : Int} {fs : List Int} {bs : List Nat} {ms : List (Option Int)} (hg : mayB A B = true → Good A B bs) : (lookS X Y A B fs bs ms).2.length ≤ 100000 := by
  unfold lookS
  split
  · rename_i he
    obtain ⟨hm, _, rfl, rfl⟩ := lookE_ok he
    have h := hg hm
    have h1 := (mergeS_len A fs ms (cellsM A B bs)).2
    rw [cellsM_len A B bs h.2.2.1] at h1
    have h2 := ones_le bs h.2.2.1
    have h3 := h.2.1
    have h4 := area_bd hm
    omega
  · simp
theorem RowH.keptT {W W' : World} {a : Option Addr} {zs : List Int} {g h : Nat} (r : RowH W a zs) (x : KeptT g h W W') (n : ∀ gb o, a = some ⟨gb, o, none⟩ → gb ≠ g ∧ gb ≠ h) : RowH W' a zs := by
  rcases r with r | ⟨b, o, e, r⟩
  · exact .inl r
  · exact .inr ⟨b, o, e, fun i z hz => x.cell (r i z hz) (n b o e).1 (n b o e).2⟩
theorem RowC.keptT {W W' : World} {a : Option Addr} {zs : List (Int × Int)} {g h : Nat} (r : RowC W a zs) (x : KeptT g h W W') (n : ∀ gb o, a = some ⟨gb, o, none⟩ → gb ≠ g ∧ gb ≠ h) : RowC W' a zs := by
  rcases r with r | ⟨b, o, e, r⟩
  · exact .inl r
  · exact .inr ⟨b, o, e, fun i z hz => ⟨x.cell (r i z hz).1 (n b o e).1 (n b o e).2, x.cell (r i z hz).2 (n b o e).1 (n b o e).2⟩⟩
theorem rowH_heap {W : World} {h : Nat} {l : List Int} (q : W.heap[h]? = some (.cells (cellsH l).toArray 53 (0, 0))) : RowH W (some ⟨h, 0, none⟩) l := by
  refine .inr ⟨h, 0, rfl, fun i z hz => ?_⟩
  have hi := (List.getElem?_eq_some_iff.1 hz)
  have := (row_cell q hi.1).1
  rw [Nat.zero_add, this, hi.2]
theorem FogAt.keptT {W W' : World} {B g h cap g2 h2 : Nat} {X Y : Int} {ms : List (Option Int)} {k : Int} (m : FogAt W B g h cap X Y ms k) (x : KeptT g2 h2 W W') (e1 : g ≠ g2) (e2 : g ≠ h2) (e3 : h ≠ g2) (e4 : h ≠ h2) : FogAt W' B g h cap X Y ms k := by
  obtain ⟨m1, m2, m3⟩ := m
  refine ⟨m1, (x.2 g (Array.getElem?_eq_some_iff.1 m2).1 e1 e2).trans m2, m3.1, ?_⟩
  rcases m3.2 with h | ⟨g', cap', cur, h1, h2', h3, h4⟩
  · exact .inl h
  · cases h1
    exact .inr ⟨_, _, cur, rfl, h2', (x.2 _ (Array.getElem?_eq_some_iff.1 h3).1 e3 e4).trans h3, h4⟩
theorem fcells_eq (a a2 : Option Addr) (cap cap2 : Nat) (xs : List (Int × Int)) (w : World) (hr : RowC w a xs) (hr2 : RowC w a2 xs) (hl : xs.length ≤ 100000) :
    Calls Try.prog 12 #[.slice a xs.length cap, .slice a2 xs.length cap2] w fun e w' => e = .returned (.bool true) ∧ Below w.heap.size w w' :=
  (fcells_any a a2 cap cap2 xs xs w hr hr2 hl).mono fun e w' ⟨he, hb⟩ => ⟨by rw [he, decide_eq_true rfl], hb⟩
end Go.Proofs.Ytccokdfkmppohaa

/- Fog: Explored. -/
namespace Go.Proofs.Ytccokdfkmppohaa
open Go.RowKit

/-- The bytes of the cells that were seen, behind k cells. -/
def explK (ms : List (Option Int)) (bs : List Nat) (k : Nat) : List Nat := (List.range k).foldl (fun bs i => if (ms[i]?).join.isSome = true then setB bs i true else bs) bs
theorem explK_succ (ms : List (Option Int)) (bs : List Nat) (k : Nat) : explK ms bs (k + 1) = if (ms[k]?).join.isSome = true then setB (explK ms bs k) k true else explK ms bs k := by
  unfold explK
  rw [List.range_succ, List.foldl_append]
  rfl

theorem num_in {X Y : Int} (hm : mayB X Y = true) {n : Nat} (hn : (n : Int) < X * Y) : atB X Y n = true ∧ inB X Y ((n : Int) % X) ((n : Int) / X) = true ∧ ((n : Int) / X * X + (n : Int) % X) = n := by
  obtain ⟨h1, h2, h3, h4⟩ := mayB_iff.1 hm
  have e := Int.emod_add_mul_ediv (n : Int) X
  have q0 := Int.emod_nonneg (n : Int) (show X ≠ 0 by omega)
  have q1 := Int.emod_lt_of_pos (n : Int) (show 0 < X by omega)
  have q2 : 0 ≤ (n : Int) / X := Int.ediv_nonneg (by omega) (by omega)
  have q3 : (n : Int) / X < Y := Int.ediv_lt_of_lt_mul (by omega) (by rw [Int.mul_comm]; exact hn)
  refine ⟨atB_iff.2 ⟨h1, h2, h3, h4, by omega, hn⟩, inB_iff.2 ⟨h1, h2, h3, h4, q0, q1, q2, q3⟩, ?_⟩
  rw [Int.mul_comm]
  omega
theorem Good.explK {X Y : Int} {ms : List (Option Int)} {bs : List Nat} (g : Good X Y bs) (hl : (ms.length : Int) = X * Y) : ∀ k, k ≤ ms.length → Good X Y (explK ms bs k)
  | 0, _ => g
  | k + 1, h => by
    have ih := Good.explK g hl k (by omega)
    rw [explK_succ]
    split
    · obtain ⟨_, h2, h3⟩ := num_in g.1 (n := k) (by omega)
      have h4 := ih.set h2 true
      rw [h3] at h4
      simpa using h4
    · exact ih

set_option maxHeartbeats 800000 in
theorem expl_nil (w : World) :
    Calls Try.prog 16 #[.pointer none] w fun e w' => e = .returned (.pointer none) ∧ w' = w := by
  go_enter Try.func16, Try.ntmps16
  go_wp2
  go_ret
  exact ⟨rfl, rfl⟩

set_option maxRecDepth 100000 in
set_option maxHeartbeats 3200000 in
theorem expl_any (B g h cap : Nat) (X Y : Int) (ms : List (Option Int)) (k : Int) (w : World) (m : FogAt w B g h cap X Y ms k) (hm : mayB X Y = true) (hl : (ms.length : Int) = X * Y) :
    Calls Try.prog 16 #[.pointer (some ⟨g, 0, none⟩)] w fun e w' => ∃ b hb, e = .returned (.pointer (some ⟨b, 0, none⟩)) ∧ MaskAt w' b hb X Y (explK ms (List.replicate ((X * Y + 7) / 8).toNat 0) ms.length) ∧ w.heap.size ≤ b ∧ w.heap.size ≤ hb ∧ b ≠ hb ∧ Below w.heap.size w w' := by
  have hA := bl0 w
  have hgz := good_zero0 hm
  have har := area_bd hm
  obtain ⟨z0, hz0⟩ : ∃ z0, List.replicate ((X * Y + 7) / 8).toNat 0 = z0 := ⟨_, rfl⟩
  rw [hz0] at hgz ⊢
  have HZ := Lib.hid hz0
  have HL := Lib.hid hl
  have hl2 : ms.length ≤ 65536 := by omega
  clear hz0 hl
  have c0 := m.c0
  have c1 := m.c1
  have c2 := m.c2
  go_enter Try.func16, Try.ntmps16
  go_wp2_with fail
  refine (new_yes X Y _ hm).mono ?_
  rintro e w1 ⟨b, hb, rfl, hmk, hb1, hh1, hne, hbw⟩
  rw [HZ.out] at hmk
  replace c0 := cell_later hbw c0
  replace c1 := cell_later hbw c1
  replace c2 := cell_later hbw c2
  have hr := (m.below hbw).row
  have hlt := (m.below hbw).lt
  have hml := m.lt
  have hA1 := bl_tr hA hbw
  clear hA hbw m
  go_wp2
  go_loopw [5, 6, 7, 8, 24] (fun _ _ _ _ i wr => ∃ j : Nat, j ≤ ms.length ∧ i = .int .i64 j ∧ MaskAt wr b hb X Y (explK ms z0 j) ∧ w1.grownBy wr (some hb)) (fun _ _ _ _ i _ => ms.length - (intOf i).toNat)
  case atStart => exact ⟨0, Nat.zero_le _, rfl, hmk, World.grownBy.refl _ _⟩
  case round =>
    obtain ⟨j, hj, rfl, hmr, hg⟩ := hrel
    by_cases hlt' : j < ms.length
    · have hlt2 : (j : Int) < (ms.length : Int) := by omega
      have hj0 : (0 : Int) ≤ (j : Int) := by omega
      have hl3 : (ms.length : Int) ≤ 65536 := by omega
      obtain ⟨b', o', e, q0, q1⟩ := hr.cell hlt'
      cases e
      rw [Nat.zero_add] at q0 q1
      replace q0 := hg.cell q0 (by simp; omega)
      replace q1 := hg.cell q1 (by simp; omega)
      have C0 := hg.cell c0 (by simp; omega)
      have C1 := hg.cell c1 (by simp; omega)
      obtain ⟨n1, n2, n3⟩ := num_in hm (n := j) (by rw [← HL.out]; exact hlt2)
      have hgd := Good.explK hgz HL.out j hj
      have hsu : explK ms z0 (j + 1) = if ms[j].isSome = true then setB (explK ms z0 j) j true else explK ms z0 j := by
        have h9 := explK_succ ms z0 j
        rw [List.getElem?_eq_getElem hlt'] at h9
        exact h9
      have HG := Lib.hid hg
      have HM := Lib.hid hmr
      have HC := Lib.hid (And.intro C0 C1)
      have zq := blk_lt q0
      have zC := blk_lt C0
      clear hg hmr hr c0 c1 c2 hmk hA1 hb1 hh1
      obtain ⟨y, hy⟩ : ∃ y, ms[j].getD 0 = y := ⟨_, rfl⟩
      rw [hy] at q1
      clear hy
      obtain ⟨s, hs⟩ : ∃ s, ms[j].isSome = s := ⟨_, rfl⟩
      rw [hs] at q0 hsu
      clear hs
      cases s with
      | false =>
        rw [if_neg (by decide)] at hsu
        have HS := Lib.hid hsu
        clear hsu C0 C1 n1 n2 n3
        go_wp2
        refine ⟨⟨j + 1, by omega, by go_num, ?_, HG.out.trans (grown_al _ _ _)⟩, by simp [intOf]; omega⟩
        rw [HS.out]
        exact HM.out.below (bl_al (bl0 _) _)
      | true =>
        rw [if_pos rfl] at hsu
        have HS := Lib.hid hsu
        have HN := Lib.hid n3
        clear hsu n3
        go_wp2_with fail
        refine (at_yes X Y j _ n1).mono ?_
        rintro e w5 ⟨rfl, hb5⟩
        have hb5' := bl_tr (bl_al (bl0 wr) (.cells #[.bool true, .int .u16 y] 78)) hb5
        clear hb5 C0 C1 q0 q1
        go_wp2_with fail
        have hb6 := bl_tr hb5' (bl_al (bl0 w5) (.cells #[.int .i64 ((j : Int) % X), .int .i64 ((j : Int) / X)] 26))
        refine (set_yes b hb X Y _ _ _ true _ (HM.out.below hb6) hgd hne n2).mono ?_
        rintro e w6 ⟨rfl, hm6, hg6⟩
        rw [HN.out, Int.toNat_natCast] at hm6
        have HM6 := Lib.hid hm6
        have HG6 := Lib.hid ((HG.out.trans (grown_weak (grown_of_below hb6) _)).trans hg6)
        clear hm6 hg6 hb6 hb5' n1 n2
        go_wp2
        refine ⟨⟨j + 1, by omega, by go_num, ?_, HG6.out⟩, by simp [intOf]; omega⟩
        rw [HS.out]
        exact HM6.out
    · have hge : (ms.length : Int) ≤ (j : Int) := by omega
      obtain rfl : j = ms.length := by omega
      have HM := Lib.hid hmr
      have HA := Lib.hid (hA1.grown hg hA1.size (fun r e => by cases e; omega))
      clear hmr hg hmk
      go_wp2
      go_ret
      exact ⟨b, hb, rfl, HM.out, hb1, hh1, hne, HA.out⟩
end Go.Proofs.Ytccokdfkmppohaa

/- Fog: what is known behind one look of any set; all cells of a map; how many. -/
namespace Go.Proofs.Ytccokdfkmppohaa
open Go.RowKit

theorem idx8 {X Y : Int} {bs : List Nat} (g : Good X Y bs) {i : Nat} (hi : (i : Int) < X * Y) : i / 8 < bs.length := by
  have := g.2.1
  omega
theorem expl_bits {X Y : Int} {ms : List (Option Int)} {z : List Nat} (g : Good X Y z) (hl : (ms.length : Int) = X * Y) (i : Nat) : ∀ k, k ≤ ms.length → (bitAt (explK ms z k) i = true ↔ (bitAt z i = true ∨ (i < k ∧ (ms[i]?).join.isSome = true)))
  | 0, _ => by simp [explK]
  | k + 1, hk => by
    have ih := expl_bits g hl i k (by omega)
    have gk := Good.explK g hl k (by omega)
    rw [explK_succ]
    by_cases hs : (ms[k]?).join.isSome = true
    · rw [if_pos hs, bitAt_setB _ _ _ (idx8 gk (by omega))]
      by_cases hik : i = k
      · subst hik
        rw [if_pos rfl]
        exact ⟨fun _ => .inr ⟨by omega, hs⟩, fun _ => rfl⟩
      · rw [if_neg hik, ih]
        constructor
        · rintro (h | ⟨h1, h2⟩)
          · exact .inl h
          · exact .inr ⟨by omega, h2⟩
        · rintro (h | ⟨h1, h2⟩)
          · exact .inl h
          · exact .inr ⟨by omega, h2⟩
    · rw [if_neg hs, ih]
      constructor
      · rintro (h | ⟨h1, h2⟩)
        · exact .inl h
        · exact .inr ⟨by omega, h2⟩
      · rintro (h | ⟨h1, h2⟩)
        · exact .inl h
        · refine .inr ⟨?_, h2⟩
          by_cases hik : i = k
          · subst hik; exact absurd h2 hs
          · omega
/-- What is known are just the costs of a set's cells. -/
def KnowsJ (bs : List Nat) (fs : List Int) (ms : List (Option Int)) : Prop := ms.length = fs.length ∧ ∀ n, n < fs.length → ms[n]? = some (if bitAt bs n = true then some (fs.getD n 0) else none)
theorem knows_expl {X Y : Int} {bs : List Nat} {fs : List Int} {ms : List (Option Int)} (k : KnowsJ bs fs ms) (g : Good X Y bs) (hl : (fs.length : Int) = X * Y) : explK ms (List.replicate ((X * Y + 7) / 8).toNat 0) ms.length = bs := by
  have hm := g.1
  have hz := good_zero0 hm
  have hl2 : (ms.length : Int) = X * Y := by rw [k.1]; exact hl
  have ge := Good.explK hz hl2 ms.length (Nat.le_refl _)
  refine set_ext ge g fun c => ?_
  unfold inM
  rw [Bool.and_eq_true, Bool.and_eq_true]
  refine and_congr_right fun hc => ?_
  rw [expl_bits hz hl2 _ _ (Nat.le_refl _), bit_zero]
  have hi := idx_lt hc
  have hn : numC X c < fs.length := by unfold numC; omega
  have e := k.2 _ hn
  rw [e]
  constructor
  · rintro (h | ⟨_, h⟩)
    · cases h
    · by_cases hb : bitAt bs (numC X c) = true
      · exact hb
      · rw [if_neg hb] at h; simp at h
  · intro hb
    refine .inr ⟨by rw [k.1]; exact hn, ?_⟩
    rw [if_pos hb]; rfl
theorem knows_view {bs : List Nat} {fs : List Int} {ms : List (Option Int)} (k : KnowsJ bs fs ms) {n : Nat} (hn : n < fs.length) : (viewL ms)[n]? = some (if bitAt bs n = true then fs.getD n 0 else 1) := by
  unfold viewL
  rw [List.getElem?_map, k.2 n hn]
  by_cases hb : bitAt bs n = true
  · rw [if_pos hb, if_pos hb]; rfl
  · rw [if_neg hb, if_neg hb]; rfl
theorem knows_all {bs : List Nat} {fs : List Int} {ms : List (Option Int)} (k : KnowsJ bs fs ms) (h : ∀ n, n < fs.length → bitAt bs n = true) : viewL ms = fs := by
  apply List.ext_getElem?
  intro n
  by_cases hn : n < fs.length
  · rw [knows_view k hn, if_pos (h n hn), List.getD_eq_getElem?_getD, List.getElem?_eq_getElem hn]; rfl
  · rw [List.getElem?_eq_none (by rw [viewL_len, k.1]; omega), List.getElem?_eq_none (by omega)]
theorem knows_same {bs cs : List Nat} {fs : List Int} {ms ns : List (Option Int)} (k : KnowsJ bs fs ms) (l : KnowsJ cs fs ns) (hc : ∀ n, n < fs.length → bitAt cs n = true) : ms = ns ↔ ∀ n, n < fs.length → bitAt bs n = true := by
  constructor
  · rintro rfl n hn
    have e := (k.2 n hn).symm.trans (l.2 n hn)
    rw [if_pos (hc n hn)] at e
    by_cases hb : bitAt bs n = true
    · exact hb
    · rw [if_neg hb] at e; simp at e
  · intro h
    refine mem_ext (by rw [k.1, l.1]) fun n hn => ?_
    rw [k.1] at hn
    rw [k.2 n hn, l.2 n hn, if_pos (h n hn), if_pos (hc n hn)]
theorem ones_all {X Y : Int} {bs : List Nat} {N : Nat} (g : Good X Y bs) (hN : (N : Int) = X * Y) : ones bs = N ↔ ∀ n, n < N → bitAt bs n = true := by
  have h1 := numsOf_len bs g.2.2.1
  rw [numsOf_range, List.length_map] at h1
  have hle : N ≤ bs.length * 8 := by have := g.2.1; omega
  have h2 : ((List.range (bs.length * 8)).filter (fun i => bitAt bs i)).length = ((List.range N).filter (fun i => bitAt bs i)).length := by
    obtain ⟨d, hd⟩ : ∃ d, bs.length * 8 = N + d := ⟨bs.length * 8 - N, by omega⟩
    rw [hd, List.range_add, List.filter_append, List.length_append]
    have h3 : ((List.range d).map (N + ·)).filter (fun i => bitAt bs i) = [] := by
      rw [List.filter_eq_nil_iff]
      intro i hi
      obtain ⟨j, _, rfl⟩ := List.mem_map.1 hi
      rw [g.2.2.2 (N + j) (by omega)]
      decide
    rw [h3]; simp
  rw [← h1, h2]
  constructor
  · intro h n hn
    have h4 : (List.range N).filter (fun i => bitAt bs i) = List.range N := (List.filter_sublist).eq_of_length (by rw [h, List.length_range])
    have h5 := List.filter_eq_self.1 h4 n (List.mem_range.2 hn)
    exact h5
  · intro h
    rw [List.filter_eq_self.2 (fun n hn => h n (List.mem_range.1 hn)), List.length_range]
theorem look_knows {X Y : Int} {fs : List Int} {bs : List Nat} {ms : List (Option Int)} (he : lookE X Y X Y fs.length = 0) (g : Good X Y bs) (hl : ms.length = fs.length) (h : (∀ n, n < fs.length → bitAt bs n = true) ∨ ms = List.replicate fs.length none) : KnowsJ bs fs (lookS X Y X Y fs bs ms).1 := by
  refine ⟨by rw [lookS_len, hl], fun n hn => ?_⟩
  rw [look_at he g (by omega)]
  by_cases hb : bitAt bs n = true
  · rw [if_pos hb, if_pos hb]
  · rw [if_neg hb, if_neg hb]
    rcases h with h | rfl
    · exact absurd (h n hn) hb
    · rw [List.getElem?_replicate, if_pos hn]
/-- All cells of a map, put into a set. -/
theorem all_bits {A B : Int} (hm : mayB A B = true) {n : Nat} (hn : (n : Int) < A * B) : bitAt (putAll A (List.replicate ((A * B + 7) / 8).toNat 0) (boxCells 0 0 A B)) n = true := by
  obtain ⟨h1, h2, h3, h4⟩ := mayB_iff.1 hm
  have hin : ∀ z ∈ boxCells 0 0 A B, inB A B z.1 z.2 = true := by
    intro z hz
    have h := hasB_iff.1 (mem_boxCells.1 hz)
    rw [inB_iff]
    omega
  have g := Good.putAll (good_zero0 hm) _ hin
  obtain ⟨a1, a2, _⟩ := atC_num hm hn
  have hmem : atC A n ∈ boxCells 0 0 A B := by
    rw [mem_boxCells, hasB_iff, rightB_iff]
    obtain ⟨_, _, _, _, k5, k6, k7, k8⟩ := inB_iff.1 a1
    omega
  have h := (inM_putAll (good_zero0 hm) hin (atC A n)).2 (.inr hmem)
  unfold inM at h
  rw [a1, a2, Bool.true_and] at h
  exact h
theorem all_good {A B : Int} (hm : mayB A B = true) : Good A B (putAll A (List.replicate ((A * B + 7) / 8).toNat 0) (boxCells 0 0 A B)) := by
  obtain ⟨h1, h2, h3, h4⟩ := mayB_iff.1 hm
  refine Good.putAll (good_zero0 hm) _ fun z hz => ?_
  have h := hasB_iff.1 (mem_boxCells.1 hz)
  rw [inB_iff]
  omega
/-- A set asked to hold a cell, or not, on the map or off it. -/
def setV (A B : Int) (bs : List Nat) (c : Int × Int) (v : Bool) : List Nat := if inB A B c.1 c.2 = true then setB bs (numC A c) v else bs
theorem Good.setV {A B : Int} {bs : List Nat} (g : Good A B bs) (c : Int × Int) (v : Bool) : Good A B (setV A B bs c v) := by
  unfold Proofs.Ytccokdfkmppohaa.setV
  split
  · rename_i h; exact g.set h v
  · exact g
theorem set_v (b h : Nat) (X Y x y : Int) (bs : List Nat) (v : Bool) (w : World) (hm : MaskAt w b h X Y bs) (hg : Good X Y bs) (hne : b ≠ h) :
    Calls Try.prog 28 #[.pointer (some ⟨b, 0, none⟩), .agg #[.int .i64 x, .int .i64 y], .bool v] w fun e w' => (∃ q, e = .returned (.int .i64 q)) ∧ MaskAt w' b h X Y (setV X Y bs (x, y) v) ∧ w.grownBy w' (some h) := by
  cases hi : inB X Y x y with
  | true =>
    have e1 : setV X Y bs (x, y) v = setB bs (y * X + x).toNat v := by unfold setV; rw [if_pos (by exact hi)]; rfl
    rw [e1]
    exact (set_yes b h X Y x y bs v w hm hg hne hi).mono fun e w' ⟨he, h1, h2⟩ => ⟨⟨_, he⟩, h1, h2⟩
  | false =>
    have e1 : setV X Y bs (x, y) v = bs := by unfold setV; rw [if_neg (by rw [show inB X Y (x, y).1 (x, y).2 = false from hi]; decide)]
    rw [e1]
    exact (set_no b h X Y x y bs v w hm hi).mono fun e w' ⟨he, h1⟩ => ⟨⟨_, he⟩, hm.below h1, grown_weak (grown_of_below h1) _⟩
theorem expl_eq (C g h cap : Nat) (X Y : Int) (ms : List (Option Int)) (k : Int) (bs : List Nat) (fs : List Int) (w : World) (m : FogAt w C g h cap X Y ms k) (kj : KnowsJ bs fs ms) (gd : Good X Y bs) (hl : (fs.length : Int) = X * Y) :
    Calls Try.prog 16 #[.pointer (some ⟨g, 0, none⟩)] w fun e w' => ∃ b hb, e = .returned (.pointer (some ⟨b, 0, none⟩)) ∧ MaskAt w' b hb X Y bs ∧ Below w.heap.size w w' :=
  (expl_any C g h cap X Y ms k w m gd.1 (by rw [kj.1]; exact hl)).mono fun e w' ⟨b, hb, he, hm, _, _, _, hbl⟩ => ⟨b, hb, he, by rw [knows_expl kj gd hl] at hm; exact hm, hbl⟩
theorem count_eq (b h : Nat) (X Y : Int) (bs : List Nat) (on : Nat) (w : World) (hm : MaskAt w b h X Y bs) (gd : Good X Y bs) (ho : ones bs = on) :
    Calls Try.prog 17 #[.pointer (some ⟨b, 0, none⟩)] w fun e w' => e = .returned (.int .i64 (on : Nat)) ∧ w = w' := by
  subst ho
  exact count_any b h X Y bs w hm gd.2.2.1 gd.small
end Go.Proofs.Ytccokdfkmppohaa
