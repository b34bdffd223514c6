/- Least costs: a field within a box. -/
import Derived.Test.YtgbhafadibdmcaaDoorCf
import Derived.Test.YtgbhafadibdmcaaDoorIo
import Derived.Test.YtgbhafadibdmcaaDoorOz
import Derived.Deep.CutRange
import Derived.LoopTactic
namespace Go.Proofs.YtgbhafadibdmcaaDoor
open Go.RowKit Go.Shelf
attribute [local go_sem] Oper.semAt_some

/-- A cell's number, 0 of one that is not on the map. -/
def numZ (A B : Int) (c : IC) : Nat := if onB A B c = true then numN A c else 0
theorem number_all (A B : Int) (a : Option Addr) (n cap : Nat) (c : IC) (w : World) :
    Calls Tryd.prog 32 #[.agg #[.int .i64 A, .int .i64 B, .slice a n cap], .agg #[.int .i64 c.1, .int .i64 c.2]] w fun e w' => e = .returned (.int .i64 (numZ A B c : Nat)) ∧ Below w.heap.size w w' := by
  cases h : onB A B c
  · have e : numZ A B c = 0 := by unfold numZ; rw [if_neg (by rw [h]; decide)]
    rw [e]
    have hA := bl0 w
    go_enter Tryd.func32, Tryd.ntmps32
    go_wp2_with fail
    refine (index_no _ _ _ _ _ h).mono ?_
    rintro e w1 ⟨rfl, hb⟩
    have hk : Below w.heap.size w w1 := by first | exact hb | exact bl_tr (bl_al (bl0 _) _) hb | exact bl_tr (bl_dr (bl_al (bl0 _) _)) hb | exact bl_tr (bl_al (bl_al (bl0 _) _) _) hb | exact bl_tr (bl_dr (bl_al (bl_al (bl0 _) _) _)) hb | exact bl_tr (bl_al (bl_al (bl_al (bl0 _) _) _) _) hb | exact bl_tr (bl_dr (bl_al (bl_al (bl_al (bl0 _) _) _) _)) hb | exact bl_tr (bl_al (bl_al (bl_al (bl_al (bl0 _) _) _) _) _) hb | exact bl_tr (bl_dr (bl_al (bl_al (bl_al (bl_al (bl0 _) _) _) _) _)) hb | exact bl_tr (bl_al (bl_al (bl_al (bl_al (bl_al (bl0 _) _) _) _) _) _) hb | exact bl_tr (bl_dr (bl_al (bl_al (bl_al (bl_al (bl_al (bl0 _) _) _) _) _) _)) hb | exact bl_tr (bl_al (bl_al (bl_al (bl_al (bl_al (bl_al (bl0 _) _) _) _) _) _) _) hb | exact bl_tr (bl_dr (bl_al (bl_al (bl_al (bl_al (bl_al (bl_al (bl0 _) _) _) _) _) _) _)) hb | exact bl_tr (bl_dr (bl0 _)) hb
    replace hA := bl_tr hA hk
    clear hb hk
    go_wp2
    go_ret
    exact ⟨rfl, hA⟩
  · have e : numZ A B c = numN A c := by unfold numZ; rw [if_pos h]
    rw [e]
    exact number_any A B a n cap c w h
theorem numZ_lt {A B : Int} {zs : List Int} (hm : mayB A B = true) (hn : (zs.length : Int) = A * B) (c : IC) : numZ A B c < zs.length := by
  unfold numZ
  split
  · exact numN_at (by assumption) hn
  · have := area_bd hm
    omega
/-- What was copied so far. -/
def cutTo (A B : Int) (zs : List Int) (l : List IC) : List Int := l.foldl (fun q c => q.set (numZ A B c) (zs.getD (numZ A B c) 0)) (List.replicate zs.length 0)
theorem cutTo_snoc (A B : Int) (zs : List Int) (l : List IC) (c : IC) : cutTo A B zs (l ++ [c]) = (cutTo A B zs l).set (numZ A B c) (zs.getD (numZ A B c) 0) := by simp [cutTo, List.foldl_append]
theorem cutTo_len (A B : Int) (zs : List Int) (l : List IC) : (cutTo A B zs l).length = zs.length := by
  unfold cutTo
  have : ∀ (l : List IC) (q : List Int), (l.foldl (fun q c => q.set (numZ A B c) (zs.getD (numZ A B c) 0)) q).length = q.length := by
    intro l
    induction l with
    | nil => intro q; rfl
    | cons c l ih => intro q; rw [List.foldl_cons, ih, List.length_set]
  rw [this]; simp
theorem cutTo_at (A B : Int) (zs : List Int) (i : Nat) (hi : i < zs.length) : ∀ l : List IC, (cutTo A B zs l).getD i 0 = if l.any (fun c => decide (numZ A B c = i)) = true then zs.getD i 0 else 0 := by
  have key : ∀ (n : Nat) (l : List IC), l.length = n → (cutTo A B zs l).getD i 0 = if l.any (fun c => decide (numZ A B c = i)) = true then zs.getD i 0 else 0 := by
    intro n
    induction n with
    | zero =>
      intro l hl
      rw [List.length_eq_zero_iff.1 hl]
      simp [cutTo, List.getD_eq_getElem?_getD, hi]
    | succ n ih =>
      intro l hl
      obtain ⟨l', c, rfl⟩ : ∃ l' c, l = l' ++ [c] := ⟨l.dropLast, l.getLast (fun e => by rw [e] at hl; cases hl), (List.dropLast_concat_getLast _).symm⟩
      rw [cutTo_snoc, List.getD_eq_getElem?_getD, List.getElem?_set, List.any_append]
      by_cases e : numZ A B c = i
      · rw [if_pos e]
        subst e
        simp [cutTo_len, hi]
      · have e' : decide (numZ A B c = i) = false := decide_eq_false e
        rw [if_neg e, ← List.getD_eq_getElem?_getD, ih l' (by simpa using hl)]
        simp only [List.any_cons, List.any_nil, e', Bool.or_false]
  exact fun l => key _ l rfl
theorem cutTo_box {A B : Int} {b : BX} {zs : List Int} (hm : mayB A B = true) (hn : (zs.length : Int) = A * B) (hf : fitsB A B b.1 b.2.1 b.2.2.1 b.2.2.2 = true) : cutTo A B zs (boxCells b.1 b.2.1 b.2.2.1 b.2.2.2) = cutL A b zs := by
  refine List.ext_getElem (by rw [cutTo_len, cutL_len]) fun i h1 h2 => ?_
  rw [cutTo_len] at h1
  have e1 := cutTo_at A B zs i h1 (boxCells b.1 b.2.1 b.2.2.1 b.2.2.2)
  have e2 := cutL_at A b zs i
  rw [← getD_get (by rw [cutTo_len]; exact h1)] at e1
  rw [← getD_get (by rw [cutL_len]; exact h1)] at e2
  rw [e1, e2]
  have hon := cellN_on hm (show (i : Int) < A * B by omega)
  obtain ⟨f1, f2, f3, f4, f5, f6, f7, f8⟩ := fitsB_iff.1 hf
  have hiff : ((boxCells b.1 b.2.1 b.2.2.1 b.2.2.2).any (fun c => decide (numZ A B c = i)) = true) ↔ inBx b (cellN A i) = true := ?_
  · simp only [hiff]
  rw [List.any_eq_true]
  constructor
  · rintro ⟨c, hc, he⟩
    have hh := mem_boxCells.1 hc
    obtain ⟨g1, g2, g3, g4, g5⟩ := hasB_iff.1 hh
    obtain ⟨m1, m2, m3, m4⟩ := mayB_iff.1 hm
    have hoc : onB A B c = true := inB_iff.2 ⟨m1, m2, m3, m4, by omega, by omega, by omega, by omega⟩
    have he' := of_decide_eq_true he
    unfold numZ at he'
    rw [if_pos hoc] at he'
    rw [← he', cellN_num hoc]
    exact hh
  · intro hh
    refine ⟨cellN A i, mem_boxCells.2 hh, decide_eq_true ?_⟩
    unfold numZ
    rw [if_pos hon, numN_cell hm (by omega)]

def cellsHH (zs : List Int) : List Value := zs.map (Value.int .u16)
theorem two_allocs (W : World) (A B : Obj) : ((W.alloc A).alloc B).heap[W.heap.size]? = some A ∧ ((W.alloc A).alloc B).heap[W.heap.size + 1]? = some B := by
  refine ⟨?_, ?_⟩
  · rw [Below.heap_alloc _ _ _ (by simp), heap_alloc_new]
  · have h := heap_alloc_new (W.alloc A) B
    rw [World.size_alloc] at h
    exact h
theorem zeros_hh (n : Nat) : (cellsHH (List.replicate n 0)).toArray = Array.replicate n (Value.int .u16 0) := by simp [cellsHH]
theorem row_hh {W : World} {hv j : Nat} {l : List Int} {z : Int} (hq : W.heap[hv]? = some (.cells (cellsHH l).toArray 64 (0, 0))) : (W.setCell ⟨hv, j, none⟩ (.int .u16 z)).heap[hv]? = some (.cells (cellsHH (l.set j z)).toArray 64 (0, 0)) := by
  rw [hset_same _ _ _ _ _ _ hq]
  simp [cellsHH, List.map_set]
theorem cell_hh {W : World} {hv j : Nat} {l : List Int} (hq : W.heap[hv]? = some (.cells (cellsHH l).toArray 64 (0, 0))) (hj : j < l.length) : W.cell? ⟨hv, j, none⟩ = some (.int .u16 l[j]) ∧ W.frozen? ⟨hv, j, none⟩ = false := by
  constructor
  · simp [World.cell?, hq, cellsHH, hj]
  · simp [World.frozen?, hq]
theorem rowH_hh {W : World} {hv : Nat} {l : List Int} (hq : W.heap[hv]? = some (.cells (cellsHH l).toArray 64 (0, 0))) : RowH W (some ⟨hv, 0, none⟩) l := by
  refine .inr ⟨hv, 0, rfl, fun i z hz => ?_⟩
  have hi := (List.getElem?_eq_some_iff.1 hz).1
  have := (cell_hh hq hi).1
  rw [Nat.zero_add, this]
  rw [List.getElem?_eq_getElem hi] at hz
  rw [Option.some.inj hz]
/-- What the loop holds: a row, turned alone. -/
def CutI (W0 : World) (g : Nat) (A B : Int) (zs : List Int) (pre : List IC) (W : World) : Prop := W0.grownBy W (some g) ∧ W.heap[g]? = some (.cells (cellsHH (cutTo A B zs pre)).toArray 64 (0, 0))

theorem gq_trans {q : Nat} {A B C : World} (x : A.grownBy B (some q)) (y : B.grownBy C (some q)) : A.grownBy C (some q) :=
  ⟨y.os.trans x.os, y.tape.trans x.tape, y.output.trans x.output, Nat.le_trans x.size y.size, fun k hk hne => (y.block k (Nat.lt_of_lt_of_le hk x.size) hne).trans (x.block k hk hne)⟩
theorem gq_below {q : Nat} {A B : World} (h : Below A.heap.size A B) : A.grownBy B (some q) := ⟨h.os, h.tape, h.output, h.size, fun k hk _ => h.block k hk⟩
set_option maxHeartbeats 1000000 in
theorem gcells_in (n : Nat) (X Y U V : Int) (w : World) :
    CallsIn Fence.wide n Tryd.prog 77 #[.agg #[.int .i64 X, .int .i64 Y, .int .i64 U, .int .i64 V]] w fun e w' => e = .returned (.func (.func 90) #[] #[.pointer (some ⟨w.heap.size, 0, none⟩)]) ∧ w' = w.alloc (.cells #[.int .i64 X, .int .i64 Y, .int .i64 U, .int .i64 V] 28) := by
  refine callsIn_of_wp Tryd.func77 rfl trivial ?_ rfl
  simp only [Tryd.ntmps77, List.size_toArray, List.length_cons, List.length_nil, Nat.reduceAdd, Nat.reduceSub, Array.replicate_succ, Array.replicate_zero, List.push_toArray, List.append_toArray, List.nil_append, List.cons_append]
  gi_wp2
  go_ret
  exact ⟨rfl, rfl⟩
set_option maxRecDepth 100000 in
set_option maxHeartbeats 4000000 in
theorem cut_any (A B : Int) (a : Option Addr) (cap : Nat) (zs : List Int) (b : BX) (w : World) (hm : mayB A B = true) (hn : (zs.length : Int) = A * B) (hf : fitsB A B b.1 b.2.1 b.2.2.1 b.2.2.2 = true) (hr : RowH w a zs) :
    Calls Tryd.prog 55 #[.agg #[.int .i64 A, .int .i64 B, .slice a zs.length cap], .agg #[.int .i64 b.1, .int .i64 b.2.1, .int .i64 b.2.2.1, .int .i64 b.2.2.2]] w fun e w' => ∃ g, e = .returned (.agg #[.int .i64 A, .int .i64 B, .slice (some ⟨g, 0, none⟩) zs.length zs.length]) ∧
      RowH w' (some ⟨g, 0, none⟩) (cutL A b zs) ∧ Below w.heap.size w w' := by
  obtain ⟨ar1, ar2⟩ := area_bd hm
  have hmk := fun w => make_u16 zs.length (by omega) w
  have hzl : (zs.length : Int) ≤ 65536 := by omega
  have HN := Lib.hid hn
  have HNZ := Lib.hid (numZ_lt hm hn)
  have HRW := Lib.hid hr
  obtain ⟨X, Y, U, V⟩ := b
  have HCUT := Lib.hid (cutTo_box (b := (X, Y, U, V)) hm hn hf)
  clear hn
  dsimp only at hf ⊢
  have hA0 := bl_al (bl_al (bl_al (bl0 w) (.cells #[.int .i64 A, .int .i64 B, .slice a zs.length cap] 26)) (.cells #[.int .i64 X, .int .i64 Y, .int .i64 U, .int .i64 V] 28)) (.cells #[.int .i64 0, .int .i64 0, .slice none 0 0] 26)
  refine (callsIn_wide (n := 11)).1 (callsIn_of_wp_marks Tryd.func55 rfl trivial ?_ rfl)
  simp only [Tryd.ntmps55, List.size_toArray, List.length_cons, List.length_nil, Nat.reduceAdd, Nat.reduceSub, Array.replicate_succ, Array.replicate_zero, List.push_toArray, List.append_toArray, List.nil_append, List.cons_append]
  refine wpIn_wide.2 ?_
  go_wp2
  obtain ⟨w0, hw0⟩ : ∃ w0, ((w.alloc (.cells #[.int .i64 A, .int .i64 B, .slice a zs.length cap] 26)).alloc (.cells #[.int .i64 X, .int .i64 Y, .int .i64 U, .int .i64 V] 28)).alloc (.cells #[.int .i64 0, .int .i64 0, .slice none 0 0] 26) = w0 := ⟨_, rfl⟩
  rw [hw0] at hA0 ⊢
  have c0 : w0.cell? ⟨w.heap.size, 0, none⟩ = some (.int .i64 A) := by rw [← hw0]; simp [go_sem]
  have c1 : w0.cell? ⟨w.heap.size, 1, none⟩ = some (.int .i64 B) := by rw [← hw0]; simp [go_sem]
  have c2 : w0.cell? ⟨w.heap.size, 2, none⟩ = some (.slice a zs.length cap) := by rw [← hw0]; simp [go_sem]
  have b0 : w0.cell? ⟨w.heap.size + 1, 0, none⟩ = some (.int .i64 X) := by rw [← hw0]; simp [go_sem]
  have b1 : w0.cell? ⟨w.heap.size + 1, 1, none⟩ = some (.int .i64 Y) := by rw [← hw0]; simp [go_sem]
  have b2 : w0.cell? ⟨w.heap.size + 1, 2, none⟩ = some (.int .i64 U) := by rw [← hw0]; simp [go_sem]
  have b3 : w0.cell? ⟨w.heap.size + 1, 3, none⟩ = some (.int .i64 V) := by rw [← hw0]; simp [go_sem]
  have r0 : w0.heap[w.heap.size + 1 + 1]? = some (.cells #[.int .i64 0, .int .i64 0, .slice none 0 0] 26 (0, 0)) := by
    rw [← hw0]
    have h := heap_alloc_new ((w.alloc (.cells #[.int .i64 A, .int .i64 B, .slice a zs.length cap] 26)).alloc (.cells #[.int .i64 X, .int .i64 Y, .int .i64 U, .int .i64 V] 28)) (.cells #[.int .i64 0, .int .i64 0, .slice none 0 0] 26)
    rw [World.size_alloc, World.size_alloc] at h
    exact h
  have z0 : w.heap.size + 3 ≤ w0.heap.size := by rw [← hw0]; simp
  clear hw0
  have hA := bl_dr (bl0 w0)
  go_cut [5] from 8 to 14 (fun s wx => ∃ hv fv, s = .pointer (some ⟨fv, 0, none⟩) ∧ hv ≠ fv ∧ w0.heap.size ≤ hv ∧ w0.heap.size ≤ fv ∧ wx.heap[hv]? = some (.cells (cellsHH (List.replicate zs.length 0)).toArray 64 (0, 0)) ∧ wx.heap[fv]? = some (.cells #[.int .i64 A, .int .i64 B, .slice (some ⟨hv, 0, none⟩) zs.length zs.length] 26 (0, 0)) ∧ Below w0.heap.size w0 wx)
  case first =>
    go_region_held3 (fun w2 => w2.cell? ⟨w.heap.size, 0, none⟩ = some (.int .i64 A) ∧ w2.cell? ⟨w.heap.size, 1, none⟩ = some (.int .i64 B) ∧ w2.cell? ⟨w.heap.size, 2, none⟩ = some (.slice a zs.length cap))
      (first | exact ⟨cell_later hA c0, cell_later hA c1, cell_later hA c2⟩ | exact ⟨cell_later (bl_al hA _) c0, cell_later (bl_al hA _) c1, cell_later (bl_al hA _) c2⟩ | exact ⟨cell_later (bl_al (bl_al hA _) _) c0, cell_later (bl_al (bl_al hA _) _) c1, cell_later (bl_al (bl_al hA _) _) c2⟩)
      (fail)
    all_goals
      go_wp2_with fail
      go_meet
      rw [zeros_hh]
      first
        | exact ⟨w0.heap.size, w0.heap.size + 1, rfl, by omega, by omega, by omega, (two_allocs _ _ _).1, (two_allocs _ _ _).2, bl_tr (bl_al (bl_al (bl0 _) _) _) (bl_dr (bl0 _))⟩
        | exact ⟨w0.heap.size + 1, w0.heap.size, rfl, by omega, by omega, by omega, (two_allocs _ _ _).2, (two_allocs _ _ _).1, bl_tr (bl_al (bl_al (bl0 _) _) _) (bl_dr (bl0 _))⟩
  case rest =>
    obtain ⟨hv, fv, rfl, hne, hv1, fv1, hv2, fv2, hB⟩ := hcut
    have lv := (Array.getElem?_eq_some_iff.1 hv2).1
    have lf := (Array.getElem?_eq_some_iff.1 fv2).1
    have zc := hB.size
    have hAc := bl_tr hA0 hB
    replace r0 := (hB.block _ (by omega)).trans r0
    replace hr := hr.below hAc
    replace c0 := cell_later hB c0; replace c1 := cell_later hB c1; replace c2 := cell_later hB c2
    replace b0 := cell_later hB b0; replace b1 := cell_later hB b1; replace b2 := cell_later hB b2; replace b3 := cell_later hB b3
    clear hA hmk hA0 hB
    go_wp2_with fail
    refine ((callsIn_wide (n := 11)).1 (gcells_in _ _ _ _ _ _)).mono ?_
    rintro e w7 ⟨rfl, rfl⟩
    go_wp2_with fail
    obtain ⟨W0, hW0⟩ : ∃ W0, wc.alloc (.cells #[.int .i64 X, .int .i64 Y, .int .i64 U, .int .i64 V] 28) = W0 := ⟨_, rfl⟩
    have hb0 : Below wc.heap.size wc W0 := by rw [← hW0]; exact bl_al (bl0 _) _
    have hz0 : wc.heap.size < W0.heap.size := by rw [← hW0]; simp
    have hBx : BoxAt W0 wc.heap.size X Y U V := by rw [← hW0]; refine ⟨?_, ?_, ?_, ?_⟩ <;> simp [go_sem]
    rw [hW0]
    have F2 := (hb0.block _ lf).trans fv2
    have H2 := (hb0.block _ lv).trans hv2
    have R0 := Lib.hid ((hb0.block _ (by omega)).trans r0)
    replace hr := hr.below hb0
    replace c0 := cell_later hb0 c0; replace c1 := cell_later hb0 c1; replace c2 := cell_later hb0 c2
    have hAW := bl_tr hAc hb0
    have hInv : CutI W0 hv A B zs [] W0 := ⟨World.grownBy.refl _ _, H2⟩
    clear hW0 hb0 b0 b1 b2 b3 r0 fv2 hv2 hAc
    refine wpIn_wide.1 (range_cells_box wc.heap.size X Y U V _ rfl 6 rfl rfl hBx (CutI W0 hv A B zs) (fun _ _ => False) ?oI (fun _ _ _ _ h _ _ => h) hInv (fun _ _ h => h.1.size) ?assign ?body ?done (fun _ _ _ _ _ h _ => h.elim))
    case oI =>
      rintro pre C D row ⟨h1, h2⟩ hg hr
      have hne' : ∀ r, row = some r → r ≠ hv := fun r e => by have := (hr r e).1; omega
      refine ⟨⟨hg.os.trans h1.os, hg.tape.trans h1.tape, hg.output.trans h1.output, Nat.le_trans h1.size hg.size, fun k hk hne2 => (hg.block k (Nat.lt_of_lt_of_le hk h1.size) (fun e => by have := (hr k e.symm).1; omega)).trans (h1.block k hk hne2)⟩, (hg.block _ (Array.getElem?_eq_some_iff.1 h2).1 (fun e => hne' _ e.symm rfl)).trans h2⟩
    case assign =>
      intro l p W K hK
      simp [roundTmps] at hK
      simp only [roundTmps]
      gi_wp2
      exact hK
    case body =>
      rintro l pre p Bx W ⟨hgr, hmk⟩ hBl d0 d1 hlen
      simp only [roundTmps]
      have hBW : Below w.heap.size w W := hAW.grown hgr hAW.size (fun j e => by cases e; omega)
      obtain ⟨j, hj⟩ : ∃ j, numZ A B p = j := ⟨_, rfl⟩
      have hjl : j < zs.length := by rw [← hj]; exact HNZ.out p
      have hj0 : (0 : Int) ≤ (j : Int) := by omega
      have hj1 : (j : Int) < (zs.length : Int) := by omega
      obtain ⟨gb, go, rfl, q⟩ := (HRW.out.below hBW).cell hjl
      rw [getD_get hjl] at q
      have hsn := cutTo_snoc A B zs pre p
      rw [hj] at hsn
      have HSN := Lib.hid hsn
      obtain ⟨z, hz⟩ : ∃ z, zs.getD j 0 = z := ⟨_, rfl⟩
      rw [hz] at q hsn HSN
      obtain ⟨t0, t1⟩ := cell_hh hmk (show j < _ by rw [cutTo_len]; exact hjl)
      obtain ⟨t, ht⟩ : ∃ t, (cutTo A B zs pre)[j]'(by rw [cutTo_len]; exact hjl) = t := ⟨_, rfl⟩
      rw [ht] at t0
      have e0 := hgr.cell c0 (by simp; omega)
      have e1 := hgr.cell c1 (by simp; omega)
      have e2 := hgr.cell c2 (by simp; omega)
      have f2 := (hgr.block fv (by omega) (by simp; omega)).trans F2
      have y2 : W.cell? ⟨fv, 2, none⟩ = some (.slice (some ⟨hv, 0, none⟩) zs.length zs.length) := by simp [World.cell?, f2]
      have ze := blk_lt e0
      have HM := Lib.hid hmk
      have HG := Lib.hid hgr
      have hcall := fun w => number_all A B (some ⟨gb, go, none⟩) zs.length cap p w
      rw [hj] at hcall
      clear hsn hz ht hBx hInv f2 F2 H2 c0 c1 c2 hmk hgr hBW hr hj
      simp
      gi_wp2_with fail
      refine ⟨trivial, (CallsIn.inRound l (callsIn_wide.2 (hcall _))).mono ?_⟩
      rintro e W2 ⟨rfl, hb2⟩
      gi_wp2
      have hD := bl_tr hb2 (bl_dr (bl0 W2))
      have hS : (fun w' : World => w'.cell? ⟨fv, 2, none⟩ = some (.slice (some ⟨hv, 0, none⟩) zs.length zs.length) ∧ w'.cell? ⟨w.heap.size, 2, none⟩ = some (.slice (some ⟨gb, go, none⟩) zs.length cap) ∧ w'.cell? ⟨gb, go + j, none⟩ = some (.int .u16 z)) W2.drew := ⟨cell_later hD y2, cell_later hD e2, cell_later hD q⟩
      refine ordZ_begin (z := 9) (S := (fun w' : World => w'.cell? ⟨fv, 2, none⟩ = some (.slice (some ⟨hv, 0, none⟩) zs.length zs.length) ∧ w'.cell? ⟨w.heap.size, 2, none⟩ = some (.slice (some ⟨gb, go, none⟩) zs.length cap) ∧ w'.cell? ⟨gb, go + j, none⟩ = some (.int .u16 z))) (by kernel_rfl) hS (fun hH => ?_)
      first
        | (refine' ordZ_take (i := 0) (oi := { dst := some 21, op := Op.fieldAddr 26 (Operand.tmp 5) 1, type := 0, pos := _, after := #[], guard := none }) (v := _) rfl (by kernel_rfl) (by kernel_rfl) (by kernel_rfl) (by kernel_rfl) (fun _ _ _ h => h) (by assumption) (by kernel_rfl) (by decide) (by rfl) (Or.inl ⟨by rfl, ?hy82⟩) (fun _ => rfl) ?rest82
           case hy82 => (intro w hSw; (try dsimp only at hSw); go_simp; try with_reducible rfl))
        | (refine ordZ_take (i := 0) (oi := { dst := some 21, op := Op.fieldAddr 26 (Operand.tmp 5) 1, type := 0, pos := _, after := #[], guard := none }) (v := undef) rfl (by kernel_rfl) (by kernel_rfl) (by kernel_rfl) (by kernel_rfl) (fun _ _ _ h => h) (by assumption) (by kernel_rfl) (by decide) (by rfl) (Or.inr ⟨by rfl, rfl⟩) (fun _ => rfl) ?_)
      try simp only [Act.put, List.setIfInBounds_toArray, List.set_cons_zero, List.set_cons_succ]
      first
        | (refine' ordZ_take (i := 1) (oi := { dst := some 22, op := Op.load 24 (Operand.tmp 21), type := 24, pos := _, after := #[{ on := 0, ground := Ground.data }], guard := none }) (v := _) rfl (by kernel_rfl) (by kernel_rfl) (by kernel_rfl) (by kernel_rfl) (fun _ _ _ h => h) (by assumption) (by kernel_rfl) (by decide) (by rfl) (Or.inl ⟨by rfl, ?hy83⟩) (fun _ => rfl) ?rest83
           case hy83 => (intro w hSw; (try dsimp only at hSw); go_simp; try with_reducible rfl))
        | (refine ordZ_take (i := 1) (oi := { dst := some 22, op := Op.load 24 (Operand.tmp 21), type := 24, pos := _, after := #[{ on := 0, ground := Ground.data }], guard := none }) (v := undef) rfl (by kernel_rfl) (by kernel_rfl) (by kernel_rfl) (by kernel_rfl) (fun _ _ _ h => h) (by assumption) (by kernel_rfl) (by decide) (by rfl) (Or.inr ⟨by rfl, rfl⟩) (fun _ => rfl) ?_)
      try simp only [Act.put, List.setIfInBounds_toArray, List.set_cons_zero, List.set_cons_succ]
      first
        | (refine' ordZ_take (i := 2) (oi := { dst := some 23, op := Op.move (Operand.tmp 7), type := 3, pos := _, after := #[], guard := none }) (v := _) rfl (by kernel_rfl) (by kernel_rfl) (by kernel_rfl) (by kernel_rfl) (fun _ _ _ h => h) (by assumption) (by kernel_rfl) (by decide) (by rfl) (Or.inl ⟨by rfl, ?hy84⟩) (fun _ => rfl) ?rest84
           case hy84 => (intro w hSw; (try dsimp only at hSw); go_simp; try with_reducible rfl))
        | (refine ordZ_take (i := 2) (oi := { dst := some 23, op := Op.move (Operand.tmp 7), type := 3, pos := _, after := #[], guard := none }) (v := undef) rfl (by kernel_rfl) (by kernel_rfl) (by kernel_rfl) (by kernel_rfl) (fun _ _ _ h => h) (by assumption) (by kernel_rfl) (by decide) (by rfl) (Or.inr ⟨by rfl, rfl⟩) (fun _ => rfl) ?_)
      try simp only [Act.put, List.setIfInBounds_toArray, List.set_cons_zero, List.set_cons_succ]
      first
        | (refine' ordZ_take (i := 3) (oi := { dst := some 24, op := Op.fieldAddr 26 (Operand.tmp 2) 1, type := 0, pos := _, after := #[], guard := none }) (v := _) rfl (by kernel_rfl) (by kernel_rfl) (by kernel_rfl) (by kernel_rfl) (fun _ _ _ h => h) (by assumption) (by kernel_rfl) (by decide) (by rfl) (Or.inl ⟨by rfl, ?hy85⟩) (fun _ => rfl) ?rest85
           case hy85 => (intro w hSw; (try dsimp only at hSw); go_simp; try with_reducible rfl))
        | (refine ordZ_take (i := 3) (oi := { dst := some 24, op := Op.fieldAddr 26 (Operand.tmp 2) 1, type := 0, pos := _, after := #[], guard := none }) (v := undef) rfl (by kernel_rfl) (by kernel_rfl) (by kernel_rfl) (by kernel_rfl) (fun _ _ _ h => h) (by assumption) (by kernel_rfl) (by decide) (by rfl) (Or.inr ⟨by rfl, rfl⟩) (fun _ => rfl) ?_)
      try simp only [Act.put, List.setIfInBounds_toArray, List.set_cons_zero, List.set_cons_succ]
      first
        | (refine' ordZ_take (i := 4) (oi := { dst := some 25, op := Op.load 24 (Operand.tmp 24), type := 24, pos := _, after := #[{ on := 3, ground := Ground.data }], guard := none }) (v := _) rfl (by kernel_rfl) (by kernel_rfl) (by kernel_rfl) (by kernel_rfl) (fun _ _ _ h => h) (by assumption) (by kernel_rfl) (by decide) (by rfl) (Or.inl ⟨by rfl, ?hy86⟩) (fun _ => rfl) ?rest86
           case hy86 => (intro w hSw; (try dsimp only at hSw); go_simp; try with_reducible rfl))
        | (refine ordZ_take (i := 4) (oi := { dst := some 25, op := Op.load 24 (Operand.tmp 24), type := 24, pos := _, after := #[{ on := 3, ground := Ground.data }], guard := none }) (v := undef) rfl (by kernel_rfl) (by kernel_rfl) (by kernel_rfl) (by kernel_rfl) (fun _ _ _ h => h) (by assumption) (by kernel_rfl) (by decide) (by rfl) (Or.inr ⟨by rfl, rfl⟩) (fun _ => rfl) ?_)
      try simp only [Act.put, List.setIfInBounds_toArray, List.set_cons_zero, List.set_cons_succ]
      first
        | (refine' ordZ_take (i := 5) (oi := { dst := some 26, op := Op.move (Operand.tmp 7), type := 3, pos := _, after := #[], guard := none }) (v := _) rfl (by kernel_rfl) (by kernel_rfl) (by kernel_rfl) (by kernel_rfl) (fun _ _ _ h => h) (by assumption) (by kernel_rfl) (by decide) (by rfl) (Or.inl ⟨by rfl, ?hy87⟩) (fun _ => rfl) ?rest87
           case hy87 => (intro w hSw; (try dsimp only at hSw); go_simp; try with_reducible rfl))
        | (refine ordZ_take (i := 5) (oi := { dst := some 26, op := Op.move (Operand.tmp 7), type := 3, pos := _, after := #[], guard := none }) (v := undef) rfl (by kernel_rfl) (by kernel_rfl) (by kernel_rfl) (by kernel_rfl) (fun _ _ _ h => h) (by assumption) (by kernel_rfl) (by decide) (by rfl) (Or.inr ⟨by rfl, rfl⟩) (fun _ => rfl) ?_)
      try simp only [Act.put, List.setIfInBounds_toArray, List.set_cons_zero, List.set_cons_succ]
      first
        | (refine' ordZ_take (i := 6) (oi := { dst := some 27, op := Op.indexAddr 24 (Operand.tmp 25) (Operand.tmp 26), type := 0, pos := _, after := #[{ on := 4, ground := Ground.data }, { on := 5, ground := Ground.data }], guard := none }) (v := _) rfl (by kernel_rfl) (by kernel_rfl) (by kernel_rfl) (by kernel_rfl) (fun _ _ _ h => h) (by assumption) (by kernel_rfl) (by decide) (by rfl) (Or.inl ⟨by rfl, ?hy88⟩) (fun _ => rfl) ?rest88
           case hy88 => (intro w hSw; (try dsimp only at hSw); go_simp; try with_reducible rfl))
        | (refine ordZ_take (i := 6) (oi := { dst := some 27, op := Op.indexAddr 24 (Operand.tmp 25) (Operand.tmp 26), type := 0, pos := _, after := #[{ on := 4, ground := Ground.data }, { on := 5, ground := Ground.data }], guard := none }) (v := undef) rfl (by kernel_rfl) (by kernel_rfl) (by kernel_rfl) (by kernel_rfl) (fun _ _ _ h => h) (by assumption) (by kernel_rfl) (by decide) (by rfl) (Or.inr ⟨by rfl, rfl⟩) (fun _ => rfl) ?_)
      try simp only [Act.put, List.setIfInBounds_toArray, List.set_cons_zero, List.set_cons_succ]
      first
        | (refine' ordZ_take (i := 7) (oi := { dst := some 28, op := Op.load 64 (Operand.tmp 27), type := 64, pos := _, after := #[{ on := 6, ground := Ground.data }], guard := none }) (v := _) rfl (by kernel_rfl) (by kernel_rfl) (by kernel_rfl) (by kernel_rfl) (fun _ _ _ h => h) (by assumption) (by kernel_rfl) (by decide) (by rfl) (Or.inl ⟨by rfl, ?hy89⟩) (fun _ => rfl) ?rest89
           case hy89 => (intro w hSw; (try dsimp only at hSw); go_simp; try with_reducible rfl))
        | (refine ordZ_take (i := 7) (oi := { dst := some 28, op := Op.load 64 (Operand.tmp 27), type := 64, pos := _, after := #[{ on := 6, ground := Ground.data }], guard := none }) (v := undef) rfl (by kernel_rfl) (by kernel_rfl) (by kernel_rfl) (by kernel_rfl) (fun _ _ _ h => h) (by assumption) (by kernel_rfl) (by decide) (by rfl) (Or.inr ⟨by rfl, rfl⟩) (fun _ => rfl) ?_)
      try simp only [Act.put, List.setIfInBounds_toArray, List.set_cons_zero, List.set_cons_succ]
      first
        | (refine' ordZ_take (i := 8) (oi := { dst := some 29, op := Op.indexAddr 24 (Operand.tmp 22) (Operand.tmp 23), type := 0, pos := _, after := #[{ on := 1, ground := Ground.data }, { on := 2, ground := Ground.data }, { on := 0, ground := Ground.phase }, { on := 1, ground := Ground.phase }, { on := 2, ground := Ground.phase }, { on := 3, ground := Ground.phase }, { on := 4, ground := Ground.phase }, { on := 5, ground := Ground.phase }, { on := 6, ground := Ground.phase }, { on := 7, ground := Ground.phase }], guard := none }) (v := _) rfl (by kernel_rfl) (by kernel_rfl) (by kernel_rfl) (by kernel_rfl) (fun _ _ _ h => h) (by assumption) (by kernel_rfl) (by decide) (by rfl) (Or.inl ⟨by rfl, ?hy90⟩) (fun _ => rfl) ?rest90
           case hy90 => (intro w hSw; (try dsimp only at hSw); go_simp; try with_reducible rfl))
        | (refine ordZ_take (i := 8) (oi := { dst := some 29, op := Op.indexAddr 24 (Operand.tmp 22) (Operand.tmp 23), type := 0, pos := _, after := #[{ on := 1, ground := Ground.data }, { on := 2, ground := Ground.data }, { on := 0, ground := Ground.phase }, { on := 1, ground := Ground.phase }, { on := 2, ground := Ground.phase }, { on := 3, ground := Ground.phase }, { on := 4, ground := Ground.phase }, { on := 5, ground := Ground.phase }, { on := 6, ground := Ground.phase }, { on := 7, ground := Ground.phase }], guard := none }) (v := undef) rfl (by kernel_rfl) (by kernel_rfl) (by kernel_rfl) (by kernel_rfl) (fun _ _ _ h => h) (by assumption) (by kernel_rfl) (by decide) (by rfl) (Or.inr ⟨by rfl, rfl⟩) (fun _ => rfl) ?_)
      try simp only [Act.put, List.setIfInBounds_toArray, List.set_cons_zero, List.set_cons_succ]
      have t2 := cell_later hD t0
      have f9 := frozen_later hD t0 t1
      have zh := blk_lt t2
      have hm2 := (hD.block _ (blk_lt t0)).trans HM.out
      refine ordZ_one (i := 9) (o := { dst := none, op := Op.store 64 (Operand.tmp 29) (Operand.tmp 28), type := 0, pos := _, after := #[{ on := 8, ground := Ground.data }, { on := 7, ground := Ground.data }, { on := 0, ground := Ground.phase }, { on := 1, ground := Ground.phase }, { on := 2, ground := Ground.phase }, { on := 3, ground := Ground.phase }, { on := 4, ground := Ground.phase }, { on := 5, ground := Ground.phase }, { on := 6, ground := Ground.phase }, { on := 7, ground := Ground.phase }], guard := none }) (by kernel_rfl) rfl (by rfl) (fun K hK => ?_)
      go_simp
      refine hK _ _ (fun h => by cases h) ?_
      clear hK K hH
      try simp only [Act.put, List.setIfInBounds_toArray, List.set_cons_zero, List.set_cons_succ]
      refine ordZ_done (by kernel_rfl) ?_
      have hg2 := (grown_of_below hD)
      have hrow := row_hh (z := z) (j := j) hm2
      rw [← HSN.out] at hrow
      gi_wp2
      have hgr2 := gq_trans HG.out (gq_trans (gq_below hb2) (gq_trans (hgrown_set W2 hv j (.int .u16 z)) (gq_below (bl_dr (bl0 _)))))
      have hgr1 := gq_trans (gq_below hb2) (gq_trans (hgrown_set W2 hv j (.int .u16 z)) (gq_below (q := hv) (bl_dr (bl0 _))))
      exact ⟨⟨hgr1.size, fun k hk hl => hgr1.block k hl (fun e => by cases e; omega)⟩, hgr2, hrow⟩
    case done =>
      rintro D W hD ⟨hgr, hmk⟩ hdf
      rw [show cellsOf X U.toNat (upto (fun j => Y + (j : Int)) (rowsOf X Y U V)) = boxCells X Y U V from rfl, HCUT.out] at hmk
      have f2 := (hgr.block fv (by omega) (by simp; omega)).trans F2
      have r2 := (hgr.block (w.heap.size + 1 + 1) (by omega) (by simp; omega)).trans R0.out
      have y0 : W.cell? ⟨fv, 0, none⟩ = some (.int .i64 A) := by simp [World.cell?, f2]
      have y1 : W.cell? ⟨fv, 1, none⟩ = some (.int .i64 B) := by simp [World.cell?, f2]
      have y2 : W.cell? ⟨fv, 2, none⟩ = some (.slice (some ⟨hv, 0, none⟩) zs.length zs.length) := by simp [World.cell?, f2]
      have x0 : W.cell? ⟨w.heap.size + 1 + 1, 0, none⟩ = some (.int .i64 0) := by simp [World.cell?, r2]
      have x1 : W.cell? ⟨w.heap.size + 1 + 1, 1, none⟩ = some (.int .i64 0) := by simp [World.cell?, r2]
      have x2 : W.cell? ⟨w.heap.size + 1 + 1, 2, none⟩ = some (.slice none 0 0) := by simp [World.cell?, r2]
      have g0 : ∀ k, W.frozen? ⟨w.heap.size + 1 + 1, k, none⟩ = false := fun k => by simp [World.frozen?, r2]
      have g00 := g0 0
      have g01 := g0 1
      have g02 := g0 2
      have zx := blk_lt x0
      have zy := blk_lt y0
      have HM := Lib.hid hmk
      have hBW : Below w.heap.size w W := hAW.grown hgr hAW.size (fun j e => by cases e; omega)
      have HB := Lib.hid hBW
      clear hmk hgr hBW hInv F2 H2 f2 r2 g0 hr c0 c1 c2 hBx
      go_wp2_with fail
      have hg3 := gq_trans (hgrown_set W (w.heap.size + 1 + 1) 0 (.int .i64 A)) (gq_trans (hgrown_set (W.setCell ⟨w.heap.size + 1 + 1, 0, none⟩ (.int .i64 A)) (w.heap.size + 1 + 1) 1 (.int .i64 B)) (hgrown_set _ (w.heap.size + 1 + 1) 2 (.slice (some ⟨hv, 0, none⟩) zs.length zs.length)))
      obtain ⟨W9, hW9⟩ : ∃ W9, ((W.setCell ⟨w.heap.size + 1 + 1, 0, none⟩ (.int .i64 A)).setCell ⟨w.heap.size + 1 + 1, 1, none⟩ (.int .i64 B)).setCell ⟨w.heap.size + 1 + 1, 2, none⟩ (.slice (some ⟨hv, 0, none⟩) zs.length zs.length) = W9 := ⟨_, rfl⟩
      have v0 : W9.cell? ⟨w.heap.size + 1 + 1, 0, none⟩ = some (.int .i64 A) := by rw [← hW9]; simp [go_sem, x0]
      have v1 : W9.cell? ⟨w.heap.size + 1 + 1, 1, none⟩ = some (.int .i64 B) := by rw [← hW9]; simp [go_sem, x1]
      have v2 : W9.cell? ⟨w.heap.size + 1 + 1, 2, none⟩ = some (.slice (some ⟨hv, 0, none⟩) zs.length zs.length) := by rw [← hW9]; simp [go_sem, x2]
      rw [hW9] at hg3 ⊢
      have hdf9 := (hg3.block D (Array.getElem?_eq_some_iff.1 hdf).1 (fun e => by cases e; omega)).trans hdf
      have hm9 := (hg3.block hv (Array.getElem?_eq_some_iff.1 HM.out).1 (fun e => by cases e; omega)).trans HM.out
      have hB9 : Below w.heap.size w W9 := HB.out.grown hg3 HB.out.size (fun j e => by cases e; omega)
      refine ⟨by simp, .inl ⟨_, _, rfl, run_takeDeferred hdf9, ?_⟩⟩
      have hg4 := grownBy_putObj' W9 D (.deferred none)
      obtain ⟨WA, hWA⟩ : ∃ WA, W9.putObj D (.deferred none) = WA := ⟨_, rfl⟩
      rw [hWA] at hg4 ⊢
      have q4 := hg4.block (w.heap.size + 1 + 1) (blk_lt v0) (fun e => by cases e; omega)
      have u0 : WA.cell? ⟨w.heap.size + 1 + 1, 0, none⟩ = some (.int .i64 A) := (World.cell?_of_block (a := ⟨w.heap.size + 1 + 1, 0, none⟩) q4).trans v0
      have u1 : WA.cell? ⟨w.heap.size + 1 + 1, 1, none⟩ = some (.int .i64 B) := (World.cell?_of_block (a := ⟨w.heap.size + 1 + 1, 1, none⟩) q4).trans v1
      have u2 : WA.cell? ⟨w.heap.size + 1 + 1, 2, none⟩ = some (.slice (some ⟨hv, 0, none⟩) zs.length zs.length) := (World.cell?_of_block (a := ⟨w.heap.size + 1 + 1, 2, none⟩) q4).trans v2
      have hmA := (hg4.block hv (Array.getElem?_eq_some_iff.1 hm9).1 (fun e => by cases e; omega)).trans hm9
      have hBA : Below w.heap.size w WA := hB9.grown hg4 hB9.size (fun j e => by cases e; omega)
      exact ⟨.agg #[.int .i64 A, .int .i64 B, .slice (some ⟨hv, 0, none⟩) zs.length zs.length], by simp [results, Tryd.results55, go_sem, u0, u1, u2], hv, rfl, rowH_hh hmA, hBA⟩
end Go.Proofs.YtgbhafadibdmcaaDoor
