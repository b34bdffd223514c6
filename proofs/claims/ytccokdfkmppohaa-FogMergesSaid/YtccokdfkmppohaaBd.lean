/- FogMerges: the law's helper 'in': of each cell, by numbers, whether it is in a list. -/
import Derived.Test.YtccokdfkmppohaaBc
namespace Go.Proofs.Ytccokdfkmppohaa
open Go.RowKit Go.Shelf

def flatQ (cs : List Bool) : List Value := cs.map Value.bool
theorem flatQ_at {cs : List Bool} {i : Nat} (h : i < cs.length) : (flatQ cs)[i]? = some (.bool (cs.getD i false)) := by
  simp [flatQ, List.getD_eq_getElem?_getD, h]
theorem flatQ_set (cs : List Bool) (i : Nat) (b : Bool) : (flatQ cs).set i (.bool b) = flatQ (cs.set i b) := by simp [flatQ, List.map_set]
theorem flatQ_len (cs : List Bool) : (flatQ cs).length = cs.length := by simp [flatQ]
theorem Try.infoQ : (Try.prog.info? 4).map (fun i => (i.zero, i.size, i.bytes)) = some (some (.bool false), 1, 1) := by kernel_rfl
theorem madeQ_eq (n : Nat) : madeCells (Value.bool false).cells (n * 1) = Array.replicate n (Value.bool false) := by
  apply Array.ext
  · simp [size_madeCells]
  · intro i h1 h2
    simp [madeCells, Nat.mod_one, Value.cells]
theorem makeQ (n : Nat) (hn : n ≤ 1048576) (w : World) : (Instr.makeSlice 46 (.int .i64 (n : Int)) (.int .i64 (n : Int))).run Try.prog w = .ok (.slice (some ⟨w.heap.size, 0, none⟩) n n) (w.alloc (.cells (Array.replicate n (Value.bool false)) 4)) := by
  obtain ⟨i0, hi, hz0, hz1, hz2⟩ := info_parts Try.infoQ
  have hr := run_make (P := Try.prog) w 46 4 i0 (.bool false) Try.underlying46 hi hz0 .i64 .i64 n n (by omega) (Int.le_refl _) (by rw [hz2]; omega) (by omega)
  simp only [Int.toNat_natCast, hz1] at hr
  rw [madeQ_eq] at hr
  exact hr

/-- Which cells of a map are in a list. -/
def stepQ (X Y : Int) (bs : List Bool) (c : Int × Int) : List Bool := if inB X Y c.1 c.2 then bs.set (numC X c) true else bs
def inQ (X Y : Int) (n : Nat) (cs : List (Int × Int)) : List Bool := cs.foldl (stepQ X Y) (List.replicate n false)
theorem inQ_snoc (X Y : Int) (n : Nat) (cs : List (Int × Int)) (c : Int × Int) : inQ X Y n (cs ++ [c]) = stepQ X Y (inQ X Y n cs) c := by simp [inQ, List.foldl_append]
theorem stepQ_len (X Y : Int) (bs : List Bool) (c : Int × Int) : (stepQ X Y bs c).length = bs.length := by unfold stepQ; split <;> simp
theorem foldQ_len (X Y : Int) : ∀ (cs : List (Int × Int)) (bs : List Bool), (cs.foldl (stepQ X Y) bs).length = bs.length
  | [], bs => rfl
  | c :: cs, bs => by rw [List.foldl_cons, foldQ_len X Y cs, stepQ_len]
theorem inQ_len (X Y : Int) (n : Nat) (cs : List (Int × Int)) : (inQ X Y n cs).length = n := by unfold inQ; rw [foldQ_len]; simp
theorem inQ_next {X Y : Int} {n : Nat} {cs : List (Int × Int)} {k : Nat} (hk : k < cs.length) : inQ X Y n (cs.take (k + 1)) = stepQ X Y (inQ X Y n (cs.take k)) cs[k] := by
  rw [List.take_succ_eq_append_getElem hk, inQ_snoc]
/-- Such a row in memory. -/
def RowQ (W : World) (q : Nat) (bs : List Bool) : Prop := W.heap[q]? = some (.cells (flatQ bs).toArray 4 (0, 0))
theorem RowQ.at {W : World} {q : Nat} {bs : List Bool} (h : RowQ W q bs) {i : Nat} (hi : i < bs.length) : W.cell? ⟨q, i, none⟩ = some (.bool (bs.getD i false)) ∧ W.frozen? ⟨q, i, none⟩ = false := by
  unfold RowQ at h
  refine ⟨?_, by simp [World.frozen?, h]⟩
  simp [World.cell?, h, flatQ_at hi]
theorem RowQ.set {W : World} {q : Nat} {bs : List Bool} (h : RowQ W q bs) (i : Nat) (b : Bool) : RowQ (W.setCell ⟨q, i, none⟩ (.bool b)) q (bs.set i b) := by
  unfold RowQ at h ⊢
  rw [heap_set_same _ _ _ _ _ _ h]
  rw [← flatQ_set]
  simp
theorem num_bd {X Y : Int} {c : Int × Int} {n : Nat} (h : inB X Y c.1 c.2 = true) (hn : (n : Int) = X * Y) : numC X c < n ∧ ((numC X c : Nat) : Int) = c.2 * X + c.1 ∧ 0 ≤ c.1 ∧ c.1 < X ∧ 0 ≤ c.2 ∧ c.2 < Y ∧ 1 ≤ X ∧ X ≤ 256 ∧ 1 ≤ Y ∧ Y ≤ 256 ∧ 0 ≤ c.2 * X ∧ c.2 * X ≤ 65536 := by
  obtain ⟨h1, h2, h3, h4, h5, h6, h7, h8⟩ := inB_iff.1 h
  obtain ⟨a1, a2⟩ := idx_lt h
  have b1 : 0 ≤ c.2 * X := Int.mul_nonneg h7 (by omega)
  have b2 : c.2 * X ≤ 256 * 256 := Int.mul_le_mul (by omega) h2 (by omega) (by omega)
  unfold numC
  refine ⟨by omega, by omega, h5, h6, h7, h8, h1, h2, h3, h4, b1, by omega⟩

set_option maxRecDepth 100000 in
set_option maxHeartbeats 3200000 in
theorem lin_any (X Y : Int) (a : Option Addr) (cap : Nat) (cs : List (Int × Int)) (w : World) (hm : mayB X Y = true) (n : Nat) (hn : (n : Int) = X * Y) (hr : RowC w a cs) (hl : cs.length ≤ 1000) :
    Calls Try.prog 11 #[.agg #[.int .i64 X, .int .i64 Y], .slice a cs.length cap] w fun e w' => ∃ q, e = .returned (.slice (some ⟨q, 0, none⟩) n n) ∧ RowQ w' q (inQ X Y n cs) ∧ w.heap.size ≤ q ∧ Below w.heap.size w w' := by
  obtain ⟨m1, m2⟩ := area_bd hm
  have hn1 : n ≤ 65536 := by omega
  have hmk := fun w => makeQ n (by omega) w
  rw [hn] at hmk
  have hww : IntKind.i64.wrap (X * Y) = X * Y := IntWalk.i64_in _ (by omega)
  have HN := Lib.hid hn
  have HR := Lib.hid hr
  clear hr
  go_enter Try.func11, Try.ntmps11
  clear hn
  go_wp2
  obtain ⟨w1, hw1⟩ : ∃ w1, ((w.alloc (.cells #[.int .i64 X, .int .i64 Y] 23)).alloc (.cells (Array.replicate n (Value.bool false)) 4)) = w1 := ⟨_, rfl⟩
  rw [hw1]
  have hb0 : Below w.heap.size w w1 := by rw [← hw1]; exact bl_al (bl_al (bl0 w) _) _
  have t0 : w1.cell? ⟨w.heap.size, 0, none⟩ = some (.int .i64 X) := by rw [← hw1]; simp [go_sem]
  have t1 : w1.cell? ⟨w.heap.size, 1, none⟩ = some (.int .i64 Y) := by rw [← hw1]; simp [go_sem]
  have tq : RowQ w1 (w.heap.size + 1) (List.replicate n false) := by
    rw [← hw1]
    unfold RowQ
    rw [(two_allocs _ _ _).2]
    simp [flatQ]
  have hsz : w.heap.size + 1 < w1.heap.size := (Array.getElem?_eq_some_iff.1 tq).1
  clear hw1 hmk
  go_loopw [6] (fun i wr => ∃ j : Nat, j ≤ cs.length ∧ i = .int .i64 j ∧ RowQ wr (w.heap.size + 1) (inQ X Y n (cs.take j)) ∧ w1.grownBy wr (some (w.heap.size + 1))) (fun i _ => cs.length - (intOf i).toNat)
  case atStart => exact ⟨0, Nat.zero_le _, rfl, tq, World.grownBy.refl _ _⟩
  case round =>
    obtain ⟨j, hj, rfl, hq, hg⟩ := hrel
    clear tq
    have s0 := hg.cell t0 (by simp)
    have s1 := hg.cell t1 (by simp)
    by_cases hlt : j < cs.length
    · have hlI : (j : Int) < (cs.length : Int) := by omega
      have hj0 : (0 : Int) ≤ (j : Int) := by omega
      have hl2 : (cs.length : Int) ≤ 1000 := by omega
      have hnx := inQ_next (X := X) (Y := Y) (n := n) hlt
      obtain ⟨gb, go, rfl, hcell⟩ : ∃ gb go, a = some ⟨gb, go, none⟩ ∧ ∀ i z, cs[i]? = some z → w.cell? ⟨gb, go + i * 2, none⟩ = some (.int .i64 z.1) ∧ w.cell? ⟨gb, go + i * 2 + 1, none⟩ = some (.int .i64 z.2) := by
        rcases HR.out with rfl | ⟨gb, go, e, h⟩
        · simp at hlt
        · exact ⟨gb, go, e, h⟩
      obtain ⟨q0, q1⟩ := hcell j _ (List.getElem?_eq_getElem hlt)
      obtain ⟨⟨x, y⟩, hc⟩ : ∃ c, cs[j] = c := ⟨_, rfl⟩
      rw [hc] at q0 q1 hnx
      have hgb : gb < w.heap.size := blk_lt q0
      replace q0 := hg.cell (cell_later hb0 q0) (by simp; omega)
      replace q1 := hg.cell (cell_later hb0 q1) (by simp; omega)
      dsimp only at q0 q1
      have hin := rin_any X Y x y
      have HQ := Lib.hid hq
      have HG := Lib.hid hg
      clear hcell hc hq hg
      cases hib : inB X Y x y
      all_goals
        rw [hib] at hin
        go_upto_region 5 with fail
        have hA := bl_dr (bl0 wr)
        go_region_held3 (fun w' => w'.cell? ⟨w.heap.size, 0, none⟩ = some (.int .i64 X) ∧ w'.cell? ⟨w.heap.size, 1, none⟩ = some (.int .i64 Y) ∧ w'.cell? ⟨gb, go + j * 2, none⟩ = some (.int .i64 x) ∧ w'.cell? ⟨gb, go + j * 2 + 1, none⟩ = some (.int .i64 y))
          (exact ⟨cell_later hA s0, cell_later hA s1, cell_later hA q0, cell_later hA q1⟩)
          ((go_at_call 15; refine (hin _).mono ?_; rintro e W2 ⟨rfl, hb⟩; replace hA := bl_tr hA hb; clear hb))
        replace s0 := cell_later hA s0
        replace s1 := cell_later hA s1
        replace q0 := cell_later hA q0
        replace q1 := cell_later hA q1
        have HA := Lib.hid hA
        clear hA hin
      · have e1 : stepQ X Y (inQ X Y n (cs.take j)) (x, y) = inQ X Y n (cs.take j) := by unfold stepQ; rw [if_neg (by rw [hib]; decide)]
        rw [e1] at hnx
        have HE := Lib.hid hnx
        clear hnx e1
        go_wp2
        go_roundw
        case rel => exact ⟨j + 1, by omega, by go_num, by rw [HE.out]; exact ((HA.out).block _ (Array.getElem?_eq_some_iff.1 HQ.out).1).trans HQ.out, HG.out.trans (grown_weak (grown_of_below HA.out) _)⟩
        case measure => simp [intOf]; omega
      · have e1 : stepQ X Y (inQ X Y n (cs.take j)) (x, y) = (inQ X Y n (cs.take j)).set (numC X (x, y)) true := by unfold stepQ; rw [if_pos hib]
        rw [e1] at hnx
        have HE := Lib.hid hnx
        obtain ⟨b1, b2, b3, b4, b5, b6, b7, b8, b9, b10, b11, b12⟩ := num_bd (c := (x, y)) hib HN.out
        dsimp only at b2 b3 b4 b5 b6 b11 b12
        have hqW : RowQ W2 (w.heap.size + 1) (inQ X Y n (cs.take j)) := ((HA.out).block _ (Array.getElem?_eq_some_iff.1 HQ.out).1).trans HQ.out
        obtain ⟨y0, y1⟩ := hqW.at (i := numC X (x, y)) (by rw [inQ_len]; exact b1)
        obtain ⟨o, ho⟩ : ∃ o, (inQ X Y n (cs.take j)).getD (numC X (x, y)) false = o := ⟨_, rfl⟩
        rw [ho] at y0
        have HW := Lib.hid hqW
        have e3 : (y * X + x).toNat = numC X (x, y) := rfl
        rw [← e3] at y0 y1
        clear hnx e1 hqW ho e3
        have w1' : IntKind.i64.wrap (y * X) = y * X := IntWalk.i64_in _ (by omega)
        have w2' : IntKind.i64.wrap (y * X + x) = y * X + x := IntWalk.i64_in _ (by omega)
        have k0 : 0 ≤ y * X + x := by omega
        have k1 : y * X + x < (n : Int) := by omega
        go_upto_region 6 with fail
        have hD := bl_dr (bl0 W2)
        refine (wpIn_wide (n := 17)).1 ?_
        refine ordZ_begin (z := 16) (S := (fun w' : World => w'.cell? ⟨w.heap.size, 0, none⟩ = some (.int .i64 X) ∧ w'.cell? ⟨gb, go + j * 2, none⟩ = some (.int .i64 x) ∧ w'.cell? ⟨gb, go + j * 2 + 1, none⟩ = some (.int .i64 y) ∧ w'.cell? ⟨w.heap.size + 1, (y * X + x).toNat, none⟩ = some (.bool o))) (by kernel_rfl) ⟨cell_later hD s0, cell_later hD q0, cell_later hD q1, cell_later hD y0⟩ (fun hH => ?_)
        first
          | (refine' ordZ_take (i := 0) (oi := { dst := some 25, op := Op.move (Operand.tmp 5), type := 46, pos := _, after := #[], guard := none }) (v := _) rfl (by kernel_rfl) (by kernel_rfl) (by kernel_rfl) (by kernel_rfl) (fun _ _ _ h => h) (by assumption) (by kernel_rfl) (by decide) (by rfl) (Or.inl ⟨by rfl, ?hy1⟩) (fun _ => rfl) ?rest1
             case hy1 => (intro w hSw; (try dsimp only at hSw); go_simp; try with_reducible rfl))
          | (refine ordZ_take (i := 0) (oi := { dst := some 25, op := Op.move (Operand.tmp 5), type := 46, pos := _, after := #[], guard := none }) (v := undef) rfl (by kernel_rfl) (by kernel_rfl) (by kernel_rfl) (by kernel_rfl) (fun _ _ _ h => h) (by assumption) (by kernel_rfl) (by decide) (by rfl) (Or.inr ⟨by rfl, rfl⟩) (fun _ => rfl) ?_)
        try simp only [Act.put, List.setIfInBounds_toArray, List.set_cons_zero, List.set_cons_succ]
        first
          | (refine' ordZ_take (i := 1) (oi := { dst := some 26, op := Op.move (Operand.tmp 1), type := 38, pos := _, after := #[], guard := none }) (v := _) rfl (by kernel_rfl) (by kernel_rfl) (by kernel_rfl) (by kernel_rfl) (fun _ _ _ h => h) (by assumption) (by kernel_rfl) (by decide) (by rfl) (Or.inl ⟨by rfl, ?hy2⟩) (fun _ => rfl) ?rest2
             case hy2 => (intro w hSw; (try dsimp only at hSw); go_simp; try with_reducible rfl))
          | (refine ordZ_take (i := 1) (oi := { dst := some 26, op := Op.move (Operand.tmp 1), type := 38, pos := _, after := #[], guard := none }) (v := undef) rfl (by kernel_rfl) (by kernel_rfl) (by kernel_rfl) (by kernel_rfl) (fun _ _ _ h => h) (by assumption) (by kernel_rfl) (by decide) (by rfl) (Or.inr ⟨by rfl, rfl⟩) (fun _ => rfl) ?_)
        try simp only [Act.put, List.setIfInBounds_toArray, List.set_cons_zero, List.set_cons_succ]
        first
          | (refine' ordZ_take (i := 2) (oi := { dst := some 27, op := Op.move (Operand.tmp 6), type := 3, pos := _, after := #[], guard := none }) (v := _) rfl (by kernel_rfl) (by kernel_rfl) (by kernel_rfl) (by kernel_rfl) (fun _ _ _ h => h) (by assumption) (by kernel_rfl) (by decide) (by rfl) (Or.inl ⟨by rfl, ?hy3⟩) (fun _ => rfl) ?rest3
             case hy3 => (intro w hSw; (try dsimp only at hSw); go_simp; try with_reducible rfl))
          | (refine ordZ_take (i := 2) (oi := { dst := some 27, op := Op.move (Operand.tmp 6), type := 3, pos := _, after := #[], guard := none }) (v := undef) rfl (by kernel_rfl) (by kernel_rfl) (by kernel_rfl) (by kernel_rfl) (fun _ _ _ h => h) (by assumption) (by kernel_rfl) (by decide) (by rfl) (Or.inr ⟨by rfl, rfl⟩) (fun _ => rfl) ?_)
        try simp only [Act.put, List.setIfInBounds_toArray, List.set_cons_zero, List.set_cons_succ]
        first
          | (refine' ordZ_take (i := 3) (oi := { dst := some 28, op := Op.indexAddr 38 (Operand.tmp 26) (Operand.tmp 27), type := 0, pos := _, after := #[{ on := 1, ground := Ground.data }, { on := 2, ground := Ground.data }], guard := none }) (v := _) rfl (by kernel_rfl) (by kernel_rfl) (by kernel_rfl) (by kernel_rfl) (fun _ _ _ h => h) (by assumption) (by kernel_rfl) (by decide) (by rfl) (Or.inl ⟨by rfl, ?hy4⟩) (fun _ => rfl) ?rest4
             case hy4 => (intro w hSw; (try dsimp only at hSw); go_simp; try with_reducible rfl))
          | (refine ordZ_take (i := 3) (oi := { dst := some 28, op := Op.indexAddr 38 (Operand.tmp 26) (Operand.tmp 27), type := 0, pos := _, after := #[{ on := 1, ground := Ground.data }, { on := 2, ground := Ground.data }], guard := none }) (v := undef) rfl (by kernel_rfl) (by kernel_rfl) (by kernel_rfl) (by kernel_rfl) (fun _ _ _ h => h) (by assumption) (by kernel_rfl) (by decide) (by rfl) (Or.inr ⟨by rfl, rfl⟩) (fun _ => rfl) ?_)
        try simp only [Act.put, List.setIfInBounds_toArray, List.set_cons_zero, List.set_cons_succ]
        first
          | (refine' ordZ_take (i := 4) (oi := { dst := some 29, op := Op.fieldAddr 26 (Operand.tmp 28) 1, type := 0, pos := _, after := #[{ on := 3, ground := Ground.data }], guard := none }) (v := _) rfl (by kernel_rfl) (by kernel_rfl) (by kernel_rfl) (by kernel_rfl) (fun _ _ _ h => h) (by assumption) (by kernel_rfl) (by decide) (by rfl) (Or.inl ⟨by rfl, ?hy5⟩) (fun _ => rfl) ?rest5
             case hy5 => (intro w hSw; (try dsimp only at hSw); go_simp; try with_reducible rfl))
          | (refine ordZ_take (i := 4) (oi := { dst := some 29, op := Op.fieldAddr 26 (Operand.tmp 28) 1, type := 0, pos := _, after := #[{ on := 3, ground := Ground.data }], guard := none }) (v := undef) rfl (by kernel_rfl) (by kernel_rfl) (by kernel_rfl) (by kernel_rfl) (fun _ _ _ h => h) (by assumption) (by kernel_rfl) (by decide) (by rfl) (Or.inr ⟨by rfl, rfl⟩) (fun _ => rfl) ?_)
        try simp only [Act.put, List.setIfInBounds_toArray, List.set_cons_zero, List.set_cons_succ]
        first
          | (refine' ordZ_take (i := 5) (oi := { dst := some 30, op := Op.load 3 (Operand.tmp 29), type := 3, pos := _, after := #[{ on := 4, ground := Ground.data }], guard := none }) (v := _) rfl (by kernel_rfl) (by kernel_rfl) (by kernel_rfl) (by kernel_rfl) (fun _ _ _ h => h) (by assumption) (by kernel_rfl) (by decide) (by rfl) (Or.inl ⟨by rfl, ?hy6⟩) (fun _ => rfl) ?rest6
             case hy6 => (intro w hSw; (try dsimp only at hSw); go_simp; try with_reducible rfl))
          | (refine ordZ_take (i := 5) (oi := { dst := some 30, op := Op.load 3 (Operand.tmp 29), type := 3, pos := _, after := #[{ on := 4, ground := Ground.data }], guard := none }) (v := undef) rfl (by kernel_rfl) (by kernel_rfl) (by kernel_rfl) (by kernel_rfl) (fun _ _ _ h => h) (by assumption) (by kernel_rfl) (by decide) (by rfl) (Or.inr ⟨by rfl, rfl⟩) (fun _ => rfl) ?_)
        try simp only [Act.put, List.setIfInBounds_toArray, List.set_cons_zero, List.set_cons_succ]
        first
          | (refine' ordZ_take (i := 6) (oi := { dst := some 31, op := Op.fieldAddr 23 (Operand.tmp 2) 0, type := 0, pos := _, after := #[], guard := none }) (v := _) rfl (by kernel_rfl) (by kernel_rfl) (by kernel_rfl) (by kernel_rfl) (fun _ _ _ h => h) (by assumption) (by kernel_rfl) (by decide) (by rfl) (Or.inl ⟨by rfl, ?hy7⟩) (fun _ => rfl) ?rest7
             case hy7 => (intro w hSw; (try dsimp only at hSw); go_simp; try with_reducible rfl))
          | (refine ordZ_take (i := 6) (oi := { dst := some 31, op := Op.fieldAddr 23 (Operand.tmp 2) 0, type := 0, pos := _, after := #[], guard := none }) (v := undef) rfl (by kernel_rfl) (by kernel_rfl) (by kernel_rfl) (by kernel_rfl) (fun _ _ _ h => h) (by assumption) (by kernel_rfl) (by decide) (by rfl) (Or.inr ⟨by rfl, rfl⟩) (fun _ => rfl) ?_)
        try simp only [Act.put, List.setIfInBounds_toArray, List.set_cons_zero, List.set_cons_succ]
        first
          | (refine' ordZ_take (i := 7) (oi := { dst := some 32, op := Op.load 3 (Operand.tmp 31), type := 3, pos := _, after := #[{ on := 6, ground := Ground.data }], guard := none }) (v := _) rfl (by kernel_rfl) (by kernel_rfl) (by kernel_rfl) (by kernel_rfl) (fun _ _ _ h => h) (by assumption) (by kernel_rfl) (by decide) (by rfl) (Or.inl ⟨by rfl, ?hy8⟩) (fun _ => rfl) ?rest8
             case hy8 => (intro w hSw; (try dsimp only at hSw); go_simp; try with_reducible rfl))
          | (refine ordZ_take (i := 7) (oi := { dst := some 32, op := Op.load 3 (Operand.tmp 31), type := 3, pos := _, after := #[{ on := 6, ground := Ground.data }], guard := none }) (v := undef) rfl (by kernel_rfl) (by kernel_rfl) (by kernel_rfl) (by kernel_rfl) (fun _ _ _ h => h) (by assumption) (by kernel_rfl) (by decide) (by rfl) (Or.inr ⟨by rfl, rfl⟩) (fun _ => rfl) ?_)
        try simp only [Act.put, List.setIfInBounds_toArray, List.set_cons_zero, List.set_cons_succ]
        first
          | (refine' ordZ_take (i := 8) (oi := { dst := some 33, op := Op.binOp BinOp.mul 3 (Operand.tmp 30) (Operand.tmp 32) 3, type := 3, pos := _, after := #[{ on := 5, ground := Ground.data }, { on := 7, ground := Ground.data }], guard := none }) (v := _) rfl (by kernel_rfl) (by kernel_rfl) (by kernel_rfl) (by kernel_rfl) (fun _ _ _ h => h) (by assumption) (by kernel_rfl) (by decide) (by rfl) (Or.inl ⟨by rfl, ?hy9⟩) (fun _ => rfl) ?rest9
             case hy9 => (intro w hSw; (try dsimp only at hSw); go_simp; try with_reducible rfl))
          | (refine ordZ_take (i := 8) (oi := { dst := some 33, op := Op.binOp BinOp.mul 3 (Operand.tmp 30) (Operand.tmp 32) 3, type := 3, pos := _, after := #[{ on := 5, ground := Ground.data }, { on := 7, ground := Ground.data }], guard := none }) (v := undef) rfl (by kernel_rfl) (by kernel_rfl) (by kernel_rfl) (by kernel_rfl) (fun _ _ _ h => h) (by assumption) (by kernel_rfl) (by decide) (by rfl) (Or.inr ⟨by rfl, rfl⟩) (fun _ => rfl) ?_)
        try simp only [Act.put, List.setIfInBounds_toArray, List.set_cons_zero, List.set_cons_succ]
        first
          | (refine' ordZ_take (i := 9) (oi := { dst := some 34, op := Op.move (Operand.tmp 1), type := 38, pos := _, after := #[], guard := none }) (v := _) rfl (by kernel_rfl) (by kernel_rfl) (by kernel_rfl) (by kernel_rfl) (fun _ _ _ h => h) (by assumption) (by kernel_rfl) (by decide) (by rfl) (Or.inl ⟨by rfl, ?hy10⟩) (fun _ => rfl) ?rest10
             case hy10 => (intro w hSw; (try dsimp only at hSw); go_simp; try with_reducible rfl))
          | (refine ordZ_take (i := 9) (oi := { dst := some 34, op := Op.move (Operand.tmp 1), type := 38, pos := _, after := #[], guard := none }) (v := undef) rfl (by kernel_rfl) (by kernel_rfl) (by kernel_rfl) (by kernel_rfl) (fun _ _ _ h => h) (by assumption) (by kernel_rfl) (by decide) (by rfl) (Or.inr ⟨by rfl, rfl⟩) (fun _ => rfl) ?_)
        try simp only [Act.put, List.setIfInBounds_toArray, List.set_cons_zero, List.set_cons_succ]
        first
          | (refine' ordZ_take (i := 10) (oi := { dst := some 35, op := Op.move (Operand.tmp 6), type := 3, pos := _, after := #[], guard := none }) (v := _) rfl (by kernel_rfl) (by kernel_rfl) (by kernel_rfl) (by kernel_rfl) (fun _ _ _ h => h) (by assumption) (by kernel_rfl) (by decide) (by rfl) (Or.inl ⟨by rfl, ?hy11⟩) (fun _ => rfl) ?rest11
             case hy11 => (intro w hSw; (try dsimp only at hSw); go_simp; try with_reducible rfl))
          | (refine ordZ_take (i := 10) (oi := { dst := some 35, op := Op.move (Operand.tmp 6), type := 3, pos := _, after := #[], guard := none }) (v := undef) rfl (by kernel_rfl) (by kernel_rfl) (by kernel_rfl) (by kernel_rfl) (fun _ _ _ h => h) (by assumption) (by kernel_rfl) (by decide) (by rfl) (Or.inr ⟨by rfl, rfl⟩) (fun _ => rfl) ?_)
        try simp only [Act.put, List.setIfInBounds_toArray, List.set_cons_zero, List.set_cons_succ]
        first
          | (refine' ordZ_take (i := 11) (oi := { dst := some 36, op := Op.indexAddr 38 (Operand.tmp 34) (Operand.tmp 35), type := 0, pos := _, after := #[{ on := 9, ground := Ground.data }, { on := 10, ground := Ground.data }], guard := none }) (v := _) rfl (by kernel_rfl) (by kernel_rfl) (by kernel_rfl) (by kernel_rfl) (fun _ _ _ h => h) (by assumption) (by kernel_rfl) (by decide) (by rfl) (Or.inl ⟨by rfl, ?hy12⟩) (fun _ => rfl) ?rest12
             case hy12 => (intro w hSw; (try dsimp only at hSw); go_simp; try with_reducible rfl))
          | (refine ordZ_take (i := 11) (oi := { dst := some 36, op := Op.indexAddr 38 (Operand.tmp 34) (Operand.tmp 35), type := 0, pos := _, after := #[{ on := 9, ground := Ground.data }, { on := 10, ground := Ground.data }], guard := none }) (v := undef) rfl (by kernel_rfl) (by kernel_rfl) (by kernel_rfl) (by kernel_rfl) (fun _ _ _ h => h) (by assumption) (by kernel_rfl) (by decide) (by rfl) (Or.inr ⟨by rfl, rfl⟩) (fun _ => rfl) ?_)
        try simp only [Act.put, List.setIfInBounds_toArray, List.set_cons_zero, List.set_cons_succ]
        first
          | (refine' ordZ_take (i := 12) (oi := { dst := some 37, op := Op.fieldAddr 26 (Operand.tmp 36) 0, type := 0, pos := _, after := #[{ on := 11, ground := Ground.data }], guard := none }) (v := _) rfl (by kernel_rfl) (by kernel_rfl) (by kernel_rfl) (by kernel_rfl) (fun _ _ _ h => h) (by assumption) (by kernel_rfl) (by decide) (by rfl) (Or.inl ⟨by rfl, ?hy13⟩) (fun _ => rfl) ?rest13
             case hy13 => (intro w hSw; (try dsimp only at hSw); go_simp; try with_reducible rfl))
          | (refine ordZ_take (i := 12) (oi := { dst := some 37, op := Op.fieldAddr 26 (Operand.tmp 36) 0, type := 0, pos := _, after := #[{ on := 11, ground := Ground.data }], guard := none }) (v := undef) rfl (by kernel_rfl) (by kernel_rfl) (by kernel_rfl) (by kernel_rfl) (fun _ _ _ h => h) (by assumption) (by kernel_rfl) (by decide) (by rfl) (Or.inr ⟨by rfl, rfl⟩) (fun _ => rfl) ?_)
        try simp only [Act.put, List.setIfInBounds_toArray, List.set_cons_zero, List.set_cons_succ]
        first
          | (refine' ordZ_take (i := 13) (oi := { dst := some 38, op := Op.load 3 (Operand.tmp 37), type := 3, pos := _, after := #[{ on := 12, ground := Ground.data }], guard := none }) (v := _) rfl (by kernel_rfl) (by kernel_rfl) (by kernel_rfl) (by kernel_rfl) (fun _ _ _ h => h) (by assumption) (by kernel_rfl) (by decide) (by rfl) (Or.inl ⟨by rfl, ?hy14⟩) (fun _ => rfl) ?rest14
             case hy14 => (intro w hSw; (try dsimp only at hSw); go_simp; try with_reducible rfl))
          | (refine ordZ_take (i := 13) (oi := { dst := some 38, op := Op.load 3 (Operand.tmp 37), type := 3, pos := _, after := #[{ on := 12, ground := Ground.data }], guard := none }) (v := undef) rfl (by kernel_rfl) (by kernel_rfl) (by kernel_rfl) (by kernel_rfl) (fun _ _ _ h => h) (by assumption) (by kernel_rfl) (by decide) (by rfl) (Or.inr ⟨by rfl, rfl⟩) (fun _ => rfl) ?_)
        try simp only [Act.put, List.setIfInBounds_toArray, List.set_cons_zero, List.set_cons_succ]
        first
          | (refine' ordZ_take (i := 14) (oi := { dst := some 39, op := Op.binOp BinOp.add 3 (Operand.tmp 33) (Operand.tmp 38) 3, type := 3, pos := _, after := #[{ on := 8, ground := Ground.data }, { on := 13, ground := Ground.data }], guard := none }) (v := _) rfl (by kernel_rfl) (by kernel_rfl) (by kernel_rfl) (by kernel_rfl) (fun _ _ _ h => h) (by assumption) (by kernel_rfl) (by decide) (by rfl) (Or.inl ⟨by rfl, ?hy15⟩) (fun _ => rfl) ?rest15
             case hy15 => (intro w hSw; (try dsimp only at hSw); go_simp; try with_reducible rfl))
          | (refine ordZ_take (i := 14) (oi := { dst := some 39, op := Op.binOp BinOp.add 3 (Operand.tmp 33) (Operand.tmp 38) 3, type := 3, pos := _, after := #[{ on := 8, ground := Ground.data }, { on := 13, ground := Ground.data }], guard := none }) (v := undef) rfl (by kernel_rfl) (by kernel_rfl) (by kernel_rfl) (by kernel_rfl) (fun _ _ _ h => h) (by assumption) (by kernel_rfl) (by decide) (by rfl) (Or.inr ⟨by rfl, rfl⟩) (fun _ => rfl) ?_)
        try simp only [Act.put, List.setIfInBounds_toArray, List.set_cons_zero, List.set_cons_succ]
        first
          | (refine' ordZ_take (i := 15) (oi := { dst := some 40, op := Op.indexAddr 46 (Operand.tmp 25) (Operand.tmp 39), type := 0, pos := _, after := #[{ on := 0, ground := Ground.data }, { on := 14, ground := Ground.data }, { on := 0, ground := Ground.phase }, { on := 1, ground := Ground.phase }, { on := 2, ground := Ground.phase }, { on := 3, ground := Ground.phase }, { on := 4, ground := Ground.phase }, { on := 5, ground := Ground.phase }, { on := 6, ground := Ground.phase }, { on := 7, ground := Ground.phase }, { on := 8, ground := Ground.phase }, { on := 9, ground := Ground.phase }, { on := 10, ground := Ground.phase }, { on := 11, ground := Ground.phase }, { on := 12, ground := Ground.phase }, { on := 13, ground := Ground.phase }, { on := 14, ground := Ground.phase }], guard := none }) (v := _) rfl (by kernel_rfl) (by kernel_rfl) (by kernel_rfl) (by kernel_rfl) (fun _ _ _ h => h) (by assumption) (by kernel_rfl) (by decide) (by rfl) (Or.inl ⟨by rfl, ?hy16⟩) (fun _ => rfl) ?rest16
             case hy16 => (intro w hSw; (try dsimp only at hSw); go_simp; try with_reducible rfl))
          | (refine ordZ_take (i := 15) (oi := { dst := some 40, op := Op.indexAddr 46 (Operand.tmp 25) (Operand.tmp 39), type := 0, pos := _, after := #[{ on := 0, ground := Ground.data }, { on := 14, ground := Ground.data }, { on := 0, ground := Ground.phase }, { on := 1, ground := Ground.phase }, { on := 2, ground := Ground.phase }, { on := 3, ground := Ground.phase }, { on := 4, ground := Ground.phase }, { on := 5, ground := Ground.phase }, { on := 6, ground := Ground.phase }, { on := 7, ground := Ground.phase }, { on := 8, ground := Ground.phase }, { on := 9, ground := Ground.phase }, { on := 10, ground := Ground.phase }, { on := 11, ground := Ground.phase }, { on := 12, ground := Ground.phase }, { on := 13, ground := Ground.phase }, { on := 14, ground := Ground.phase }], guard := none }) (v := undef) rfl (by kernel_rfl) (by kernel_rfl) (by kernel_rfl) (by kernel_rfl) (fun _ _ _ h => h) (by assumption) (by kernel_rfl) (by decide) (by rfl) (Or.inr ⟨by rfl, rfl⟩) (fun _ => rfl) ?_)
        try simp only [Act.put, List.setIfInBounds_toArray, List.set_cons_zero, List.set_cons_succ]
        refine ordZ_one (i := 16) (o := { dst := none, op := Op.store 4 (Operand.tmp 40) (Operand.const (Value.bool true)), type := 0, pos := _, after := #[{ on := 15, ground := Ground.data }, { on := 0, ground := Ground.phase }, { on := 1, ground := Ground.phase }, { on := 2, ground := Ground.phase }, { on := 3, ground := Ground.phase }, { on := 4, ground := Ground.phase }, { on := 5, ground := Ground.phase }, { on := 6, ground := Ground.phase }, { on := 7, ground := Ground.phase }, { on := 8, ground := Ground.phase }, { on := 9, ground := Ground.phase }, { on := 10, ground := Ground.phase }, { on := 11, ground := Ground.phase }, { on := 12, ground := Ground.phase }, { on := 13, ground := Ground.phase }, { on := 14, ground := Ground.phase }], guard := none }) (by kernel_rfl) rfl (by rfl) (fun K hK => ?_)
        replace y0 := cell_later hD y0
        have zq := blk_lt y0
        go_simp
        refine hK _ _ (fun h => by cases h) ?_
        clear hK K
        try simp only [Act.put, List.setIfInBounds_toArray, List.set_cons_zero, List.set_cons_succ]
        refine ordZ_done (by kernel_rfl) ?_
        have P1 : Hid (RowQ (W2.drew.setCell ⟨w.heap.size + 1, (y * X + x).toNat, none⟩ (.bool true)) (w.heap.size + 1) (inQ X Y n (cs.take (j + 1)))) := Lib.hid (by
          rw [HE.out]
          exact RowQ.set (W := W2.drew) (HW.out) _ _)
        have P2 := Lib.hid ((HG.out.trans (grown_weak (grown_of_below (bl_tr HA.out hD)) _)).trans (grown_set W2.drew (w.heap.size + 1) (y * X + x).toNat (.bool true)))
        clear hD s0 s1 q0 q1 y0 y1 zq hH
        go_wp2
        go_roundw
        case rel => exact ⟨j + 1, by omega, by go_num, P1.out, P2.out⟩
        case measure => simp [intOf]; omega
    · have hge : (cs.length : Int) ≤ (j : Int) := by omega
      obtain rfl : j = cs.length := by omega
      rw [List.take_length] at hq
      have hBw : Below w.heap.size w wr := hb0.grown hg hb0.size (fun r e => by cases e; omega)
      have HQ := Lib.hid hq
      have HB := Lib.hid hBw
      clear hq hBw hg
      go_wp2
      go_ret
      exact ⟨_, rfl, HQ.out, by omega, HB.out⟩
end Go.Proofs.Ytccokdfkmppohaa
