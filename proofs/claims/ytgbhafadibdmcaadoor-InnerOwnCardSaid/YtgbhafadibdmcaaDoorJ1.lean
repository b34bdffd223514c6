/- Texts joined: Ow, Cj, Ck, Op, Cl, Cm, Cn, Co, Cp, Cr, Cu, Cz, Cs, Xa. -/
import Derived.Test.YtgbhafadibdmcaaDoorRo
import Derived.Laws.AppendOwnNone
import Derived.Test.YtgbhafadibdmcaaDoorCi
import Derived.Test.YtgbhafadibdmcaaDoorOz
import Derived.Test.YtgbhafadibdmcaaDoorCc
/- Rows of one's own of two types lie apart. -/
namespace Go.Proofs.YtgbhafadibdmcaaDoor
open Go.RowKit

/-- Nothing is appended, whatever its room. -/
theorem run_append_none_c {P : Program} {w : World} (base : Nat) (t ty e : TypeId) (i : TypeInfo) (size c : Nat) (ht : P.underlying t = some (.slice e)) (hi : P.info? e = some i)
    (v : Value) (n : Nat) (xs : List Value) (hown : w.ownsRow base e size v n xs) :
    (Builtin.append_ #[t, t] ty #[v, .slice none 0 c]).run P w = .ok v w := by
  rcases hown.2 with ⟨rfl, rfl⟩ | ⟨g, cap, cur, rfl, _, _, hnc, _⟩
  · simp [Builtin.append_, run_underlying ht, sizeOf, typeInfo, hi, Builtin.lenOf, Builtin.firstCells]
  · simp [Builtin.append_, run_underlying ht, sizeOf, typeInfo, hi, Builtin.lenOf, Builtin.firstCells, hnc, storeCells]
/-- A row of one's own of another type lies where a row grows. -/
theorem own_beside {w w' : World} {base base2 : Nat} {e e2 : TypeId} {size size2 n n2 : Nat} {v v2 : Value} {xs xs2 : List Value} (h : w.ownsRow base e size v n xs) (h2 : w.ownsRow base2 e2 size2 v2 n2 xs2) (hne : e ≠ e2) (hg : w.grownBy w' v.ownBlock) : w'.ownsRow base2 e2 size2 v2 n2 xs2 := by
  obtain ⟨k1, k2⟩ := h2
  refine ⟨k1, ?_⟩
  rcases k2 with k2 | ⟨g2, cap2, cur2, e1, f2, f3, f4, f5, f6, f7⟩
  · exact .inl k2
  · refine .inr ⟨g2, cap2, cur2, e1, f2, ?_, f4, f5, f6, f7⟩
    have hlt : g2 < w.heap.size := (Array.getElem?_eq_some_iff.1 f3).1
    rw [hg.block g2 hlt (fun hh => ?_)]
    · exact f3
    · rcases h.2 with ⟨hv, _⟩ | ⟨g, cap, cur, hv, _, h3, _⟩
      · rw [hv] at hh; cases hh
      · rw [hv] at hh
        simp only [Value.ownBlock, Option.some.injEq] at hh
        rw [← hh, f3] at h3
        simp only [Option.some.injEq, Obj.cells.injEq] at h3
        exact hne h3.2.1.symm
/-- All but the block q lies as it lay. -/
def Gr (q : Nat) (A B : World) : Prop := A.grownBy B (some q)
section
variable {q n p c : Nat} {A B C w : World}
theorem Gr.refl (q : Nat) (A : World) : Gr q A A := ⟨rfl, rfl, rfl, Nat.le_refl _, fun _ _ _ => rfl⟩
theorem Gr.trans (x : Gr q A B) (y : Gr q B C) : Gr q A C := ⟨y.os.trans x.os, y.tape.trans x.tape, y.output.trans x.output, Nat.le_trans x.size y.size, fun k hk hne => (y.block k (Nat.lt_of_lt_of_le hk x.size) hne).trans (x.block k hk hne)⟩
theorem Gr.below (h : Below A.heap.size A B) : Gr q A B := ⟨h.os, h.tape, h.output, h.size, fun k hk _ => h.block k hk⟩
theorem Gr.set (A : World) (q o : Nat) (u : Value) : Gr q A (A.setCell ⟨q, o, none⟩ u) := ⟨rfl, rfl, rfl, by simp, fun k _ hne => Below.heap_setCell _ _ _ k (show k ≠ q from fun e => hne (by rw [e]))⟩
theorem Gr.base (h : Below n w A) (x : Gr q A B) (h1 : n ≤ q) (h2 : n ≤ A.heap.size) : Below n w B := h.grown x h2 (fun r e => by cases e; exact h1)
theorem Gr.cell {k o : Nat} {v : Value} (x : Gr q A B) (h : A.cell? ⟨k, o, none⟩ = some v) (hk : k ≠ q) : B.cell? ⟨k, o, none⟩ = some v :=
  (World.cell?_of_block (a := ⟨k, o, none⟩) (x.block k (blk_lt h) (fun e => by cases e; exact hk rfl))).trans h
end
end Go.Proofs.YtgbhafadibdmcaaDoor

/- Least costs: within a box, and on the whole map. -/
namespace Go.Proofs.YtgbhafadibdmcaaDoor
open Go.RowKit

/-- What is wrong. -/
def errW (A B n : Int) (b : BX) (c : IC) : Int := if chkF A B n = 0 then (if fitsB A B b.1 b.2.1 b.2.2.1 b.2.2.2 = true ∧ inBx b c = true then 0 else 10) else chkF A B n
/-- What is told within a box, or nothing. -/
def WinR (A B : Int) (zs : List Int) (b : BX) (c : IC) (e : Ending) (W : World) : Prop :=
  ∃ (a : Option Addr) (cap : Nat) (ds : List Int), e = .returned (.tuple #[.slice a ds.length cap, .int .i64 (errW A B zs.length b c)]) ∧ RowU W a ds ∧ (errW A B zs.length b c ≠ 0 → ds = []) ∧
    (errW A B zs.length b c = 0 → ds.length = zs.length ∧ Far (gphB A B b zs) (numN A c) (atD ds))
theorem chkF_may {A B n : Int} (h : chkF A B n = 0) : mayB A B = true ∧ n = A * B := by
  unfold chkF at h
  split at h
  · rename_i hm
    split at h
    · rename_i hn; exact ⟨hm, hn⟩
    · cases h
  · cases h
theorem box_on {A B : Int} {b : BX} {c : IC} (hf : fitsB A B b.1 b.2.1 b.2.2.1 b.2.2.2 = true) (hh : inBx b c = true) : onB A B c = true := by
  obtain ⟨f1, f2, f3, f4, f5, f6, f7, f8⟩ := fitsB_iff.1 hf
  obtain ⟨g1, g2, g3, g4, g5⟩ := hasB_iff.1 hh
  obtain ⟨m1, m2, m3, m4⟩ := mayB_iff.1 f2
  exact inB_iff.2 ⟨m1, m2, m3, m4, by omega, by omega, by omega, by omega⟩

set_option maxRecDepth 100000 in
set_option maxHeartbeats 4000000 in
theorem within_any (A B : Int) (a : Option Addr) (cap : Nat) (zs : List Int) (b : BX) (c : IC) (w : World) (hz : AllH zs) (hr : RowH w a zs) (hst : Stp w) :
    Calls Tryd.prog 30 #[.agg #[.int .i64 A, .int .i64 B, .slice a zs.length cap], .agg #[.int .i64 b.1, .int .i64 b.2.1, .int .i64 b.2.2.1, .int .i64 b.2.2.2], .agg #[.int .i64 c.1, .int .i64 c.2]] w fun e w' => WinR A B zs b c e w' ∧ Below w.heap.size w w' := by
  have hA := bl0 w
  obtain ⟨E, hE⟩ : ∃ E, errW A B zs.length b c = E := ⟨_, rfl⟩
  have HE := Lib.hid hE
  unfold WinR
  rw [hE]
  obtain ⟨chk, hchk⟩ : ∃ chk, chkF A B zs.length = chk := ⟨_, rfl⟩
  have HC := Lib.hid hchk
  unfold errW at hE
  rw [hchk] at hE
  by_cases h0 : chk = 0
  · rw [if_pos h0] at hE
    subst h0
    obtain ⟨hmay, hn⟩ := chkF_may hchk
    have HN := Lib.hid hn
    obtain ⟨X, Y, U, V⟩ := b
    dsimp only at hE ⊢
    clear hchk hn
    by_cases hf : fitsB A B X Y U V = true
    · by_cases hh : inBx (X, Y, U, V) c = true
      · rw [if_pos ⟨hf, hh⟩] at hE
        subst hE
        have hon := box_on (b := (X, Y, U, V)) hf hh
        have hh2 : hasB X Y U V c.1 c.2 = true := hh
        have hnl := numN_at hon HN.out
        go_enter Tryd.func30, Tryd.ntmps30
        go_wp2_with fail
        refine (check_any _ _ _ _ _ _).mono ?_
        rintro e w1 ⟨rfl, hb⟩
        have hk : Below w.heap.size w w1 := by first | exact hb | exact bl_tr (bl_al (bl0 _) _) hb | exact bl_tr (bl_dr (bl_al (bl0 _) _)) hb | exact bl_tr (bl_al (bl_al (bl0 _) _) _) hb | exact bl_tr (bl_dr (bl_al (bl_al (bl0 _) _) _)) hb | exact bl_tr (bl_al (bl_al (bl_al (bl0 _) _) _) _) hb | exact bl_tr (bl_dr (bl_al (bl_al (bl_al (bl0 _) _) _) _)) hb | exact bl_tr (bl_al (bl_al (bl_al (bl_al (bl0 _) _) _) _) _) hb | exact bl_tr (bl_dr (bl_al (bl_al (bl_al (bl_al (bl0 _) _) _) _) _)) hb | exact bl_tr (bl_al (bl_al (bl_al (bl_al (bl_al (bl0 _) _) _) _) _) _) hb | exact bl_tr (bl_dr (bl_al (bl_al (bl_al (bl_al (bl_al (bl0 _) _) _) _) _) _)) hb | exact bl_tr (bl_al (bl_al (bl_al (bl_al (bl_al (bl_al (bl0 _) _) _) _) _) _) _) hb | exact bl_tr (bl_dr (bl_al (bl_al (bl_al (bl_al (bl_al (bl_al (bl0 _) _) _) _) _) _) _)) hb | exact bl_tr (bl_dr (bl0 _)) hb
        replace hA := bl_tr hA hk
        have f0 := cell_later hb (v := .int .i64 A) (a := ⟨w.heap.size, 0, none⟩) (by simp [go_sem])
        have f1 := cell_later hb (v := .int .i64 B) (a := ⟨w.heap.size, 1, none⟩) (by simp [go_sem])
        have f2 := cell_later hb (v := .slice a zs.length cap) (a := ⟨w.heap.size, 2, none⟩) (by simp [go_sem])
        have g0 := cell_later hb (v := .int .i64 X) (a := ⟨w.heap.size + 1, 0, none⟩) (by simp [go_sem])
        have g1 := cell_later hb (v := .int .i64 Y) (a := ⟨w.heap.size + 1, 1, none⟩) (by simp [go_sem])
        have g2 := cell_later hb (v := .int .i64 U) (a := ⟨w.heap.size + 1, 2, none⟩) (by simp [go_sem])
        have g3 := cell_later hb (v := .int .i64 V) (a := ⟨w.heap.size + 1, 3, none⟩) (by simp [go_sem])
        have h0 := cell_later hb (v := .int .i64 c.1) (a := ⟨w.heap.size + 1 + 1, 0, none⟩) (by simp [go_sem])
        have h1 := cell_later hb (v := .int .i64 c.2) (a := ⟨w.heap.size + 1 + 1, 1, none⟩) (by simp [go_sem])
        clear hb hk
        have zf0 := blk_lt f0
        have zf1 := blk_lt f1
        have zf2 := blk_lt f2
        have zg0 := blk_lt g0
        have zg1 := blk_lt g1
        have zg2 := blk_lt g2
        have zg3 := blk_lt g3
        have zh0 := blk_lt h0
        have zh1 := blk_lt h1
        rw [HC.out]
        go_wp2_with fail
        refine (fits_any _ _ _ _ _ _ _).mono ?_
        rintro e w2 ⟨rfl, hb⟩
        have hk : Below w1.heap.size w1 w2 := by first | exact hb | exact bl_tr (bl_al (bl0 _) _) hb | exact bl_tr (bl_dr (bl_al (bl0 _) _)) hb | exact bl_tr (bl_al (bl_al (bl0 _) _) _) hb | exact bl_tr (bl_dr (bl_al (bl_al (bl0 _) _) _)) hb | exact bl_tr (bl_al (bl_al (bl_al (bl0 _) _) _) _) hb | exact bl_tr (bl_dr (bl_al (bl_al (bl_al (bl0 _) _) _) _)) hb | exact bl_tr (bl_al (bl_al (bl_al (bl_al (bl0 _) _) _) _) _) hb | exact bl_tr (bl_dr (bl_al (bl_al (bl_al (bl_al (bl0 _) _) _) _) _)) hb | exact bl_tr (bl_al (bl_al (bl_al (bl_al (bl_al (bl0 _) _) _) _) _) _) hb | exact bl_tr (bl_dr (bl_al (bl_al (bl_al (bl_al (bl_al (bl0 _) _) _) _) _) _)) hb | exact bl_tr (bl_al (bl_al (bl_al (bl_al (bl_al (bl_al (bl0 _) _) _) _) _) _) _) hb | exact bl_tr (bl_dr (bl_al (bl_al (bl_al (bl_al (bl_al (bl_al (bl0 _) _) _) _) _) _) _)) hb | exact bl_tr (bl_dr (bl0 _)) hb
        replace hA := bl_tr hA hk
        replace f0 := cell_later hk f0
        replace f1 := cell_later hk f1
        replace f2 := cell_later hk f2
        replace g0 := cell_later hk g0
        replace g1 := cell_later hk g1
        replace g2 := cell_later hk g2
        replace g3 := cell_later hk g3
        replace h0 := cell_later hk h0
        replace h1 := cell_later hk h1
        clear hb hk
        have zf0 := blk_lt f0
        have zf1 := blk_lt f1
        have zf2 := blk_lt f2
        have zg0 := blk_lt g0
        have zg1 := blk_lt g1
        have zg2 := blk_lt g2
        have zg3 := blk_lt g3
        have zh0 := blk_lt h0
        have zh1 := blk_lt h1
        rw [hf]
        go_wp2_with fail
        refine (has_any _ _ _ _ _ _ _).mono ?_
        rintro e w3 ⟨rfl, hb⟩
        have hk : Below w2.heap.size w2 w3 := by first | exact hb | exact bl_tr (bl_al (bl0 _) _) hb | exact bl_tr (bl_dr (bl_al (bl0 _) _)) hb | exact bl_tr (bl_al (bl_al (bl0 _) _) _) hb | exact bl_tr (bl_dr (bl_al (bl_al (bl0 _) _) _)) hb | exact bl_tr (bl_al (bl_al (bl_al (bl0 _) _) _) _) hb | exact bl_tr (bl_dr (bl_al (bl_al (bl_al (bl0 _) _) _) _)) hb | exact bl_tr (bl_al (bl_al (bl_al (bl_al (bl0 _) _) _) _) _) hb | exact bl_tr (bl_dr (bl_al (bl_al (bl_al (bl_al (bl0 _) _) _) _) _)) hb | exact bl_tr (bl_al (bl_al (bl_al (bl_al (bl_al (bl0 _) _) _) _) _) _) hb | exact bl_tr (bl_dr (bl_al (bl_al (bl_al (bl_al (bl_al (bl0 _) _) _) _) _) _)) hb | exact bl_tr (bl_al (bl_al (bl_al (bl_al (bl_al (bl_al (bl0 _) _) _) _) _) _) _) hb | exact bl_tr (bl_dr (bl_al (bl_al (bl_al (bl_al (bl_al (bl_al (bl0 _) _) _) _) _) _) _)) hb | exact bl_tr (bl_dr (bl0 _)) hb
        replace hA := bl_tr hA hk
        replace f0 := cell_later hk f0
        replace f1 := cell_later hk f1
        replace f2 := cell_later hk f2
        replace g0 := cell_later hk g0
        replace g1 := cell_later hk g1
        replace g2 := cell_later hk g2
        replace g3 := cell_later hk g3
        replace h0 := cell_later hk h0
        replace h1 := cell_later hk h1
        clear hb hk
        have zf0 := blk_lt f0
        have zf1 := blk_lt f1
        have zf2 := blk_lt f2
        have zg0 := blk_lt g0
        have zg1 := blk_lt g1
        have zg2 := blk_lt g2
        have zg3 := blk_lt g3
        have zh0 := blk_lt h0
        have zh1 := blk_lt h1
        rw [hh2]
        have hcut := fun W (h : RowH W a zs) => cut_any A B a cap zs (X, Y, U, V) W hmay HN.out hf h
        have hnum := fun W => number_any A B a zs.length cap c W hon
        have hr3 := hr.below hA
        have hs3 := hst.below hA
        have hD := bl_dr (bl0 w3)
        have hlen := cutL_len A (X, Y, U, V) zs
        go_wp2
        refine (wpIn_wide (n := 11)).1 ?_
        refine ordS_begin (S := (fun w' : World => w'.cell? ⟨w.heap.size, 0, none⟩ = some (.int .i64 A) ∧ w'.cell? ⟨w.heap.size, 1, none⟩ = some (.int .i64 B) ∧ w'.cell? ⟨w.heap.size, 2, none⟩ = some (.slice a zs.length cap) ∧ w'.cell? ⟨w.heap.size + 1, 0, none⟩ = some (.int .i64 X) ∧ w'.cell? ⟨w.heap.size + 1, 1, none⟩ = some (.int .i64 Y) ∧ w'.cell? ⟨w.heap.size + 1, 2, none⟩ = some (.int .i64 U) ∧ w'.cell? ⟨w.heap.size + 1, 3, none⟩ = some (.int .i64 V) ∧ w'.cell? ⟨w.heap.size + 1 + 1, 0, none⟩ = some (.int .i64 c.1) ∧ w'.cell? ⟨w.heap.size + 1 + 1, 1, none⟩ = some (.int .i64 c.2))) (by kernel_rfl) ⟨cell_later hD f0, cell_later hD f1, cell_later hD f2, cell_later hD g0, cell_later hD g1, cell_later hD g2, cell_later hD g3, cell_later hD h0, cell_later hD h1⟩ (fun hH => ?_)
        first
          | (refine' ordS_take (i := 0) (oi := { dst := some 25, op := Op.load 26 (Operand.tmp 3), type := 26, pos := _, after := #[], guard := none }) (v := _) rfl (by kernel_rfl) (by kernel_rfl) (by kernel_rfl) (by kernel_rfl) (fun _ _ _ h => h) (by assumption) (Or.inl ⟨by rfl, ?hy133⟩) (fun _ => rfl) ?rest133
             case hy133 => (intro w hSw; (try dsimp only at hSw); go_simp; try with_reducible rfl))
          | (refine ordS_take (i := 0) (oi := { dst := some 25, op := Op.load 26 (Operand.tmp 3), type := 26, pos := _, after := #[], guard := none }) (v := undef) rfl (by kernel_rfl) (by kernel_rfl) (by kernel_rfl) (by kernel_rfl) (fun _ _ _ h => h) (by assumption) (Or.inr ⟨by rfl, rfl⟩) (fun _ => rfl) ?_)
        try simp only [Act.put, List.setIfInBounds_toArray, List.set_cons_zero, List.set_cons_succ]
        first
          | (refine' ordS_take (i := 1) (oi := { dst := some 26, op := Op.load 28 (Operand.tmp 4), type := 28, pos := _, after := #[], guard := none }) (v := _) rfl (by kernel_rfl) (by kernel_rfl) (by kernel_rfl) (by kernel_rfl) (fun _ _ _ h => h) (by assumption) (Or.inl ⟨by rfl, ?hy134⟩) (fun _ => rfl) ?rest134
             case hy134 => (intro w hSw; (try dsimp only at hSw); go_simp; try with_reducible rfl))
          | (refine ordS_take (i := 1) (oi := { dst := some 26, op := Op.load 28 (Operand.tmp 4), type := 28, pos := _, after := #[], guard := none }) (v := undef) rfl (by kernel_rfl) (by kernel_rfl) (by kernel_rfl) (by kernel_rfl) (fun _ _ _ h => h) (by assumption) (Or.inr ⟨by rfl, rfl⟩) (fun _ => rfl) ?_)
        try simp only [Act.put, List.setIfInBounds_toArray, List.set_cons_zero, List.set_cons_succ]
        first
          | (refine' ordS_take (i := 3) (oi := { dst := some 28, op := Op.load 26 (Operand.tmp 3), type := 26, pos := _, after := #[], guard := none }) (v := _) rfl (by kernel_rfl) (by kernel_rfl) (by kernel_rfl) (by kernel_rfl) (fun _ _ _ h => h) (by assumption) (Or.inl ⟨by rfl, ?hy135⟩) (fun _ => rfl) ?rest135
             case hy135 => (intro w hSw; (try dsimp only at hSw); go_simp; try with_reducible rfl))
          | (refine ordS_take (i := 3) (oi := { dst := some 28, op := Op.load 26 (Operand.tmp 3), type := 26, pos := _, after := #[], guard := none }) (v := undef) rfl (by kernel_rfl) (by kernel_rfl) (by kernel_rfl) (by kernel_rfl) (fun _ _ _ h => h) (by assumption) (Or.inr ⟨by rfl, rfl⟩) (fun _ => rfl) ?_)
        try simp only [Act.put, List.setIfInBounds_toArray, List.set_cons_zero, List.set_cons_succ]
        first
          | (refine' ordS_take (i := 4) (oi := { dst := some 29, op := Op.load 30 (Operand.tmp 5), type := 30, pos := _, after := #[], guard := none }) (v := _) rfl (by kernel_rfl) (by kernel_rfl) (by kernel_rfl) (by kernel_rfl) (fun _ _ _ h => h) (by assumption) (Or.inl ⟨by rfl, ?hy136⟩) (fun _ => rfl) ?rest136
             case hy136 => (intro w hSw; (try dsimp only at hSw); go_simp; try with_reducible rfl))
          | (refine ordS_take (i := 4) (oi := { dst := some 29, op := Op.load 30 (Operand.tmp 5), type := 30, pos := _, after := #[], guard := none }) (v := undef) rfl (by kernel_rfl) (by kernel_rfl) (by kernel_rfl) (by kernel_rfl) (fun _ _ _ h => h) (by assumption) (Or.inr ⟨by rfl, rfl⟩) (fun _ => rfl) ?_)
        try simp only [Act.put, List.setIfInBounds_toArray, List.set_cons_zero, List.set_cons_succ]
        refine ordS_one (i := 2) (o := { dst := some 27, op := Op.call { callee := Callee.value (Operand.func 55), args := #[Operand.tmp 25, Operand.tmp 26], argTypes := #[26, 28] }, type := 26, pos := _, after := #[{ on := 0, ground := Ground.data }, { on := 1, ground := Ground.data }], guard := none }) (by kernel_rfl) rfl (by rfl) (fun K hK => ?_)
        go_simp
        refine ⟨trivial, ?_⟩
        with_reducible refine (callsIn_wide.2 (hcut _ (hr3.below hD))).mono ?_
        rintro e W4 ⟨g, rfl, hrow, hb4⟩
        replace hD := bl_tr hD hb4
        refine hK _ _ ⟨cell_later hD f0, cell_later hD f1, cell_later hD f2, cell_later hD g0, cell_later hD g1, cell_later hD g2, cell_later hD g3, cell_later hD h0, cell_later hD h1⟩ ?_
        clear hK K hb4
        try simp only [Act.put, List.setIfInBounds_toArray, List.set_cons_zero, List.set_cons_succ]
        refine ordS_one (i := 5) (o := { dst := some 30, op := Op.call { callee := Callee.value (Operand.func 32), args := #[Operand.tmp 28, Operand.tmp 29], argTypes := #[26, 30] }, type := 3, pos := _, after := #[{ on := 3, ground := Ground.data }, { on := 4, ground := Ground.data }, { on := 2, ground := Ground.chain }], guard := none }) (by kernel_rfl) rfl (by rfl) (fun K hK => ?_)
        go_simp
        refine ⟨trivial, ?_⟩
        with_reducible refine (callsIn_wide.2 (hnum _)).mono ?_
        rintro e W5 ⟨rfl, hb5⟩
        replace hD := bl_tr hD hb5
        replace hrow := hrow.below hb5
        refine hK _ _ ⟨cell_later hD f0, cell_later hD f1, cell_later hD f2, cell_later hD g0, cell_later hD g1, cell_later hD g2, cell_later hD g3, cell_later hD h0, cell_later hD h1⟩ ?_
        clear hK K hb5
        try simp only [Act.put, List.setIfInBounds_toArray, List.set_cons_zero, List.set_cons_succ]
        have hspr := spread_any A B (some ⟨g, 0, none⟩) zs.length (cutL A (X, Y, U, V) zs) (numN A c) W5 hmay (by rw [hlen]; exact HN.out) (cutL_in hz) hrow (hs3.below hD) (by rw [hlen]; exact hnl)
        rw [hlen] at hspr
        refine ordS_one (i := 6) (o := { dst := some 31, op := Op.call { callee := Callee.value (Operand.func 54), args := #[Operand.tmp 27, Operand.tmp 30], argTypes := #[26, 3] }, type := 42, pos := _, after := #[{ on := 2, ground := Ground.data }, { on := 5, ground := Ground.data }, { on := 5, ground := Ground.chain }], guard := none }) (by kernel_rfl) rfl (by rfl) (fun K hK => ?_)
        go_simp
        refine ⟨trivial, ?_⟩
        with_reducible refine (callsIn_wide.2 hspr).mono ?_
        rintro e W6 ⟨gd, ds, rfl, hdl, hru, hfar, hb6⟩
        replace hD := bl_tr hD hb6
        have hS6 : W6.cell? ⟨w.heap.size, 0, none⟩ = some (.int .i64 A) ∧ W6.cell? ⟨w.heap.size, 1, none⟩ = some (.int .i64 B) ∧ W6.cell? ⟨w.heap.size, 2, none⟩ = some (.slice a zs.length cap) ∧ W6.cell? ⟨w.heap.size + 1, 0, none⟩ = some (.int .i64 X) ∧ W6.cell? ⟨w.heap.size + 1, 1, none⟩ = some (.int .i64 Y) ∧ W6.cell? ⟨w.heap.size + 1, 2, none⟩ = some (.int .i64 U) ∧ W6.cell? ⟨w.heap.size + 1, 3, none⟩ = some (.int .i64 V) ∧ W6.cell? ⟨w.heap.size + 1 + 1, 0, none⟩ = some (.int .i64 c.1) ∧ W6.cell? ⟨w.heap.size + 1 + 1, 1, none⟩ = some (.int .i64 c.2) := ⟨cell_later hD f0, cell_later hD f1, cell_later hD f2, cell_later hD g0, cell_later hD g1, cell_later hD g2, cell_later hD g3, cell_later hD h0, cell_later hD h1⟩
        refine hK _ _ hS6 ?_
        clear hK K hb6
        try simp only [Act.put, List.setIfInBounds_toArray, List.set_cons_zero, List.set_cons_succ]
        first
          | (refine' ordS_take (i := 7) (oi := { dst := some 6, op := Op.assign (Operand.tmp 31), type := 42, pos := _, after := #[{ on := 6, ground := Ground.data }, { on := 6, ground := Ground.chain }, { on := 0, ground := Ground.phase }, { on := 1, ground := Ground.phase }, { on := 2, ground := Ground.phase }, { on := 3, ground := Ground.phase }, { on := 4, ground := Ground.phase }, { on := 5, ground := Ground.phase }, { on := 6, ground := Ground.phase }], guard := none }) (v := _) rfl (by kernel_rfl) (by kernel_rfl) (by kernel_rfl) (by kernel_rfl) (fun _ _ _ h => h) (by assumption) (Or.inl ⟨by rfl, ?hy137⟩) (fun _ => rfl) ?rest137
             case hy137 => (intro w hSw; (try dsimp only at hSw); go_simp; try with_reducible rfl))
          | (refine ordS_take (i := 7) (oi := { dst := some 6, op := Op.assign (Operand.tmp 31), type := 42, pos := _, after := #[{ on := 6, ground := Ground.data }, { on := 6, ground := Ground.chain }, { on := 0, ground := Ground.phase }, { on := 1, ground := Ground.phase }, { on := 2, ground := Ground.phase }, { on := 3, ground := Ground.phase }, { on := 4, ground := Ground.phase }, { on := 5, ground := Ground.phase }, { on := 6, ground := Ground.phase }], guard := none }) (v := undef) rfl (by kernel_rfl) (by kernel_rfl) (by kernel_rfl) (by kernel_rfl) (fun _ _ _ h => h) (by assumption) (Or.inr ⟨by rfl, rfl⟩) (fun _ => rfl) ?_)
        try simp only [Act.put, List.setIfInBounds_toArray, List.set_cons_zero, List.set_cons_succ]
        first
          | (refine' ordS_take (i := 8) (oi := { dst := some 7, op := Op.assign (Operand.const (Value.int IntKind.i64 0)), type := 37, pos := _, after := #[{ on := 7, ground := Ground.chain }, { on := 0, ground := Ground.phase }, { on := 1, ground := Ground.phase }, { on := 2, ground := Ground.phase }, { on := 3, ground := Ground.phase }, { on := 4, ground := Ground.phase }, { on := 5, ground := Ground.phase }, { on := 6, ground := Ground.phase }, { on := 7, ground := Ground.phase }], guard := none }) (v := _) rfl (by kernel_rfl) (by kernel_rfl) (by kernel_rfl) (by kernel_rfl) (fun _ _ _ h => h) (by assumption) (Or.inl ⟨by rfl, ?hy138⟩) (fun _ => rfl) ?rest138
             case hy138 => (intro w hSw; (try dsimp only at hSw); go_simp; try with_reducible rfl))
          | (refine ordS_take (i := 8) (oi := { dst := some 7, op := Op.assign (Operand.const (Value.int IntKind.i64 0)), type := 37, pos := _, after := #[{ on := 7, ground := Ground.chain }, { on := 0, ground := Ground.phase }, { on := 1, ground := Ground.phase }, { on := 2, ground := Ground.phase }, { on := 3, ground := Ground.phase }, { on := 4, ground := Ground.phase }, { on := 5, ground := Ground.phase }, { on := 6, ground := Ground.phase }, { on := 7, ground := Ground.phase }], guard := none }) (v := undef) rfl (by kernel_rfl) (by kernel_rfl) (by kernel_rfl) (by kernel_rfl) (fun _ _ _ h => h) (by assumption) (Or.inr ⟨by rfl, rfl⟩) (fun _ => rfl) ?_)
        try simp only [Act.put, List.setIfInBounds_toArray, List.set_cons_zero, List.set_cons_succ]
        refine ordS_done (by kernel_rfl) ?_
        have HD := Lib.hid (bl_tr hA hD)
        have HRU := Lib.hid hru
        have HDL := Lib.hid hdl
        clear hD hru hlen hdl
        go_wp2
        go_ret2
        exact ⟨⟨some ⟨gd, 0, none⟩, zs.length, ds, by rw [HDL.out]; rfl, HRU.out, fun h => absurd rfl h, fun _ => ⟨HDL.out, hfar⟩⟩, HD.out⟩
      · rw [if_neg (fun h => hh h.2)] at hE
        subst hE
        have hh2 : hasB X Y U V c.1 c.2 = false := by
          have : ¬ hasB X Y U V c.1 c.2 = true := hh
          simpa using this
        go_enter Tryd.func30, Tryd.ntmps30
        go_wp2_with fail
        refine (check_any _ _ _ _ _ _).mono ?_
        rintro e w1 ⟨rfl, hb⟩
        have hk : Below w.heap.size w w1 := by first | exact hb | exact bl_tr (bl_al (bl0 _) _) hb | exact bl_tr (bl_dr (bl_al (bl0 _) _)) hb | exact bl_tr (bl_al (bl_al (bl0 _) _) _) hb | exact bl_tr (bl_dr (bl_al (bl_al (bl0 _) _) _)) hb | exact bl_tr (bl_al (bl_al (bl_al (bl0 _) _) _) _) hb | exact bl_tr (bl_dr (bl_al (bl_al (bl_al (bl0 _) _) _) _)) hb | exact bl_tr (bl_al (bl_al (bl_al (bl_al (bl0 _) _) _) _) _) hb | exact bl_tr (bl_dr (bl_al (bl_al (bl_al (bl_al (bl0 _) _) _) _) _)) hb | exact bl_tr (bl_al (bl_al (bl_al (bl_al (bl_al (bl0 _) _) _) _) _) _) hb | exact bl_tr (bl_dr (bl_al (bl_al (bl_al (bl_al (bl_al (bl0 _) _) _) _) _) _)) hb | exact bl_tr (bl_al (bl_al (bl_al (bl_al (bl_al (bl_al (bl0 _) _) _) _) _) _) _) hb | exact bl_tr (bl_dr (bl_al (bl_al (bl_al (bl_al (bl_al (bl_al (bl0 _) _) _) _) _) _) _)) hb | exact bl_tr (bl_dr (bl0 _)) hb
        replace hA := bl_tr hA hk
        have f0 := cell_later hb (v := .int .i64 A) (a := ⟨w.heap.size, 0, none⟩) (by simp [go_sem])
        have f1 := cell_later hb (v := .int .i64 B) (a := ⟨w.heap.size, 1, none⟩) (by simp [go_sem])
        have f2 := cell_later hb (v := .slice a zs.length cap) (a := ⟨w.heap.size, 2, none⟩) (by simp [go_sem])
        have g0 := cell_later hb (v := .int .i64 X) (a := ⟨w.heap.size + 1, 0, none⟩) (by simp [go_sem])
        have g1 := cell_later hb (v := .int .i64 Y) (a := ⟨w.heap.size + 1, 1, none⟩) (by simp [go_sem])
        have g2 := cell_later hb (v := .int .i64 U) (a := ⟨w.heap.size + 1, 2, none⟩) (by simp [go_sem])
        have g3 := cell_later hb (v := .int .i64 V) (a := ⟨w.heap.size + 1, 3, none⟩) (by simp [go_sem])
        have h0 := cell_later hb (v := .int .i64 c.1) (a := ⟨w.heap.size + 1 + 1, 0, none⟩) (by simp [go_sem])
        have h1 := cell_later hb (v := .int .i64 c.2) (a := ⟨w.heap.size + 1 + 1, 1, none⟩) (by simp [go_sem])
        clear hb hk
        have zf0 := blk_lt f0
        have zf1 := blk_lt f1
        have zf2 := blk_lt f2
        have zg0 := blk_lt g0
        have zg1 := blk_lt g1
        have zg2 := blk_lt g2
        have zg3 := blk_lt g3
        have zh0 := blk_lt h0
        have zh1 := blk_lt h1
        rw [HC.out]
        go_wp2_with fail
        refine (fits_any _ _ _ _ _ _ _).mono ?_
        rintro e w2 ⟨rfl, hb⟩
        have hk : Below w1.heap.size w1 w2 := by first | exact hb | exact bl_tr (bl_al (bl0 _) _) hb | exact bl_tr (bl_dr (bl_al (bl0 _) _)) hb | exact bl_tr (bl_al (bl_al (bl0 _) _) _) hb | exact bl_tr (bl_dr (bl_al (bl_al (bl0 _) _) _)) hb | exact bl_tr (bl_al (bl_al (bl_al (bl0 _) _) _) _) hb | exact bl_tr (bl_dr (bl_al (bl_al (bl_al (bl0 _) _) _) _)) hb | exact bl_tr (bl_al (bl_al (bl_al (bl_al (bl0 _) _) _) _) _) hb | exact bl_tr (bl_dr (bl_al (bl_al (bl_al (bl_al (bl0 _) _) _) _) _)) hb | exact bl_tr (bl_al (bl_al (bl_al (bl_al (bl_al (bl0 _) _) _) _) _) _) hb | exact bl_tr (bl_dr (bl_al (bl_al (bl_al (bl_al (bl_al (bl0 _) _) _) _) _) _)) hb | exact bl_tr (bl_al (bl_al (bl_al (bl_al (bl_al (bl_al (bl0 _) _) _) _) _) _) _) hb | exact bl_tr (bl_dr (bl_al (bl_al (bl_al (bl_al (bl_al (bl_al (bl0 _) _) _) _) _) _) _)) hb | exact bl_tr (bl_dr (bl0 _)) hb
        replace hA := bl_tr hA hk
        replace f0 := cell_later hk f0
        replace f1 := cell_later hk f1
        replace f2 := cell_later hk f2
        replace g0 := cell_later hk g0
        replace g1 := cell_later hk g1
        replace g2 := cell_later hk g2
        replace g3 := cell_later hk g3
        replace h0 := cell_later hk h0
        replace h1 := cell_later hk h1
        clear hb hk
        have zf0 := blk_lt f0
        have zf1 := blk_lt f1
        have zf2 := blk_lt f2
        have zg0 := blk_lt g0
        have zg1 := blk_lt g1
        have zg2 := blk_lt g2
        have zg3 := blk_lt g3
        have zh0 := blk_lt h0
        have zh1 := blk_lt h1
        rw [hf]
        go_wp2_with fail
        refine (has_any _ _ _ _ _ _ _).mono ?_
        rintro e w3 ⟨rfl, hb⟩
        have hk : Below w2.heap.size w2 w3 := by first | exact hb | exact bl_tr (bl_al (bl0 _) _) hb | exact bl_tr (bl_dr (bl_al (bl0 _) _)) hb | exact bl_tr (bl_al (bl_al (bl0 _) _) _) hb | exact bl_tr (bl_dr (bl_al (bl_al (bl0 _) _) _)) hb | exact bl_tr (bl_al (bl_al (bl_al (bl0 _) _) _) _) hb | exact bl_tr (bl_dr (bl_al (bl_al (bl_al (bl0 _) _) _) _)) hb | exact bl_tr (bl_al (bl_al (bl_al (bl_al (bl0 _) _) _) _) _) hb | exact bl_tr (bl_dr (bl_al (bl_al (bl_al (bl_al (bl0 _) _) _) _) _)) hb | exact bl_tr (bl_al (bl_al (bl_al (bl_al (bl_al (bl0 _) _) _) _) _) _) hb | exact bl_tr (bl_dr (bl_al (bl_al (bl_al (bl_al (bl_al (bl0 _) _) _) _) _) _)) hb | exact bl_tr (bl_al (bl_al (bl_al (bl_al (bl_al (bl_al (bl0 _) _) _) _) _) _) _) hb | exact bl_tr (bl_dr (bl_al (bl_al (bl_al (bl_al (bl_al (bl_al (bl0 _) _) _) _) _) _) _)) hb | exact bl_tr (bl_dr (bl0 _)) hb
        replace hA := bl_tr hA hk
        replace f0 := cell_later hk f0
        replace f1 := cell_later hk f1
        replace f2 := cell_later hk f2
        replace g0 := cell_later hk g0
        replace g1 := cell_later hk g1
        replace g2 := cell_later hk g2
        replace g3 := cell_later hk g3
        replace h0 := cell_later hk h0
        replace h1 := cell_later hk h1
        clear hb hk
        have zf0 := blk_lt f0
        have zf1 := blk_lt f1
        have zf2 := blk_lt f2
        have zg0 := blk_lt g0
        have zg1 := blk_lt g1
        have zg2 := blk_lt g2
        have zg3 := blk_lt g3
        have zh0 := blk_lt h0
        have zh1 := blk_lt h1
        rw [hh2]
        go_wp2
        go_ret2
        exact ⟨⟨none, 0, [], rfl, .inl rfl, fun _ => rfl, fun h => by cases h⟩, hA⟩
    · have hf2 : fitsB A B X Y U V = false := by simpa using hf
      rw [if_neg (fun h => hf h.1)] at hE
      subst hE
      clear hf
      go_enter Tryd.func30, Tryd.ntmps30
      go_wp2_with fail
      refine (check_any _ _ _ _ _ _).mono ?_
      rintro e w1 ⟨rfl, hb⟩
      have hk : Below w.heap.size w w1 := by first | exact hb | exact bl_tr (bl_al (bl0 _) _) hb | exact bl_tr (bl_dr (bl_al (bl0 _) _)) hb | exact bl_tr (bl_al (bl_al (bl0 _) _) _) hb | exact bl_tr (bl_dr (bl_al (bl_al (bl0 _) _) _)) hb | exact bl_tr (bl_al (bl_al (bl_al (bl0 _) _) _) _) hb | exact bl_tr (bl_dr (bl_al (bl_al (bl_al (bl0 _) _) _) _)) hb | exact bl_tr (bl_al (bl_al (bl_al (bl_al (bl0 _) _) _) _) _) hb | exact bl_tr (bl_dr (bl_al (bl_al (bl_al (bl_al (bl0 _) _) _) _) _)) hb | exact bl_tr (bl_al (bl_al (bl_al (bl_al (bl_al (bl0 _) _) _) _) _) _) hb | exact bl_tr (bl_dr (bl_al (bl_al (bl_al (bl_al (bl_al (bl0 _) _) _) _) _) _)) hb | exact bl_tr (bl_al (bl_al (bl_al (bl_al (bl_al (bl_al (bl0 _) _) _) _) _) _) _) hb | exact bl_tr (bl_dr (bl_al (bl_al (bl_al (bl_al (bl_al (bl_al (bl0 _) _) _) _) _) _) _)) hb | exact bl_tr (bl_dr (bl0 _)) hb
      replace hA := bl_tr hA hk
      have f0 := cell_later hb (v := .int .i64 A) (a := ⟨w.heap.size, 0, none⟩) (by simp [go_sem])
      have f1 := cell_later hb (v := .int .i64 B) (a := ⟨w.heap.size, 1, none⟩) (by simp [go_sem])
      have f2 := cell_later hb (v := .slice a zs.length cap) (a := ⟨w.heap.size, 2, none⟩) (by simp [go_sem])
      have g0 := cell_later hb (v := .int .i64 X) (a := ⟨w.heap.size + 1, 0, none⟩) (by simp [go_sem])
      have g1 := cell_later hb (v := .int .i64 Y) (a := ⟨w.heap.size + 1, 1, none⟩) (by simp [go_sem])
      have g2 := cell_later hb (v := .int .i64 U) (a := ⟨w.heap.size + 1, 2, none⟩) (by simp [go_sem])
      have g3 := cell_later hb (v := .int .i64 V) (a := ⟨w.heap.size + 1, 3, none⟩) (by simp [go_sem])
      have h0 := cell_later hb (v := .int .i64 c.1) (a := ⟨w.heap.size + 1 + 1, 0, none⟩) (by simp [go_sem])
      have h1 := cell_later hb (v := .int .i64 c.2) (a := ⟨w.heap.size + 1 + 1, 1, none⟩) (by simp [go_sem])
      clear hb hk
      have zf0 := blk_lt f0
      have zf1 := blk_lt f1
      have zf2 := blk_lt f2
      have zg0 := blk_lt g0
      have zg1 := blk_lt g1
      have zg2 := blk_lt g2
      have zg3 := blk_lt g3
      have zh0 := blk_lt h0
      have zh1 := blk_lt h1
      rw [HC.out]
      go_wp2_with fail
      refine (fits_any _ _ _ _ _ _ _).mono ?_
      rintro e w2 ⟨rfl, hb⟩
      have hk : Below w1.heap.size w1 w2 := by first | exact hb | exact bl_tr (bl_al (bl0 _) _) hb | exact bl_tr (bl_dr (bl_al (bl0 _) _)) hb | exact bl_tr (bl_al (bl_al (bl0 _) _) _) hb | exact bl_tr (bl_dr (bl_al (bl_al (bl0 _) _) _)) hb | exact bl_tr (bl_al (bl_al (bl_al (bl0 _) _) _) _) hb | exact bl_tr (bl_dr (bl_al (bl_al (bl_al (bl0 _) _) _) _)) hb | exact bl_tr (bl_al (bl_al (bl_al (bl_al (bl0 _) _) _) _) _) hb | exact bl_tr (bl_dr (bl_al (bl_al (bl_al (bl_al (bl0 _) _) _) _) _)) hb | exact bl_tr (bl_al (bl_al (bl_al (bl_al (bl_al (bl0 _) _) _) _) _) _) hb | exact bl_tr (bl_dr (bl_al (bl_al (bl_al (bl_al (bl_al (bl0 _) _) _) _) _) _)) hb | exact bl_tr (bl_al (bl_al (bl_al (bl_al (bl_al (bl_al (bl0 _) _) _) _) _) _) _) hb | exact bl_tr (bl_dr (bl_al (bl_al (bl_al (bl_al (bl_al (bl_al (bl0 _) _) _) _) _) _) _)) hb | exact bl_tr (bl_dr (bl0 _)) hb
      replace hA := bl_tr hA hk
      replace f0 := cell_later hk f0
      replace f1 := cell_later hk f1
      replace f2 := cell_later hk f2
      replace g0 := cell_later hk g0
      replace g1 := cell_later hk g1
      replace g2 := cell_later hk g2
      replace g3 := cell_later hk g3
      replace h0 := cell_later hk h0
      replace h1 := cell_later hk h1
      clear hb hk
      have zf0 := blk_lt f0
      have zf1 := blk_lt f1
      have zf2 := blk_lt f2
      have zg0 := blk_lt g0
      have zg1 := blk_lt g1
      have zg2 := blk_lt g2
      have zg3 := blk_lt g3
      have zh0 := blk_lt h0
      have zh1 := blk_lt h1
      rw [hf2]
      go_wp2
      go_ret2
      exact ⟨⟨none, 0, [], rfl, .inl rfl, fun _ => rfl, fun h => by cases h⟩, hA⟩
  · rw [if_neg h0] at hE
    subst hE
    have h1 : (chk != 0) = true := by rw [bne_iff_ne]; exact h0
    have H0 := Lib.hid h0
    clear hchk h0
    go_enter Tryd.func30, Tryd.ntmps30
    go_wp2_with fail
    refine (check_any _ _ _ _ _ _).mono ?_
    rintro e w1 ⟨rfl, hb⟩
    have hk : Below w.heap.size w w1 := by first | exact hb | exact bl_tr (bl_al (bl0 _) _) hb | exact bl_tr (bl_dr (bl_al (bl0 _) _)) hb | exact bl_tr (bl_al (bl_al (bl0 _) _) _) hb | exact bl_tr (bl_dr (bl_al (bl_al (bl0 _) _) _)) hb | exact bl_tr (bl_al (bl_al (bl_al (bl0 _) _) _) _) hb | exact bl_tr (bl_dr (bl_al (bl_al (bl_al (bl0 _) _) _) _)) hb | exact bl_tr (bl_al (bl_al (bl_al (bl_al (bl0 _) _) _) _) _) hb | exact bl_tr (bl_dr (bl_al (bl_al (bl_al (bl_al (bl0 _) _) _) _) _)) hb | exact bl_tr (bl_al (bl_al (bl_al (bl_al (bl_al (bl0 _) _) _) _) _) _) hb | exact bl_tr (bl_dr (bl_al (bl_al (bl_al (bl_al (bl_al (bl0 _) _) _) _) _) _)) hb | exact bl_tr (bl_al (bl_al (bl_al (bl_al (bl_al (bl_al (bl0 _) _) _) _) _) _) _) hb | exact bl_tr (bl_dr (bl_al (bl_al (bl_al (bl_al (bl_al (bl_al (bl0 _) _) _) _) _) _) _)) hb | exact bl_tr (bl_dr (bl0 _)) hb
    replace hA := bl_tr hA hk
    clear hb hk
    rw [HC.out]
    go_wp2
    go_ret2
    exact ⟨⟨none, 0, [], rfl, .inl rfl, fun _ => rfl, fun h => absurd h H0.out⟩, hA⟩

set_option maxRecDepth 100000 in
set_option maxHeartbeats 4000000 in
theorem from_any (A B : Int) (a : Option Addr) (cap : Nat) (zs : List Int) (c : IC) (w : World) (hz : AllH zs) (hr : RowH w a zs) (hst : Stp w) :
    Calls Tryd.prog 23 #[.agg #[.int .i64 A, .int .i64 B, .slice a zs.length cap], .agg #[.int .i64 c.1, .int .i64 c.2]] w fun e w' => WinR A B zs (0, 0, A, B) c e w' ∧ Below w.heap.size w w' := by
  have hA := bl0 w
  have hcall := fun W (h1 : RowH W a zs) (h2 : Stp W) => within_any A B a cap zs (0, 0, A, B) c W hz h1 h2
  have HC := Lib.hid hcall
  clear hcall
  go_enter Tryd.func23, Tryd.ntmps23
  go_wp2_with fail
  have hA1 := bl_al (bl_al hA (.cells #[.int .i64 A, .int .i64 B, .slice a zs.length cap] 26)) (.cells #[.int .i64 c.1, .int .i64 c.2] 30)
  refine (HC.out _ (hr.below hA1) (hst.below hA1)).mono ?_
  rintro e w1 ⟨⟨b, cap2, ds, rfl, h2, h3, h4⟩, hb⟩
  have hA2 := bl_tr hA1 hb
  obtain ⟨E, hE⟩ : ∃ E, errW A B zs.length (0, 0, A, B) c = E := ⟨_, rfl⟩
  rw [hE] at h3 h4 ⊢
  have HE := Lib.hid hE
  have H2 := Lib.hid h2
  have H3 := Lib.hid h3
  have H4 := Lib.hid h4
  clear h2 h3 h4 hA1 hb hE
  go_wp2
  go_ret2
  refine ⟨?_, hA2⟩
  unfold WinR
  rw [HE.out]
  exact ⟨b, cap2, ds, rfl, H2.out, H3.out, H4.out⟩
end Go.Proofs.YtgbhafadibdmcaaDoor

/- Least costs: from which cell one is reached. -/
namespace Go.Proofs.YtgbhafadibdmcaaDoor
open Go.RowKit Go.Shelf
attribute [local go_sem] Oper.semAt_some

/-- Two blocks are turned. -/
def Two2 (a b : Nat) (A B : World) : Prop := (B.os = A.os ∧ B.tape = A.tape ∧ B.output = A.output ∧ A.heap.size ≤ B.heap.size) ∧ ∀ k, k < A.heap.size → k ≠ a → k ≠ b → B.heap[k]? = A.heap[k]?
theorem Two2.kp {a b p c : Nat} {W A B : World} (h : Two2 a b A B) (hb : Below W.heap.size W A) (hp : (a < p ∧ b < p) ∧ p + c ≤ W.heap.size) : KP p c W B :=
  ⟨Nat.le_trans hb.size h.1.2.2.2, fun k h1 h2 => (h.2 k (Nat.lt_of_lt_of_le (by omega) hb.size) (by omega) (by omega)).trans (hb.block k (by omega))⟩
theorem Two2.bel {a b n : Nat} {A B : World} (h : Two2 a b A B) (hn : n ≤ A.heap.size) (hp : n ≤ a ∧ n ≤ b) : Below n A B :=
  ⟨h.1.1, h.1.2.1, h.1.2.2.1, h.1.2.2.2, fun k hk => h.2 k (by omega) (by omega) (by omega)⟩
end Go.Proofs.YtgbhafadibdmcaaDoor

/- As text Oz: an operation that tells the same in every world may be taken first, whether it comes ahead of z or behind it. -/
namespace Go.Proofs.YtgbhafadibdmcaaDoor
open Go

section
variable {F : Fence} {n : Nat} {P : Program} {ops : Array Oper} {Q : Exit → Act → World → Prop} {md : Region.Mode} {S : World → Prop} {z : Nat}
end
end Go.Proofs.YtgbhafadibdmcaaDoor

/- Least costs: a row of cells of one's own turned round. -/
namespace Go.Proofs.YtgbhafadibdmcaaDoor
open Go.RowKit

theorem flatC_cons (z : IC) (zs : List IC) : flatC (z :: zs) = .int .i64 z.1 :: .int .i64 z.2 :: flatC zs := rfl
theorem flatC_len2 : ∀ zs : List IC, (flatC zs).length = zs.length * 2
  | [] => rfl
  | z :: zs => by
    have := flatC_len2 zs
    rw [flatC_cons]
    simp
    omega
theorem flatC_set : ∀ (zs : List IC) (n : Nat) (z : IC), flatC (zs.set n z) = ((flatC zs).set (n * 2) (.int .i64 z.1)).set (n * 2 + 1) (.int .i64 z.2)
  | [], n, z => by simp [flatC]
  | y :: zs, 0, z => by simp [flatC_cons]
  | y :: zs, n + 1, z => by
    have ih := flatC_set zs n z
    rw [List.set_cons_succ, flatC_cons, flatC_cons, ih, show (n + 1) * 2 = n * 2 + 1 + 1 by omega]
    simp only [List.set_cons_succ]
theorem own_cellC {W : World} {B n cap g : Nat} {xs : List IC} (h : W.ownsRow B 30 2 (.slice (some ⟨g, 0, none⟩) n cap) n (flatC xs)) {j : Nat} {z : IC} (hz : xs[j]? = some z) :
    W.cell? ⟨g, j * 2, none⟩ = some (.int .i64 z.1) ∧ W.cell? ⟨g, j * 2 + 1, none⟩ = some (.int .i64 z.2) := by
  obtain ⟨e0, e1⟩ := flatC_at xs j z hz
  have h0 := h.cells (g := g) rfl _ _ e0
  have h1 := h.cells (g := g) rfl _ _ e1
  rw [hadd] at h0 h1
  exact ⟨h0, h1⟩
theorem own_setC {W : World} {B n cap g : Nat} {xs : List IC} (h : W.ownsRow B 30 2 (.slice (some ⟨g, 0, none⟩) n cap) n (flatC xs)) (j : Nat) (z : IC) :
    ((W.setCell ⟨g, j * 2, none⟩ (.int .i64 z.1)).setCell ⟨g, j * 2 + 1, none⟩ (.int .i64 z.2)).ownsRow B 30 2 (.slice (some ⟨g, 0, none⟩) n cap) n (flatC (xs.set j z)) := by
  rw [flatC_set]
  exact ((h.stored (j * 2) _).1.stored (j * 2 + 1) _).1

end Go.Proofs.YtgbhafadibdmcaaDoor

/- Least costs: the way that is told. -/
namespace Go.Proofs.YtgbhafadibdmcaaDoor
open Go.RowKit

section
variable {A B : Int} {zs ds : List Int} {b : BX} {s : Nat}
end
theorem rowC_own {W : World} {Bq n cap g : Nat} {xs : List IC} (h : W.ownsRow Bq 30 2 (.slice (some ⟨g, 0, none⟩) n cap) n (flatC xs)) : RowC W (some ⟨g, 0, none⟩) xs := by
  refine .inr ⟨g, 0, rfl, fun k z hz => ?_⟩
  have := own_cellC h hz
  rw [Nat.zero_add]
  exact this
end Go.Proofs.YtgbhafadibdmcaaDoor

/- Least costs: Path. -/
namespace Go.Proofs.YtgbhafadibdmcaaDoor
open Go.RowKit

end Go.Proofs.YtgbhafadibdmcaaDoor

/- Least costs: the laws' helpers; the chapter's example. -/
namespace Go.Proofs.YtgbhafadibdmcaaDoor
open Go.RowKit

theorem take_sameC {xs ys : List (Int × Int)} {k : Nat} (hk : k < xs.length) (hk2 : k < ys.length) (h : xs.take k = ys.take k) (e : xs[k] = ys[k]) : xs.take (k + 1) = ys.take (k + 1) := by
  rw [List.take_succ_eq_append_getElem hk, List.take_succ_eq_append_getElem hk2, h, e]
theorem take_allC {xs ys : List (Int × Int)} {k : Nat} (h1 : xs.length ≤ k) (h2 : xs.length = ys.length) (h : xs.take k = ys.take k) : xs = ys := by
  rw [List.take_of_length_le h1, List.take_of_length_le (by omega)] at h
  exact h
end Go.Proofs.YtgbhafadibdmcaaDoor

/- Least costs: the chapter's example is as it says. -/
namespace Go.Proofs.YtgbhafadibdmcaaDoor
open Go.RowKit

theorem row_lit {W : World} {b : Nat} {cs : Array Value} {t : TypeId} {zs : List Int} (h : W.heap[b]? = some (.cells cs t (0, 0))) (hc : cs = (zs.map (Value.int .u16)).toArray) : RowH W (some ⟨b, 0, none⟩) zs := by
  refine .inr ⟨b, 0, rfl, fun i z hz => ?_⟩
  rw [Nat.zero_add]
  simp only [World.cell?, h, hc]
  simp [hz]
theorem rowU_lit {W : World} {b : Nat} {cs : Array Value} {t : TypeId} {zs : List Int} (h : W.heap[b]? = some (.cells cs t (0, 0))) (hc : cs = (zs.map (Value.int .u64)).toArray) : RowU W (some ⟨b, 0, none⟩) zs := by
  refine .inr ⟨b, 0, rfl, fun i z hz => ?_⟩
  rw [Nat.zero_add]
  simp only [World.cell?, h, hc]
  simp [hz]
theorem rowC_lit {W : World} {b : Nat} {cs : Array Value} {t : TypeId} {zs : List IC} (h : W.heap[b]? = some (.cells cs t (0, 0))) (hc : cs = (flatC zs).toArray) : RowC W (some ⟨b, 0, none⟩) zs := by
  refine .inr ⟨b, 0, rfl, fun i z hz => ?_⟩
  obtain ⟨e0, e1⟩ := flatC_at zs i z hz
  rw [Nat.zero_add]
  simp only [World.cell?, h, hc]
  simp [e0, e1]

end Go.Proofs.YtgbhafadibdmcaaDoor

/- Least costs: the laws' plain helpers: whether a box has a cell, the next cell, how far a cell is. -/
namespace Go.Proofs.YtgbhafadibdmcaaDoor
open Go.RowKit

def wf64 (n : Int) : Prop := -9223372036854775808 ≤ n ∧ n ≤ 9223372036854775807
set_option maxRecDepth 100000 in
set_option maxHeartbeats 4000000 in
theorem rhas8_any (X Y U V : Int) (c : IC) (w : World) (hb : rightB X Y U V = true) (h0 : 0 ≤ X ∧ 0 ≤ Y) (hc : wf64 c.1 ∧ wf64 c.2) :
    Calls Tryd.prog 11 #[.agg #[.int .i64 X, .int .i64 Y, .int .i64 U, .int .i64 V], .agg #[.int .i64 c.1, .int .i64 c.2]] w fun e w' => e = .returned (.bool (inBx (X, Y, U, V) c)) ∧ Below w.heap.size w w' := by
  obtain ⟨r1, r2, r3, r4, r5, r6, r7, r8⟩ := rightB_iff.1 hb
  unfold wf64 at hc
  obtain ⟨t, ht⟩ : ∃ t, inBx (X, Y, U, V) c = t := ⟨_, rfl⟩
  have hiff : t = true ↔ X ≤ c.1 ∧ c.1 < X + U ∧ Y ≤ c.2 ∧ c.2 < Y + V := by
    rw [← ht]
    show hasB X Y U V c.1 c.2 = true ↔ _
    rw [hasB_iff]
    exact ⟨fun h => h.2, fun h => ⟨hb, h⟩⟩
  rw [ht]
  have HIFF := Lib.hid hiff
  clear ht hiff hb
  have hA := bl_al (bl_al (bl0 w) (.cells #[.int .i64 X, .int .i64 Y, .int .i64 U, .int .i64 V] 28)) (.cells #[.int .i64 c.1, .int .i64 c.2] 30)
  by_cases h1 : X ≤ c.1
  · have hw1 : IntKind.i64.wrap (c.1 - X) = c.1 - X := IntWalk.i64_in _ (by omega)
    by_cases h2 : Y ≤ c.2
    · have hw2 : IntKind.i64.wrap (c.2 - Y) = c.2 - Y := IntWalk.i64_in _ (by omega)
      by_cases h3 : c.1 - X < U
      · by_cases h4 : c.2 - Y < V
        · have d4 : decide (c.2 - Y < V) = true := decide_eq_true h4
          have htt : t = true := HIFF.out.2 ⟨by omega, by omega, by omega, by omega⟩
          subst htt
          go_enter Tryd.func11, Tryd.ntmps11
          go_wp2
          go_ret
          exact ⟨rfl, hA⟩
        · have htt : t = false := by cases t; rfl; have := HIFF.out.1 rfl; omega
          subst htt
          go_enter Tryd.func11, Tryd.ntmps11
          go_wp2
          go_ret
          exact ⟨rfl, hA⟩
      · have htt : t = false := by cases t; rfl; have := HIFF.out.1 rfl; omega
        subst htt
        go_enter Tryd.func11, Tryd.ntmps11
        go_wp2
        go_ret
        exact ⟨rfl, hA⟩
    · have htt : t = false := by cases t; rfl; have := HIFF.out.1 rfl; omega
      subst htt
      go_enter Tryd.func11, Tryd.ntmps11
      go_wp2
      go_ret
      exact ⟨rfl, hA⟩
  · have htt : t = false := by cases t; rfl; have := HIFF.out.1 rfl; omega
    subst htt
    go_enter Tryd.func11, Tryd.ntmps11
    go_wp2
    go_ret
    exact ⟨rfl, hA⟩

set_option maxRecDepth 100000 in
set_option maxHeartbeats 4000000 in
theorem rstep8_any (X Y d : Int) (w : World) (hp : plainB X Y = true) (h0 : 0 ≤ d) (h4 : d < 4) :
    Calls Tryd.prog 37 #[.agg #[.int .i64 X, .int .i64 Y], .int .i64 d] w fun e w' => e = .returned (.agg #[.int .i64 (stepI (X, Y) d).1, .int .i64 (stepI (X, Y) d).2]) ∧ Below w.heap.size w w' := by
  obtain ⟨a1, a2, a3, a4⟩ := plainB_iff.1 hp
  obtain ⟨Z, hZ⟩ : ∃ Z, (stepI (X, Y) d).1 = Z := ⟨_, rfl⟩
  obtain ⟨W, hW⟩ : ∃ W, (stepI (X, Y) d).2 = W := ⟨_, rfl⟩
  rw [hZ, hW]
  obtain rfl | rfl | rfl | rfl : d = 0 ∨ d = 1 ∨ d = 2 ∨ d = 3 := by omega
  all_goals
    simp [stepI, dxI, dyI] at hZ hW
    subst hZ hW
    go_enter Tryd.func37, Tryd.ntmps37
    go_wp2
    refine bodyPost_ret (v := .agg #[.int .i64 _, .int .i64 _]) (by simp [results, Tryd.results37, go_sem] <;> omega) rfl ⟨rfl, ?_⟩
    first
    | exact bl_al (bl_al (bl0 _) _) _
    | exact bl_al (bl_st (bl_al (bl0 _) _) (by omega) _) _
    | exact bl_st (bl_st (bl_al (bl_al (bl0 _) _) _) (by omega) _) (by omega) _
    | exact bl_st (bl_st (bl_st (bl_al (bl_al (bl0 _) _) _) (by omega) _) (by omega) _) (by omega) _

end Go.Proofs.YtgbhafadibdmcaaDoor

/- Least costs by definition: ways are made longer till nothing is nearer; that this comes to what is told. -/
namespace Go.Proofs.YtgbhafadibdmcaaDoor

/-- A cell is made nearer by one beside it. -/
def rlx (A : Int) (b : BX) (zs : List Int) (st : List Int) (o : IC × Nat) : List Int :=
  if inBx b (stepI o.1 (o.2 : Int)) = true ∧ atD st (numN A (stepI o.1 (o.2 : Int))) ≠ 18446744073709551615 ∧ IntKind.u64.wrap (atD st (numN A (stepI o.1 (o.2 : Int))) + zs.getD (numN A o.1) 0) < atD st (numN A o.1)
  then st.set (numN A o.1) (IntKind.u64.wrap (atD st (numN A (stepI o.1 (o.2 : Int))) + zs.getD (numN A o.1) 0)) else st
def opsD (c : IC) (d : Nat) : List (IC × Nat) := (List.range d).map fun e => (c, e)
def opsC (A : Int) (zs : List Int) (c : IC) : List (IC × Nat) := if zs.getD (numN A c) 0 = 0 then [] else opsD c 4
def opsX (A : Int) (zs : List Int) (X y : Int) (n : Nat) : List (IC × Nat) := (List.range n).flatMap fun (i : Nat) => opsC A zs (X + i, y)
def opsY (A : Int) (zs : List Int) (X Y : Int) (n m : Nat) : List (IC × Nat) := (List.range m).flatMap fun (j : Nat) => opsX A zs X (Y + j) n
theorem opsD_succ (c : IC) (d : Nat) : opsD c (d + 1) = opsD c d ++ [(c, d)] := by
  unfold opsD; rw [List.range_succ, List.map_append]; rfl
theorem opsX_succ (A : Int) (zs : List Int) (X y : Int) (n : Nat) : opsX A zs X y (n + 1) = opsX A zs X y n ++ opsC A zs (X + n, y) := by
  unfold opsX; rw [List.range_succ, List.flatMap_append]; simp
theorem opsY_succ (A : Int) (zs : List Int) (X Y : Int) (n m : Nat) : opsY A zs X Y n (m + 1) = opsY A zs X Y n m ++ opsX A zs X (Y + m) n := by
  unfold opsY; rw [List.range_succ, List.flatMap_append]; simp
def runO (A : Int) (b : BX) (zs : List Int) (st : List Int) (l : List (IC × Nat)) : List Int := l.foldl (rlx A b zs) st
theorem runO_app (A : Int) (b : BX) (zs st : List Int) (l m : List (IC × Nat)) : runO A b zs st (l ++ m) = runO A b zs (runO A b zs st l) m := by unfold runO; rw [List.foldl_append]
theorem runO_one (A : Int) (b : BX) (zs st : List Int) (o : IC × Nat) : runO A b zs st [o] = rlx A b zs st o := rfl
theorem runO_nil (A : Int) (b : BX) (zs st : List Int) : runO A b zs st [] = st := rfl
theorem rlx_len (A : Int) (b : BX) (zs st : List Int) (o : IC × Nat) : (rlx A b zs st o).length = st.length := by unfold rlx; split <;> simp
theorem runO_len (A : Int) (b : BX) (zs : List Int) : ∀ (l : List (IC × Nat)) (st : List Int), (runO A b zs st l).length = st.length
  | [], _ => rfl
  | o :: l, st => by
    show (runO A b zs (rlx A b zs st o) l).length = _
    rw [runO_len A b zs l, rlx_len]
/-- A round. -/
def rndO (A : Int) (b : BX) (zs st : List Int) : List Int := runO A b zs st (opsY A zs b.1 b.2.1 b.2.2.1.toNat b.2.2.2.toNat)
def itO (A : Int) (b : BX) (zs st : List Int) : Nat → List Int
  | 0 => st
  | n + 1 => rndO A b zs (itO A b zs st n)
theorem itO_len (A : Int) (b : BX) (zs st : List Int) : ∀ n, (itO A b zs st n).length = st.length
  | 0 => rfl
  | n + 1 => by rw [itO, rndO, runO_len, itO_len A b zs st n]
theorem itO_fix {A : Int} {b : BX} {zs st : List Int} {n : Nat} (h : rndO A b zs (itO A b zs st n) = itO A b zs st n) : ∀ m, itO A b zs st (n + m) = itO A b zs st n
  | 0 => rfl
  | m + 1 => by
    show rndO A b zs (itO A b zs st (n + m)) = _
    rw [itO_fix h m, h]
def st0 (A : Int) (zs : List Int) (c : IC) : List Int := (List.replicate zs.length 18446744073709551615).set (numN A c) 0
/-- What the reference tells. -/
def farO (A : Int) (b : BX) (zs : List Int) (c : IC) : List Int :=
  if zs.getD (numN A c) 0 = 0 then List.replicate zs.length 18446744073709551615 else itO A b zs (st0 A zs c) zs.length
theorem farO_len (A : Int) (b : BX) (zs : List Int) (c : IC) : (farO A b zs c).length = zs.length := by
  unfold farO st0
  split
  · simp
  · rw [itO_len]; simp
theorem atD_repl (n : Nat) (i : Nat) : atD (List.replicate n 18446744073709551615) i = 18446744073709551615 := by
  by_cases h : i < n
  · rw [← atD_get (by simpa using h)]; simp
  · exact atD_none (by simp; omega)

/-- What holds of the costs behind t turns. -/
structure RInv (N : Nat) (d : Nat → Int) (t : Nat) (st : List Int) : Prop where
  len : st.length = N
  bd : ∀ i, atD st i = 18446744073709551615 ∨ (0 ≤ atD st i ∧ atD st i ≤ 65535 * (t : Int))
  low : ∀ i, d i ≤ atD st i
/-- The turns that may be done: of a cell that is open. -/
def OkO (A B : Int) (b : BX) (zs : List Int) (o : IC × Nat) : Prop := onB A B o.1 = true ∧ (gphB A B b zs).opn (numN A o.1) ∧ o.2 < 4
section
variable {A B : Int} {b : BX} {zs : List Int} {s : Nat} {d : Nat → Int}
theorem rlx_step (hm : mayB A B = true) (hn : (zs.length : Int) = A * B) (hz : AllH zs) (hfit : fitsB A B b.1 b.2.1 b.2.2.1 b.2.2.2 = true) (h : Far (gphB A B b zs) s d) {t : Nat} (ht : t ≤ 1099511627776) {st : List Int} (hI : RInv zs.length d t st) {o : IC × Nat} (ho : OkO A B b zs o) :
    RInv zs.length d (t + 1) (rlx A b zs st o) ∧ (∀ i, atD (rlx A b zs st o) i ≤ atD st i) ∧
      (inBx b (stepI o.1 (o.2 : Int)) = true → atD st (numN A (stepI o.1 (o.2 : Int))) ≠ 18446744073709551615 → atD (rlx A b zs st o) (numN A o.1) ≤ atD st (numN A (stepI o.1 (o.2 : Int))) + zs.getD (numN A o.1) 0) := by
  obtain ⟨hon, hop, hd⟩ := ho
  have hG := gphB_ok (b := b) hm hn hz
  obtain ⟨hlt, hin, hk0⟩ := gphB_opn.1 hop
  have hk := gphB_k (A := A) (B := B) (zs := zs) hin
  have hp1 := hG.pos1 hop
  rw [hk] at hp1
  have hbd2 : ∀ i, atD st i = 18446744073709551615 ∨ (0 ≤ atD st i ∧ atD st i ≤ 65535 * ((t + 1 : Nat) : Int)) := fun i => by
    rcases hI.bd i with e | ⟨e1, e2⟩
    · exact .inl e
    · exact .inr ⟨e1, by omega⟩
  by_cases hmb : inBx b (stepI o.1 (o.2 : Int)) = true ∧ atD st (numN A (stepI o.1 (o.2 : Int))) ≠ 18446744073709551615
  case neg =>
    have e : rlx A b zs st o = st := by unfold rlx; rw [if_neg (fun hh => hmb ⟨hh.1, hh.2.1⟩)]
    rw [e]
    exact ⟨⟨hI.len, hbd2, hI.low⟩, fun i => Int.le_refl _, fun h1 h2 => absurd ⟨h1, h2⟩ hmb⟩
  case pos =>
  obtain ⟨h1, h2⟩ := hmb
  obtain ⟨x, hx⟩ : ∃ x, atD st (numN A (stepI o.1 (o.2 : Int))) = x := ⟨_, rfl⟩
  obtain ⟨k, hkk⟩ : ∃ k, zs.getD (numN A o.1) 0 = k := ⟨_, rfl⟩
  have hxb := hI.bd (numN A (stepI o.1 (o.2 : Int)))
  have hxl := hI.low (numN A (stepI o.1 (o.2 : Int)))
  rw [hx] at hxb hxl h2
  rw [hkk] at hk hp1
  have hw : IntKind.u64.wrap (x + k) = x + k := IntWalk.u64_in _ (by omega)
  have hdi : d (numN A o.1) ≤ x + k := by
    have hdx : d (numN A (stepI o.1 (o.2 : Int))) ≠ 18446744073709551615 := by omega
    have hnb : numN A (stepI o.1 (o.2 : Int)) ∈ (gphB A B b zs).nb (numN A o.1) := by
      show _ ∈ nbL A B (numN A o.1)
      refine mem_nbL.2 ⟨(o.2 : Int), by omega, by omega, ?_, ?_⟩
      · rw [cellN_num hon]
        obtain ⟨f1, f2, f3, f4, f5, f6, f7, f8⟩ := fitsB_iff.1 hfit
        obtain ⟨g1, g2, g3, g4, g5⟩ := hasB_iff.1 h1
        obtain ⟨m1, m2, m3, m4⟩ := mayB_iff.1 hm
        exact inB_iff.2 ⟨m1, m2, m3, m4, by omega, by omega, by omega, by omega⟩
      · rw [cellN_num hon]
    have := h.le (numN A o.1) _ hop (h.opn hdx) hnb hdx
    rw [hk] at this
    omega
  by_cases hlt2 : IntKind.u64.wrap (x + k) < atD st (numN A o.1)
  · have e : rlx A b zs st o = st.set (numN A o.1) (x + k) := by
      unfold rlx
      rw [hx, hkk, if_pos ⟨h1, h2, hlt2⟩, hw]
    have hle : numN A o.1 < st.length := by rw [hI.len]; exact hlt
    rw [hw] at hlt2
    rw [e]
    refine ⟨⟨by rw [List.length_set]; exact hI.len, fun i => ?_, fun i => ?_⟩, fun i => ?_, fun _ _ => ?_⟩
    · rw [atD_set _ _ _ _ hle]
      by_cases q : i = numN A o.1
      · rw [if_pos q]; exact .inr ⟨by omega, by omega⟩
      · rw [if_neg q]; exact hbd2 i
    · rw [atD_set _ _ _ _ hle]
      by_cases q : i = numN A o.1
      · rw [if_pos q, q]; exact hdi
      · rw [if_neg q]; exact hI.low i
    · rw [atD_set _ _ _ _ hle]
      by_cases q : i = numN A o.1
      · rw [if_pos q, q]; omega
      · rw [if_neg q]; exact Int.le_refl _
    · rw [atD_set _ _ _ _ hle, if_pos rfl, hx, hkk]; exact Int.le_refl _
  · have e : rlx A b zs st o = st := by
      unfold rlx
      rw [hx, hkk, if_neg (fun hh => hlt2 hh.2.2)]
    rw [e]
    rw [hw] at hlt2
    exact ⟨⟨hI.len, hbd2, hI.low⟩, fun i => Int.le_refl _, fun _ _ => by rw [hx, hkk]; omega⟩
theorem runO_step (hm : mayB A B = true) (hn : (zs.length : Int) = A * B) (hz : AllH zs) (hfit : fitsB A B b.1 b.2.1 b.2.2.1 b.2.2.2 = true) (h : Far (gphB A B b zs) s d) :
    ∀ (l : List (IC × Nat)) (t : Nat) (st : List Int), t + l.length ≤ 1099511627776 → RInv zs.length d t st → (∀ o ∈ l, OkO A B b zs o) →
      RInv zs.length d (t + l.length) (runO A b zs st l) ∧ (∀ i, atD (runO A b zs st l) i ≤ atD st i) ∧
      ∀ o ∈ l, inBx b (stepI o.1 (o.2 : Int)) = true → atD st (numN A (stepI o.1 (o.2 : Int))) ≠ 18446744073709551615 → atD (runO A b zs st l) (numN A o.1) ≤ atD st (numN A (stepI o.1 (o.2 : Int))) + zs.getD (numN A o.1) 0
  | [], t, st, _, hI, _ => ⟨hI, fun i => Int.le_refl _, fun o ho => by cases ho⟩
  | o :: l, t, st, ht, hI, ho => by
    rw [List.length_cons] at ht
    obtain ⟨a1, a2, a3⟩ := rlx_step hm hn hz hfit h (t := t) (by omega) hI (ho o (by simp))
    obtain ⟨b1, b2, b3⟩ := runO_step hm hn hz hfit h l (t + 1) (rlx A b zs st o) (by omega) a1 (fun p hp => ho p (by simp [hp]))
    have e : runO A b zs st (o :: l) = runO A b zs (rlx A b zs st o) l := rfl
    rw [e, List.length_cons, show t + (l.length + 1) = t + 1 + l.length by omega]
    refine ⟨b1, fun i => Int.le_trans (b2 i) (a2 i), fun p hp h1 h2 => ?_⟩
    rcases List.mem_cons.1 hp with rfl | hp
    · exact Int.le_trans (b2 _) (a3 h1 h2)
    · have q := a2 (numN A (stepI p.1 (p.2 : Int)))
      have q2 := hI.bd (numN A (stepI p.1 (p.2 : Int)))
      have := b3 p hp h1 (by omega)
      omega
theorem opsC_len (A : Int) (zs : List Int) (c : IC) : (opsC A zs c).length ≤ 4 := by unfold opsC opsD; split <;> simp
theorem opsX_len (A : Int) (zs : List Int) (X y : Int) : ∀ n, (opsX A zs X y n).length ≤ 4 * n
  | 0 => by simp [opsX]
  | n + 1 => by
    have := opsX_len A zs X y n
    have := opsC_len A zs (X + n, y)
    rw [opsX_succ, List.length_append]; omega
theorem opsY_len (A : Int) (zs : List Int) (X Y : Int) (n : Nat) : ∀ m, (opsY A zs X Y n m).length ≤ 4 * n * m
  | 0 => by simp [opsY]
  | m + 1 => by
    have := opsY_len A zs X Y n m
    have := opsX_len A zs X (Y + m) n
    rw [opsY_succ, List.length_append, Nat.mul_succ]; omega
theorem opsC_mem {c : IC} {o : IC × Nat} : o ∈ opsC A zs c ↔ o.1 = c ∧ zs.getD (numN A c) 0 ≠ 0 ∧ o.2 < 4 := by
  unfold opsC opsD
  split
  · rename_i h; exact ⟨fun q => absurd q (List.not_mem_nil), fun q => absurd h q.2.1⟩
  · rename_i h
    rw [List.mem_map]
    constructor
    · rintro ⟨e, he, rfl⟩
      rw [List.mem_range] at he
      exact ⟨rfl, h, he⟩
    · rintro ⟨rfl, _, h2⟩
      exact ⟨o.2, List.mem_range.2 h2, rfl⟩
theorem opsY_mem {X Y : Int} {n m : Nat} {o : IC × Nat} : o ∈ opsY A zs X Y n m ↔ (X ≤ o.1.1 ∧ o.1.1 < X + n ∧ Y ≤ o.1.2 ∧ o.1.2 < Y + m) ∧ zs.getD (numN A o.1) 0 ≠ 0 ∧ o.2 < 4 := by
  unfold opsY
  rw [List.mem_flatMap]
  constructor
  · rintro ⟨j, hj, h⟩
    rw [List.mem_range] at hj
    unfold opsX at h
    obtain ⟨i, hi, h⟩ := List.mem_flatMap.1 h
    rw [List.mem_range] at hi
    obtain ⟨h1, h2, h3⟩ := opsC_mem.1 h
    rw [h1]
    exact ⟨⟨by show X ≤ X + (i : Int); omega, by show X + (i : Int) < _; omega, by show Y ≤ Y + (j : Int); omega, by show Y + (j : Int) < _; omega⟩, h2, h3⟩
  · rintro ⟨⟨h1, h2, h3, h4⟩, h5, h6⟩
    refine ⟨(o.1.2 - Y).toNat, by rw [List.mem_range]; omega, ?_⟩
    unfold opsX
    rw [List.mem_flatMap]
    refine ⟨(o.1.1 - X).toNat, by rw [List.mem_range]; omega, ?_⟩
    have e : (X + ((o.1.1 - X).toNat : Int), Y + ((o.1.2 - Y).toNat : Int)) = o.1 := Prod.ext (by show X + ((o.1.1 - X).toNat : Int) = _; omega) (by show Y + ((o.1.2 - Y).toNat : Int) = _; omega)
    rw [e]
    exact opsC_mem.2 ⟨rfl, h5, h6⟩
/-- How many are nearer. -/
def rankO (N : Nat) (d : Nat → Int) (i : Nat) : Nat := (List.range N).countP fun j => decide (d j < d i)
theorem count_lt {α : Type} {p q : α → Bool} {x : α} (hpq : ∀ y, p y = true → q y = true) (hq : q x = true) (hp : p x = false) : ∀ l : List α, x ∈ l → l.countP p < l.countP q
  | [], h => by cases h
  | y :: l, h => by
    have hle : l.countP p ≤ l.countP q := List.countP_mono_left fun z _ hz => hpq z hz
    rw [List.countP_cons, List.countP_cons]
    rcases List.mem_cons.1 h with rfl | h
    · rw [hq, hp]; simp; omega
    · have ih := count_lt hpq hq hp l h
      have : (if p y = true then 1 else 0) ≤ (if q y = true then 1 else 0) := by
        by_cases hy : p y = true
        · rw [if_pos hy, if_pos (hpq y hy)]; exact Nat.le_refl _
        · rw [if_neg hy]; exact Nat.zero_le _
      omega
theorem rank_lt {N i j : Nat} (hj : j < N) (h : d j < d i) : rankO N d j < rankO N d i :=
  count_lt (x := j) (fun y hy => by rw [decide_eq_true_eq] at hy ⊢; omega) (by rw [decide_eq_true_eq]; exact h) (by simp) _ (List.mem_range.2 hj)
theorem rank_le (N i : Nat) : rankO N d i ≤ N := by
  unfold rankO
  refine Nat.le_trans List.countP_le_length ?_
  simp
theorem rnd_ok (hm : mayB A B = true) (hfit : fitsB A B b.1 b.2.1 b.2.2.1 b.2.2.2 = true) (hn : (zs.length : Int) = A * B) : ∀ o ∈ opsY A zs b.1 b.2.1 b.2.2.1.toNat b.2.2.2.toNat, OkO A B b zs o := by
  intro o ho
  obtain ⟨⟨h1, h2, h3, h4⟩, h5, h6⟩ := opsY_mem.1 ho
  obtain ⟨f1, f2, f3, f4, f5, f6, f7, f8⟩ := fitsB_iff.1 hfit
  obtain ⟨m1, m2, m3, m4⟩ := mayB_iff.1 hm
  have hin : inBx b o.1 = true := hasB_iff.2 ⟨f1, h1, by omega, h3, by omega⟩
  have hon : onB A B o.1 = true := inB_iff.2 ⟨m1, m2, m3, m4, by omega, by omega, by omega, by omega⟩
  obtain ⟨e1, e2⟩ := numN_int hon
  exact ⟨hon, gphB_opn.2 ⟨by omega, by rw [cellN_num hon]; exact hin, h5⟩, h6⟩
theorem rnd_len (hm : mayB A B = true) (hfit : fitsB A B b.1 b.2.1 b.2.2.1 b.2.2.2 = true) : (opsY A zs b.1 b.2.1 b.2.2.1.toNat b.2.2.2.toNat).length ≤ 262144 := by
  obtain ⟨f1, f2, f3, f4, f5, f6, f7, f8⟩ := fitsB_iff.1 hfit
  obtain ⟨m1, m2, m3, m4⟩ := mayB_iff.1 hm
  have h := opsY_len A zs b.1 b.2.1 b.2.2.1.toNat b.2.2.2.toNat
  have h1 : b.2.2.1.toNat ≤ 256 := by omega
  have h2 : b.2.2.2.toNat ≤ 256 := by omega
  have := Nat.mul_le_mul (Nat.mul_le_mul_left 4 h1) h2
  omega
/-- Behind k rounds all of which k are nearer at most are told right. -/
theorem itO_rank (hm : mayB A B = true) (hn : (zs.length : Int) = A * B) (hz : AllH zs) (hfit : fitsB A B b.1 b.2.1 b.2.2.1 b.2.2.2 = true) {c : IC} (hc : inBx b c = true) (hk : zs.getD (numN A c) 0 ≠ 0) (h : Far (gphB A B b zs) (numN A c) d) :
    ∀ k : Nat, k ≤ 65536 → RInv zs.length d (262144 * k) (itO A b zs (st0 A zs c) k) ∧ ∀ i, d i ≠ 18446744073709551615 → rankO zs.length d i ≤ k → atD (itO A b zs (st0 A zs c) k) i = d i := by
  obtain ⟨f1, f2, f3, f4, f5, f6, f7, f8⟩ := fitsB_iff.1 hfit
  obtain ⟨m1, m2, m3, m4⟩ := mayB_iff.1 hm
  obtain ⟨g1, g2, g3, g4, g5⟩ := hasB_iff.1 hc
  have hon : onB A B c = true := inB_iff.2 ⟨m1, m2, m3, m4, by omega, by omega, by omega, by omega⟩
  obtain ⟨e1, e2⟩ := numN_int hon
  have hlt : numN A c < zs.length := by omega
  have hop : (gphB A B b zs).opn (numN A c) := gphB_opn.2 ⟨hlt, by rw [cellN_num hon]; exact hc, hk⟩
  have hG := gphB_ok (b := b) hm hn hz
  have hs := h.src hop
  have hset : ∀ i, atD (st0 A zs c) i = if i = numN A c then 0 else 18446744073709551615 := fun i => by
    unfold st0
    rw [atD_set _ _ _ _ (by simpa using hlt), atD_repl]
  intro k
  induction k with
  | zero =>
    intro _
    refine ⟨⟨by simp [itO, st0], fun i => ?_, fun i => ?_⟩, fun i hf hr => ?_⟩
    · show atD (st0 A zs c) i = _ ∨ _
      rw [show itO A b zs (st0 A zs c) 0 = st0 A zs c from rfl, hset]
      by_cases q : i = numN A c
      · rw [if_pos q]; exact .inr ⟨by omega, by omega⟩
      · rw [if_neg q]; exact .inl rfl
    · rw [show itO A b zs (st0 A zs c) 0 = st0 A zs c from rfl, hset]
      by_cases q : i = numN A c
      · rw [if_pos q, q, hs]; exact Int.le_refl _
      · rw [if_neg q]; exact h.le_inf i
    · rw [show itO A b zs (st0 A zs c) 0 = st0 A zs c from rfl, hset]
      by_cases q : i = numN A c
      · rw [if_pos q, q, hs]
      · obtain ⟨j, h1, h2, h3, h4⟩ := h.of i q hf
        have := hG.pos1 (h.opn hf)
        have := rank_lt (d := d) (N := zs.length) (i := i) (j := j) (gphB_opn.1 h2).1 (by omega)
        omega
  | succ k ih =>
    intro hkk
    obtain ⟨hI, hr⟩ := ih (by omega)
    have hlen := rnd_len (zs := zs) hm hfit
    obtain ⟨b1, b2, b3⟩ := runO_step hm hn hz hfit h _ (262144 * k) (itO A b zs (st0 A zs c) k) (by omega) hI (rnd_ok hm hfit hn)
    have e : itO A b zs (st0 A zs c) (k + 1) = runO A b zs (itO A b zs (st0 A zs c) k) (opsY A zs b.1 b.2.1 b.2.2.1.toNat b.2.2.2.toNat) := rfl
    rw [e]
    refine ⟨⟨b1.len, fun i => ?_, b1.low⟩, fun i hf hrk => ?_⟩
    · rcases b1.bd i with q | ⟨q1, q2⟩
      · exact .inl q
      · refine .inr ⟨q1, ?_⟩
        omega
    · have hlow := b1.low i
      refine Int.le_antisymm ?_ hlow
      by_cases q : i = numN A c
      · have hsr : atD (itO A b zs (st0 A zs c) k) i = d i := hr i hf (by
          have : rankO zs.length d i = 0 := by
            unfold rankO
            rw [List.countP_eq_zero]
            intro j _
            have := h.ge0 j
            rw [q, hs]
            simp
            omega
          omega)
        rw [← hsr]; exact b2 i
      · obtain ⟨j, h1, h2, h3, h4⟩ := h.of i q hf
        have hoi := h.opn hf
        have hp := hG.pos1 hoi
        have hjl := (gphB_opn.1 h2).1
        have hrj := rank_lt (d := d) (N := zs.length) (i := i) (j := j) hjl (by omega)
        have hdj := hr j h3 (by omega)
        obtain ⟨i1, i2, i3⟩ := gphB_opn.1 hoi
        have hki : (gphB A B b zs).k i = zs.getD i 0 := gphB_k i2
        obtain ⟨e0, e00, e3, eon, enum⟩ := mem_nbL.1 h1
        have hni := numN_cell (i := i) hm (by omega)
        have hjb := (gphB_opn.1 h2).2.1
        have hst : cellN A j = stepI (cellN A i) e0 := by rw [← enum, cellN_num eon]
        have hmem : (cellN A i, e0.toNat) ∈ opsY A zs b.1 b.2.1 b.2.2.1.toNat b.2.2.2.toNat := by
          obtain ⟨u1, u2, u3, u4, u5⟩ := hasB_iff.1 i2
          refine opsY_mem.2 ⟨⟨u2, ?_, u4, ?_⟩, ?_, ?_⟩
          · show (cellN A i).1 < _; omega
          · show (cellN A i).2 < _; omega
          · show zs.getD (numN A (cellN A i)) 0 ≠ 0; rw [hni]; exact i3
          · show e0.toNat < 4; omega
        have h0 := b3 _ hmem
        simp only at h0
        rw [show ((e0.toNat : Nat) : Int) = e0 by omega, ← hst, hni, numN_cell hm (by omega), hdj] at h0
        have := h0 hjb h3
        omega
/-- What is told by definition is what is told. -/
theorem farO_eq (hm : mayB A B = true) (hn : (zs.length : Int) = A * B) (hz : AllH zs) (hfit : fitsB A B b.1 b.2.1 b.2.2.1 b.2.2.2 = true) {c : IC} (hc : inBx b c = true) {ds : List Int} (hl : ds.length = zs.length) (h : Far (gphB A B b zs) (numN A c) (atD ds)) : farO A b zs c = ds := by
  obtain ⟨f1, f2, f3, f4, f5, f6, f7, f8⟩ := fitsB_iff.1 hfit
  obtain ⟨m1, m2, m3, m4⟩ := mayB_iff.1 hm
  obtain ⟨g1, g2, g3, g4, g5⟩ := hasB_iff.1 hc
  have hon : onB A B c = true := inB_iff.2 ⟨m1, m2, m3, m4, by omega, by omega, by omega, by omega⟩
  have hal := area_bd hm
  refine List.ext_getElem (by rw [farO_len, hl]) fun i h1 h2 => ?_
  rw [atD_get h1, atD_get h2]
  unfold farO
  by_cases hk : zs.getD (numN A c) 0 = 0
  · rw [if_pos hk, atD_repl]
    refine (h.nos (fun ho => ?_) i).symm
    exact (gphB_opn.1 ho).2.2 hk
  · rw [if_neg hk]
    obtain ⟨hI, hr⟩ := itO_rank hm hn hz hfit hc hk h zs.length (by omega)
    by_cases hf : atD ds i = 18446744073709551615
    · have q1 := hI.low i
      have q2 := hI.bd i
      rcases q2 with q2 | ⟨q2, q3⟩
      · rw [q2, hf]
      · exfalso; omega
    · exact hr i hf (rank_le _ _)
end
end Go.Proofs.YtgbhafadibdmcaaDoor

/- Least costs: what is told is there; rows of cells appended whole. -/
namespace Go.Proofs.YtgbhafadibdmcaaDoor
open Go.RowKit

theorem addr_addQ (b o k : Nat) : (⟨b, o, none⟩ : Addr).add k = ⟨b, o + k, none⟩ := by unfold Addr.add; split <;> simp_all
/-- What the reference's Far tells is how far cells are. -/
theorem farO_far (A B : Int) (a : Option Addr) (cap : Nat) (zs : List Int) (b : BX) (c : IC) (w : World) (hz : AllH zs) (hr : RowH w a zs) (hs : Stp w) (hn : (zs.length : Int) = A * B) (hf : fitsB A B b.1 b.2.1 b.2.2.1 b.2.2.2 = true) (hc : inBx b c = true) :
    Far (gphB A B b zs) (numN A c) (atD (farO A b zs c)) := by
  have hm := (fitsB_iff.1 hf).2.1
  have h := within_any A B a cap zs b c w hz hr hs
  have hE : errW A B (zs.length : Nat) b c = 0 := by
    unfold errW
    have hck : chkF A B (zs.length : Nat) = 0 := by
      unfold chkF
      rw [if_pos hm, if_pos hn]
    rw [if_pos hck, if_pos ⟨hf, hc⟩]
  obtain ⟨e, w', fr, ⟨⟨_, _, ds, _, _, _, hy⟩, _⟩, _⟩ := h []
  obtain ⟨hl, hfar⟩ := hy hE
  rw [farO_eq hm hn hz hf hc hl hfar]
  exact hfar
theorem flC_one (zs : List IC) : ∀ u ∈ flatC zs, u.oneCell' = true := by
  intro u hu
  simp only [flatC, List.mem_flatMap] at hu
  obtain ⟨z, _, hz⟩ := hu
  simp at hz
  rcases hz with rfl | rfl <;> rfl
theorem flC_cells {W : World} {b o : Nat} : ∀ (zs : List IC), (∀ (i : Nat) (z : IC), zs[i]? = some z → W.cell? ⟨b, o + i * 2, none⟩ = some (.int .i64 z.1) ∧ W.cell? ⟨b, o + i * 2 + 1, none⟩ = some (.int .i64 z.2)) → ∀ (j : Nat) u, (flatC zs)[j]? = some u → W.cell? ⟨b, o + j, none⟩ = some u := by
  intro zs h j u hu
  have hj : j < (flatC zs).length := (List.getElem?_eq_some_iff.1 hu).1
  have hl := flatC_len2 zs
  obtain ⟨z, hz⟩ : ∃ z, zs[j / 2]? = some z := ⟨_, List.getElem?_eq_getElem (by omega)⟩
  obtain ⟨h0, h1⟩ := h _ _ hz
  obtain ⟨e0, e1⟩ := flatC_at zs _ _ hz
  rcases Nat.mod_two_eq_zero_or_one j with m | m
  · rw [show j / 2 * 2 = j by omega] at h0 e0
    rw [hu] at e0; cases e0
    exact h0
  · rw [show j / 2 * 2 + 1 = j by omega] at e1
    rw [show o + j / 2 * 2 + 1 = o + j by omega] at h1
    rw [hu] at e1; cases e1
    exact h1
/-- A row of cells, nil or not, appended whole. -/
theorem wpList_append_rowQ {w : World} {ops : Array Oper} {rest : List Oper} {o : Oper} {a : Act} {Q : Exit → Act → World → Prop} (hgd : o.guard = none) (s x : Operand)
    (ho : o.op = .call { callee := .builtin .append, args := #[s, x], argTypes := #[35, 35] })
    (base : Nat) (v : Value) (n : Nat) (xs : List Value) (hs : a.eval s = v) (hown : w.ownsRow base 30 2 v n xs) (r : Option Addr) (c : Nat) (zs : List IC) (hx : a.eval x = .slice r zs.length c) (hr : RowC w r zs)
    (h63 : n + zs.length ≤ 1048576) (hbase : base ≤ w.heap.size)
    (h : ∀ v' w', w'.ownsRow base 30 2 v' (n + zs.length) (xs ++ flatC zs) → w.grownBy w' v.ownBlock → wpList Tryd.prog ops Q rest (a.put o.dst v') w') : wpList Tryd.prog ops Q (o :: rest) a w := by
  obtain ⟨i0, hi, hz0, hz1, hz2⟩ := info_parts Tryd.infoCell
  cases r with
  | none =>
    have hn : zs = [] := by
      rcases hr with h | ⟨b, o, e, _⟩
      · exact h
      · cases e
    subst hn
    refine wpList_plain hgd fun K hK => ?_
    have hrun := run_append_none_c (P := Tryd.prog) (w := w) base 35 o.type 30 i0 2 c Tryd.underlying35 hi v n xs hown
    unfold Oper.wp
    simp only [List.length_nil] at hx
    simp [execOp, ho, resolve, invoke, builtin, hs, hx, hrun, Result.andThen]
    exact hK _ _ (h v w (by simpa [flatC] using hown) (World.grownBy.refl _ _))
  | some ad =>
    refine wpList_append_own w hgd s x 35 ho base 30 i0 (.agg #[.int .i64 0, .int .i64 0]) 2 16 Tryd.underlying35 hi hz0 hz1 hz2 rfl (by decide) v n xs hs hown ad zs.length c (flatC zs) hx (flatC_len2 zs) ?_ (flC_one zs) (by unfold maxLen; omega) (by omega) hbase (fun v' w' h1 h2 _ => h v' w' h1 h2)
    intro j u hu
    rcases hr with rfl | ⟨b, o, e, hcell⟩
    · simp [flatC] at hu
    · cases e
      rw [addr_addQ]
      exact flC_cells zs hcell j u hu
theorem own_rowC {W : World} {base n c : Nat} {a : Option Addr} {zs : List IC} (h : W.ownsRow base 30 2 (.slice a n c) n (flatC zs)) (hl : zs.length = n) : RowC W a zs := by
  rcases h.2 with ⟨e, h0⟩ | ⟨g, cap, cur, e, hb, hg, _⟩
  · exact .inl (List.eq_nil_of_length_eq_zero (by omega))
  · cases e
    exact rowC_own h
end Go.Proofs.YtgbhafadibdmcaaDoor

/- Least costs: by way of a third cell: the mathematics. -/
namespace Go.Proofs.YtgbhafadibdmcaaDoor
open Go.RowKit

/-- By way of a third cell nothing is nearer; by way of one on the way it is as far. -/
theorem three_le {A B : Int} {zs ds es : List Int} {b : BX} {s i t : Nat} (hm : mayB A B = true) (hn : (zs.length : Int) = A * B) (hz : AllH zs) (h : Far (gphB A B b zs) s (atD ds)) (he : Far (gphB A B b zs) i (atD es)) (hdi : atD ds i ≠ 18446744073709551615) :
    atD ds t ≤ addC (atD ds i) (atD es t) := by
  have h0 := h.ge0 i
  have hl := h.le_inf t
  by_cases hi : atD es t = 18446744073709551615
  · rw [hi]; unfold addC; split <;> omega
  · obtain ⟨h1, h2⟩ := Far.three (gphB_ok hm hn hz) h he hdi t hi
    unfold addC
    split <;> omega
end Go.Proofs.YtgbhafadibdmcaaDoor

/- Tables within a cluster: the costs of a box as a field of its own; how far its cells are within the box is how far they are there. -/
namespace Go.Proofs.YtgbhafadibdmcaaDoor

/-- A cell of a box, from the box's corner on. -/
def relC (X Y : Int) (c : IC) : IC := (c.1 - X, c.2 - Y)
/-- A box's costs, row by row. -/
def ownZ (A : Int) (X Y : Int) (U V : Nat) (zs : List Int) : List Int := (List.range (U * V)).map fun (i : Nat) => zs.getD (numN A ((cellN (U : Int) i).1 + X, (cellN (U : Int) i).2 + Y)) 0
theorem ownZ_len (A X Y : Int) (U V : Nat) (zs : List Int) : (ownZ A X Y U V zs).length = U * V := by simp [ownZ]
theorem ownZ_at {A X Y : Int} {U V : Nat} {zs : List Int} {i : Nat} (h : i < U * V) : (ownZ A X Y U V zs).getD i 0 = zs.getD (numN A ((cellN (U : Int) i).1 + X, (cellN (U : Int) i).2 + Y)) 0 := by
  unfold ownZ
  rw [List.getD_eq_getElem?_getD, List.getElem?_map, List.getElem?_range h]
  rfl
theorem ownZ_in {A X Y : Int} {U V : Nat} {zs : List Int} (h : AllH zs) : AllH (ownZ A X Y U V zs) := by
  intro z hz
  unfold ownZ at hz
  obtain ⟨i, _, rfl⟩ := List.mem_map.1 hz
  exact getD_in h _
/-- A box that lies on a map, in plain words. -/
structure BoxOn (A B X Y : Int) (U V : Nat) : Prop where
  a : 1 ≤ A ∧ A ≤ 256
  b : 1 ≤ B ∧ B ≤ 256
  x : 0 ≤ X ∧ X + U ≤ A
  y : 0 ≤ Y ∧ Y + V ≤ B
  u : 1 ≤ U
  v : 1 ≤ V
section
variable {A B X Y : Int} {U V : Nat} {zs : List Int} {s : Nat} {d : Nat → Int}
theorem BoxOn.fits (h : BoxOn A B X Y U V) : fitsB A B X Y (U : Int) (V : Int) = true := by
  obtain ⟨⟨a1, a2⟩, ⟨b1, b2⟩, ⟨x1, x2⟩, ⟨y1, y2⟩, u, v⟩ := h
  refine fitsB_iff.2 ⟨?_, mayB_iff.2 ⟨a1, a2, b1, b2⟩, by omega, by omega, x1, y1, x2, y2⟩
  simp [rightB]; omega
theorem BoxOn.may (h : BoxOn A B X Y U V) : mayB A B = true := mayB_iff.2 ⟨h.a.1, h.a.2, h.b.1, h.b.2⟩
theorem BoxOn.may2 (h : BoxOn A B X Y U V) : mayB (U : Int) (V : Int) = true := by
  obtain ⟨⟨a1, a2⟩, ⟨b1, b2⟩, ⟨x1, x2⟩, ⟨y1, y2⟩, u, v⟩ := h
  exact mayB_iff.2 ⟨by omega, by omega, by omega, by omega⟩
theorem BoxOn.fits2 (h : BoxOn A B X Y U V) : fitsB (U : Int) (V : Int) 0 0 (U : Int) (V : Int) = true := by
  have hm := h.may2
  obtain ⟨⟨a1, a2⟩, ⟨b1, b2⟩, ⟨x1, x2⟩, ⟨y1, y2⟩, u, v⟩ := h
  refine fitsB_iff.2 ⟨?_, hm, by omega, by omega, by omega, by omega, by omega, by omega⟩
  simp [rightB]; omega
theorem BoxOn.inb (h : BoxOn A B X Y U V) {c : IC} : inBx (X, Y, (U : Int), (V : Int)) c = true ↔ X ≤ c.1 ∧ c.1 < X + U ∧ Y ≤ c.2 ∧ c.2 < Y + V := by
  have hf := (fitsB_iff.1 h.fits).1
  exact hasB_iff.trans ⟨fun q => q.2, fun q => ⟨hf, q⟩⟩
theorem BoxOn.in0 (h : BoxOn A B X Y U V) {c : IC} : inBx (0, 0, (U : Int), (V : Int)) c = true ↔ onB (U : Int) (V : Int) c = true := by
  have hf := (fitsB_iff.1 h.fits2).1
  obtain ⟨m1, m2, m3, m4⟩ := mayB_iff.1 h.may2
  constructor
  · intro q
    obtain ⟨_, q1, q2, q3, q4⟩ := hasB_iff.1 (show hasB 0 0 (U : Int) (V : Int) c.1 c.2 = true from q)
    exact inB_iff.2 ⟨m1, m2, m3, m4, by omega, by omega, by omega, by omega⟩
  · intro q
    obtain ⟨_, _, _, _, q1, q2, q3, q4⟩ := inB_iff.1 q
    exact (show hasB 0 0 (U : Int) (V : Int) c.1 c.2 = true from hasB_iff.2 ⟨hf, by omega, by omega, by omega, by omega⟩)
theorem BoxOn.on (h : BoxOn A B X Y U V) {c : IC} (hc : inBx (X, Y, (U : Int), (V : Int)) c = true) : onB A B c = true ∧ onB (U : Int) (V : Int) (relC X Y c) = true := by
  obtain ⟨q1, q2, q3, q4⟩ := h.inb.1 hc
  obtain ⟨⟨a1, a2⟩, ⟨b1, b2⟩, ⟨x1, x2⟩, ⟨y1, y2⟩, u, v⟩ := h
  refine ⟨inB_iff.2 ⟨a1, a2, b1, b2, by omega, by omega, by omega, by omega⟩, inB_iff.2 ⟨by omega, by omega, by omega, by omega, ?_, ?_, ?_, ?_⟩⟩ <;> (simp only [relC]; omega)
theorem rel_step (c : IC) (e : Int) : relC X Y (stepI c e) = stepI (relC X Y c) e := by
  unfold relC stepI
  exact Prod.ext (by show c.1 + dxI e - X = c.1 - X + dxI e; omega) (by show c.2 + dyI e - Y = c.2 - Y + dyI e; omega)
theorem BoxOn.back (h : BoxOn A B X Y U V) {c : IC} (hc : onB (U : Int) (V : Int) (relC X Y c) = true) : inBx (X, Y, (U : Int), (V : Int)) c = true := by
  obtain ⟨_, _, _, _, q1, q2, q3, q4⟩ := inB_iff.1 hc
  simp only [relC] at q1 q2 q3 q4
  exact h.inb.2 ⟨by omega, by omega, by omega, by omega⟩
theorem BoxOn.num (h : BoxOn A B X Y U V) {c : IC} (hc : inBx (X, Y, (U : Int), (V : Int)) c = true) : numN (U : Int) (relC X Y c) < U * V ∧ (ownZ A X Y U V zs).getD (numN (U : Int) (relC X Y c)) 0 = zs.getD (numN A c) 0 := by
  obtain ⟨h1, h2⟩ := h.on hc
  obtain ⟨e1, e2⟩ := numN_int h2
  have hlt : numN (U : Int) (relC X Y c) < U * V := by
    have : ((numN (U : Int) (relC X Y c) : Nat) : Int) < ((U * V : Nat) : Int) := by rw [e1, Int.natCast_mul]; exact e2
    omega
  refine ⟨hlt, ?_⟩
  rw [ownZ_at hlt, cellN_num h2]
  have : (((relC X Y c).1 + X, (relC X Y c).2 + Y) : IC) = c := Prod.ext (by simp only [relC]; omega) (by simp only [relC]; omega)
  rw [this]
theorem BoxOn.opn (h : BoxOn A B X Y U V) (hn : (zs.length : Int) = A * B) {c : IC} (hc : inBx (X, Y, (U : Int), (V : Int)) c = true) :
    (gphB (U : Int) (V : Int) (0, 0, (U : Int), (V : Int)) (ownZ A X Y U V zs)).opn (numN (U : Int) (relC X Y c)) ↔ (gphB A B (X, Y, (U : Int), (V : Int)) zs).opn (numN A c) := by
  obtain ⟨h1, h2⟩ := h.on hc
  obtain ⟨n1, n2⟩ := h.num (zs := zs) hc
  obtain ⟨e1, e2⟩ := numN_int h1
  rw [gphB_opn, gphB_opn, cellN_num h1, cellN_num h2, ownZ_len, n2]
  constructor
  · rintro ⟨_, _, q⟩; exact ⟨by omega, hc, q⟩
  · rintro ⟨_, _, q⟩; exact ⟨n1, h.in0.2 h2, q⟩
theorem BoxOn.kk (h : BoxOn A B X Y U V) {c : IC} (hc : inBx (X, Y, (U : Int), (V : Int)) c = true) :
    (gphB (U : Int) (V : Int) (0, 0, (U : Int), (V : Int)) (ownZ A X Y U V zs)).k (numN (U : Int) (relC X Y c)) = (gphB A B (X, Y, (U : Int), (V : Int)) zs).k (numN A c) := by
  obtain ⟨h1, h2⟩ := h.on hc
  rw [gphB_k (by rw [cellN_num h2]; exact h.in0.2 h2), gphB_k (by rw [cellN_num h1]; exact hc), (h.num (zs := zs) hc).2]
theorem BoxOn.nb (h : BoxOn A B X Y U V) {c : IC} {e : Int} (h0 : 0 ≤ e) (h3 : e ≤ 3) (hc : inBx (X, Y, (U : Int), (V : Int)) c = true) (hs : inBx (X, Y, (U : Int), (V : Int)) (stepI c e) = true) :
    numN (U : Int) (relC X Y (stepI c e)) ∈ nbL (U : Int) (V : Int) (numN (U : Int) (relC X Y c)) ∧ numN A (stepI c e) ∈ nbL A B (numN A c) := by
  obtain ⟨h1, h2⟩ := h.on hc
  obtain ⟨g1, g2⟩ := h.on hs
  refine ⟨mem_nbL.2 ⟨e, h0, h3, ?_, ?_⟩, mem_nbL.2 ⟨e, h0, h3, ?_, ?_⟩⟩
  · rw [cellN_num h2, ← rel_step]; exact g2
  · rw [cellN_num h2, ← rel_step]
  · rw [cellN_num h1]; exact g1
  · rw [cellN_num h1]
/-- What is told of the box as a field of its own, on the map. -/
def upD (A X Y : Int) (U V : Nat) (d : Nat → Int) (i : Nat) : Int := if inBx (X, Y, (U : Int), (V : Int)) (cellN A i) = true then d (numN (U : Int) (relC X Y (cellN A i))) else 18446744073709551615
theorem far_up (h : BoxOn A B X Y U V) (hn : (zs.length : Int) = A * B) {c : IC} (hc : inBx (X, Y, (U : Int), (V : Int)) c = true)
    (hd : Far (gphB (U : Int) (V : Int) (0, 0, (U : Int), (V : Int)) (ownZ A X Y U V zs)) (numN (U : Int) (relC X Y c)) d) :
    Far (gphB A B (X, Y, (U : Int), (V : Int)) zs) (numN A c) (fun i => if i < zs.length then upD A X Y U V d i else 18446744073709551615) := by
  have hm := h.may
  have hup : ∀ i, i < zs.length → numN A (cellN A i) = i := fun i hi => numN_cell hm (by omega)
  have hnc : ∀ {c : IC}, inBx (X, Y, (U : Int), (V : Int)) c = true → numN A c < zs.length ∧ cellN A (numN A c) = c := fun {c} hc => by
    obtain ⟨h1, _⟩ := h.on hc
    obtain ⟨e1, e2⟩ := numN_int h1
    exact ⟨by omega, cellN_num h1⟩
  have hat : ∀ {c : IC}, inBx (X, Y, (U : Int), (V : Int)) c = true → (if numN A c < zs.length then upD A X Y U V d (numN A c) else 18446744073709551615) = d (numN (U : Int) (relC X Y c)) := fun {c} hc => by
    obtain ⟨e1, e2⟩ := hnc hc
    rw [if_pos e1]; unfold upD; rw [e2, if_pos hc]
  have hno : ∀ i, (if i < zs.length then upD A X Y U V d i else 18446744073709551615) ≠ 18446744073709551615 → ∃ c, inBx (X, Y, (U : Int), (V : Int)) c = true ∧ i = numN A c := fun i hi => by
    split at hi
    · rename_i hl
      unfold upD at hi
      split at hi
      · rename_i hb; exact ⟨_, hb, (hup i hl).symm⟩
      · exact absurd rfl hi
    · exact absurd rfl hi
  have hop : ∀ i, (gphB A B (X, Y, (U : Int), (V : Int)) zs).opn i → ∃ c, inBx (X, Y, (U : Int), (V : Int)) c = true ∧ i = numN A c := fun i hi => by
    obtain ⟨h1, h2, _⟩ := gphB_opn.1 hi
    exact ⟨_, h2, (hup i h1).symm⟩
  refine ⟨fun i => ?_, fun i hi => ?_, fun hs => ?_, fun i j hi hj hij hf => ?_, fun i hi hf => ?_, fun hs i => ?_⟩
  · show (if i < zs.length then upD A X Y U V d i else 18446744073709551615) = _ ∨ _
    by_cases q : (if i < zs.length then upD A X Y U V d i else 18446744073709551615) = 18446744073709551615
    · exact .inl q
    · obtain ⟨c, hc, rfl⟩ := hno i q
      try simp only
      rw [hat hc]
      exact hd.bd _
  · apply Classical.byContradiction
    intro q
    obtain ⟨c, hc, rfl⟩ := hno i q
    try simp only at q
    rw [hat hc] at q
    exact hi ((h.opn hn hc).1 (hd.opn q))
  · try simp only
    rw [hat hc]
    exact hd.src ((h.opn hn hc).2 hs)
  · obtain ⟨ci, hci, rfl⟩ := hop i hi
    obtain ⟨cj, hcj, rfl⟩ := hop j hj
    try simp only at hf ⊢
    rw [hat hcj] at hf ⊢
    rw [hat hci]
    obtain ⟨e, e0, e3, eo, en⟩ := mem_nbL.1 hij
    rw [(hnc hci).2] at eo en
    have hcj2 : stepI ci e = cj := by
      have := congrArg (cellN A) en
      rw [cellN_num eo, (hnc hcj).2] at this
      exact this
    subst hcj2
    have := hd.le _ _ ((h.opn hn hci).2 hi) ((h.opn hn hcj).2 hj) (h.nb e0 e3 hci hcj).1 hf
    rw [h.kk hci] at this
    exact this
  · obtain ⟨ci, hci, rfl⟩ := hno i hf
    try simp only at hf ⊢
    rw [hat hci] at hf
    have hne : numN (U : Int) (relC X Y ci) ≠ numN (U : Int) (relC X Y c) := fun q => by
      have := congrArg (cellN (U : Int)) q
      rw [cellN_num (h.on hci).2, cellN_num (h.on hc).2] at this
      have h1 := (Prod.ext_iff.1 this).1
      have h2 := (Prod.ext_iff.1 this).2
      simp only [relC] at h1 h2
      exact hi (by rw [Prod.ext (show ci.1 = c.1 by omega) (show ci.2 = c.2 by omega)])
    obtain ⟨j, h1, h2, h3, h4⟩ := hd.of _ hne hf
    obtain ⟨e, e0, e3, eo, rfl⟩ := mem_nbL.1 h1
    rw [cellN_num (h.on hci).2, ← rel_step] at eo h2 h3 h4
    have hcj := h.back eo
    refine ⟨numN A (stepI ci e), (h.nb e0 e3 hci hcj).2, (h.opn hn hcj).1 h2, ?_, ?_⟩
    · rw [hat hcj]; exact h3
    · rw [hat hci, hat hcj, ← h.kk hci]; exact h4
  · apply Classical.byContradiction
    intro q
    obtain ⟨ci, hci, rfl⟩ := hno i q
    try simp only at q
    rw [hat hci] at q
    exact q (hd.nos (fun ho => hs ((h.opn hn hc).1 ho)) _)
end
end Go.Proofs.YtgbhafadibdmcaaDoor
