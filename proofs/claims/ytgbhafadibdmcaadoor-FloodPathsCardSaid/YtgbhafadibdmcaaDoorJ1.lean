/- Texts joined: Ow, Cj, Ck, Op, Cl, Cm, Cn, Co, Cp, Cr, Cu, Cz, Cs, Ct, Cx, Xa. -/
import Derived.Test.YtgbhafadibdmcaaDoorRo
import Derived.Laws.AppendOwnNone
import Derived.Test.YtgbhafadibdmcaaDoorCi
import Derived.Test.YtgbhafadibdmcaaDoorOz
import Derived.Test.YtgbhafadibdmcaaDoorCc
/- Rows of one's own of two types lie apart. -/
namespace Go.Proofs.YtgbhafadibdmcaaDoor
open Go.RowKit

/-- Nothing is appended, whatever its room. -/
theorem run_append_none_c {P : Program} {w : World} (base : Nat) (t ty e : TypeId) (i : TypeInfo) (size c : Nat) (ht : P.underlying t = some (.slice e)) (hi : P.info? e = some i)
    (v : Value) (n : Nat) (xs : List Value) (hown : w.ownsRow base e size v n xs) :
    (Builtin.append_ #[t, t] ty #[v, .slice none 0 c]).run P w = .ok v w := by
  rcases hown.2 with ⟨rfl, rfl⟩ | ⟨g, cap, cur, rfl, _, _, hnc, _⟩
  · simp [Builtin.append_, run_underlying ht, sizeOf, typeInfo, hi, Builtin.lenOf, Builtin.firstCells]
  · simp [Builtin.append_, run_underlying ht, sizeOf, typeInfo, hi, Builtin.lenOf, Builtin.firstCells, hnc, storeCells]
theorem own_base {w : World} {base base2 : Nat} {e : TypeId} {size n : Nat} {v : Value} {xs : List Value} (h : w.ownsRow base e size v n xs) (hb : base2 ≤ base) : w.ownsRow base2 e size v n xs := by
  obtain ⟨h1, h2⟩ := h
  refine ⟨h1, ?_⟩
  rcases h2 with h2 | ⟨g, cap, cur, e1, e2, e3, e4, e5, e6, e7⟩
  · exact .inl h2
  · exact .inr ⟨g, cap, cur, e1, Nat.le_trans hb e2, e3, e4, e5, e6, e7⟩
/-- A row of one's own of another type lies where a row grows. -/
theorem own_beside {w w' : World} {base base2 : Nat} {e e2 : TypeId} {size size2 n n2 : Nat} {v v2 : Value} {xs xs2 : List Value} (h : w.ownsRow base e size v n xs) (h2 : w.ownsRow base2 e2 size2 v2 n2 xs2) (hne : e ≠ e2) (hg : w.grownBy w' v.ownBlock) : w'.ownsRow base2 e2 size2 v2 n2 xs2 := by
  obtain ⟨k1, k2⟩ := h2
  refine ⟨k1, ?_⟩
  rcases k2 with k2 | ⟨g2, cap2, cur2, e1, f2, f3, f4, f5, f6, f7⟩
  · exact .inl k2
  · refine .inr ⟨g2, cap2, cur2, e1, f2, ?_, f4, f5, f6, f7⟩
    have hlt : g2 < w.heap.size := (Array.getElem?_eq_some_iff.1 f3).1
    rw [hg.block g2 hlt (fun hh => ?_)]
    · exact f3
    · rcases h.2 with ⟨hv, _⟩ | ⟨g, cap, cur, hv, _, h3, _⟩
      · rw [hv] at hh; cases hh
      · rw [hv] at hh
        simp only [Value.ownBlock, Option.some.injEq] at hh
        rw [← hh, f3] at h3
        simp only [Option.some.injEq, Obj.cells.injEq] at h3
        exact hne h3.2.1.symm
/-- All but the block q lies as it lay. -/
def Gr (q : Nat) (A B : World) : Prop := A.grownBy B (some q)
section
variable {q n p c : Nat} {A B C w : World}
theorem Gr.refl (q : Nat) (A : World) : Gr q A A := ⟨rfl, rfl, rfl, Nat.le_refl _, fun _ _ _ => rfl⟩
theorem Gr.trans (x : Gr q A B) (y : Gr q B C) : Gr q A C := ⟨y.os.trans x.os, y.tape.trans x.tape, y.output.trans x.output, Nat.le_trans x.size y.size, fun k hk hne => (y.block k (Nat.lt_of_lt_of_le hk x.size) hne).trans (x.block k hk hne)⟩
theorem Gr.below (h : Below A.heap.size A B) : Gr q A B := ⟨h.os, h.tape, h.output, h.size, fun k hk _ => h.block k hk⟩
theorem Gr.set (A : World) (q o : Nat) (u : Value) : Gr q A (A.setCell ⟨q, o, none⟩ u) := ⟨rfl, rfl, rfl, by simp, fun k _ hne => Below.heap_setCell _ _ _ k (show k ≠ q from fun e => hne (by rw [e]))⟩
theorem Gr.base (h : Below n w A) (x : Gr q A B) (h1 : n ≤ q) (h2 : n ≤ A.heap.size) : Below n w B := h.grown x h2 (fun r e => by cases e; exact h1)
theorem Gr.cell {k o : Nat} {v : Value} (x : Gr q A B) (h : A.cell? ⟨k, o, none⟩ = some v) (hk : k ≠ q) : B.cell? ⟨k, o, none⟩ = some v :=
  (World.cell?_of_block (a := ⟨k, o, none⟩) (x.block k (blk_lt h) (fun e => by cases e; exact hk rfl))).trans h
end
end Go.Proofs.YtgbhafadibdmcaaDoor

/- Least costs: within a box, and on the whole map. -/
namespace Go.Proofs.YtgbhafadibdmcaaDoor
open Go.RowKit

/-- What is wrong. -/
def errW (A B n : Int) (b : BX) (c : IC) : Int := if chkF A B n = 0 then (if fitsB A B b.1 b.2.1 b.2.2.1 b.2.2.2 = true ∧ inBx b c = true then 0 else 10) else chkF A B n
/-- What is told within a box, or nothing. -/
def WinR (A B : Int) (zs : List Int) (b : BX) (c : IC) (e : Ending) (W : World) : Prop :=
  ∃ (a : Option Addr) (cap : Nat) (ds : List Int), e = .returned (.tuple #[.slice a ds.length cap, .int .i64 (errW A B zs.length b c)]) ∧ RowU W a ds ∧ (errW A B zs.length b c ≠ 0 → ds = []) ∧
    (errW A B zs.length b c = 0 → ds.length = zs.length ∧ Far (gphB A B b zs) (numN A c) (atD ds))
theorem errW_ok {A B n : Int} {b : BX} {c : IC} (h : errW A B n b c = 0) : chkF A B n = 0 ∧ fitsB A B b.1 b.2.1 b.2.2.1 b.2.2.2 = true ∧ inBx b c = true := by
  unfold errW at h
  split at h
  · split at h
    · rename_i h1 h2; exact ⟨h1, h2.1, h2.2⟩
    · cases h
  · exact absurd h (by assumption)
theorem chkF_may {A B n : Int} (h : chkF A B n = 0) : mayB A B = true ∧ n = A * B := by
  unfold chkF at h
  split at h
  · rename_i hm
    split at h
    · rename_i hn; exact ⟨hm, hn⟩
    · cases h
  · cases h
theorem box_on {A B : Int} {b : BX} {c : IC} (hf : fitsB A B b.1 b.2.1 b.2.2.1 b.2.2.2 = true) (hh : inBx b c = true) : onB A B c = true := by
  obtain ⟨f1, f2, f3, f4, f5, f6, f7, f8⟩ := fitsB_iff.1 hf
  obtain ⟨g1, g2, g3, g4, g5⟩ := hasB_iff.1 hh
  obtain ⟨m1, m2, m3, m4⟩ := mayB_iff.1 f2
  exact inB_iff.2 ⟨m1, m2, m3, m4, by omega, by omega, by omega, by omega⟩

set_option maxRecDepth 100000 in
set_option maxHeartbeats 4000000 in
theorem within_any (A B : Int) (a : Option Addr) (cap : Nat) (zs : List Int) (b : BX) (c : IC) (w : World) (hz : AllH zs) (hr : RowH w a zs) (hst : Stp w) :
    Calls Tryd.prog 30 #[.agg #[.int .i64 A, .int .i64 B, .slice a zs.length cap], .agg #[.int .i64 b.1, .int .i64 b.2.1, .int .i64 b.2.2.1, .int .i64 b.2.2.2], .agg #[.int .i64 c.1, .int .i64 c.2]] w fun e w' => WinR A B zs b c e w' ∧ Below w.heap.size w w' := by
  have hA := bl0 w
  obtain ⟨E, hE⟩ : ∃ E, errW A B zs.length b c = E := ⟨_, rfl⟩
  have HE := Lib.hid hE
  unfold WinR
  rw [hE]
  obtain ⟨chk, hchk⟩ : ∃ chk, chkF A B zs.length = chk := ⟨_, rfl⟩
  have HC := Lib.hid hchk
  unfold errW at hE
  rw [hchk] at hE
  by_cases h0 : chk = 0
  · rw [if_pos h0] at hE
    subst h0
    obtain ⟨hmay, hn⟩ := chkF_may hchk
    have HN := Lib.hid hn
    obtain ⟨X, Y, U, V⟩ := b
    dsimp only at hE ⊢
    clear hchk hn
    by_cases hf : fitsB A B X Y U V = true
    · by_cases hh : inBx (X, Y, U, V) c = true
      · rw [if_pos ⟨hf, hh⟩] at hE
        subst hE
        have hon := box_on (b := (X, Y, U, V)) hf hh
        have hh2 : hasB X Y U V c.1 c.2 = true := hh
        have hnl := numN_at hon HN.out
        go_enter Tryd.func30, Tryd.ntmps30
        go_wp2_with fail
        refine (check_any _ _ _ _ _ _).mono ?_
        rintro e w1 ⟨rfl, hb⟩
        have hk : Below w.heap.size w w1 := by first | exact hb | exact bl_tr (bl_al (bl0 _) _) hb | exact bl_tr (bl_dr (bl_al (bl0 _) _)) hb | exact bl_tr (bl_al (bl_al (bl0 _) _) _) hb | exact bl_tr (bl_dr (bl_al (bl_al (bl0 _) _) _)) hb | exact bl_tr (bl_al (bl_al (bl_al (bl0 _) _) _) _) hb | exact bl_tr (bl_dr (bl_al (bl_al (bl_al (bl0 _) _) _) _)) hb | exact bl_tr (bl_al (bl_al (bl_al (bl_al (bl0 _) _) _) _) _) hb | exact bl_tr (bl_dr (bl_al (bl_al (bl_al (bl_al (bl0 _) _) _) _) _)) hb | exact bl_tr (bl_al (bl_al (bl_al (bl_al (bl_al (bl0 _) _) _) _) _) _) hb | exact bl_tr (bl_dr (bl_al (bl_al (bl_al (bl_al (bl_al (bl0 _) _) _) _) _) _)) hb | exact bl_tr (bl_al (bl_al (bl_al (bl_al (bl_al (bl_al (bl0 _) _) _) _) _) _) _) hb | exact bl_tr (bl_dr (bl_al (bl_al (bl_al (bl_al (bl_al (bl_al (bl0 _) _) _) _) _) _) _)) hb | exact bl_tr (bl_dr (bl0 _)) hb
        replace hA := bl_tr hA hk
        have f0 := cell_later hb (v := .int .i64 A) (a := ⟨w.heap.size, 0, none⟩) (by simp [go_sem])
        have f1 := cell_later hb (v := .int .i64 B) (a := ⟨w.heap.size, 1, none⟩) (by simp [go_sem])
        have f2 := cell_later hb (v := .slice a zs.length cap) (a := ⟨w.heap.size, 2, none⟩) (by simp [go_sem])
        have g0 := cell_later hb (v := .int .i64 X) (a := ⟨w.heap.size + 1, 0, none⟩) (by simp [go_sem])
        have g1 := cell_later hb (v := .int .i64 Y) (a := ⟨w.heap.size + 1, 1, none⟩) (by simp [go_sem])
        have g2 := cell_later hb (v := .int .i64 U) (a := ⟨w.heap.size + 1, 2, none⟩) (by simp [go_sem])
        have g3 := cell_later hb (v := .int .i64 V) (a := ⟨w.heap.size + 1, 3, none⟩) (by simp [go_sem])
        have h0 := cell_later hb (v := .int .i64 c.1) (a := ⟨w.heap.size + 1 + 1, 0, none⟩) (by simp [go_sem])
        have h1 := cell_later hb (v := .int .i64 c.2) (a := ⟨w.heap.size + 1 + 1, 1, none⟩) (by simp [go_sem])
        clear hb hk
        have zf0 := blk_lt f0
        have zf1 := blk_lt f1
        have zf2 := blk_lt f2
        have zg0 := blk_lt g0
        have zg1 := blk_lt g1
        have zg2 := blk_lt g2
        have zg3 := blk_lt g3
        have zh0 := blk_lt h0
        have zh1 := blk_lt h1
        rw [HC.out]
        go_wp2_with fail
        refine (fits_any _ _ _ _ _ _ _).mono ?_
        rintro e w2 ⟨rfl, hb⟩
        have hk : Below w1.heap.size w1 w2 := by first | exact hb | exact bl_tr (bl_al (bl0 _) _) hb | exact bl_tr (bl_dr (bl_al (bl0 _) _)) hb | exact bl_tr (bl_al (bl_al (bl0 _) _) _) hb | exact bl_tr (bl_dr (bl_al (bl_al (bl0 _) _) _)) hb | exact bl_tr (bl_al (bl_al (bl_al (bl0 _) _) _) _) hb | exact bl_tr (bl_dr (bl_al (bl_al (bl_al (bl0 _) _) _) _)) hb | exact bl_tr (bl_al (bl_al (bl_al (bl_al (bl0 _) _) _) _) _) hb | exact bl_tr (bl_dr (bl_al (bl_al (bl_al (bl_al (bl0 _) _) _) _) _)) hb | exact bl_tr (bl_al (bl_al (bl_al (bl_al (bl_al (bl0 _) _) _) _) _) _) hb | exact bl_tr (bl_dr (bl_al (bl_al (bl_al (bl_al (bl_al (bl0 _) _) _) _) _) _)) hb | exact bl_tr (bl_al (bl_al (bl_al (bl_al (bl_al (bl_al (bl0 _) _) _) _) _) _) _) hb | exact bl_tr (bl_dr (bl_al (bl_al (bl_al (bl_al (bl_al (bl_al (bl0 _) _) _) _) _) _) _)) hb | exact bl_tr (bl_dr (bl0 _)) hb
        replace hA := bl_tr hA hk
        replace f0 := cell_later hk f0
        replace f1 := cell_later hk f1
        replace f2 := cell_later hk f2
        replace g0 := cell_later hk g0
        replace g1 := cell_later hk g1
        replace g2 := cell_later hk g2
        replace g3 := cell_later hk g3
        replace h0 := cell_later hk h0
        replace h1 := cell_later hk h1
        clear hb hk
        have zf0 := blk_lt f0
        have zf1 := blk_lt f1
        have zf2 := blk_lt f2
        have zg0 := blk_lt g0
        have zg1 := blk_lt g1
        have zg2 := blk_lt g2
        have zg3 := blk_lt g3
        have zh0 := blk_lt h0
        have zh1 := blk_lt h1
        rw [hf]
        go_wp2_with fail
        refine (has_any _ _ _ _ _ _ _).mono ?_
        rintro e w3 ⟨rfl, hb⟩
        have hk : Below w2.heap.size w2 w3 := by first | exact hb | exact bl_tr (bl_al (bl0 _) _) hb | exact bl_tr (bl_dr (bl_al (bl0 _) _)) hb | exact bl_tr (bl_al (bl_al (bl0 _) _) _) hb | exact bl_tr (bl_dr (bl_al (bl_al (bl0 _) _) _)) hb | exact bl_tr (bl_al (bl_al (bl_al (bl0 _) _) _) _) hb | exact bl_tr (bl_dr (bl_al (bl_al (bl_al (bl0 _) _) _) _)) hb | exact bl_tr (bl_al (bl_al (bl_al (bl_al (bl0 _) _) _) _) _) hb | exact bl_tr (bl_dr (bl_al (bl_al (bl_al (bl_al (bl0 _) _) _) _) _)) hb | exact bl_tr (bl_al (bl_al (bl_al (bl_al (bl_al (bl0 _) _) _) _) _) _) hb | exact bl_tr (bl_dr (bl_al (bl_al (bl_al (bl_al (bl_al (bl0 _) _) _) _) _) _)) hb | exact bl_tr (bl_al (bl_al (bl_al (bl_al (bl_al (bl_al (bl0 _) _) _) _) _) _) _) hb | exact bl_tr (bl_dr (bl_al (bl_al (bl_al (bl_al (bl_al (bl_al (bl0 _) _) _) _) _) _) _)) hb | exact bl_tr (bl_dr (bl0 _)) hb
        replace hA := bl_tr hA hk
        replace f0 := cell_later hk f0
        replace f1 := cell_later hk f1
        replace f2 := cell_later hk f2
        replace g0 := cell_later hk g0
        replace g1 := cell_later hk g1
        replace g2 := cell_later hk g2
        replace g3 := cell_later hk g3
        replace h0 := cell_later hk h0
        replace h1 := cell_later hk h1
        clear hb hk
        have zf0 := blk_lt f0
        have zf1 := blk_lt f1
        have zf2 := blk_lt f2
        have zg0 := blk_lt g0
        have zg1 := blk_lt g1
        have zg2 := blk_lt g2
        have zg3 := blk_lt g3
        have zh0 := blk_lt h0
        have zh1 := blk_lt h1
        rw [hh2]
        have hcut := fun W (h : RowH W a zs) => cut_any A B a cap zs (X, Y, U, V) W hmay HN.out hf h
        have hnum := fun W => number_any A B a zs.length cap c W hon
        have hr3 := hr.below hA
        have hs3 := hst.below hA
        have hD := bl_dr (bl0 w3)
        have hlen := cutL_len A (X, Y, U, V) zs
        go_wp2
        refine (wpIn_wide (n := 11)).1 ?_
        refine ordS_begin (S := (fun w' : World => w'.cell? ⟨w.heap.size, 0, none⟩ = some (.int .i64 A) ∧ w'.cell? ⟨w.heap.size, 1, none⟩ = some (.int .i64 B) ∧ w'.cell? ⟨w.heap.size, 2, none⟩ = some (.slice a zs.length cap) ∧ w'.cell? ⟨w.heap.size + 1, 0, none⟩ = some (.int .i64 X) ∧ w'.cell? ⟨w.heap.size + 1, 1, none⟩ = some (.int .i64 Y) ∧ w'.cell? ⟨w.heap.size + 1, 2, none⟩ = some (.int .i64 U) ∧ w'.cell? ⟨w.heap.size + 1, 3, none⟩ = some (.int .i64 V) ∧ w'.cell? ⟨w.heap.size + 1 + 1, 0, none⟩ = some (.int .i64 c.1) ∧ w'.cell? ⟨w.heap.size + 1 + 1, 1, none⟩ = some (.int .i64 c.2))) (by kernel_rfl) ⟨cell_later hD f0, cell_later hD f1, cell_later hD f2, cell_later hD g0, cell_later hD g1, cell_later hD g2, cell_later hD g3, cell_later hD h0, cell_later hD h1⟩ (fun hH => ?_)
        first
          | (refine' ordS_take (i := 0) (oi := { dst := some 25, op := Op.load 26 (Operand.tmp 3), type := 26, pos := _, after := #[], guard := none }) (v := _) rfl (by kernel_rfl) (by kernel_rfl) (by kernel_rfl) (by kernel_rfl) (fun _ _ _ h => h) (by assumption) (Or.inl ⟨by rfl, ?hy98⟩) (fun _ => rfl) ?rest98
             case hy98 => (intro w hSw; (try dsimp only at hSw); go_simp; try with_reducible rfl))
          | (refine ordS_take (i := 0) (oi := { dst := some 25, op := Op.load 26 (Operand.tmp 3), type := 26, pos := _, after := #[], guard := none }) (v := undef) rfl (by kernel_rfl) (by kernel_rfl) (by kernel_rfl) (by kernel_rfl) (fun _ _ _ h => h) (by assumption) (Or.inr ⟨by rfl, rfl⟩) (fun _ => rfl) ?_)
        try simp only [Act.put, List.setIfInBounds_toArray, List.set_cons_zero, List.set_cons_succ]
        first
          | (refine' ordS_take (i := 1) (oi := { dst := some 26, op := Op.load 28 (Operand.tmp 4), type := 28, pos := _, after := #[], guard := none }) (v := _) rfl (by kernel_rfl) (by kernel_rfl) (by kernel_rfl) (by kernel_rfl) (fun _ _ _ h => h) (by assumption) (Or.inl ⟨by rfl, ?hy99⟩) (fun _ => rfl) ?rest99
             case hy99 => (intro w hSw; (try dsimp only at hSw); go_simp; try with_reducible rfl))
          | (refine ordS_take (i := 1) (oi := { dst := some 26, op := Op.load 28 (Operand.tmp 4), type := 28, pos := _, after := #[], guard := none }) (v := undef) rfl (by kernel_rfl) (by kernel_rfl) (by kernel_rfl) (by kernel_rfl) (fun _ _ _ h => h) (by assumption) (Or.inr ⟨by rfl, rfl⟩) (fun _ => rfl) ?_)
        try simp only [Act.put, List.setIfInBounds_toArray, List.set_cons_zero, List.set_cons_succ]
        first
          | (refine' ordS_take (i := 3) (oi := { dst := some 28, op := Op.load 26 (Operand.tmp 3), type := 26, pos := _, after := #[], guard := none }) (v := _) rfl (by kernel_rfl) (by kernel_rfl) (by kernel_rfl) (by kernel_rfl) (fun _ _ _ h => h) (by assumption) (Or.inl ⟨by rfl, ?hy100⟩) (fun _ => rfl) ?rest100
             case hy100 => (intro w hSw; (try dsimp only at hSw); go_simp; try with_reducible rfl))
          | (refine ordS_take (i := 3) (oi := { dst := some 28, op := Op.load 26 (Operand.tmp 3), type := 26, pos := _, after := #[], guard := none }) (v := undef) rfl (by kernel_rfl) (by kernel_rfl) (by kernel_rfl) (by kernel_rfl) (fun _ _ _ h => h) (by assumption) (Or.inr ⟨by rfl, rfl⟩) (fun _ => rfl) ?_)
        try simp only [Act.put, List.setIfInBounds_toArray, List.set_cons_zero, List.set_cons_succ]
        first
          | (refine' ordS_take (i := 4) (oi := { dst := some 29, op := Op.load 30 (Operand.tmp 5), type := 30, pos := _, after := #[], guard := none }) (v := _) rfl (by kernel_rfl) (by kernel_rfl) (by kernel_rfl) (by kernel_rfl) (fun _ _ _ h => h) (by assumption) (Or.inl ⟨by rfl, ?hy101⟩) (fun _ => rfl) ?rest101
             case hy101 => (intro w hSw; (try dsimp only at hSw); go_simp; try with_reducible rfl))
          | (refine ordS_take (i := 4) (oi := { dst := some 29, op := Op.load 30 (Operand.tmp 5), type := 30, pos := _, after := #[], guard := none }) (v := undef) rfl (by kernel_rfl) (by kernel_rfl) (by kernel_rfl) (by kernel_rfl) (fun _ _ _ h => h) (by assumption) (Or.inr ⟨by rfl, rfl⟩) (fun _ => rfl) ?_)
        try simp only [Act.put, List.setIfInBounds_toArray, List.set_cons_zero, List.set_cons_succ]
        refine ordS_one (i := 2) (o := { dst := some 27, op := Op.call { callee := Callee.value (Operand.func 55), args := #[Operand.tmp 25, Operand.tmp 26], argTypes := #[26, 28] }, type := 26, pos := _, after := #[{ on := 0, ground := Ground.data }, { on := 1, ground := Ground.data }], guard := none }) (by kernel_rfl) rfl (by rfl) (fun K hK => ?_)
        go_simp
        refine ⟨trivial, ?_⟩
        with_reducible refine (callsIn_wide.2 (hcut _ (hr3.below hD))).mono ?_
        rintro e W4 ⟨g, rfl, hrow, hb4⟩
        replace hD := bl_tr hD hb4
        refine hK _ _ ⟨cell_later hD f0, cell_later hD f1, cell_later hD f2, cell_later hD g0, cell_later hD g1, cell_later hD g2, cell_later hD g3, cell_later hD h0, cell_later hD h1⟩ ?_
        clear hK K hb4
        try simp only [Act.put, List.setIfInBounds_toArray, List.set_cons_zero, List.set_cons_succ]
        refine ordS_one (i := 5) (o := { dst := some 30, op := Op.call { callee := Callee.value (Operand.func 32), args := #[Operand.tmp 28, Operand.tmp 29], argTypes := #[26, 30] }, type := 3, pos := _, after := #[{ on := 3, ground := Ground.data }, { on := 4, ground := Ground.data }, { on := 2, ground := Ground.chain }], guard := none }) (by kernel_rfl) rfl (by rfl) (fun K hK => ?_)
        go_simp
        refine ⟨trivial, ?_⟩
        with_reducible refine (callsIn_wide.2 (hnum _)).mono ?_
        rintro e W5 ⟨rfl, hb5⟩
        replace hD := bl_tr hD hb5
        replace hrow := hrow.below hb5
        refine hK _ _ ⟨cell_later hD f0, cell_later hD f1, cell_later hD f2, cell_later hD g0, cell_later hD g1, cell_later hD g2, cell_later hD g3, cell_later hD h0, cell_later hD h1⟩ ?_
        clear hK K hb5
        try simp only [Act.put, List.setIfInBounds_toArray, List.set_cons_zero, List.set_cons_succ]
        have hspr := spread_any A B (some ⟨g, 0, none⟩) zs.length (cutL A (X, Y, U, V) zs) (numN A c) W5 hmay (by rw [hlen]; exact HN.out) (cutL_in hz) hrow (hs3.below hD) (by rw [hlen]; exact hnl)
        rw [hlen] at hspr
        refine ordS_one (i := 6) (o := { dst := some 31, op := Op.call { callee := Callee.value (Operand.func 54), args := #[Operand.tmp 27, Operand.tmp 30], argTypes := #[26, 3] }, type := 42, pos := _, after := #[{ on := 2, ground := Ground.data }, { on := 5, ground := Ground.data }, { on := 5, ground := Ground.chain }], guard := none }) (by kernel_rfl) rfl (by rfl) (fun K hK => ?_)
        go_simp
        refine ⟨trivial, ?_⟩
        with_reducible refine (callsIn_wide.2 hspr).mono ?_
        rintro e W6 ⟨gd, ds, rfl, hdl, hru, hfar, hb6⟩
        replace hD := bl_tr hD hb6
        have hS6 : W6.cell? ⟨w.heap.size, 0, none⟩ = some (.int .i64 A) ∧ W6.cell? ⟨w.heap.size, 1, none⟩ = some (.int .i64 B) ∧ W6.cell? ⟨w.heap.size, 2, none⟩ = some (.slice a zs.length cap) ∧ W6.cell? ⟨w.heap.size + 1, 0, none⟩ = some (.int .i64 X) ∧ W6.cell? ⟨w.heap.size + 1, 1, none⟩ = some (.int .i64 Y) ∧ W6.cell? ⟨w.heap.size + 1, 2, none⟩ = some (.int .i64 U) ∧ W6.cell? ⟨w.heap.size + 1, 3, none⟩ = some (.int .i64 V) ∧ W6.cell? ⟨w.heap.size + 1 + 1, 0, none⟩ = some (.int .i64 c.1) ∧ W6.cell? ⟨w.heap.size + 1 + 1, 1, none⟩ = some (.int .i64 c.2) := ⟨cell_later hD f0, cell_later hD f1, cell_later hD f2, cell_later hD g0, cell_later hD g1, cell_later hD g2, cell_later hD g3, cell_later hD h0, cell_later hD h1⟩
        refine hK _ _ hS6 ?_
        clear hK K hb6
        try simp only [Act.put, List.setIfInBounds_toArray, List.set_cons_zero, List.set_cons_succ]
        first
          | (refine' ordS_take (i := 7) (oi := { dst := some 6, op := Op.assign (Operand.tmp 31), type := 42, pos := _, after := #[{ on := 6, ground := Ground.data }, { on := 6, ground := Ground.chain }, { on := 0, ground := Ground.phase }, { on := 1, ground := Ground.phase }, { on := 2, ground := Ground.phase }, { on := 3, ground := Ground.phase }, { on := 4, ground := Ground.phase }, { on := 5, ground := Ground.phase }, { on := 6, ground := Ground.phase }], guard := none }) (v := _) rfl (by kernel_rfl) (by kernel_rfl) (by kernel_rfl) (by kernel_rfl) (fun _ _ _ h => h) (by assumption) (Or.inl ⟨by rfl, ?hy102⟩) (fun _ => rfl) ?rest102
             case hy102 => (intro w hSw; (try dsimp only at hSw); go_simp; try with_reducible rfl))
          | (refine ordS_take (i := 7) (oi := { dst := some 6, op := Op.assign (Operand.tmp 31), type := 42, pos := _, after := #[{ on := 6, ground := Ground.data }, { on := 6, ground := Ground.chain }, { on := 0, ground := Ground.phase }, { on := 1, ground := Ground.phase }, { on := 2, ground := Ground.phase }, { on := 3, ground := Ground.phase }, { on := 4, ground := Ground.phase }, { on := 5, ground := Ground.phase }, { on := 6, ground := Ground.phase }], guard := none }) (v := undef) rfl (by kernel_rfl) (by kernel_rfl) (by kernel_rfl) (by kernel_rfl) (fun _ _ _ h => h) (by assumption) (Or.inr ⟨by rfl, rfl⟩) (fun _ => rfl) ?_)
        try simp only [Act.put, List.setIfInBounds_toArray, List.set_cons_zero, List.set_cons_succ]
        first
          | (refine' ordS_take (i := 8) (oi := { dst := some 7, op := Op.assign (Operand.const (Value.int IntKind.i64 0)), type := 37, pos := _, after := #[{ on := 7, ground := Ground.chain }, { on := 0, ground := Ground.phase }, { on := 1, ground := Ground.phase }, { on := 2, ground := Ground.phase }, { on := 3, ground := Ground.phase }, { on := 4, ground := Ground.phase }, { on := 5, ground := Ground.phase }, { on := 6, ground := Ground.phase }, { on := 7, ground := Ground.phase }], guard := none }) (v := _) rfl (by kernel_rfl) (by kernel_rfl) (by kernel_rfl) (by kernel_rfl) (fun _ _ _ h => h) (by assumption) (Or.inl ⟨by rfl, ?hy103⟩) (fun _ => rfl) ?rest103
             case hy103 => (intro w hSw; (try dsimp only at hSw); go_simp; try with_reducible rfl))
          | (refine ordS_take (i := 8) (oi := { dst := some 7, op := Op.assign (Operand.const (Value.int IntKind.i64 0)), type := 37, pos := _, after := #[{ on := 7, ground := Ground.chain }, { on := 0, ground := Ground.phase }, { on := 1, ground := Ground.phase }, { on := 2, ground := Ground.phase }, { on := 3, ground := Ground.phase }, { on := 4, ground := Ground.phase }, { on := 5, ground := Ground.phase }, { on := 6, ground := Ground.phase }, { on := 7, ground := Ground.phase }], guard := none }) (v := undef) rfl (by kernel_rfl) (by kernel_rfl) (by kernel_rfl) (by kernel_rfl) (fun _ _ _ h => h) (by assumption) (Or.inr ⟨by rfl, rfl⟩) (fun _ => rfl) ?_)
        try simp only [Act.put, List.setIfInBounds_toArray, List.set_cons_zero, List.set_cons_succ]
        refine ordS_done (by kernel_rfl) ?_
        have HD := Lib.hid (bl_tr hA hD)
        have HRU := Lib.hid hru
        have HDL := Lib.hid hdl
        clear hD hru hlen hdl
        go_wp2
        go_ret2
        exact ⟨⟨some ⟨gd, 0, none⟩, zs.length, ds, by rw [HDL.out]; rfl, HRU.out, fun h => absurd rfl h, fun _ => ⟨HDL.out, hfar⟩⟩, HD.out⟩
      · rw [if_neg (fun h => hh h.2)] at hE
        subst hE
        have hh2 : hasB X Y U V c.1 c.2 = false := by
          have : ¬ hasB X Y U V c.1 c.2 = true := hh
          simpa using this
        go_enter Tryd.func30, Tryd.ntmps30
        go_wp2_with fail
        refine (check_any _ _ _ _ _ _).mono ?_
        rintro e w1 ⟨rfl, hb⟩
        have hk : Below w.heap.size w w1 := by first | exact hb | exact bl_tr (bl_al (bl0 _) _) hb | exact bl_tr (bl_dr (bl_al (bl0 _) _)) hb | exact bl_tr (bl_al (bl_al (bl0 _) _) _) hb | exact bl_tr (bl_dr (bl_al (bl_al (bl0 _) _) _)) hb | exact bl_tr (bl_al (bl_al (bl_al (bl0 _) _) _) _) hb | exact bl_tr (bl_dr (bl_al (bl_al (bl_al (bl0 _) _) _) _)) hb | exact bl_tr (bl_al (bl_al (bl_al (bl_al (bl0 _) _) _) _) _) hb | exact bl_tr (bl_dr (bl_al (bl_al (bl_al (bl_al (bl0 _) _) _) _) _)) hb | exact bl_tr (bl_al (bl_al (bl_al (bl_al (bl_al (bl0 _) _) _) _) _) _) hb | exact bl_tr (bl_dr (bl_al (bl_al (bl_al (bl_al (bl_al (bl0 _) _) _) _) _) _)) hb | exact bl_tr (bl_al (bl_al (bl_al (bl_al (bl_al (bl_al (bl0 _) _) _) _) _) _) _) hb | exact bl_tr (bl_dr (bl_al (bl_al (bl_al (bl_al (bl_al (bl_al (bl0 _) _) _) _) _) _) _)) hb | exact bl_tr (bl_dr (bl0 _)) hb
        replace hA := bl_tr hA hk
        have f0 := cell_later hb (v := .int .i64 A) (a := ⟨w.heap.size, 0, none⟩) (by simp [go_sem])
        have f1 := cell_later hb (v := .int .i64 B) (a := ⟨w.heap.size, 1, none⟩) (by simp [go_sem])
        have f2 := cell_later hb (v := .slice a zs.length cap) (a := ⟨w.heap.size, 2, none⟩) (by simp [go_sem])
        have g0 := cell_later hb (v := .int .i64 X) (a := ⟨w.heap.size + 1, 0, none⟩) (by simp [go_sem])
        have g1 := cell_later hb (v := .int .i64 Y) (a := ⟨w.heap.size + 1, 1, none⟩) (by simp [go_sem])
        have g2 := cell_later hb (v := .int .i64 U) (a := ⟨w.heap.size + 1, 2, none⟩) (by simp [go_sem])
        have g3 := cell_later hb (v := .int .i64 V) (a := ⟨w.heap.size + 1, 3, none⟩) (by simp [go_sem])
        have h0 := cell_later hb (v := .int .i64 c.1) (a := ⟨w.heap.size + 1 + 1, 0, none⟩) (by simp [go_sem])
        have h1 := cell_later hb (v := .int .i64 c.2) (a := ⟨w.heap.size + 1 + 1, 1, none⟩) (by simp [go_sem])
        clear hb hk
        have zf0 := blk_lt f0
        have zf1 := blk_lt f1
        have zf2 := blk_lt f2
        have zg0 := blk_lt g0
        have zg1 := blk_lt g1
        have zg2 := blk_lt g2
        have zg3 := blk_lt g3
        have zh0 := blk_lt h0
        have zh1 := blk_lt h1
        rw [HC.out]
        go_wp2_with fail
        refine (fits_any _ _ _ _ _ _ _).mono ?_
        rintro e w2 ⟨rfl, hb⟩
        have hk : Below w1.heap.size w1 w2 := by first | exact hb | exact bl_tr (bl_al (bl0 _) _) hb | exact bl_tr (bl_dr (bl_al (bl0 _) _)) hb | exact bl_tr (bl_al (bl_al (bl0 _) _) _) hb | exact bl_tr (bl_dr (bl_al (bl_al (bl0 _) _) _)) hb | exact bl_tr (bl_al (bl_al (bl_al (bl0 _) _) _) _) hb | exact bl_tr (bl_dr (bl_al (bl_al (bl_al (bl0 _) _) _) _)) hb | exact bl_tr (bl_al (bl_al (bl_al (bl_al (bl0 _) _) _) _) _) hb | exact bl_tr (bl_dr (bl_al (bl_al (bl_al (bl_al (bl0 _) _) _) _) _)) hb | exact bl_tr (bl_al (bl_al (bl_al (bl_al (bl_al (bl0 _) _) _) _) _) _) hb | exact bl_tr (bl_dr (bl_al (bl_al (bl_al (bl_al (bl_al (bl0 _) _) _) _) _) _)) hb | exact bl_tr (bl_al (bl_al (bl_al (bl_al (bl_al (bl_al (bl0 _) _) _) _) _) _) _) hb | exact bl_tr (bl_dr (bl_al (bl_al (bl_al (bl_al (bl_al (bl_al (bl0 _) _) _) _) _) _) _)) hb | exact bl_tr (bl_dr (bl0 _)) hb
        replace hA := bl_tr hA hk
        replace f0 := cell_later hk f0
        replace f1 := cell_later hk f1
        replace f2 := cell_later hk f2
        replace g0 := cell_later hk g0
        replace g1 := cell_later hk g1
        replace g2 := cell_later hk g2
        replace g3 := cell_later hk g3
        replace h0 := cell_later hk h0
        replace h1 := cell_later hk h1
        clear hb hk
        have zf0 := blk_lt f0
        have zf1 := blk_lt f1
        have zf2 := blk_lt f2
        have zg0 := blk_lt g0
        have zg1 := blk_lt g1
        have zg2 := blk_lt g2
        have zg3 := blk_lt g3
        have zh0 := blk_lt h0
        have zh1 := blk_lt h1
        rw [hf]
        go_wp2_with fail
        refine (has_any _ _ _ _ _ _ _).mono ?_
        rintro e w3 ⟨rfl, hb⟩
        have hk : Below w2.heap.size w2 w3 := by first | exact hb | exact bl_tr (bl_al (bl0 _) _) hb | exact bl_tr (bl_dr (bl_al (bl0 _) _)) hb | exact bl_tr (bl_al (bl_al (bl0 _) _) _) hb | exact bl_tr (bl_dr (bl_al (bl_al (bl0 _) _) _)) hb | exact bl_tr (bl_al (bl_al (bl_al (bl0 _) _) _) _) hb | exact bl_tr (bl_dr (bl_al (bl_al (bl_al (bl0 _) _) _) _)) hb | exact bl_tr (bl_al (bl_al (bl_al (bl_al (bl0 _) _) _) _) _) hb | exact bl_tr (bl_dr (bl_al (bl_al (bl_al (bl_al (bl0 _) _) _) _) _)) hb | exact bl_tr (bl_al (bl_al (bl_al (bl_al (bl_al (bl0 _) _) _) _) _) _) hb | exact bl_tr (bl_dr (bl_al (bl_al (bl_al (bl_al (bl_al (bl0 _) _) _) _) _) _)) hb | exact bl_tr (bl_al (bl_al (bl_al (bl_al (bl_al (bl_al (bl0 _) _) _) _) _) _) _) hb | exact bl_tr (bl_dr (bl_al (bl_al (bl_al (bl_al (bl_al (bl_al (bl0 _) _) _) _) _) _) _)) hb | exact bl_tr (bl_dr (bl0 _)) hb
        replace hA := bl_tr hA hk
        replace f0 := cell_later hk f0
        replace f1 := cell_later hk f1
        replace f2 := cell_later hk f2
        replace g0 := cell_later hk g0
        replace g1 := cell_later hk g1
        replace g2 := cell_later hk g2
        replace g3 := cell_later hk g3
        replace h0 := cell_later hk h0
        replace h1 := cell_later hk h1
        clear hb hk
        have zf0 := blk_lt f0
        have zf1 := blk_lt f1
        have zf2 := blk_lt f2
        have zg0 := blk_lt g0
        have zg1 := blk_lt g1
        have zg2 := blk_lt g2
        have zg3 := blk_lt g3
        have zh0 := blk_lt h0
        have zh1 := blk_lt h1
        rw [hh2]
        go_wp2
        go_ret2
        exact ⟨⟨none, 0, [], rfl, .inl rfl, fun _ => rfl, fun h => by cases h⟩, hA⟩
    · have hf2 : fitsB A B X Y U V = false := by simpa using hf
      rw [if_neg (fun h => hf h.1)] at hE
      subst hE
      clear hf
      go_enter Tryd.func30, Tryd.ntmps30
      go_wp2_with fail
      refine (check_any _ _ _ _ _ _).mono ?_
      rintro e w1 ⟨rfl, hb⟩
      have hk : Below w.heap.size w w1 := by first | exact hb | exact bl_tr (bl_al (bl0 _) _) hb | exact bl_tr (bl_dr (bl_al (bl0 _) _)) hb | exact bl_tr (bl_al (bl_al (bl0 _) _) _) hb | exact bl_tr (bl_dr (bl_al (bl_al (bl0 _) _) _)) hb | exact bl_tr (bl_al (bl_al (bl_al (bl0 _) _) _) _) hb | exact bl_tr (bl_dr (bl_al (bl_al (bl_al (bl0 _) _) _) _)) hb | exact bl_tr (bl_al (bl_al (bl_al (bl_al (bl0 _) _) _) _) _) hb | exact bl_tr (bl_dr (bl_al (bl_al (bl_al (bl_al (bl0 _) _) _) _) _)) hb | exact bl_tr (bl_al (bl_al (bl_al (bl_al (bl_al (bl0 _) _) _) _) _) _) hb | exact bl_tr (bl_dr (bl_al (bl_al (bl_al (bl_al (bl_al (bl0 _) _) _) _) _) _)) hb | exact bl_tr (bl_al (bl_al (bl_al (bl_al (bl_al (bl_al (bl0 _) _) _) _) _) _) _) hb | exact bl_tr (bl_dr (bl_al (bl_al (bl_al (bl_al (bl_al (bl_al (bl0 _) _) _) _) _) _) _)) hb | exact bl_tr (bl_dr (bl0 _)) hb
      replace hA := bl_tr hA hk
      have f0 := cell_later hb (v := .int .i64 A) (a := ⟨w.heap.size, 0, none⟩) (by simp [go_sem])
      have f1 := cell_later hb (v := .int .i64 B) (a := ⟨w.heap.size, 1, none⟩) (by simp [go_sem])
      have f2 := cell_later hb (v := .slice a zs.length cap) (a := ⟨w.heap.size, 2, none⟩) (by simp [go_sem])
      have g0 := cell_later hb (v := .int .i64 X) (a := ⟨w.heap.size + 1, 0, none⟩) (by simp [go_sem])
      have g1 := cell_later hb (v := .int .i64 Y) (a := ⟨w.heap.size + 1, 1, none⟩) (by simp [go_sem])
      have g2 := cell_later hb (v := .int .i64 U) (a := ⟨w.heap.size + 1, 2, none⟩) (by simp [go_sem])
      have g3 := cell_later hb (v := .int .i64 V) (a := ⟨w.heap.size + 1, 3, none⟩) (by simp [go_sem])
      have h0 := cell_later hb (v := .int .i64 c.1) (a := ⟨w.heap.size + 1 + 1, 0, none⟩) (by simp [go_sem])
      have h1 := cell_later hb (v := .int .i64 c.2) (a := ⟨w.heap.size + 1 + 1, 1, none⟩) (by simp [go_sem])
      clear hb hk
      have zf0 := blk_lt f0
      have zf1 := blk_lt f1
      have zf2 := blk_lt f2
      have zg0 := blk_lt g0
      have zg1 := blk_lt g1
      have zg2 := blk_lt g2
      have zg3 := blk_lt g3
      have zh0 := blk_lt h0
      have zh1 := blk_lt h1
      rw [HC.out]
      go_wp2_with fail
      refine (fits_any _ _ _ _ _ _ _).mono ?_
      rintro e w2 ⟨rfl, hb⟩
      have hk : Below w1.heap.size w1 w2 := by first | exact hb | exact bl_tr (bl_al (bl0 _) _) hb | exact bl_tr (bl_dr (bl_al (bl0 _) _)) hb | exact bl_tr (bl_al (bl_al (bl0 _) _) _) hb | exact bl_tr (bl_dr (bl_al (bl_al (bl0 _) _) _)) hb | exact bl_tr (bl_al (bl_al (bl_al (bl0 _) _) _) _) hb | exact bl_tr (bl_dr (bl_al (bl_al (bl_al (bl0 _) _) _) _)) hb | exact bl_tr (bl_al (bl_al (bl_al (bl_al (bl0 _) _) _) _) _) hb | exact bl_tr (bl_dr (bl_al (bl_al (bl_al (bl_al (bl0 _) _) _) _) _)) hb | exact bl_tr (bl_al (bl_al (bl_al (bl_al (bl_al (bl0 _) _) _) _) _) _) hb | exact bl_tr (bl_dr (bl_al (bl_al (bl_al (bl_al (bl_al (bl0 _) _) _) _) _) _)) hb | exact bl_tr (bl_al (bl_al (bl_al (bl_al (bl_al (bl_al (bl0 _) _) _) _) _) _) _) hb | exact bl_tr (bl_dr (bl_al (bl_al (bl_al (bl_al (bl_al (bl_al (bl0 _) _) _) _) _) _) _)) hb | exact bl_tr (bl_dr (bl0 _)) hb
      replace hA := bl_tr hA hk
      replace f0 := cell_later hk f0
      replace f1 := cell_later hk f1
      replace f2 := cell_later hk f2
      replace g0 := cell_later hk g0
      replace g1 := cell_later hk g1
      replace g2 := cell_later hk g2
      replace g3 := cell_later hk g3
      replace h0 := cell_later hk h0
      replace h1 := cell_later hk h1
      clear hb hk
      have zf0 := blk_lt f0
      have zf1 := blk_lt f1
      have zf2 := blk_lt f2
      have zg0 := blk_lt g0
      have zg1 := blk_lt g1
      have zg2 := blk_lt g2
      have zg3 := blk_lt g3
      have zh0 := blk_lt h0
      have zh1 := blk_lt h1
      rw [hf2]
      go_wp2
      go_ret2
      exact ⟨⟨none, 0, [], rfl, .inl rfl, fun _ => rfl, fun h => by cases h⟩, hA⟩
  · rw [if_neg h0] at hE
    subst hE
    have h1 : (chk != 0) = true := by rw [bne_iff_ne]; exact h0
    have H0 := Lib.hid h0
    clear hchk h0
    go_enter Tryd.func30, Tryd.ntmps30
    go_wp2_with fail
    refine (check_any _ _ _ _ _ _).mono ?_
    rintro e w1 ⟨rfl, hb⟩
    have hk : Below w.heap.size w w1 := by first | exact hb | exact bl_tr (bl_al (bl0 _) _) hb | exact bl_tr (bl_dr (bl_al (bl0 _) _)) hb | exact bl_tr (bl_al (bl_al (bl0 _) _) _) hb | exact bl_tr (bl_dr (bl_al (bl_al (bl0 _) _) _)) hb | exact bl_tr (bl_al (bl_al (bl_al (bl0 _) _) _) _) hb | exact bl_tr (bl_dr (bl_al (bl_al (bl_al (bl0 _) _) _) _)) hb | exact bl_tr (bl_al (bl_al (bl_al (bl_al (bl0 _) _) _) _) _) hb | exact bl_tr (bl_dr (bl_al (bl_al (bl_al (bl_al (bl0 _) _) _) _) _)) hb | exact bl_tr (bl_al (bl_al (bl_al (bl_al (bl_al (bl0 _) _) _) _) _) _) hb | exact bl_tr (bl_dr (bl_al (bl_al (bl_al (bl_al (bl_al (bl0 _) _) _) _) _) _)) hb | exact bl_tr (bl_al (bl_al (bl_al (bl_al (bl_al (bl_al (bl0 _) _) _) _) _) _) _) hb | exact bl_tr (bl_dr (bl_al (bl_al (bl_al (bl_al (bl_al (bl_al (bl0 _) _) _) _) _) _) _)) hb | exact bl_tr (bl_dr (bl0 _)) hb
    replace hA := bl_tr hA hk
    clear hb hk
    rw [HC.out]
    go_wp2
    go_ret2
    exact ⟨⟨none, 0, [], rfl, .inl rfl, fun _ => rfl, fun h => absurd h H0.out⟩, hA⟩

set_option maxRecDepth 100000 in
set_option maxHeartbeats 4000000 in
theorem from_any (A B : Int) (a : Option Addr) (cap : Nat) (zs : List Int) (c : IC) (w : World) (hz : AllH zs) (hr : RowH w a zs) (hst : Stp w) :
    Calls Tryd.prog 23 #[.agg #[.int .i64 A, .int .i64 B, .slice a zs.length cap], .agg #[.int .i64 c.1, .int .i64 c.2]] w fun e w' => WinR A B zs (0, 0, A, B) c e w' ∧ Below w.heap.size w w' := by
  have hA := bl0 w
  have hcall := fun W (h1 : RowH W a zs) (h2 : Stp W) => within_any A B a cap zs (0, 0, A, B) c W hz h1 h2
  have HC := Lib.hid hcall
  clear hcall
  go_enter Tryd.func23, Tryd.ntmps23
  go_wp2_with fail
  have hA1 := bl_al (bl_al hA (.cells #[.int .i64 A, .int .i64 B, .slice a zs.length cap] 26)) (.cells #[.int .i64 c.1, .int .i64 c.2] 30)
  refine (HC.out _ (hr.below hA1) (hst.below hA1)).mono ?_
  rintro e w1 ⟨⟨b, cap2, ds, rfl, h2, h3, h4⟩, hb⟩
  have hA2 := bl_tr hA1 hb
  obtain ⟨E, hE⟩ : ∃ E, errW A B zs.length (0, 0, A, B) c = E := ⟨_, rfl⟩
  rw [hE] at h3 h4 ⊢
  have HE := Lib.hid hE
  have H2 := Lib.hid h2
  have H3 := Lib.hid h3
  have H4 := Lib.hid h4
  clear h2 h3 h4 hA1 hb hE
  go_wp2
  go_ret2
  refine ⟨?_, hA2⟩
  unfold WinR
  rw [HE.out]
  exact ⟨b, cap2, ds, rfl, H2.out, H3.out, H4.out⟩
end Go.Proofs.YtgbhafadibdmcaaDoor

/- Least costs: from which cell one is reached. -/
namespace Go.Proofs.YtgbhafadibdmcaaDoor
open Go.RowKit Go.Shelf
attribute [local go_sem] Oper.semAt_some

/-- Whether one is reached from another one at least cost. -/
def fromB (zs ds : List Int) (i j : Nat) : Bool := addC (atD ds j) (zs.getD i 0) == atD ds i
/-- The first one from which one is reached. -/
def aheadF (A B : Int) (zs ds : List Int) (i : Nat) : Option Nat := (nbO A B zs i).find? (fromB zs ds i)
theorem find_pre {p : Nat → Bool} {xs pre : List Nat} {x : Nat} (h : pre ++ [x] <+: xs) (hn : ∀ j ∈ pre, p j = false) (hx : p x = true) : xs.find? p = some x := by
  obtain ⟨t, rfl⟩ := h
  rw [List.append_assoc, List.find?_append]
  rw [show pre.find? p = none from List.find?_eq_none.2 (fun j hj => by rw [hn j hj]; decide)]
  simp [hx]

/-- Two blocks are turned. -/
def Two2 (a b : Nat) (A B : World) : Prop := (B.os = A.os ∧ B.tape = A.tape ∧ B.output = A.output ∧ A.heap.size ≤ B.heap.size) ∧ ∀ k, k < A.heap.size → k ≠ a → k ≠ b → B.heap[k]? = A.heap[k]?
theorem gq2_set (A : World) (a b : Nat) (u v : Value) : Two2 a b A ((A.setCell ⟨a, 0, none⟩ u).setCell ⟨b, 0, none⟩ v) := by
  have h1 := hgrown_set A a 0 u
  have h2 := hgrown_set (A.setCell ⟨a, 0, none⟩ u) b 0 v
  exact ⟨⟨h2.os.trans h1.os, h2.tape.trans h1.tape, h2.output.trans h1.output, Nat.le_trans h1.size h2.size⟩, fun k hk ha hb => (h2.block k (Nat.lt_of_lt_of_le hk h1.size) (fun e => hb (by cases e; rfl))).trans (h1.block k hk (fun e => ha (by cases e; rfl)))⟩
theorem Two2.kp {a b p c : Nat} {W A B : World} (h : Two2 a b A B) (hb : Below W.heap.size W A) (hp : (a < p ∧ b < p) ∧ p + c ≤ W.heap.size) : KP p c W B :=
  ⟨Nat.le_trans hb.size h.1.2.2.2, fun k h1 h2 => (h.2 k (Nat.lt_of_lt_of_le (by omega) hb.size) (by omega) (by omega)).trans (hb.block k (by omega))⟩
theorem Two2.bel {a b n : Nat} {A B : World} (h : Two2 a b A B) (hn : n ≤ A.heap.size) (hp : n ≤ a ∧ n ≤ b) : Below n A B :=
  ⟨h.1.1, h.1.2.1, h.1.2.2.1, h.1.2.2.2, fun k hk => h.2 k (by omega) (by omega) (by omega)⟩
/-- What the loop holds: all lies, and none was found. -/
def AhI (w0 : World) (zs ds : List Int) (i C : Nat) (pre : List Nat) (W : World) : Prop := Below w0.heap.size w0 W ∧ C < W.heap.size ∧ ∀ j ∈ pre, fromB zs ds i j = false
set_option maxRecDepth 100000 in
set_option maxHeartbeats 4000000 in
theorem fahead_any (A B : Int) (a b : Option Addr) (cap cap2 : Nat) (zs ds : List Int) (i : Nat) (w : World) (hm : mayB A B = true) (hn : (zs.length : Int) = A * B) (hz : AllH zs) (hdu : AllU ds) (hdl : ds.length = zs.length) (hr : RowH w a zs) (hru : RowU w b ds) (hst : Stp w) (hi : i < zs.length) :
    Calls Tryd.prog 58 #[.agg #[.int .i64 A, .int .i64 B, .slice a zs.length cap], .slice b zs.length cap2, .int .i64 (i : Int)] w fun e w' => e = .returned (.tuple #[.int .i64 (((aheadF A B zs ds i).getD 0 : Nat) : Int), .bool (aheadF A B zs ds i).isSome]) ∧ Below w.heap.size w w' := by
  have HN := Lib.hid hn
  have HDL := Lib.hid hdl
  obtain ⟨F, hF⟩ : ∃ F, aheadF A B zs ds i = F := ⟨_, rfl⟩
  have HF := Lib.hid hF
  rw [hF]
  clear hF hn hdl
  have hA0 := bl_al (bl_al (bl_al (bl_al (bl_al (bl0 w) (.cells #[.int .i64 A, .int .i64 B, .slice a zs.length cap] 26)) (.cells #[.slice b zs.length cap2] 42)) (.cells #[.int .i64 (i : Int)] 3)) (.cells #[.int .i64 0] 3)) (.cells #[.bool false] 4)
  refine (callsIn_wide (n := 11)).1 (callsIn_of_wp_marks Tryd.func58 rfl trivial ?_ rfl)
  simp only [Tryd.ntmps58, List.size_toArray, List.length_cons, List.length_nil, Nat.reduceAdd, Nat.reduceSub, Array.replicate_succ, Array.replicate_zero, List.push_toArray, List.append_toArray, List.nil_append, List.cons_append]
  refine wpIn_wide.2 ?_
  go_wp2_with fail
  obtain ⟨w0, hw0⟩ : ∃ w0, ((((w.alloc (.cells #[.int .i64 A, .int .i64 B, .slice a zs.length cap] 26)).alloc (.cells #[.slice b zs.length cap2] 42)).alloc (.cells #[.int .i64 (i : Int)] 3)).alloc (.cells #[.int .i64 0] 3)).alloc (.cells #[.bool false] 4) = w0 := ⟨_, rfl⟩
  have z0 : w0.heap.size = w.heap.size + 5 := by rw [← hw0]; simp
  have f2 : w0.cell? ⟨w.heap.size, 2, none⟩ = some (.slice a zs.length cap) := by rw [← hw0]; simp [go_sem]
  have r0 : w0.cell? ⟨w.heap.size + 1, 0, none⟩ = some (.slice b zs.length cap2) := by rw [← hw0]; simp [go_sem]
  have i0 : w0.cell? ⟨w.heap.size + 1 + 1, 0, none⟩ = some (.int .i64 (i : Int)) := by rw [← hw0]; simp [go_sem]
  have o1 : Boxed w0 (w.heap.size + 1 + 1 + 1) 3 (.int .i64 0) := by
    rw [← hw0]
    have h := Boxed.new (((w.alloc (.cells #[.int .i64 A, .int .i64 B, .slice a zs.length cap] 26)).alloc (.cells #[.slice b zs.length cap2] 42)).alloc (.cells #[.int .i64 (i : Int)] 3)) 3 (.int .i64 0)
    simp only [World.size_alloc] at h
    exact h.kept (grown_of_below (bl_al (bl0 _) _)) (fun e => by cases e)
  have o2 : Boxed w0 (w.heap.size + 1 + 1 + 1 + 1) 4 (.bool false) := by
    rw [← hw0]
    have h := Boxed.new ((((w.alloc (.cells #[.int .i64 A, .int .i64 B, .slice a zs.length cap] 26)).alloc (.cells #[.slice b zs.length cap2] 42)).alloc (.cells #[.int .i64 (i : Int)] 3)).alloc (.cells #[.int .i64 0] 3)) 4 (.bool false)
    simp only [World.size_alloc] at h
    exact h
  rw [hw0] at hA0 ⊢
  have Z0 : w.heap.size + 5 ≤ w0.heap.size := by omega
  clear hw0 z0
  refine (beside_mk _ _ _ _ _ _ _).mono ?_
  rintro e W3 ⟨rfl, hbes, hz3, hb3⟩
  obtain ⟨pI, hpI⟩ : ∃ pI, w0.heap.size = pI := ⟨_, rfl⟩
  rw [hpI] at hbes hz3 ⊢
  have hz4 : pI + 2 ≤ W3.heap.size := by omega
  have hpI2 : w.heap.size + 5 ≤ pI := by omega
  have HP := Lib.hid hpI
  clear hz3 hpI
  go_wp2_with fail
  have hb30 : Below w0.heap.size w0 W3 := hb3
  have hsz30 := hb30.size
  refine wpIn_wide.1 (range_s pI 2 88 #[.pointer (some ⟨pI, 0, none⟩), .pointer (some ⟨pI + 1, 0, none⟩)] (nbO A B zs i) (fun W => RowH W a zs ∧ Stp W) (iter_beside pI A B _ cap zs i hm HN.out hi W3 hbes) rfl (fun _ => rfl) hz4 (enters_of Tryd.func88 (by kernel_rfl) rfl)
    (fun C pre W => AhI w0 zs ds i C pre W)
    (fun C cc pre W => cc = .ret ∧ Below w.heap.size w W ∧ ∃ x : Nat, Boxed W (w.heap.size + 1 + 1 + 1) 3 (.int .i64 (x : Int)) ∧ Boxed W (w.heap.size + 1 + 1 + 1 + 1) 4 (.bool true) ∧ F = some x)
    ?hI ?hIx ?hIp ?hIR ?hIxR ?h0
    (fun x a' W => ∃ y0 y1 y2 y9 y10 y11 y12 y13 y14 y15 y16 y17 y18 y19 y20 y21 y22 y23 y24 y25 y26 y27 y28 y29 : Value, a' = { tmps := #[y0, y1, y2, .pointer (some ⟨w.heap.size, 0, none⟩), .pointer (some ⟨w.heap.size + 1, 0, none⟩), .pointer (some ⟨w.heap.size + 1 + 1, 0, none⟩), .pointer (some ⟨w.heap.size + 1 + 1 + 1, 0, none⟩), .pointer (some ⟨w.heap.size + 1 + 1 + 1 + 1, 0, none⟩), .int .i64 (x : Int), y9, y10, y11, y12, y13, y14, y15, y16, y17, y18, y19, y20, y21, y22, y23, y24, y25, y26, y27, y28, y29], defers := [] }) ?ax ?assign ?body ?done ?stop)
  case hI =>
    rintro C pre A' B' row ⟨h1, h2, h3⟩ hg hr
    exact ⟨h1.grown hg h1.size (fun r e => by have := hr r e; omega), Nat.lt_of_lt_of_le h2 hg.size, h3⟩
  case hIx =>
    rintro C cc pre A' B' row ⟨h1, h2, x, h3, h4, h5⟩ hg hr
    exact ⟨h1, h2.grown hg h2.size (fun r e => by have := hr r e; omega), x, h3.kept hg (fun e => by have := hr _ e.symm; omega), h4.kept hg (fun e => by have := hr _ e.symm; omega), h5⟩
  case hIp =>
    rintro C pre A' B' row ⟨h1, h2, h3⟩ hg hr
    exact ⟨h1.grown hg h1.size (fun r e => by have := hr r e; have := HP.out; omega), Nat.lt_of_lt_of_le h2 hg.size, h3⟩
  case hIR =>
    rintro C pre W ⟨h1, h2, h3⟩
    have h := bl_tr hA0 h1
    exact ⟨hr.below h, hst.below h⟩
  case hIxR =>
    rintro C cc pre W ⟨h1, h2, h3⟩
    exact ⟨hr.below h2, hst.below h2⟩
  case h0 =>
    intro W' C hb hC1 hC2
    exact ⟨bl_tr hb30 hb, hC2, fun j hj => by cases hj⟩
  case ax =>
    rintro x a' _ A' B' row ⟨y0, y1, y2, y9, y10, y11, y12, y13, y14, y15, y16, y17, y18, y19, y20, y21, y22, y23, y24, y25, y26, y27, y28, y29, h⟩ hg hr
    exact ⟨_, _, _, _, _, _, _, _, _, _, _, _, _, _, _, _, _, _, _, _, _, _, _, _, h⟩
  case assign =>
    rintro C pre x W K hC hI hK
    have HK := Lib.hid hK
    have HI := Lib.hid hI
    clear hK hI
    simp [encI]
    gi_wp2
    exact HK.out _ W (KP.refl _ _ _) (KP.refl _ _ _) (KP.refl _ _ _) HI.out ⟨_, _, _, _, _, _, _, _, _, _, _, _, _, _, _, _, _, _, _, _, _, _, _, _, rfl⟩
  case body =>
    rintro C pre x a' W hC ⟨lr, hlr⟩ hI ⟨y0, y1, y2, y9, y10, y11, y12, y13, y14, y15, y16, y17, y18, y19, y20, y21, y22, y23, y24, y25, y26, y27, y28, y29, rfl⟩ hpre
    have hxl : x < zs.length := by
      obtain ⟨_, h⟩ := (mem_nbO HN.out).1 (hpre.subset (List.mem_append_right _ (List.mem_singleton.2 rfl)))
      exact h.1
    obtain ⟨hI1, hI2, hI3⟩ := hI
    have hA := bl_tr hA0 hI1
    have hD := bl_dr (bl0 W)
    have hAD := bl_tr hA hD
    have hID := bl_tr hI1 hD
    have g2 := cell_later hID f2
    have q0 := cell_later hID r0
    have j0 := cell_later hID i0
    obtain ⟨gb, go, rfl, qz⟩ := (hr.below hAD).cell hi
    obtain ⟨gd, gq, rfl, qx⟩ := (hru.below hAD).cell (show x < ds.length by rw [HDL.out]; exact hxl)
    obtain ⟨gd', gq', e, qi⟩ := (hru.below hAD).cell (show i < ds.length by rw [HDL.out]; exact hi)
    cases e
    rw [getD_get hi] at qz
    have hx0 : (0 : Int) ≤ (x : Int) := by omega
    have hx1 : (x : Int) < (zs.length : Int) := by omega
    have hi0 : (0 : Int) ≤ (i : Int) := by omega
    have hi1 : (i : Int) < (zs.length : Int) := by omega
    have hzi := getD_in hz i
    have hux : inU (atD ds x) := by rw [← atD_get (show x < ds.length by rw [HDL.out]; exact hxl)]; exact hdu _ (List.getElem_mem _)
    obtain ⟨t, ht⟩ : ∃ t, fromB zs ds i x = t := ⟨_, rfl⟩
    have HFX := Lib.hid ht
    unfold fromB at ht
    obtain ⟨z, hzz⟩ : ∃ z, zs.getD i 0 = z := ⟨_, rfl⟩
    rw [hzz] at qz hzi ht
    obtain ⟨dx, hdx⟩ : ∃ dx, atD ds x = dx := ⟨_, rfl⟩
    rw [hdx] at qx hux ht
    obtain ⟨di, hdi⟩ : ∃ di, atD ds i = di := ⟨_, rfl⟩
    rw [hdi] at qi ht
    have hac := fun W => add_any dx z W hux ⟨hzi.1, by omega⟩
    have hwz : IntKind.u64.wrap z = z := IntWalk.u64_in _ (by omega)
    obtain ⟨sm, hsm⟩ : ∃ sm, addC dx z = sm := ⟨_, rfl⟩
    rw [hsm] at hac ht
    have HPRE := Lib.hid hpre
    have HI3 := Lib.hid hI3
    have HI1 := Lib.hid hI1
    have b1 := o1.kept (grown_of_below hID) (fun e => by cases e)
    have b2 := o2.kept (grown_of_below hID) (fun e => by cases e)
    have HB1 := Lib.hid b1
    have HB2 := Lib.hid b2
    have c1 := b1.cell
    have c2 := b2.cell
    have d1 := (o1.kept (grown_of_below hI1) (fun e => by cases e)).frozen
    have d2 := (o2.kept (grown_of_below hI1) (fun e => by cases e)).frozen
    have c3 := (o1.kept (grown_of_below hI1) (fun e => by cases e)).cell
    have c4 := (o2.kept (grown_of_below hI1) (fun e => by cases e)).cell
    have l1 := (o1.kept (grown_of_below hI1) (fun e => by cases e)).lt
    have l2 := (o2.kept (grown_of_below hI1) (fun e => by cases e)).lt
    clear b1 b2
    have HA := Lib.hid hA
    have hwz2 := hI1.size
    clear hzz hdx hdi hsm hpre hI3 hux hzi hA hlr hI1 hAD hID hr hru hbes
    gi_wp2
    have hS : W.drew.cell? ⟨w.heap.size, 2, none⟩ = some (.slice (some ⟨gb, go, none⟩) zs.length cap) ∧ W.drew.cell? ⟨w.heap.size + 1, 0, none⟩ = some (.slice (some ⟨gd, gq, none⟩) zs.length cap2) ∧ W.drew.cell? ⟨w.heap.size + 1 + 1, 0, none⟩ = some (.int .i64 (i : Int)) ∧ W.drew.cell? ⟨gb, go + i, none⟩ = some (.int .u16 z) ∧ W.drew.cell? ⟨gd, gq + x, none⟩ = some (.int .u64 dx) ∧ W.drew.cell? ⟨gd, gq + i, none⟩ = some (.int .u64 di) := ⟨g2, q0, j0, qz, qx, qi⟩
    refine ordS_begin (S := (fun w' : World => w'.cell? ⟨w.heap.size, 2, none⟩ = some (.slice (some ⟨gb, go, none⟩) zs.length cap) ∧ w'.cell? ⟨w.heap.size + 1, 0, none⟩ = some (.slice (some ⟨gd, gq, none⟩) zs.length cap2) ∧ w'.cell? ⟨w.heap.size + 1 + 1, 0, none⟩ = some (.int .i64 (i : Int)) ∧ w'.cell? ⟨gb, go + i, none⟩ = some (.int .u16 z) ∧ w'.cell? ⟨gd, gq + x, none⟩ = some (.int .u64 dx) ∧ w'.cell? ⟨gd, gq + i, none⟩ = some (.int .u64 di))) (by kernel_rfl) hS (fun hH => ?_)
    first
      | (refine' ordS_take (i := 0) (oi := { dst := some 13, op := Op.load 42 (Operand.tmp 4), type := 42, pos := _, after := #[], guard := none }) (v := _) rfl (by kernel_rfl) (by kernel_rfl) (by kernel_rfl) (by kernel_rfl) (fun _ _ _ h => h) (by assumption) (Or.inl ⟨by rfl, ?hy104⟩) (fun _ => rfl) ?rest104
         case hy104 => (intro w hSw; (try dsimp only at hSw); go_simp; try with_reducible rfl))
      | (refine ordS_take (i := 0) (oi := { dst := some 13, op := Op.load 42 (Operand.tmp 4), type := 42, pos := _, after := #[], guard := none }) (v := undef) rfl (by kernel_rfl) (by kernel_rfl) (by kernel_rfl) (by kernel_rfl) (fun _ _ _ h => h) (by assumption) (Or.inr ⟨by rfl, rfl⟩) (fun _ => rfl) ?_)
    try simp only [Act.put, List.setIfInBounds_toArray, List.set_cons_zero, List.set_cons_succ]
    first
      | (refine' ordS_take (i := 1) (oi := { dst := some 14, op := Op.move (Operand.tmp 8), type := 3, pos := _, after := #[], guard := none }) (v := _) rfl (by kernel_rfl) (by kernel_rfl) (by kernel_rfl) (by kernel_rfl) (fun _ _ _ h => h) (by assumption) (Or.inl ⟨by rfl, ?hy105⟩) (fun _ => rfl) ?rest105
         case hy105 => (intro w hSw; (try dsimp only at hSw); go_simp; try with_reducible rfl))
      | (refine ordS_take (i := 1) (oi := { dst := some 14, op := Op.move (Operand.tmp 8), type := 3, pos := _, after := #[], guard := none }) (v := undef) rfl (by kernel_rfl) (by kernel_rfl) (by kernel_rfl) (by kernel_rfl) (fun _ _ _ h => h) (by assumption) (Or.inr ⟨by rfl, rfl⟩) (fun _ => rfl) ?_)
    try simp only [Act.put, List.setIfInBounds_toArray, List.set_cons_zero, List.set_cons_succ]
    first
      | (refine' ordS_take (i := 2) (oi := { dst := some 15, op := Op.indexAddr 42 (Operand.tmp 13) (Operand.tmp 14), type := 0, pos := _, after := #[{ on := 0, ground := Ground.data }, { on := 1, ground := Ground.data }], guard := none }) (v := _) rfl (by kernel_rfl) (by kernel_rfl) (by kernel_rfl) (by kernel_rfl) (fun _ _ _ h => h) (by assumption) (Or.inl ⟨by rfl, ?hy106⟩) (fun _ => rfl) ?rest106
         case hy106 => (intro w hSw; (try dsimp only at hSw); go_simp; try with_reducible rfl))
      | (refine ordS_take (i := 2) (oi := { dst := some 15, op := Op.indexAddr 42 (Operand.tmp 13) (Operand.tmp 14), type := 0, pos := _, after := #[{ on := 0, ground := Ground.data }, { on := 1, ground := Ground.data }], guard := none }) (v := undef) rfl (by kernel_rfl) (by kernel_rfl) (by kernel_rfl) (by kernel_rfl) (fun _ _ _ h => h) (by assumption) (Or.inr ⟨by rfl, rfl⟩) (fun _ => rfl) ?_)
    try simp only [Act.put, List.setIfInBounds_toArray, List.set_cons_zero, List.set_cons_succ]
    first
      | (refine' ordS_take (i := 3) (oi := { dst := some 16, op := Op.load 36 (Operand.tmp 15), type := 36, pos := _, after := #[{ on := 2, ground := Ground.data }], guard := none }) (v := _) rfl (by kernel_rfl) (by kernel_rfl) (by kernel_rfl) (by kernel_rfl) (fun _ _ _ h => h) (by assumption) (Or.inl ⟨by rfl, ?hy107⟩) (fun _ => rfl) ?rest107
         case hy107 => (intro w hSw; (try dsimp only at hSw); go_simp; try with_reducible rfl))
      | (refine ordS_take (i := 3) (oi := { dst := some 16, op := Op.load 36 (Operand.tmp 15), type := 36, pos := _, after := #[{ on := 2, ground := Ground.data }], guard := none }) (v := undef) rfl (by kernel_rfl) (by kernel_rfl) (by kernel_rfl) (by kernel_rfl) (fun _ _ _ h => h) (by assumption) (Or.inr ⟨by rfl, rfl⟩) (fun _ => rfl) ?_)
    try simp only [Act.put, List.setIfInBounds_toArray, List.set_cons_zero, List.set_cons_succ]
    first
      | (refine' ordS_take (i := 4) (oi := { dst := some 17, op := Op.fieldAddr 26 (Operand.tmp 3) 1, type := 0, pos := _, after := #[], guard := none }) (v := _) rfl (by kernel_rfl) (by kernel_rfl) (by kernel_rfl) (by kernel_rfl) (fun _ _ _ h => h) (by assumption) (Or.inl ⟨by rfl, ?hy108⟩) (fun _ => rfl) ?rest108
         case hy108 => (intro w hSw; (try dsimp only at hSw); go_simp; try with_reducible rfl))
      | (refine ordS_take (i := 4) (oi := { dst := some 17, op := Op.fieldAddr 26 (Operand.tmp 3) 1, type := 0, pos := _, after := #[], guard := none }) (v := undef) rfl (by kernel_rfl) (by kernel_rfl) (by kernel_rfl) (by kernel_rfl) (fun _ _ _ h => h) (by assumption) (Or.inr ⟨by rfl, rfl⟩) (fun _ => rfl) ?_)
    try simp only [Act.put, List.setIfInBounds_toArray, List.set_cons_zero, List.set_cons_succ]
    first
      | (refine' ordS_take (i := 5) (oi := { dst := some 18, op := Op.load 24 (Operand.tmp 17), type := 24, pos := _, after := #[{ on := 4, ground := Ground.data }], guard := none }) (v := _) rfl (by kernel_rfl) (by kernel_rfl) (by kernel_rfl) (by kernel_rfl) (fun _ _ _ h => h) (by assumption) (Or.inl ⟨by rfl, ?hy109⟩) (fun _ => rfl) ?rest109
         case hy109 => (intro w hSw; (try dsimp only at hSw); go_simp; try with_reducible rfl))
      | (refine ordS_take (i := 5) (oi := { dst := some 18, op := Op.load 24 (Operand.tmp 17), type := 24, pos := _, after := #[{ on := 4, ground := Ground.data }], guard := none }) (v := undef) rfl (by kernel_rfl) (by kernel_rfl) (by kernel_rfl) (by kernel_rfl) (fun _ _ _ h => h) (by assumption) (Or.inr ⟨by rfl, rfl⟩) (fun _ => rfl) ?_)
    try simp only [Act.put, List.setIfInBounds_toArray, List.set_cons_zero, List.set_cons_succ]
    first
      | (refine' ordS_take (i := 6) (oi := { dst := some 19, op := Op.load 3 (Operand.tmp 5), type := 3, pos := _, after := #[], guard := none }) (v := _) rfl (by kernel_rfl) (by kernel_rfl) (by kernel_rfl) (by kernel_rfl) (fun _ _ _ h => h) (by assumption) (Or.inl ⟨by rfl, ?hy110⟩) (fun _ => rfl) ?rest110
         case hy110 => (intro w hSw; (try dsimp only at hSw); go_simp; try with_reducible rfl))
      | (refine ordS_take (i := 6) (oi := { dst := some 19, op := Op.load 3 (Operand.tmp 5), type := 3, pos := _, after := #[], guard := none }) (v := undef) rfl (by kernel_rfl) (by kernel_rfl) (by kernel_rfl) (by kernel_rfl) (fun _ _ _ h => h) (by assumption) (Or.inr ⟨by rfl, rfl⟩) (fun _ => rfl) ?_)
    try simp only [Act.put, List.setIfInBounds_toArray, List.set_cons_zero, List.set_cons_succ]
    first
      | (refine' ordS_take (i := 7) (oi := { dst := some 20, op := Op.indexAddr 24 (Operand.tmp 18) (Operand.tmp 19), type := 0, pos := _, after := #[{ on := 5, ground := Ground.data }, { on := 6, ground := Ground.data }], guard := none }) (v := _) rfl (by kernel_rfl) (by kernel_rfl) (by kernel_rfl) (by kernel_rfl) (fun _ _ _ h => h) (by assumption) (Or.inl ⟨by rfl, ?hy111⟩) (fun _ => rfl) ?rest111
         case hy111 => (intro w hSw; (try dsimp only at hSw); go_simp; try with_reducible rfl))
      | (refine ordS_take (i := 7) (oi := { dst := some 20, op := Op.indexAddr 24 (Operand.tmp 18) (Operand.tmp 19), type := 0, pos := _, after := #[{ on := 5, ground := Ground.data }, { on := 6, ground := Ground.data }], guard := none }) (v := undef) rfl (by kernel_rfl) (by kernel_rfl) (by kernel_rfl) (by kernel_rfl) (fun _ _ _ h => h) (by assumption) (Or.inr ⟨by rfl, rfl⟩) (fun _ => rfl) ?_)
    try simp only [Act.put, List.setIfInBounds_toArray, List.set_cons_zero, List.set_cons_succ]
    first
      | (refine' ordS_take (i := 8) (oi := { dst := some 21, op := Op.load 64 (Operand.tmp 20), type := 64, pos := _, after := #[{ on := 7, ground := Ground.data }], guard := none }) (v := _) rfl (by kernel_rfl) (by kernel_rfl) (by kernel_rfl) (by kernel_rfl) (fun _ _ _ h => h) (by assumption) (Or.inl ⟨by rfl, ?hy112⟩) (fun _ => rfl) ?rest112
         case hy112 => (intro w hSw; (try dsimp only at hSw); go_simp; try with_reducible rfl))
      | (refine ordS_take (i := 8) (oi := { dst := some 21, op := Op.load 64 (Operand.tmp 20), type := 64, pos := _, after := #[{ on := 7, ground := Ground.data }], guard := none }) (v := undef) rfl (by kernel_rfl) (by kernel_rfl) (by kernel_rfl) (by kernel_rfl) (fun _ _ _ h => h) (by assumption) (Or.inr ⟨by rfl, rfl⟩) (fun _ => rfl) ?_)
    try simp only [Act.put, List.setIfInBounds_toArray, List.set_cons_zero, List.set_cons_succ]
    first
      | (refine' ordS_take (i := 9) (oi := { dst := some 22, op := Op.convert 64 36 (Operand.tmp 21), type := 36, pos := _, after := #[{ on := 8, ground := Ground.data }], guard := none }) (v := _) rfl (by kernel_rfl) (by kernel_rfl) (by kernel_rfl) (by kernel_rfl) (fun _ _ _ h => h) (by assumption) (Or.inl ⟨by rfl, ?hy113⟩) (fun _ => rfl) ?rest113
         case hy113 => (intro w hSw; (try dsimp only at hSw); go_simp; try with_reducible rfl))
      | (refine ordS_take (i := 9) (oi := { dst := some 22, op := Op.convert 64 36 (Operand.tmp 21), type := 36, pos := _, after := #[{ on := 8, ground := Ground.data }], guard := none }) (v := undef) rfl (by kernel_rfl) (by kernel_rfl) (by kernel_rfl) (by kernel_rfl) (fun _ _ _ h => h) (by assumption) (Or.inr ⟨by rfl, rfl⟩) (fun _ => rfl) ?_)
    try simp only [Act.put, List.setIfInBounds_toArray, List.set_cons_zero, List.set_cons_succ]
    first
      | (refine' ordS_take (i := 11) (oi := { dst := some 24, op := Op.load 42 (Operand.tmp 4), type := 42, pos := _, after := #[], guard := none }) (v := _) rfl (by kernel_rfl) (by kernel_rfl) (by kernel_rfl) (by kernel_rfl) (fun _ _ _ h => h) (by assumption) (Or.inl ⟨by rfl, ?hy114⟩) (fun _ => rfl) ?rest114
         case hy114 => (intro w hSw; (try dsimp only at hSw); go_simp; try with_reducible rfl))
      | (refine ordS_take (i := 11) (oi := { dst := some 24, op := Op.load 42 (Operand.tmp 4), type := 42, pos := _, after := #[], guard := none }) (v := undef) rfl (by kernel_rfl) (by kernel_rfl) (by kernel_rfl) (by kernel_rfl) (fun _ _ _ h => h) (by assumption) (Or.inr ⟨by rfl, rfl⟩) (fun _ => rfl) ?_)
    try simp only [Act.put, List.setIfInBounds_toArray, List.set_cons_zero, List.set_cons_succ]
    first
      | (refine' ordS_take (i := 12) (oi := { dst := some 25, op := Op.load 3 (Operand.tmp 5), type := 3, pos := _, after := #[], guard := none }) (v := _) rfl (by kernel_rfl) (by kernel_rfl) (by kernel_rfl) (by kernel_rfl) (fun _ _ _ h => h) (by assumption) (Or.inl ⟨by rfl, ?hy115⟩) (fun _ => rfl) ?rest115
         case hy115 => (intro w hSw; (try dsimp only at hSw); go_simp; try with_reducible rfl))
      | (refine ordS_take (i := 12) (oi := { dst := some 25, op := Op.load 3 (Operand.tmp 5), type := 3, pos := _, after := #[], guard := none }) (v := undef) rfl (by kernel_rfl) (by kernel_rfl) (by kernel_rfl) (by kernel_rfl) (fun _ _ _ h => h) (by assumption) (Or.inr ⟨by rfl, rfl⟩) (fun _ => rfl) ?_)
    try simp only [Act.put, List.setIfInBounds_toArray, List.set_cons_zero, List.set_cons_succ]
    first
      | (refine' ordS_take (i := 13) (oi := { dst := some 26, op := Op.indexAddr 42 (Operand.tmp 24) (Operand.tmp 25), type := 0, pos := _, after := #[{ on := 11, ground := Ground.data }, { on := 12, ground := Ground.data }], guard := none }) (v := _) rfl (by kernel_rfl) (by kernel_rfl) (by kernel_rfl) (by kernel_rfl) (fun _ _ _ h => h) (by assumption) (Or.inl ⟨by rfl, ?hy116⟩) (fun _ => rfl) ?rest116
         case hy116 => (intro w hSw; (try dsimp only at hSw); go_simp; try with_reducible rfl))
      | (refine ordS_take (i := 13) (oi := { dst := some 26, op := Op.indexAddr 42 (Operand.tmp 24) (Operand.tmp 25), type := 0, pos := _, after := #[{ on := 11, ground := Ground.data }, { on := 12, ground := Ground.data }], guard := none }) (v := undef) rfl (by kernel_rfl) (by kernel_rfl) (by kernel_rfl) (by kernel_rfl) (fun _ _ _ h => h) (by assumption) (Or.inr ⟨by rfl, rfl⟩) (fun _ => rfl) ?_)
    try simp only [Act.put, List.setIfInBounds_toArray, List.set_cons_zero, List.set_cons_succ]
    first
      | (refine' ordS_take (i := 14) (oi := { dst := some 27, op := Op.load 36 (Operand.tmp 26), type := 36, pos := _, after := #[{ on := 13, ground := Ground.data }], guard := none }) (v := _) rfl (by kernel_rfl) (by kernel_rfl) (by kernel_rfl) (by kernel_rfl) (fun _ _ _ h => h) (by assumption) (Or.inl ⟨by rfl, ?hy117⟩) (fun _ => rfl) ?rest117
         case hy117 => (intro w hSw; (try dsimp only at hSw); go_simp; try with_reducible rfl))
      | (refine ordS_take (i := 14) (oi := { dst := some 27, op := Op.load 36 (Operand.tmp 26), type := 36, pos := _, after := #[{ on := 13, ground := Ground.data }], guard := none }) (v := undef) rfl (by kernel_rfl) (by kernel_rfl) (by kernel_rfl) (by kernel_rfl) (fun _ _ _ h => h) (by assumption) (Or.inr ⟨by rfl, rfl⟩) (fun _ => rfl) ?_)
    try simp only [Act.put, List.setIfInBounds_toArray, List.set_cons_zero, List.set_cons_succ]
    refine ordS_one (i := 10) (o := { dst := some 23, op := Op.call { callee := Callee.value (Operand.func 46), args := #[Operand.tmp 16, Operand.tmp 22], argTypes := #[36, 36] }, type := 36, pos := _, after := #[{ on := 3, ground := Ground.data }, { on := 9, ground := Ground.data }], guard := none }) (by kernel_rfl) rfl (by rfl) (fun K hK => ?_)
    go_simp
    refine ⟨trivial, ?_⟩
    with_reducible refine (CallsIn.inRound _ (callsIn_wide.2 (hac _))).mono ?_
    rintro e W6 ⟨rfl, rfl⟩
    refine hK _ _ hS ?_
    clear hK K
    try simp only [Act.put, List.setIfInBounds_toArray, List.set_cons_zero, List.set_cons_succ]
    first
      | (refine' ordS_take (i := 15) (oi := { dst := some 28, op := Op.binOp BinOp.eql 36 (Operand.tmp 23) (Operand.tmp 27) 36, type := 4, pos := _, after := #[{ on := 10, ground := Ground.data }, { on := 14, ground := Ground.data }], guard := none }) (v := _) rfl (by kernel_rfl) (by kernel_rfl) (by kernel_rfl) (by kernel_rfl) (fun _ _ _ h => h) (by assumption) (Or.inl ⟨by rfl, ?hy118⟩) (fun _ => rfl) ?rest118
         case hy118 => (intro w hSw; (try dsimp only at hSw); go_simp; try with_reducible rfl))
      | (refine ordS_take (i := 15) (oi := { dst := some 28, op := Op.binOp BinOp.eql 36 (Operand.tmp 23) (Operand.tmp 27) 36, type := 4, pos := _, after := #[{ on := 10, ground := Ground.data }, { on := 14, ground := Ground.data }], guard := none }) (v := undef) rfl (by kernel_rfl) (by kernel_rfl) (by kernel_rfl) (by kernel_rfl) (fun _ _ _ h => h) (by assumption) (Or.inr ⟨by rfl, rfl⟩) (fun _ => rfl) ?_)
    try simp only [Act.put, List.setIfInBounds_toArray, List.set_cons_zero, List.set_cons_succ]
    refine ordS_done (by kernel_rfl) ?_
    cases t
    · clear hS hH g2 q0 j0 qz qx qi hac
      gi_wp2
      exact ⟨.of_below hD (by omega), .of_below hD (by omega), .of_below hD (by omega), bl_tr HI1.out hD, Nat.lt_of_lt_of_le hI2 hD.size, fun j hj => by
        rcases List.mem_append.1 hj with h | h
        · exact HI3.out j h
        · rw [List.mem_singleton.1 h]; exact HFX.out⟩
    · clear hS hH g2 q0 j0 qz qx qi hac
      have HFF := Lib.hid (show F = some x by rw [← HF.out]; exact find_pre HPRE.out HI3.out HFX.out)
      gi_wp2
      have hg := gq2_set W.drew (w.heap.size + 1 + 1 + 1) (w.heap.size + 1 + 1 + 1 + 1) (.int .i64 (x : Int)) (.bool true)
      refine ⟨hg.kp hD (by omega), hg.kp hD (by omega), hg.kp hD (by omega), rfl, ?_, x, ?_, ?_, HFF.out⟩
      · exact (bl_tr HA.out hD).trans (hg.bel (by have := hD.size; have := HA.out.size; omega) (by omega))
      · exact (HB1.out.set _).kept (hgrown_set _ _ _ _) (fun e => by have := Option.some.inj e; omega)
      · exact (HB2.out.kept (hgrown_set _ _ _ _) (fun e => by have := Option.some.inj e; omega)).set _
  case done =>
    rintro C W ⟨hI1, hI2, hI3⟩ hdef
    have hFn : F = none := by
      rw [← HF.out]
      exact List.find?_eq_none.2 (fun j hj => by rw [hI3 j hj]; decide)
    have b1 := o1.kept (grown_of_below hI1) (fun e => by cases e)
    have b2 := o2.kept (grown_of_below hI1) (fun e => by cases e)
    have HB1 := Lib.hid b1
    have HB2 := Lib.hid b2
    have c1 := b1.cell
    have c2 := b2.cell
    have d1 := b1.frozen
    have d2 := b2.frozen
    have l1 := b1.lt
    have l2 := b2.lt
    have HA := Lib.hid (bl_tr hA0 hI1)
    have HDF := Lib.hid hdef
    subst hFn
    have hw3 := hI1.size
    clear b1 b2 hI1 hI2 hI3 hdef
    go_wp2
    have hg := gq2_set W (w.heap.size + 1 + 1 + 1) (w.heap.size + 1 + 1 + 1 + 1) (.int .i64 0) (.bool false)
    have x1 := (HB1.out.set (.int .i64 0)).kept (hgrown_set _ (w.heap.size + 1 + 1 + 1 + 1) 0 (.bool false)) (fun e => by have := Option.some.inj e; omega)
    have x2 := (HB2.out.kept (hgrown_set _ (w.heap.size + 1 + 1 + 1) 0 (.int .i64 0)) (fun e => by have := Option.some.inj e; omega)).set (.bool false)
    have hd9 := (hg.2 W3.heap.size (Array.getElem?_eq_some_iff.1 HDF.out).1 (by omega) (by omega)).trans HDF.out
    have hB9 := HA.out.trans (hg.bel (by omega) (by omega))
    refine ⟨by simp, .inl ⟨_, _, rfl, run_takeDeferred hd9, ?_⟩⟩
    have hg4 := grownBy_putObj' ((W.setCell ⟨w.heap.size + 1 + 1 + 1, 0, none⟩ (.int .i64 0)).setCell ⟨w.heap.size + 1 + 1 + 1 + 1, 0, none⟩ (.bool false)) W3.heap.size (.deferred none)
    have y1 := (x1.kept hg4 (fun e => by have := Option.some.inj e; omega)).cell
    have y2 := (x2.kept hg4 (fun e => by have := Option.some.inj e; omega)).cell
    have hBA : Below w.heap.size w _ := hB9.grown hg4 hB9.size (fun j e => by cases e; omega)
    exact ⟨.tuple #[.int .i64 0, .bool false], by simp [results, Tryd.results58, go_sem, y1, y2], rfl, hBA⟩
  case stop =>
    rintro C cc q W hq ⟨rfl, hB, x, hx1, hx2, hFx⟩ hdef
    have HB := Lib.hid hB
    have HX1 := Lib.hid hx1
    have HX2 := Lib.hid hx2
    have HDF := Lib.hid hdef
    subst hFx
    clear hB hx1 hx2 hdef
    refine wpIn_wide.2 ?_
    go_wp2
    refine ⟨by simp, .inl ⟨_, _, rfl, run_takeDeferred HDF.out, ?_⟩⟩
    have hg4 := grownBy_putObj' W W3.heap.size (.deferred none)
    have y1 := (HX1.out.kept hg4 (fun e => by have := Option.some.inj e; omega)).cell
    have y2 := (HX2.out.kept hg4 (fun e => by have := Option.some.inj e; omega)).cell
    have hBA : Below w.heap.size w _ := HB.out.grown hg4 HB.out.size (fun j e => by cases e; omega)
    exact ⟨.tuple #[.int .i64 (x : Int), .bool true], by simp [results, Tryd.results58, go_sem, y1, y2], rfl, hBA⟩
end Go.Proofs.YtgbhafadibdmcaaDoor

/- As text Oz: an operation that tells the same in every world may be taken first, whether it comes ahead of z or behind it. -/
namespace Go.Proofs.YtgbhafadibdmcaaDoor
open Go

section
variable {F : Fence} {n : Nat} {P : Program} {ops : Array Oper} {Q : Exit → Act → World → Prop} {md : Region.Mode} {S : World → Prop} {z : Nat}
theorem OrdZ.firstP {i : Nat} {oi : Oper} {v : Value} (hi : ops[i]? = some oi) (hsel : ∀ (j : Nat) (o : Oper) cs b, ops[j]? = some o → o.op ≠ .select cs b) (hdef : ∀ (j : Nat) (o : Oper) c, ops[j]? = some o → o.op ≠ .defer c)
    (hQ : ∀ c a w, Q (.panic c) (a.put oi.dst v) w → Q (.panic c) a w) (hzi : i ≠ z) (k : Nat) : ∀ (l : Array Bool) (a : Act) (w : World), (l.getD z true = false → S w) →
      (∀ j oj, ops[j]? = some oj → j ≠ i → l.getD j true = false → (∀ e ∈ oj.after, Region.binds md e = true → e.on ≠ i) → oi.apart ops oj = true) →
      i ∈ Region.ready md ops l → TellsS P ops (fun _ => True) oi v a → OrdZ F n P md ops Q S z k (l.setIfInBounds i true) (a.put oi.dst v) w → OrdZ F n P md ops Q S z (k + 1) l a w := by
  induction k with
  | zero =>
    intro l a w hS _ hr hy H
    refine ⟨fun h => absurd hr (by simp [h]), fun j hj => ?_⟩
    by_cases e : j = i
    · subst e
      exact hy.step hi (fun c => hdef _ _ c hi) trivial ⟨fun h => hS (by rwa [getD_set_ne true hzi] at h), H⟩
    · have hm := ready_mono hj e
      rw [H.1] at hm
      cases hm
  | succ k ih =>
    intro l a w hS hfree hr hy H
    refine ⟨fun h => absurd hr (by simp [h]), fun j hj => ?_⟩
    by_cases e : j = i
    · subst e
      exact hy.step hi (fun c => hdef _ _ c hi) trivial ⟨fun h => hS (by rwa [getD_set_ne true hzi] at h), H⟩
    · obtain ⟨hun, oj, hoj, hall⟩ := mem_ready.1 hj
      have hli : l.getD i true = false := (mem_ready.1 hr).1
      have hnot : ∀ x ∈ oj.after, Region.binds md x = true → x.on ≠ i := fun x hx hb heq => by
        have h1 := hall x hx hb
        rw [heq] at h1
        rcases Nat.lt_or_ge i l.size with hl | hl <;> simp_all
      have h2 := hy.past hoj (hfree j oj hoj e hun hnot) (fun cs b => hsel i oi cs b hi) (fun cs b => hsel j oj cs b hoj) (fun c => hdef j oj c hoj) hQ (H.2 j (ready_mono hj e))
      refine wpOpIn_mono (fun a1 w1 h3 => ?_) h2
      obtain ⟨hy1, hS1, H1⟩ := h3
      have hS2 : (l.setIfInBounds j true).getD z true = false → S w1 := fun h => hS1 (by rw [Array.setIfInBounds_comm _ _ (Ne.symm e), getD_set_ne true hzi]; exact h)
      refine ⟨hS2, ih (l.setIfInBounds j true) a1 w1 hS2 ?_ (ready_mono hr (Ne.symm e)) hy1 (by rw [Array.setIfInBounds_comm _ _ e]; exact H1)⟩
      intro x ox hx hxi hxun hno
      refine hfree x ox hx hxi ?_ hno
      by_cases hjx : j = x
      · subst hjx; exact hun
      · rwa [getD_set_ne true hjx] at hxun
/-- Take number i first. -/
theorem ordP_take {i : Nat} {oi : Oper} {v : Value} {k : Nat} {l : Array Bool} {a : Act} {w : World} (hi : ops[i]? = some oi) (hr : (Region.ready md ops l).contains i = true) (hf : Region.free md ops l i = true)
    (hs : Region.noSelect ops = true) (hd : noDefer ops = true) (hQ : ∀ c a w, Q (.panic c) (a.put oi.dst v) w → Q (.panic c) a w) (hS : l.getD z true = false → S w)
    (hzi : i ≠ z) (hy : YieldsIf P ops (fun _ => True) oi v a) (hab : ∀ w, oi.about P w a.eval = none) (h : OrdZ F n P md ops Q S z k (l.setIfInBounds i true) (a.put oi.dst v) w) : OrdZ F n P md ops Q S z (k + 1) l a w :=
  OrdZ.firstP hi (Region.noSelect_spec hs) (noDefer_spec hd) hQ hzi k l a w hS (Region.free_spec hi hf) (by simpa using hr) ⟨hy, hab⟩ h
end
end Go.Proofs.YtgbhafadibdmcaaDoor

/- Least costs: a row of cells of one's own turned round. -/
namespace Go.Proofs.YtgbhafadibdmcaaDoor
open Go.RowKit

theorem flatC_cons (z : IC) (zs : List IC) : flatC (z :: zs) = .int .i64 z.1 :: .int .i64 z.2 :: flatC zs := rfl
theorem flatC_len2 : ∀ zs : List IC, (flatC zs).length = zs.length * 2
  | [] => rfl
  | z :: zs => by
    have := flatC_len2 zs
    rw [flatC_cons]
    simp
    omega
theorem flatC_set : ∀ (zs : List IC) (n : Nat) (z : IC), flatC (zs.set n z) = ((flatC zs).set (n * 2) (.int .i64 z.1)).set (n * 2 + 1) (.int .i64 z.2)
  | [], n, z => by simp [flatC]
  | y :: zs, 0, z => by simp [flatC_cons]
  | y :: zs, n + 1, z => by
    have ih := flatC_set zs n z
    rw [List.set_cons_succ, flatC_cons, flatC_cons, ih, show (n + 1) * 2 = n * 2 + 1 + 1 by omega]
    simp only [List.set_cons_succ]
/-- Turned round in k places from each end. -/
def revK (xs : List IC) (k : Nat) : List IC := (List.range xs.length).map fun j => if j < k ∨ xs.length ≤ j + k then cK xs (xs.length - 1 - j) else cK xs j
theorem revK_len (xs : List IC) (k : Nat) : (revK xs k).length = xs.length := by simp [revK]
theorem revK_at (xs : List IC) (k j : Nat) (h : j < xs.length) : (revK xs k)[j]? = some (if j < k ∨ xs.length ≤ j + k then cK xs (xs.length - 1 - j) else cK xs j) := by
  unfold revK
  rw [List.getElem?_map, List.getElem?_range h]
  rfl
theorem revK_zero (xs : List IC) : revK xs 0 = xs := by
  refine List.ext_getElem? fun j => ?_
  by_cases h : j < xs.length
  · rw [revK_at xs 0 j h, if_neg (by omega), cK_at h]
  · rw [List.getElem?_eq_none (by rw [revK_len]; omega), List.getElem?_eq_none (by omega)]
theorem revK_all (xs : List IC) {k : Nat} (hk : xs.length ≤ 2 * k + 1) : revK xs k = xs.reverse := by
  refine List.ext_getElem? fun j => ?_
  by_cases h : j < xs.length
  · rw [revK_at xs k j h, List.getElem?_reverse h, cK_at (show xs.length - 1 - j < xs.length by omega)]
    split
    · rfl
    · have e : xs.length - 1 - j = j := by omega
      rw [e]
  · rw [List.getElem?_eq_none (by rw [revK_len]; omega), List.getElem?_eq_none (by rw [List.length_reverse]; omega)]
theorem revK_step (xs : List IC) {k : Nat} (hk : 2 * k + 1 < xs.length) : ((revK xs k).set k (cK xs (xs.length - 1 - k))).set (xs.length - 1 - k) (cK xs k) = revK xs (k + 1) := by
  refine List.ext_getElem? fun j => ?_
  by_cases h : j < xs.length
  · rw [revK_at xs (k + 1) j h, List.getElem?_set, List.getElem?_set, revK_at xs k j h, List.length_set, revK_len]
    by_cases e1 : xs.length - 1 - k = j
    · rw [if_pos e1, if_pos (by omega), if_pos (by omega)]
      congr 2
      omega
    · rw [if_neg e1]
      by_cases e2 : k = j
      · rw [if_pos e2, if_pos (by omega), if_pos (by omega), e2]
      · rw [if_neg e2]
        congr 1
        by_cases e3 : j < k ∨ xs.length ≤ j + k
        · rw [if_pos e3, if_pos (by omega)]
        · rw [if_neg e3, if_neg (by omega)]
  · rw [List.getElem?_eq_none (by simp [revK_len]; omega), List.getElem?_eq_none (by rw [revK_len]; omega)]
theorem own_cellC {W : World} {B n cap g : Nat} {xs : List IC} (h : W.ownsRow B 30 2 (.slice (some ⟨g, 0, none⟩) n cap) n (flatC xs)) {j : Nat} {z : IC} (hz : xs[j]? = some z) :
    W.cell? ⟨g, j * 2, none⟩ = some (.int .i64 z.1) ∧ W.cell? ⟨g, j * 2 + 1, none⟩ = some (.int .i64 z.2) := by
  obtain ⟨e0, e1⟩ := flatC_at xs j z hz
  have h0 := h.cells (g := g) rfl _ _ e0
  have h1 := h.cells (g := g) rfl _ _ e1
  rw [hadd] at h0 h1
  exact ⟨h0, h1⟩
theorem own_setC {W : World} {B n cap g : Nat} {xs : List IC} (h : W.ownsRow B 30 2 (.slice (some ⟨g, 0, none⟩) n cap) n (flatC xs)) (j : Nat) (z : IC) :
    ((W.setCell ⟨g, j * 2, none⟩ (.int .i64 z.1)).setCell ⟨g, j * 2 + 1, none⟩ (.int .i64 z.2)).ownsRow B 30 2 (.slice (some ⟨g, 0, none⟩) n cap) n (flatC (xs.set j z)) := by
  rw [flatC_set]
  exact ((h.stored (j * 2) _).1.stored (j * 2 + 1) _).1

set_option maxRecDepth 100000 in
set_option maxHeartbeats 4000000 in
theorem reverse_own (B g cap n : Nat) (xs : List IC) (w : World) (hn : xs.length = n) (hn1 : 1 ≤ n) (hn2 : n ≤ 1048576) (h : w.ownsRow B 30 2 (.slice (some ⟨g, 0, none⟩) n cap) n (flatC xs)) :
    Calls Tryd.prog 60 #[.slice (some ⟨g, 0, none⟩) n cap] w fun e w' => e = .returned (.tuple #[]) ∧ w'.ownsRow B 30 2 (.slice (some ⟨g, 0, none⟩) n cap) n (flatC xs.reverse) ∧ Below B w w' := by
  have HN := Lib.hid hn
  have hgB := (h.lt g rfl).1
  have h0 : w.ownsRow B 30 2 (.slice (some ⟨g, 0, none⟩) n cap) n (flatC (revK xs 0)) := by rw [revK_zero]; exact h
  have hnw : IntKind.i64.wrap ((n : Int) - 1) = (n : Int) - 1 := IntWalk.i64_in _ (by omega)
  clear hn h
  go_enter Tryd.func60, Tryd.ntmps60
  go_wp2
  go_loopw [2, 3] (fun i j wr => ∃ k : Nat, k ≤ n ∧ i = .int .i64 k ∧ j = .int .i64 ((n : Int) - 1 - k) ∧ wr.ownsRow B 30 2 (.slice (some ⟨g, 0, none⟩) n cap) n (flatC (revK xs k)) ∧ Below B w wr) (fun i _ _ => n - (intOf i).toNat)
  case atStart => exact ⟨0, Nat.zero_le _, rfl, by simp, h0, Below.refl _ _⟩
  case round =>
    obtain ⟨k, hk, rfl, rfl, hrow, hB⟩ := hrel
    by_cases hlt : 2 * k + 1 < n
    · have hlt2 : (k : Int) < (n : Int) - 1 - (k : Int) := by omega
      obtain ⟨j, hj⟩ : ∃ j : Nat, j = n - 1 - k := ⟨_, rfl⟩
      have hjj : (n : Int) - 1 - (k : Int) = (j : Int) := by omega
      have hHL := HN.out
      have a1 : (revK xs k)[k]? = some (cK xs k) := by rw [revK_at xs k k (by omega), if_neg (by omega)]
      have a2 : (revK xs k)[j]? = some (cK xs j) := by rw [revK_at xs k j (by omega), if_neg (by omega)]
      obtain ⟨q0, q1⟩ := own_cellC hrow a1
      obtain ⟨p0, p1⟩ := own_cellC hrow a2
      have hst := revK_step xs (k := k) (by omega)
      rw [hHL, ← hj] at hst
      have HST := Lib.hid hst
      have HROW := Lib.hid hrow
      have HB := Lib.hid hB
      have hk0 : (0 : Int) ≤ (k : Int) := by omega
      have hk1 : (k : Int) < (n : Int) := by omega
      have hj0 : (0 : Int) ≤ (j : Int) := by omega
      have hj1 : (j : Int) < (n : Int) := by omega
      have fr : ∀ i, wr.frozen? ⟨g, i, none⟩ = false := hrow.frozenAt
      have f0 := fr (k * 2)
      have f1 := fr (k * 2 + 1)
      have f2 := fr (j * 2)
      have f3 := fr (j * 2 + 1)
      have hkj : k ≠ j := by omega
      rw [hjj] at hlt2 ⊢
      have HJ := Lib.hid (show (n : Int) - 1 - ((k : Int) + 1) = (j : Int) - 1 by omega)
      have HK := Lib.hid (show k < n by omega)
      have HJJ := Lib.hid hj
      have HA2 := Lib.hid a2
      generalize cK xs k = x at *
      generalize cK xs j = y at *
      clear hst hrow hB hHL a1 a2 fr hj hjj h0
      go_wp2
      have hD := bl_dr (bl0 wr)
      refine (wpIn_wide (n := 11)).1 ?_
      refine ordZ_begin (z := 13) (S := (fun w' : World => w'.cell? ⟨g, k * 2, none⟩ = some (.int .i64 x.1) ∧ w'.cell? ⟨g, k * 2 + 1, none⟩ = some (.int .i64 x.2) ∧ w'.cell? ⟨g, j * 2, none⟩ = some (.int .i64 y.1) ∧ w'.cell? ⟨g, j * 2 + 1, none⟩ = some (.int .i64 y.2))) (by kernel_rfl) ⟨q0, q1, p0, p1⟩ (fun hH => ?_)
      first
        | (refine' ordZ_take (i := 0) (oi := { dst := some 14, op := Op.move (Operand.tmp 0), type := 35, pos := _, after := #[], guard := none }) (v := _) rfl (by kernel_rfl) (by kernel_rfl) (by kernel_rfl) (by kernel_rfl) (fun _ _ _ h => h) (by assumption) (by kernel_rfl) (by decide) (by rfl) (Or.inl ⟨by rfl, ?hy119⟩) (fun _ => rfl) ?rest119
           case hy119 => (intro w hSw; (try dsimp only at hSw); go_simp; try with_reducible rfl))
        | (refine ordZ_take (i := 0) (oi := { dst := some 14, op := Op.move (Operand.tmp 0), type := 35, pos := _, after := #[], guard := none }) (v := undef) rfl (by kernel_rfl) (by kernel_rfl) (by kernel_rfl) (by kernel_rfl) (fun _ _ _ h => h) (by assumption) (by kernel_rfl) (by decide) (by rfl) (Or.inr ⟨by rfl, rfl⟩) (fun _ => rfl) ?_)
      try simp only [Act.put, List.setIfInBounds_toArray, List.set_cons_zero, List.set_cons_succ]
      first
        | (refine' ordZ_take (i := 1) (oi := { dst := some 15, op := Op.move (Operand.tmp 2), type := 3, pos := _, after := #[], guard := none }) (v := _) rfl (by kernel_rfl) (by kernel_rfl) (by kernel_rfl) (by kernel_rfl) (fun _ _ _ h => h) (by assumption) (by kernel_rfl) (by decide) (by rfl) (Or.inl ⟨by rfl, ?hy120⟩) (fun _ => rfl) ?rest120
           case hy120 => (intro w hSw; (try dsimp only at hSw); go_simp; try with_reducible rfl))
        | (refine ordZ_take (i := 1) (oi := { dst := some 15, op := Op.move (Operand.tmp 2), type := 3, pos := _, after := #[], guard := none }) (v := undef) rfl (by kernel_rfl) (by kernel_rfl) (by kernel_rfl) (by kernel_rfl) (fun _ _ _ h => h) (by assumption) (by kernel_rfl) (by decide) (by rfl) (Or.inr ⟨by rfl, rfl⟩) (fun _ => rfl) ?_)
      try simp only [Act.put, List.setIfInBounds_toArray, List.set_cons_zero, List.set_cons_succ]
      first
        | (refine' ordZ_take (i := 4) (oi := { dst := some 18, op := Op.move (Operand.tmp 0), type := 35, pos := _, after := #[], guard := none }) (v := _) rfl (by kernel_rfl) (by kernel_rfl) (by kernel_rfl) (by kernel_rfl) (fun _ _ _ h => h) (by assumption) (by kernel_rfl) (by decide) (by rfl) (Or.inl ⟨by rfl, ?hy121⟩) (fun _ => rfl) ?rest121
           case hy121 => (intro w hSw; (try dsimp only at hSw); go_simp; try with_reducible rfl))
        | (refine ordZ_take (i := 4) (oi := { dst := some 18, op := Op.move (Operand.tmp 0), type := 35, pos := _, after := #[], guard := none }) (v := undef) rfl (by kernel_rfl) (by kernel_rfl) (by kernel_rfl) (by kernel_rfl) (fun _ _ _ h => h) (by assumption) (by kernel_rfl) (by decide) (by rfl) (Or.inr ⟨by rfl, rfl⟩) (fun _ => rfl) ?_)
      try simp only [Act.put, List.setIfInBounds_toArray, List.set_cons_zero, List.set_cons_succ]
      first
        | (refine' ordZ_take (i := 5) (oi := { dst := some 19, op := Op.move (Operand.tmp 3), type := 3, pos := _, after := #[], guard := none }) (v := _) rfl (by kernel_rfl) (by kernel_rfl) (by kernel_rfl) (by kernel_rfl) (fun _ _ _ h => h) (by assumption) (by kernel_rfl) (by decide) (by rfl) (Or.inl ⟨by rfl, ?hy122⟩) (fun _ => rfl) ?rest122
           case hy122 => (intro w hSw; (try dsimp only at hSw); go_simp; try with_reducible rfl))
        | (refine ordZ_take (i := 5) (oi := { dst := some 19, op := Op.move (Operand.tmp 3), type := 3, pos := _, after := #[], guard := none }) (v := undef) rfl (by kernel_rfl) (by kernel_rfl) (by kernel_rfl) (by kernel_rfl) (fun _ _ _ h => h) (by assumption) (by kernel_rfl) (by decide) (by rfl) (Or.inr ⟨by rfl, rfl⟩) (fun _ => rfl) ?_)
      try simp only [Act.put, List.setIfInBounds_toArray, List.set_cons_zero, List.set_cons_succ]
      first
        | (refine' ordZ_take (i := 6) (oi := { dst := some 20, op := Op.indexAddr 35 (Operand.tmp 18) (Operand.tmp 19), type := 0, pos := _, after := #[{ on := 4, ground := Ground.data }, { on := 5, ground := Ground.data }], guard := none }) (v := _) rfl (by kernel_rfl) (by kernel_rfl) (by kernel_rfl) (by kernel_rfl) (fun _ _ _ h => h) (by assumption) (by kernel_rfl) (by decide) (by rfl) (Or.inl ⟨by rfl, ?hy123⟩) (fun _ => rfl) ?rest123
           case hy123 => (intro w hSw; (try dsimp only at hSw); go_simp; try with_reducible rfl))
        | (refine ordZ_take (i := 6) (oi := { dst := some 20, op := Op.indexAddr 35 (Operand.tmp 18) (Operand.tmp 19), type := 0, pos := _, after := #[{ on := 4, ground := Ground.data }, { on := 5, ground := Ground.data }], guard := none }) (v := undef) rfl (by kernel_rfl) (by kernel_rfl) (by kernel_rfl) (by kernel_rfl) (fun _ _ _ h => h) (by assumption) (by kernel_rfl) (by decide) (by rfl) (Or.inr ⟨by rfl, rfl⟩) (fun _ => rfl) ?_)
      try simp only [Act.put, List.setIfInBounds_toArray, List.set_cons_zero, List.set_cons_succ]
      first
        | (refine' ordZ_take (i := 7) (oi := { dst := some 21, op := Op.load 30 (Operand.tmp 20), type := 30, pos := _, after := #[{ on := 6, ground := Ground.data }], guard := none }) (v := _) rfl (by kernel_rfl) (by kernel_rfl) (by kernel_rfl) (by kernel_rfl) (fun _ _ _ h => h) (by assumption) (by kernel_rfl) (by decide) (by rfl) (Or.inl ⟨by rfl, ?hy124⟩) (fun _ => rfl) ?rest124
           case hy124 => (intro w hSw; (try dsimp only at hSw); go_simp; try with_reducible rfl))
        | (refine ordZ_take (i := 7) (oi := { dst := some 21, op := Op.load 30 (Operand.tmp 20), type := 30, pos := _, after := #[{ on := 6, ground := Ground.data }], guard := none }) (v := undef) rfl (by kernel_rfl) (by kernel_rfl) (by kernel_rfl) (by kernel_rfl) (fun _ _ _ h => h) (by assumption) (by kernel_rfl) (by decide) (by rfl) (Or.inr ⟨by rfl, rfl⟩) (fun _ => rfl) ?_)
      try simp only [Act.put, List.setIfInBounds_toArray, List.set_cons_zero, List.set_cons_succ]
      first
        | (refine' ordP_take (i := 2) (oi := { dst := some 16, op := Op.move (Operand.tmp 0), type := 35, pos := _, after := #[{ on := 13, ground := Ground.gcOnly Departure.lateStores }], guard := none }) (v := _) rfl (by kernel_rfl) (by kernel_rfl) (by kernel_rfl) (by kernel_rfl) (fun _ _ _ h => h) (fun h => by first | assumption | (exact absurd h (by decide))) (by decide) (Or.inl ⟨by rfl, ?hy125⟩) (fun _ => rfl) ?rest125
           case hy125 => (intro w hSw; (try dsimp only at hSw); go_simp; try with_reducible rfl))
        | (refine ordP_take (i := 2) (oi := { dst := some 16, op := Op.move (Operand.tmp 0), type := 35, pos := _, after := #[{ on := 13, ground := Ground.gcOnly Departure.lateStores }], guard := none }) (v := undef) rfl (by kernel_rfl) (by kernel_rfl) (by kernel_rfl) (by kernel_rfl) (fun _ _ _ h => h) (fun h => by first | assumption | (exact absurd h (by decide))) (by decide) (Or.inr ⟨by rfl, rfl⟩) (fun _ => rfl) ?_)
      try simp only [Act.put, List.setIfInBounds_toArray, List.set_cons_zero, List.set_cons_succ]
      first
        | (refine' ordP_take (i := 3) (oi := { dst := some 17, op := Op.move (Operand.tmp 3), type := 3, pos := _, after := #[{ on := 13, ground := Ground.gcOnly Departure.lateStores }], guard := none }) (v := _) rfl (by kernel_rfl) (by kernel_rfl) (by kernel_rfl) (by kernel_rfl) (fun _ _ _ h => h) (fun h => by first | assumption | (exact absurd h (by decide))) (by decide) (Or.inl ⟨by rfl, ?hy126⟩) (fun _ => rfl) ?rest126
           case hy126 => (intro w hSw; (try dsimp only at hSw); go_simp; try with_reducible rfl))
        | (refine ordP_take (i := 3) (oi := { dst := some 17, op := Op.move (Operand.tmp 3), type := 3, pos := _, after := #[{ on := 13, ground := Ground.gcOnly Departure.lateStores }], guard := none }) (v := undef) rfl (by kernel_rfl) (by kernel_rfl) (by kernel_rfl) (by kernel_rfl) (fun _ _ _ h => h) (fun h => by first | assumption | (exact absurd h (by decide))) (by decide) (Or.inr ⟨by rfl, rfl⟩) (fun _ => rfl) ?_)
      try simp only [Act.put, List.setIfInBounds_toArray, List.set_cons_zero, List.set_cons_succ]
      first
        | (refine' ordP_take (i := 8) (oi := { dst := some 22, op := Op.move (Operand.tmp 0), type := 35, pos := _, after := #[], guard := none }) (v := _) rfl (by kernel_rfl) (by kernel_rfl) (by kernel_rfl) (by kernel_rfl) (fun _ _ _ h => h) (fun h => by first | assumption | (exact absurd h (by decide))) (by decide) (Or.inl ⟨by rfl, ?hy127⟩) (fun _ => rfl) ?rest127
           case hy127 => (intro w hSw; (try dsimp only at hSw); go_simp; try with_reducible rfl))
        | (refine ordP_take (i := 8) (oi := { dst := some 22, op := Op.move (Operand.tmp 0), type := 35, pos := _, after := #[], guard := none }) (v := undef) rfl (by kernel_rfl) (by kernel_rfl) (by kernel_rfl) (by kernel_rfl) (fun _ _ _ h => h) (fun h => by first | assumption | (exact absurd h (by decide))) (by decide) (Or.inr ⟨by rfl, rfl⟩) (fun _ => rfl) ?_)
      try simp only [Act.put, List.setIfInBounds_toArray, List.set_cons_zero, List.set_cons_succ]
      first
        | (refine' ordP_take (i := 9) (oi := { dst := some 23, op := Op.move (Operand.tmp 2), type := 3, pos := _, after := #[], guard := none }) (v := _) rfl (by kernel_rfl) (by kernel_rfl) (by kernel_rfl) (by kernel_rfl) (fun _ _ _ h => h) (fun h => by first | assumption | (exact absurd h (by decide))) (by decide) (Or.inl ⟨by rfl, ?hy128⟩) (fun _ => rfl) ?rest128
           case hy128 => (intro w hSw; (try dsimp only at hSw); go_simp; try with_reducible rfl))
        | (refine ordP_take (i := 9) (oi := { dst := some 23, op := Op.move (Operand.tmp 2), type := 3, pos := _, after := #[], guard := none }) (v := undef) rfl (by kernel_rfl) (by kernel_rfl) (by kernel_rfl) (by kernel_rfl) (fun _ _ _ h => h) (fun h => by first | assumption | (exact absurd h (by decide))) (by decide) (Or.inr ⟨by rfl, rfl⟩) (fun _ => rfl) ?_)
      try simp only [Act.put, List.setIfInBounds_toArray, List.set_cons_zero, List.set_cons_succ]
      first
        | (refine' ordP_take (i := 10) (oi := { dst := some 24, op := Op.indexAddr 35 (Operand.tmp 22) (Operand.tmp 23), type := 0, pos := _, after := #[{ on := 8, ground := Ground.data }, { on := 9, ground := Ground.data }], guard := none }) (v := _) rfl (by kernel_rfl) (by kernel_rfl) (by kernel_rfl) (by kernel_rfl) (fun _ _ _ h => h) (fun h => by first | assumption | (exact absurd h (by decide))) (by decide) (Or.inl ⟨by rfl, ?hy129⟩) (fun _ => rfl) ?rest129
           case hy129 => (intro w hSw; (try dsimp only at hSw); go_simp; try with_reducible rfl))
        | (refine ordP_take (i := 10) (oi := { dst := some 24, op := Op.indexAddr 35 (Operand.tmp 22) (Operand.tmp 23), type := 0, pos := _, after := #[{ on := 8, ground := Ground.data }, { on := 9, ground := Ground.data }], guard := none }) (v := undef) rfl (by kernel_rfl) (by kernel_rfl) (by kernel_rfl) (by kernel_rfl) (fun _ _ _ h => h) (fun h => by first | assumption | (exact absurd h (by decide))) (by decide) (Or.inr ⟨by rfl, rfl⟩) (fun _ => rfl) ?_)
      try simp only [Act.put, List.setIfInBounds_toArray, List.set_cons_zero, List.set_cons_succ]
      first
        | (refine' ordZ_take (i := 11) (oi := { dst := some 25, op := Op.load 30 (Operand.tmp 24), type := 30, pos := _, after := #[{ on := 10, ground := Ground.data }], guard := none }) (v := _) rfl (by kernel_rfl) (by kernel_rfl) (by kernel_rfl) (by kernel_rfl) (fun _ _ _ h => h) (by assumption) (by kernel_rfl) (by decide) (by rfl) (Or.inl ⟨by rfl, ?hy130⟩) (fun _ => rfl) ?rest130
           case hy130 => (intro w hSw; (try dsimp only at hSw); go_simp; try with_reducible rfl))
        | (refine ordZ_take (i := 11) (oi := { dst := some 25, op := Op.load 30 (Operand.tmp 24), type := 30, pos := _, after := #[{ on := 10, ground := Ground.data }], guard := none }) (v := undef) rfl (by kernel_rfl) (by kernel_rfl) (by kernel_rfl) (by kernel_rfl) (fun _ _ _ h => h) (by assumption) (by kernel_rfl) (by decide) (by rfl) (Or.inr ⟨by rfl, rfl⟩) (fun _ => rfl) ?_)
      try simp only [Act.put, List.setIfInBounds_toArray, List.set_cons_zero, List.set_cons_succ]
      first
        | (refine' ordZ_take (i := 12) (oi := { dst := some 26, op := Op.indexAddr 35 (Operand.tmp 14) (Operand.tmp 15), type := 0, pos := _, after := #[{ on := 0, ground := Ground.data }, { on := 1, ground := Ground.data }, { on := 0, ground := Ground.phase }, { on := 1, ground := Ground.phase }, { on := 2, ground := Ground.textOnly Departure.lateStores }, { on := 3, ground := Ground.textOnly Departure.lateStores }, { on := 4, ground := Ground.phase }, { on := 5, ground := Ground.phase }, { on := 6, ground := Ground.phase }, { on := 7, ground := Ground.phase }, { on := 8, ground := Ground.textOnly Departure.lateStores }, { on := 9, ground := Ground.textOnly Departure.lateStores }, { on := 10, ground := Ground.textOnly Departure.lateStoresUnsure }, { on := 11, ground := Ground.phase }], guard := none }) (v := _) rfl (by kernel_rfl) (by kernel_rfl) (by kernel_rfl) (by kernel_rfl) (fun _ _ _ h => h) (by assumption) (by kernel_rfl) (by decide) (by rfl) (Or.inl ⟨by rfl, ?hy131⟩) (fun _ => rfl) ?rest131
           case hy131 => (intro w hSw; (try dsimp only at hSw); go_simp; try with_reducible rfl))
        | (refine ordZ_take (i := 12) (oi := { dst := some 26, op := Op.indexAddr 35 (Operand.tmp 14) (Operand.tmp 15), type := 0, pos := _, after := #[{ on := 0, ground := Ground.data }, { on := 1, ground := Ground.data }, { on := 0, ground := Ground.phase }, { on := 1, ground := Ground.phase }, { on := 2, ground := Ground.textOnly Departure.lateStores }, { on := 3, ground := Ground.textOnly Departure.lateStores }, { on := 4, ground := Ground.phase }, { on := 5, ground := Ground.phase }, { on := 6, ground := Ground.phase }, { on := 7, ground := Ground.phase }, { on := 8, ground := Ground.textOnly Departure.lateStores }, { on := 9, ground := Ground.textOnly Departure.lateStores }, { on := 10, ground := Ground.textOnly Departure.lateStoresUnsure }, { on := 11, ground := Ground.phase }], guard := none }) (v := undef) rfl (by kernel_rfl) (by kernel_rfl) (by kernel_rfl) (by kernel_rfl) (fun _ _ _ h => h) (by assumption) (by kernel_rfl) (by decide) (by rfl) (Or.inr ⟨by rfl, rfl⟩) (fun _ => rfl) ?_)
      try simp only [Act.put, List.setIfInBounds_toArray, List.set_cons_zero, List.set_cons_succ]
      refine ordZ_one (i := 13) (o := { dst := none, op := Op.store 30 (Operand.tmp 26) (Operand.tmp 21), type := 0, pos := _, after := #[{ on := 12, ground := Ground.data }, { on := 7, ground := Ground.data }, { on := 0, ground := Ground.phase }, { on := 1, ground := Ground.phase }, { on := 2, ground := Ground.textOnly Departure.lateStores }, { on := 3, ground := Ground.textOnly Departure.lateStores }, { on := 4, ground := Ground.phase }, { on := 5, ground := Ground.phase }, { on := 6, ground := Ground.phase }, { on := 7, ground := Ground.phase }, { on := 8, ground := Ground.textOnly Departure.lateStores }, { on := 9, ground := Ground.textOnly Departure.lateStores }, { on := 10, ground := Ground.textOnly Departure.lateStoresUnsure }, { on := 11, ground := Ground.phase }], guard := none }) (by kernel_rfl) rfl (by rfl) (fun K hK => ?_)
      go_simp
      have hrow2 := own_setC HROW.out k y
      have a3 : ((revK xs k).set k y)[j]? = some y := by rw [List.getElem?_set, if_neg hkj]; exact HA2.out
      obtain ⟨v0, v1⟩ := own_cellC hrow2 a3
      have w0 := hrow2.frozenAt (j * 2)
      have w1 := hrow2.frozenAt (j * 2 + 1)
      have hrow3 := own_setC hrow2 j x
      rw [HST.out] at hrow3
      have HROW3 := Lib.hid hrow3
      have hB3 : Below B w ((((wr.setCell ⟨g, k * 2, none⟩ (.int .i64 y.1)).setCell ⟨g, k * 2 + 1, none⟩ (.int .i64 y.2)).setCell ⟨g, j * 2, none⟩ (.int .i64 x.1)).setCell ⟨g, j * 2 + 1, none⟩ (.int .i64 x.2)) :=
        (((HB.out.setCell (p := ⟨g, k * 2, none⟩) hgB _).setCell (p := ⟨g, k * 2 + 1, none⟩) hgB _).setCell (p := ⟨g, j * 2, none⟩) hgB _).setCell (p := ⟨g, j * 2 + 1, none⟩) hgB _
      have HB3 := Lib.hid hB3
      clear hrow2 hrow3 hB3 a3
      generalize (wr.setCell ⟨g, k * 2, none⟩ (.int .i64 y.1)).setCell ⟨g, k * 2 + 1, none⟩ (.int .i64 y.2) = W5 at *
      refine hK _ _ (fun h => by cases h) ?_
      clear hK K hH
      try simp only [Act.put, List.setIfInBounds_toArray, List.set_cons_zero, List.set_cons_succ]
      first
        | (refine' ordP_take (i := 14) (oi := { dst := some 27, op := Op.indexAddr 35 (Operand.tmp 16) (Operand.tmp 17), type := 0, pos := _, after := #[{ on := 2, ground := Ground.data }, { on := 3, ground := Ground.data }, { on := 0, ground := Ground.phase }, { on := 1, ground := Ground.phase }, { on := 2, ground := Ground.phase }, { on := 3, ground := Ground.phase }, { on := 4, ground := Ground.phase }, { on := 5, ground := Ground.phase }, { on := 6, ground := Ground.phase }, { on := 7, ground := Ground.phase }, { on := 8, ground := Ground.phase }, { on := 9, ground := Ground.phase }, { on := 10, ground := Ground.phase }, { on := 11, ground := Ground.phase }, { on := 12, ground := Ground.phase }, { on := 13, ground := Ground.phase }], guard := none }) (v := _) rfl (by kernel_rfl) (by kernel_rfl) (by kernel_rfl) (by kernel_rfl) (fun _ _ _ h => h) (fun h => by first | assumption | (exact absurd h (by decide))) (by decide) (Or.inl ⟨by rfl, ?hy132⟩) (fun _ => rfl) ?rest132
           case hy132 => (intro w hSw; (try dsimp only at hSw); go_simp; try with_reducible rfl))
        | (refine ordP_take (i := 14) (oi := { dst := some 27, op := Op.indexAddr 35 (Operand.tmp 16) (Operand.tmp 17), type := 0, pos := _, after := #[{ on := 2, ground := Ground.data }, { on := 3, ground := Ground.data }, { on := 0, ground := Ground.phase }, { on := 1, ground := Ground.phase }, { on := 2, ground := Ground.phase }, { on := 3, ground := Ground.phase }, { on := 4, ground := Ground.phase }, { on := 5, ground := Ground.phase }, { on := 6, ground := Ground.phase }, { on := 7, ground := Ground.phase }, { on := 8, ground := Ground.phase }, { on := 9, ground := Ground.phase }, { on := 10, ground := Ground.phase }, { on := 11, ground := Ground.phase }, { on := 12, ground := Ground.phase }, { on := 13, ground := Ground.phase }], guard := none }) (v := undef) rfl (by kernel_rfl) (by kernel_rfl) (by kernel_rfl) (by kernel_rfl) (fun _ _ _ h => h) (fun h => by first | assumption | (exact absurd h (by decide))) (by decide) (Or.inr ⟨by rfl, rfl⟩) (fun _ => rfl) ?_)
      try simp only [Act.put, List.setIfInBounds_toArray, List.set_cons_zero, List.set_cons_succ]
      refine ordZ_one (i := 15) (o := { dst := none, op := Op.store 30 (Operand.tmp 27) (Operand.tmp 25), type := 0, pos := _, after := #[{ on := 14, ground := Ground.data }, { on := 11, ground := Ground.data }, { on := 13, ground := Ground.chain }, { on := 0, ground := Ground.phase }, { on := 1, ground := Ground.phase }, { on := 2, ground := Ground.phase }, { on := 3, ground := Ground.phase }, { on := 4, ground := Ground.phase }, { on := 5, ground := Ground.phase }, { on := 6, ground := Ground.phase }, { on := 7, ground := Ground.phase }, { on := 8, ground := Ground.phase }, { on := 9, ground := Ground.phase }, { on := 10, ground := Ground.phase }, { on := 11, ground := Ground.phase }, { on := 12, ground := Ground.phase }, { on := 13, ground := Ground.phase }], guard := none }) (by kernel_rfl) rfl (by rfl) (fun K hK => ?_)
      go_simp
      refine hK _ _ (fun h => by cases h) ?_
      clear hK K
      try simp only [Act.put, List.setIfInBounds_toArray, List.set_cons_zero, List.set_cons_succ]
      refine ordZ_done (by kernel_rfl) ?_
      go_wp2
      refine ⟨⟨k + 1, HK.out, by go_num, ?_, HROW3.out, HB3.out.drew⟩, by simp [intOf]; have := HK.out; omega⟩
      have e := HJ.out
      rw [show ((k + 1 : Nat) : Int) = (k : Int) + 1 by omega, e]
    · have hge : ¬ ((k : Int) < (n : Int) - 1 - (k : Int)) := by omega
      have HR := Lib.hid (revK_all xs (k := k) (by have := HN.out; omega))
      go_wp2
      go_end0
      exact ⟨rfl, by rw [← HR.out]; exact hrow, hB⟩
end Go.Proofs.YtgbhafadibdmcaaDoor

/- Least costs: the way that is told. -/
namespace Go.Proofs.YtgbhafadibdmcaaDoor
open Go.RowKit

theorem nodup_lt_len : ∀ (N : Nat) (l : List Nat), l.Nodup → (∀ x ∈ l, x < N) → l.length ≤ N
  | 0, l, _, h => by
    cases l with
    | nil => exact Nat.le_refl _
    | cons x l => exact absurd (h x (by simp)) (by omega)
  | N + 1, l, hn, h => by
    have h1 := nodup_lt_len N (l.filter (fun x => decide (x ≠ N))) (hn.sublist List.filter_sublist) (fun x hx => by
      rw [List.mem_filter] at hx
      have := h x hx.1
      have := of_decide_eq_true hx.2
      omega)
    have h2 : ∀ l : List Nat, l.Nodup → l.length ≤ (l.filter (fun x => decide (x ≠ N))).length + 1 := by
      intro l
      induction l with
      | nil => intro _; exact Nat.zero_le _
      | cons x l ih =>
        intro hn
        rw [List.nodup_cons] at hn
        by_cases e : x = N
        · have : l.filter (fun x => decide (x ≠ N)) = l := by
            rw [List.filter_eq_self]
            intro y hy
            exact decide_eq_true (fun q => hn.1 (by rw [e, ← q]; exact hy))
          rw [List.filter_cons, if_neg (by simp [e]), this]
          simp
        · rw [List.filter_cons, if_pos (decide_eq_true e)]
          have := ih hn.2
          simp only [List.length_cons]
          omega
    have := h2 l hn
    omega
/-- The way back from one. -/
def wayF (A B : Int) (zs ds : List Int) : Nat → Nat → List Nat
  | 0, i => [i]
  | n + 1, i => i :: (match aheadF A B zs ds i with | none => [] | some j => wayF A B zs ds n j)
def wayL (A B : Int) (zs ds : List Int) (i : Nat) : List Nat := wayF A B zs ds (atD ds i).toNat i
section
variable {A B : Int} {zs ds : List Int} {b : BX} {s : Nat}
theorem aheadF_some (hm : mayB A B = true) (hn : (zs.length : Int) = A * B) (hz : AllH zs) (h : Far (gphB A B b zs) s (atD ds)) {i j : Nat} (ha : aheadF A B zs ds i = some j) (hi : atD ds i ≠ 18446744073709551615) :
    j ∈ nbO A B zs i ∧ atD ds j ≠ 18446744073709551615 ∧ atD ds i = atD ds j + zs.getD i 0 ∧ atD ds j < atD ds i ∧ 0 ≤ atD ds j := by
  unfold aheadF at ha
  have h1 := List.find?_some ha
  have h2 := List.mem_of_find?_eq_some ha
  unfold fromB at h1
  rw [beq_iff_eq] at h1
  have hG := gphB_ok (b := b) hm hn hz
  have ho := h.opn hi
  have hk := hG.pos1 ho
  obtain ⟨q1, q2, q3⟩ := gphB_opn.1 ho
  rw [gphB_k q2] at hk
  have hb := h.bd j
  have hbi := h.bd i
  unfold addC at h1
  split at h1 <;> exact ⟨h2, by omega, by omega, by omega, by omega⟩
theorem wayF_more (hm : mayB A B = true) (hn : (zs.length : Int) = A * B) (hz : AllH zs) (h : Far (gphB A B b zs) s (atD ds)) : ∀ (n : Nat) (i : Nat), atD ds i ≠ 18446744073709551615 → atD ds i ≤ (n : Int) → ∀ m, n ≤ m → wayF A B zs ds m i = wayF A B zs ds n i
  | 0, i, hi, hin, m, _ => by
    cases m with
    | zero => rfl
    | succ m =>
      cases ha : aheadF A B zs ds i with
      | none => simp [wayF, ha]
      | some j =>
        have := aheadF_some hm hn hz h ha hi
        omega
  | n + 1, i, hi, hin, m, hm' => by
    cases m with
    | zero => omega
    | succ m =>
      cases ha : aheadF A B zs ds i with
      | none => simp [wayF, ha]
      | some j =>
        obtain ⟨q1, q2, q3, q4, q5⟩ := aheadF_some hm hn hz h ha hi
        have := wayF_more hm hn hz h n j q2 (by omega) m (by omega)
        simp [wayF, ha, this]
theorem wayL_next (hm : mayB A B = true) (hn : (zs.length : Int) = A * B) (hz : AllH zs) (h : Far (gphB A B b zs) s (atD ds)) {i : Nat} (hi : atD ds i ≠ 18446744073709551615) :
    wayL A B zs ds i = i :: (match aheadF A B zs ds i with | none => [] | some j => wayL A B zs ds j) := by
  have h0 := h.ge0 i
  have h1 := wayF_more hm hn hz h (atD ds i).toNat i hi (by omega) ((atD ds i).toNat + 1) (by omega)
  unfold wayL
  rw [← h1, wayF]
  cases ha : aheadF A B zs ds i with
  | none => rfl
  | some j =>
    obtain ⟨q1, q2, q3, q4, q5⟩ := aheadF_some hm hn hz h ha hi
    have := wayF_more hm hn hz h (atD ds j).toNat j q2 (by omega) (atD ds i).toNat (by omega)
    simp only [this]
/-- What is on a way back. -/
theorem wayL_mem (hm : mayB A B = true) (hn : (zs.length : Int) = A * B) (hz : AllH zs) (h : Far (gphB A B b zs) s (atD ds)) : ∀ (n : Nat) (i : Nat), atD ds i ≠ 18446744073709551615 → atD ds i ≤ (n : Int) → (∀ x ∈ wayL A B zs ds i, atD ds x ≠ 18446744073709551615 ∧ atD ds x ≤ atD ds i ∧ x < zs.length) ∧ (wayL A B zs ds i).Nodup
  | n, i, hi, hin => by
    have hnx := wayL_next hm hn hz h hi
    have hil : i < zs.length := (gphB_opn.1 (h.opn hi)).1
    have h0 := h.ge0 i
    rw [hnx]
    cases ha : aheadF A B zs ds i with
    | none =>
      refine ⟨fun x hx => ?_, by simp⟩
      rw [List.mem_singleton.1 hx]
      exact ⟨hi, Int.le_refl _, hil⟩
    | some j =>
      obtain ⟨q1, q2, q3, q4, q5⟩ := aheadF_some hm hn hz h ha hi
      cases n with
      | zero => omega
      | succ n =>
        obtain ⟨r1, r2⟩ := wayL_mem hm hn hz h n j q2 (by omega)
        refine ⟨fun x hx => ?_, List.nodup_cons.2 ⟨fun hx => ?_, r2⟩⟩
        · rcases List.mem_cons.1 hx with rfl | hx
          · exact ⟨hi, Int.le_refl _, hil⟩
          · have := r1 x hx
            exact ⟨this.1, by omega, this.2.2⟩
        · have := (r1 i hx).2.1
          omega
theorem wayL_len (hm : mayB A B = true) (hn : (zs.length : Int) = A * B) (hz : AllH zs) (h : Far (gphB A B b zs) s (atD ds)) {i : Nat} (hi : atD ds i ≠ 18446744073709551615) : (wayL A B zs ds i).length ≤ zs.length := by
  have h0 := h.ge0 i
  obtain ⟨r1, r2⟩ := wayL_mem hm hn hz h (atD ds i).toNat i hi (by omega)
  exact nodup_lt_len _ _ r2 (fun x hx => (r1 x hx).2.2)
theorem far_allU (h : Far (gphB A B b zs) s (atD ds)) : AllU ds := by
  intro d hd
  obtain ⟨i, hi⟩ := List.getElem?_of_mem hd
  have hl := (List.getElem?_eq_some_iff.1 hi).1
  have e := atD_get hl
  rw [List.getElem?_eq_getElem hl] at hi
  rw [← Option.some.inj hi, e]
  have := h.bd i
  exact ⟨by omega, by omega⟩
end
/-- The cells from where all is told from up to one. -/
def pathL (A B : Int) (zs ds : List Int) (i : Nat) : List IC := ((wayL A B zs ds i).map (cellN A)).reverse
/-- What is left of a way back. -/
def restW (A B : Int) (zs ds : List Int) : Option Nat → List Nat
  | none => []
  | some i => wayL A B zs ds i

theorem rowC_own {W : World} {Bq n cap g : Nat} {xs : List IC} (h : W.ownsRow Bq 30 2 (.slice (some ⟨g, 0, none⟩) n cap) n (flatC xs)) : RowC W (some ⟨g, 0, none⟩) xs := by
  refine .inr ⟨g, 0, rfl, fun k z hz => ?_⟩
  have := own_cellC h hz
  rw [Nat.zero_add]
  exact this
def muW (ds : List Int) (at_ is : Value) : Nat := match is with
  | .bool true => (atD ds (intOf at_).toNat).toNat + 1
  | _ => 0
set_option maxRecDepth 100000 in
set_option maxHeartbeats 4000000 in
theorem way_any (A B : Int) (a b : Option Addr) (cap cap2 : Nat) (zs ds : List Int) (bx : BX) (s i : Nat) (w : World) (hm : mayB A B = true) (hn : (zs.length : Int) = A * B) (hz : AllH zs) (hf : Far (gphB A B bx zs) s (atD ds)) (hdl : ds.length = zs.length) (hr : RowH w a zs) (hru : RowU w b ds) (hst : Stp w) (hi : atD ds i ≠ 18446744073709551615) :
    Calls Tryd.prog 33 #[.agg #[.int .i64 A, .int .i64 B, .slice a zs.length cap], .slice b zs.length cap2, .int .i64 (i : Int)] w fun e w' => ∃ a' cap', e = .returned (.slice a' (pathL A B zs ds i).length cap') ∧ RowC w' a' (pathL A B zs ds i) ∧ Below w.heap.size w w' := by
  obtain ⟨ar1, ar2⟩ := area_bd hm
  have HN := Lib.hid hn
  have HDL := Lib.hid hdl
  have HF := Lib.hid hf
  have HLEN := Lib.hid (wayL_len hm hn hz hf hi)
  have HI := Lib.hid hi
  have HNX := Lib.hid (fun i => wayL_next (i := i) hm hn hz hf)
  have HSM := Lib.hid (fun i j => aheadF_some (i := i) (j := j) hm hn hz hf)
  have hzl : zs.length ≤ 65536 := by omega
  have hah := fun (i : Nat) (W : World) h1 h2 h3 h4 => fahead_any A B a b cap cap2 zs ds i W hm hn hz (far_allU hf) hdl h1 h2 h3 h4
  have hilt : ∀ i, atD ds i ≠ 18446744073709551615 → i < zs.length := fun i hi => (gphB_opn.1 (hf.opn hi)).1
  have HILT := Lib.hid hilt
  have HAH := Lib.hid hah
  have hatc := fun (i : Nat) (w : World) (h : i < zs.length) => at_cell A B i w hm (by omega)
  have HAT := Lib.hid hatc
  obtain ⟨i0, hi0, hz0, hz1, hz2⟩ := info_parts Tryd.infoCell
  clear hn hdl hf hi hah hilt hatc
  go_enter Tryd.func33, Tryd.ntmps33
  go_wp2
  go_loopw [7, 8, 9] (fun v at_ is wr => ∃ (ls : List Nat) (o : Option Nat), at_ = .int .i64 ((o.getD 0 : Nat) : Int) ∧ is = .bool o.isSome ∧ wr.ownsRow (w.heap.size + 1) 30 2 v ls.length (flatC (ls.map (cellN A))) ∧ ls ++ restW A B zs ds o = wayL A B zs ds i ∧ (∀ j, o = some j → atD ds j ≠ 18446744073709551615) ∧ Below w.heap.size w wr ∧ wr.cell? ⟨w.heap.size, 0, none⟩ = some (.int .i64 A) ∧ wr.cell? ⟨w.heap.size, 1, none⟩ = some (.int .i64 B) ∧ wr.cell? ⟨w.heap.size, 2, none⟩ = some (.slice a zs.length cap)) (fun _ at_ is _ => muW ds at_ is)
  case atStart =>
    refine ⟨[], some i, rfl, rfl, World.ownsRow_nil _ _ _ _, rfl, fun j hj => by cases hj; exact HI.out, bl_al (bl0 _) _, ?_, ?_, ?_⟩ <;> simp [go_sem]
  case round =>
    obtain ⟨ls, o, rfl, rfl, hown, hrest, hoj, hB, f0, f1, f2⟩ := hrel
    cases o with
    | none =>
      have hls : ls = wayL A B zs ds i := by rw [← hrest]; simp [restW]
      have hrv := fun g n cap' w' (h : w'.ownsRow (w.heap.size + 1) 30 2 (.slice (some ⟨g, 0, none⟩) n cap') n (flatC (ls.map (cellN A)))) h1 h2 h3 => reverse_own (w.heap.size + 1) g cap' n (ls.map (cellN A)) w' h1 h2 h3 h
      have hl1 : 1 ≤ ls.length := by rw [hls, HNX.out i HI.out]; simp
      have hl2 : ls.length ≤ zs.length := by rw [hls]; exact HLEN.out
      obtain ⟨g, cap', hvv⟩ : ∃ g cap', u7 = .slice (some ⟨g, 0, none⟩) ls.length cap' := by
        rcases hown.2 with ⟨_, e⟩ | ⟨g', cap', cur, e, _⟩
        · omega
        · exact ⟨g', cap', e⟩
      subst hvv
      have hcall := hrv g ls.length cap' wr hown (by simp) hl1 (by omega)
      have HLS := Lib.hid hls
      have HPL := Lib.hid (show pathL A B zs ds i = (ls.map (cellN A)).reverse by unfold pathL; rw [hls])
      have HL := Lib.hid (show (pathL A B zs ds i).length = ls.length by rw [HPL.out]; simp)
      simp only [Option.isSome_none]
      clear hrv hown hrest hoj hls
      go_wp2_with fail
      refine hcall.mono ?_
      rintro e w2 ⟨rfl, hown2, hb2⟩
      have hB2 := Lib.hid (hB.trans (hb2.mono (by omega)))
      have HOWN := Lib.hid hown2
      clear hcall hown2 hb2
      go_wp2
      go_ret
      refine ⟨some ⟨g, 0, none⟩, cap', by rw [HL.out]; rfl, ?_, hB2.out⟩
      have hh := HOWN.out
      rw [← HPL.out] at hh
      exact rowC_own hh
    | some j =>
      have hj := hoj j rfl
      have hjl := HILT.out j hj
      have hll : ls.length + 1 ≤ zs.length := by
        have h1 := HLEN.out
        rw [← hrest, List.length_append] at h1
        have h2 : 1 ≤ (restW A B zs ds (some j)).length := by show 1 ≤ (wayL A B zs ds j).length; rw [HNX.out j hj]; simp
        omega
      obtain ⟨F, hF⟩ : ∃ F, aheadF A B zs ds j = F := ⟨_, rfl⟩
      have hnx := HNX.out j hj
      rw [hF] at hnx
      have hsm := fun k (hk : F = some k) => HSM.out j k (by rw [hF, hk]) hj
      have hah := fun W h1 h2 h3 => HAH.out j W h1 h2 h3 hjl
      rw [hF] at hah
      have HRE := Lib.hid (show (ls ++ [j]) ++ restW A B zs ds F = wayL A B zs ds i by
        rw [← hrest, List.append_assoc]
        congr 1
        show [j] ++ restW A B zs ds F = wayL A B zs ds j
        rw [hnx]
        cases F <;> rfl)
      have HSMF := Lib.hid hsm
      have HAHF := Lib.hid hah
      have HFS := Lib.hid (show flatC ((ls ++ [j]).map (cellN A)) = flatC (ls.map (cellN A)) ++ [.int .i64 (cellN A j).1, .int .i64 (cellN A j).2] by rw [List.map_append]; exact flatC_snoc _ _)
      have HJ := Lib.hid hj
      have hat := fun w => HAT.out j w hjl
      simp only [Option.getD_some, Option.isSome_some]
      clear hrest hoj hnx hsm hah hF hj
      generalize cellN A j = c at *
      go_wp2_with fail
      refine (hat _).mono ?_
      rintro e w1 ⟨rfl, hb1⟩
      have hown1 := own_later hown hb1
      have hB1 := bl_tr hB hb1
      replace f0 := cell_later hb1 f0; replace f1 := cell_later hb1 f1; replace f2 := cell_later hb1 f2
      have zf := blk_lt f0
      clear hown hB hb1 hat
      have hbc := bl_al (bl0 w1) (.cells #[.int .i64 c.1, .int .i64 c.2] 30)
      have hown2 := own_later hown1 hbc
      have hB2 := bl_tr hB1 hbc
      replace f0 := cell_later hbc f0; replace f1 := cell_later hbc f1; replace f2 := cell_later hbc f2
      have hd0 : (w1.alloc (.cells #[.int .i64 c.1, .int .i64 c.2] 30)).cell? ⟨w1.heap.size, 0, none⟩ = some (.int .i64 c.1) := by simp [go_sem]
      have hd1 : (w1.alloc (.cells #[.int .i64 c.1, .int .i64 c.2] 30)).cell? ⟨w1.heap.size, 1, none⟩ = some (.int .i64 c.2) := by simp [go_sem]
      have hzc : w1.heap.size < (w1.alloc (.cells #[.int .i64 c.1, .int .i64 c.2] 30)).heap.size := by simp
      obtain ⟨cb, hcb⟩ : ∃ cb, w1.heap.size = cb := ⟨_, rfl⟩
      obtain ⟨wc, hwc⟩ : ∃ wc, w1.alloc (.cells #[.int .i64 c.1, .int .i64 c.2] 30) = wc := ⟨_, rfl⟩
      rw [hwc] at hown2 hB2 f0 f1 f2 hd0 hd1 hzc
      rw [hcb] at hd0 hd1 hzc
      have hzw := hB2.size
      clear hown1 hB1 hbc
      go_wp2_with (at_builtin; refine wpList_append_own _ rfl _ _ 35 rfl (w.heap.size + 1) 30 i0 (.agg #[.int .i64 0, .int .i64 0]) 2 16 Tryd.underlying35 hi0 hz0 hz1 hz2 rfl (by decide) _ _ _ rfl (hown2.alloc _) ⟨wc.heap.size, 0, none⟩ 1 1 [.int .i64 c.1, .int .i64 c.2] rfl rfl ?c1 ?c2 ?c3 ?c4 ?c5 ?_)
      case c1 =>
        intro k u hu
        rw [hadd]
        rcases k with _ | _ | k
        · simp at hu; subst hu; simp [go_sem]
        · simp at hu; subst hu; simp [go_sem]
        · simp at hu
      case c2 =>
        intro u hu
        simp only [List.mem_cons, List.not_mem_nil, or_false] at hu
        rcases hu with rfl | rfl <;> rfl
      case c3 => unfold maxLen; omega
      case c4 => omega
      case c5 => simp; omega
      intro v' w5 hown' hgrow _
      have hne : some w.heap.size ≠ Value.ownBlock u7 := fun e => by have := (hown2.lt _ e.symm).1; omega
      have hB3 : Below w.heap.size w w5 := (bl_al hB2 _).grown hgrow (by simp; omega) (fun j hj => by have := (hown2.lt j hj).1; omega)
      rw [← HFS.out] at hown'
      replace f0 := hgrow.cell (cell_later (bl_al (bl0 _) _) f0) hne
      replace f1 := hgrow.cell (cell_later (bl_al (bl0 _) _) f1) hne
      replace f2 := hgrow.cell (cell_later (bl_al (bl0 _) _) f2) hne
      have hah := HAHF.out w5 (hr.below hB3) (hru.below hB3) (hst.below hB3)
      clear hgrow hown2 hne hd0 hd1 hzc hwc hcb hB2 hzw
      go_wp2_with fail
      refine hah.mono ?_
      rintro e w6 ⟨rfl, hb6⟩
      have hown6 := own_later hown' hb6
      have hB6 := bl_tr hB3 hb6
      replace f0 := cell_later hb6 f0; replace f1 := cell_later hb6 f1; replace f2 := cell_later hb6 f2
      clear hah hown' hB3 hb6
      have HO := Lib.hid hown6
      have HB := Lib.hid hB6
      clear hown6 hB6
      go_wp2
      go_roundw
      case rel => exact ⟨ls ++ [j], F, rfl, rfl, by rw [List.length_append]; exact HO.out, HRE.out, fun k hk => (HSMF.out k hk).2.1, HB.out, f0, f1, f2⟩
      case measure =>
        cases F with
        | none => exact Nat.succ_pos _
        | some k =>
          obtain ⟨-, -, -, q4, q5⟩ := HSMF.out k rfl
          show (atD ds (intOf (.int .i64 (k : Int))).toNat).toNat + 1 < (atD ds (intOf (.int .i64 (j : Int))).toNat).toNat + 1
          simp only [intOf, Int.toNat_natCast]
          omega
end Go.Proofs.YtgbhafadibdmcaaDoor

/- Least costs: Path. -/
namespace Go.Proofs.YtgbhafadibdmcaaDoor
open Go.RowKit

/-- What Path tells. -/
def PathR (A B : Int) (zs : List Int) (b : BX) (c t : IC) (e : Ending) (W : World) : Prop :=
  ∃ (a : Option Addr) (cap : Nat) (l : List IC) (cost er : Int), e = .returned (.tuple #[.slice a l.length cap, .int .u64 cost, .int .i64 er]) ∧ RowC W a l ∧ l.length ≤ 65536 ∧
    (errW A B zs.length b c ≠ 0 → er = errW A B zs.length b c ∧ l = [] ∧ cost = 0) ∧
    (errW A B zs.length b c = 0 → (inBx b t = false → er = 10 ∧ l = [] ∧ cost = 0) ∧
      (inBx b t = true → ∀ ds : List Int, ds.length = zs.length → Far (gphB A B b zs) (numN A c) (atD ds) →
        (atD ds (numN A t) = 18446744073709551615 → er = 22 ∧ l = [] ∧ cost = 0) ∧ (atD ds (numN A t) ≠ 18446744073709551615 → er = 0 ∧ cost = atD ds (numN A t) ∧ l = pathL A B zs ds (numN A t))))
/-- What is told of all is one list. -/
theorem far_same {A B : Int} {zs ds ds' : List Int} {b : BX} {s : Nat} (hG : (gphB A B b zs).Ok) (h : Far (gphB A B b zs) s (atD ds)) (h' : Far (gphB A B b zs) s (atD ds')) (hl : ds.length = ds'.length) : ds = ds' := by
  refine List.ext_getElem hl fun i h1 h2 => ?_
  rw [atD_get h1, atD_get h2]
  exact h.one hG h' i

set_option maxRecDepth 100000 in
set_option maxHeartbeats 4000000 in
theorem path_any (A B : Int) (a : Option Addr) (cap : Nat) (zs : List Int) (b : BX) (c t : IC) (w : World) (hz : AllH zs) (hr : RowH w a zs) (hst : Stp w) :
    Calls Tryd.prog 9 #[.agg #[.int .i64 A, .int .i64 B, .slice a zs.length cap], .agg #[.int .i64 b.1, .int .i64 b.2.1, .int .i64 b.2.2.1, .int .i64 b.2.2.2], .agg #[.int .i64 c.1, .int .i64 c.2], .agg #[.int .i64 t.1, .int .i64 t.2]] w fun e w' => PathR A B zs b c t e w' ∧ Below w.heap.size w w' := by
  have hA0 := bl_al (bl_al (bl_al (bl_al (bl0 w) (.cells #[.int .i64 A, .int .i64 B, .slice a zs.length cap] 26)) (.cells #[.int .i64 b.1, .int .i64 b.2.1, .int .i64 b.2.2.1, .int .i64 b.2.2.2] 28)) (.cells #[.int .i64 c.1, .int .i64 c.2] 30)) (.cells #[.int .i64 t.1, .int .i64 t.2] 30)
  have hcall := within_any A B a cap zs b c _ hz (hr.below hA0) (hst.below hA0)
  obtain ⟨X, Y, U, V⟩ := b
  dsimp only at hcall hA0 ⊢
  obtain ⟨E, hE⟩ : ∃ E, errW A B zs.length (X, Y, U, V) c = E := ⟨_, rfl⟩
  have HE := Lib.hid hE
  unfold WinR at hcall
  rw [hE] at hcall
  unfold PathR
  rw [hE]
  by_cases h0 : E = 0
  case neg =>
    have h1 : (E != 0) = true := by rw [bne_iff_ne]; exact h0
    have H0 := Lib.hid h0
    clear hE h0 hr hst
    go_enter Tryd.func9, Tryd.ntmps9
    go_wp2_with fail
    refine hcall.mono ?_
    rintro e w1 ⟨⟨b1, cap1, ds, rfl, -, h3, -⟩, hb⟩
    have hds := h3 H0.out
    subst hds
    have hA1 := bl_tr hA0 hb
    clear hcall hA0 hb h3
    go_wp2
    refine bodyPost_ret (v := .tuple #[.slice none 0 0, .int .u64 0, .int .i64 E]) (by simp [results, Tryd.results9, go_sem]) rfl ?_
    exact ⟨⟨none, 0, [], 0, E, rfl, .inl rfl, Nat.zero_le _, fun _ => ⟨rfl, rfl, rfl⟩, fun h => absurd h H0.out⟩, hA1⟩
  case pos =>
    subst h0
    obtain ⟨hchk, hf, hin⟩ := errW_ok hE
    obtain ⟨hmay, hn⟩ := chkF_may hchk
    have HN := Lib.hid hn
    have HG := Lib.hid (gphB_ok (b := (X, Y, U, V)) hmay hn hz)
    have hru0 := hr.below hA0
    clear hE hchk hn
    have c0 : ∀ w1, Below _ _ w1 → _ := fun w1 (hb : Below ((((w.alloc (.cells #[.int .i64 A, .int .i64 B, .slice a zs.length cap] 26)).alloc (.cells #[.int .i64 X, .int .i64 Y, .int .i64 U, .int .i64 V] 28)).alloc (.cells #[.int .i64 c.1, .int .i64 c.2] 30)).alloc (.cells #[.int .i64 t.1, .int .i64 t.2] 30)).heap.size ((((w.alloc (.cells #[.int .i64 A, .int .i64 B, .slice a zs.length cap] 26)).alloc (.cells #[.int .i64 X, .int .i64 Y, .int .i64 U, .int .i64 V] 28)).alloc (.cells #[.int .i64 c.1, .int .i64 c.2] 30)).alloc (.cells #[.int .i64 t.1, .int .i64 t.2] 30)) w1) =>
      (⟨cell_later hb (v := .int .i64 A) (a := ⟨w.heap.size, 0, none⟩) (by simp [go_sem]), cell_later hb (v := .int .i64 B) (a := ⟨w.heap.size, 1, none⟩) (by simp [go_sem]), cell_later hb (v := .slice a zs.length cap) (a := ⟨w.heap.size, 2, none⟩) (by simp [go_sem]), cell_later hb (v := .int .i64 X) (a := ⟨w.heap.size + 1, 0, none⟩) (by simp [go_sem]), cell_later hb (v := .int .i64 Y) (a := ⟨w.heap.size + 1, 1, none⟩) (by simp [go_sem]), cell_later hb (v := .int .i64 U) (a := ⟨w.heap.size + 1, 2, none⟩) (by simp [go_sem]), cell_later hb (v := .int .i64 V) (a := ⟨w.heap.size + 1, 3, none⟩) (by simp [go_sem]), cell_later hb (v := .int .i64 t.1) (a := ⟨w.heap.size + 1 + 1 + 1, 0, none⟩) (by simp [go_sem]), cell_later hb (v := .int .i64 t.2) (a := ⟨w.heap.size + 1 + 1 + 1, 1, none⟩) (by simp [go_sem])⟩ : w1.cell? ⟨w.heap.size, 0, none⟩ = some (.int .i64 A) ∧ w1.cell? ⟨w.heap.size, 1, none⟩ = some (.int .i64 B) ∧ w1.cell? ⟨w.heap.size, 2, none⟩ = some (.slice a zs.length cap) ∧ w1.cell? ⟨w.heap.size + 1, 0, none⟩ = some (.int .i64 X) ∧ w1.cell? ⟨w.heap.size + 1, 1, none⟩ = some (.int .i64 Y) ∧ w1.cell? ⟨w.heap.size + 1, 2, none⟩ = some (.int .i64 U) ∧ w1.cell? ⟨w.heap.size + 1, 3, none⟩ = some (.int .i64 V) ∧ w1.cell? ⟨w.heap.size + 1 + 1 + 1, 0, none⟩ = some (.int .i64 t.1) ∧ w1.cell? ⟨w.heap.size + 1 + 1 + 1, 1, none⟩ = some (.int .i64 t.2))
    have HC0 := Lib.hid c0
    clear c0
    go_enter Tryd.func9, Tryd.ntmps9
    go_wp2_with fail
    refine hcall.mono ?_
    rintro e w1 ⟨⟨b1, cap1, ds, rfl, hru, -, h4⟩, hb⟩
    obtain ⟨hdl, hfar⟩ := h4 (by first | rfl | trivial)
    rw [hdl]
    obtain ⟨f0, f1, f2, g0, g1, g2, g3, t0, t1⟩ := HC0.out _ hb
    have zf := blk_lt f0
    have zt := blk_lt t0
    have hA1 := bl_tr hA0 hb
    have HFAR := Lib.hid hfar
    have HDL := Lib.hid hdl
    clear hcall hb h4 hA0 hru0 hfar hdl HC0
    go_wp2_with fail
    refine (has_any _ _ _ _ _ _ _).mono ?_
    rintro e w2 ⟨rfl, hb2⟩
    replace f0 := cell_later hb2 f0; replace f1 := cell_later hb2 f1; replace f2 := cell_later hb2 f2; replace t0 := cell_later hb2 t0; replace t1 := cell_later hb2 t1
    have zf2 := blk_lt f0
    have zt2 := blk_lt t0
    have hA2 := bl_tr hA1 hb2
    replace hru := hru.below hb2
    clear hb2 hA1 g0 g1 g2 g3 zf zt
    obtain ⟨hh, hhe⟩ : ∃ hh, hasB X Y U V t.1 t.2 = hh := ⟨_, rfl⟩
    have HH := Lib.hid (show inBx (X, Y, U, V) t = hh from hhe)
    rw [hhe]
    cases hh
    · clear hhe
      go_wp2
      refine bodyPost_ret (v := .tuple #[.slice none 0 0, .int .u64 0, .int .i64 10]) (by simp [results, Tryd.results9, go_sem]) rfl ?_
      exact ⟨⟨none, 0, [], 0, 10, rfl, .inl rfl, Nat.zero_le _, fun h => absurd rfl h, fun _ => ⟨fun _ => ⟨rfl, rfl, rfl⟩, fun h => by rw [HH.out] at h; cases h⟩⟩, hA2⟩
    · have hon := box_on (b := (X, Y, U, V)) hf hhe
      have htl := numN_at hon HN.out
      have hnum := fun w => number_any A B a zs.length cap t w hon
      obtain ⟨i, hti⟩ : ∃ i, numN A t = i := ⟨_, rfl⟩
      have HTI := Lib.hid hti
      rw [hti] at hnum htl
      clear hti
      clear hhe
      go_wp2_with fail
      refine (hnum _).mono ?_
      rintro e w3 ⟨rfl, hb3⟩
      replace f0 := cell_later hb3 f0; replace f1 := cell_later hb3 f1; replace f2 := cell_later hb3 f2
      have hA3 := bl_tr hA2 hb3
      have hru3 := hru.below hb3
      have zf3 := blk_lt f0
      obtain ⟨gd, gq, e, q⟩ := hru3.cell (show i < ds.length by rw [HDL.out]; exact htl)
      subst e
      have hi0 : (0 : Int) ≤ (i : Int) := by omega
      have hi1 : (i : Int) < (zs.length : Int) := by omega
      clear hb3 hA2 hru hnum zf2 zt2 t0 t1
      by_cases hd : atD ds i = 18446744073709551615
      · rw [hd] at q
        have HD := Lib.hid hd
        clear hd
        go_wp2
        refine bodyPost_ret (v := .tuple #[.slice none 0 0, .int .u64 0, .int .i64 22]) (by simp [results, Tryd.results9, go_sem]) rfl ?_
        refine ⟨⟨none, 0, [], 0, 22, rfl, .inl rfl, Nat.zero_le _, fun h => absurd rfl h, fun _ => ⟨fun h => (by rw [HH.out] at h; cases h), fun _ ds' h1 h2 => ?_⟩⟩, hA3⟩
        have e := far_same HG.out h2 HFAR.out (by rw [h1, HDL.out])
        subst e
        rw [HTI.out]
        exact ⟨fun _ => ⟨rfl, rfl, rfl⟩, fun h => absurd HD.out h⟩
      · have hd2 : (atD ds i == 18446744073709551615) = false := by rw [beq_eq_false_iff_ne]; exact hd
        have hway := fun W h1 h2 h3 => way_any A B a (some ⟨gd, gq, none⟩) cap cap1 zs ds (X, Y, U, V) (numN A c) i W hmay HN.out hz HFAR.out HDL.out h1 h2 h3 hd
        have hpl : (pathL A B zs ds i).length ≤ 65536 := by
          have h1 := wayL_len hmay HN.out hz HFAR.out hd
          have := area_bd hmay
          have := HN.out
          unfold pathL
          simp
          omega
        obtain ⟨l, hl⟩ : ∃ l, pathL A B zs ds i = l := ⟨_, rfl⟩
        rw [hl] at hway hpl
        have HL := Lib.hid hl
        have HDI := Lib.hid hd
        obtain ⟨d, hdd⟩ : ∃ d, atD ds i = d := ⟨_, rfl⟩
        rw [hdd] at q hd2
        have HDD := Lib.hid hdd
        have hr3 := hr.below hA3
        have hst3 := hst.below hA3
        clear hl hd hdd
        have hD := bl_dr (bl0 w3)
        have hS : w3.drew.cell? ⟨w.heap.size, 0, none⟩ = some (.int .i64 A) ∧ w3.drew.cell? ⟨w.heap.size, 1, none⟩ = some (.int .i64 B) ∧ w3.drew.cell? ⟨w.heap.size, 2, none⟩ = some (.slice a zs.length cap) ∧ w3.drew.cell? ⟨gd, gq + i, none⟩ = some (.int .u64 d) := ⟨cell_later hD f0, cell_later hD f1, cell_later hD f2, cell_later hD q⟩
        go_wp2
        refine (wpIn_wide (n := 11)).1 ?_
        refine ordS_begin (S := (fun w' : World => w'.cell? ⟨w.heap.size, 0, none⟩ = some (.int .i64 A) ∧ w'.cell? ⟨w.heap.size, 1, none⟩ = some (.int .i64 B) ∧ w'.cell? ⟨w.heap.size, 2, none⟩ = some (.slice a zs.length cap) ∧ w'.cell? ⟨gd, gq + i, none⟩ = some (.int .u64 d))) (by kernel_rfl) hS (fun hH => ?_)
        first
          | (refine' ordS_take (i := 0) (oi := { dst := some 36, op := Op.load 26 (Operand.tmp 4), type := 26, pos := _, after := #[], guard := none }) (v := _) rfl (by kernel_rfl) (by kernel_rfl) (by kernel_rfl) (by kernel_rfl) (fun _ _ _ h => h) (by assumption) (Or.inl ⟨by rfl, ?hy133⟩) (fun _ => rfl) ?rest133
             case hy133 => (intro w hSw; (try dsimp only at hSw); go_simp; try with_reducible rfl))
          | (refine ordS_take (i := 0) (oi := { dst := some 36, op := Op.load 26 (Operand.tmp 4), type := 26, pos := _, after := #[], guard := none }) (v := undef) rfl (by kernel_rfl) (by kernel_rfl) (by kernel_rfl) (by kernel_rfl) (fun _ _ _ h => h) (by assumption) (Or.inr ⟨by rfl, rfl⟩) (fun _ => rfl) ?_)
        try simp only [Act.put, List.setIfInBounds_toArray, List.set_cons_zero, List.set_cons_succ]
        first
          | (refine' ordS_take (i := 1) (oi := { dst := some 37, op := Op.move (Operand.tmp 11), type := 42, pos := _, after := #[], guard := none }) (v := _) rfl (by kernel_rfl) (by kernel_rfl) (by kernel_rfl) (by kernel_rfl) (fun _ _ _ h => h) (by assumption) (Or.inl ⟨by rfl, ?hy134⟩) (fun _ => rfl) ?rest134
             case hy134 => (intro w hSw; (try dsimp only at hSw); go_simp; try with_reducible rfl))
          | (refine ordS_take (i := 1) (oi := { dst := some 37, op := Op.move (Operand.tmp 11), type := 42, pos := _, after := #[], guard := none }) (v := undef) rfl (by kernel_rfl) (by kernel_rfl) (by kernel_rfl) (by kernel_rfl) (fun _ _ _ h => h) (by assumption) (Or.inr ⟨by rfl, rfl⟩) (fun _ => rfl) ?_)
        try simp only [Act.put, List.setIfInBounds_toArray, List.set_cons_zero, List.set_cons_succ]
        first
          | (refine' ordS_take (i := 2) (oi := { dst := some 38, op := Op.move (Operand.tmp 13), type := 3, pos := _, after := #[], guard := none }) (v := _) rfl (by kernel_rfl) (by kernel_rfl) (by kernel_rfl) (by kernel_rfl) (fun _ _ _ h => h) (by assumption) (Or.inl ⟨by rfl, ?hy135⟩) (fun _ => rfl) ?rest135
             case hy135 => (intro w hSw; (try dsimp only at hSw); go_simp; try with_reducible rfl))
          | (refine ordS_take (i := 2) (oi := { dst := some 38, op := Op.move (Operand.tmp 13), type := 3, pos := _, after := #[], guard := none }) (v := undef) rfl (by kernel_rfl) (by kernel_rfl) (by kernel_rfl) (by kernel_rfl) (fun _ _ _ h => h) (by assumption) (Or.inr ⟨by rfl, rfl⟩) (fun _ => rfl) ?_)
        try simp only [Act.put, List.setIfInBounds_toArray, List.set_cons_zero, List.set_cons_succ]
        first
          | (refine' ordS_take (i := 4) (oi := { dst := some 40, op := Op.move (Operand.tmp 11), type := 42, pos := _, after := #[{ on := 8, ground := Ground.gcOnly Departure.lateStores }], guard := none }) (v := _) rfl (by kernel_rfl) (by kernel_rfl) (by kernel_rfl) (by kernel_rfl) (fun _ _ _ h => h) (by assumption) (Or.inl ⟨by rfl, ?hy136⟩) (fun _ => rfl) ?rest136
             case hy136 => (intro w hSw; (try dsimp only at hSw); go_simp; try with_reducible rfl))
          | (refine ordS_take (i := 4) (oi := { dst := some 40, op := Op.move (Operand.tmp 11), type := 42, pos := _, after := #[{ on := 8, ground := Ground.gcOnly Departure.lateStores }], guard := none }) (v := undef) rfl (by kernel_rfl) (by kernel_rfl) (by kernel_rfl) (by kernel_rfl) (fun _ _ _ h => h) (by assumption) (Or.inr ⟨by rfl, rfl⟩) (fun _ => rfl) ?_)
        try simp only [Act.put, List.setIfInBounds_toArray, List.set_cons_zero, List.set_cons_succ]
        first
          | (refine' ordS_take (i := 5) (oi := { dst := some 41, op := Op.move (Operand.tmp 13), type := 3, pos := _, after := #[{ on := 8, ground := Ground.gcOnly Departure.lateStores }], guard := none }) (v := _) rfl (by kernel_rfl) (by kernel_rfl) (by kernel_rfl) (by kernel_rfl) (fun _ _ _ h => h) (by assumption) (Or.inl ⟨by rfl, ?hy137⟩) (fun _ => rfl) ?rest137
             case hy137 => (intro w hSw; (try dsimp only at hSw); go_simp; try with_reducible rfl))
          | (refine ordS_take (i := 5) (oi := { dst := some 41, op := Op.move (Operand.tmp 13), type := 3, pos := _, after := #[{ on := 8, ground := Ground.gcOnly Departure.lateStores }], guard := none }) (v := undef) rfl (by kernel_rfl) (by kernel_rfl) (by kernel_rfl) (by kernel_rfl) (fun _ _ _ h => h) (by assumption) (Or.inr ⟨by rfl, rfl⟩) (fun _ => rfl) ?_)
        try simp only [Act.put, List.setIfInBounds_toArray, List.set_cons_zero, List.set_cons_succ]
        first
          | (refine' ordS_take (i := 6) (oi := { dst := some 42, op := Op.indexAddr 42 (Operand.tmp 40) (Operand.tmp 41), type := 0, pos := _, after := #[{ on := 4, ground := Ground.data }, { on := 5, ground := Ground.data }, { on := 8, ground := Ground.gcOnly Departure.lateStores }], guard := none }) (v := _) rfl (by kernel_rfl) (by kernel_rfl) (by kernel_rfl) (by kernel_rfl) (fun _ _ _ h => h) (by assumption) (Or.inl ⟨by rfl, ?hy138⟩) (fun _ => rfl) ?rest138
             case hy138 => (intro w hSw; (try dsimp only at hSw); go_simp; try with_reducible rfl))
          | (refine ordS_take (i := 6) (oi := { dst := some 42, op := Op.indexAddr 42 (Operand.tmp 40) (Operand.tmp 41), type := 0, pos := _, after := #[{ on := 4, ground := Ground.data }, { on := 5, ground := Ground.data }, { on := 8, ground := Ground.gcOnly Departure.lateStores }], guard := none }) (v := undef) rfl (by kernel_rfl) (by kernel_rfl) (by kernel_rfl) (by kernel_rfl) (fun _ _ _ h => h) (by assumption) (Or.inr ⟨by rfl, rfl⟩) (fun _ => rfl) ?_)
        try simp only [Act.put, List.setIfInBounds_toArray, List.set_cons_zero, List.set_cons_succ]
        first
          | (refine' ordS_take (i := 7) (oi := { dst := some 43, op := Op.load 36 (Operand.tmp 42), type := 36, pos := _, after := #[{ on := 6, ground := Ground.data }, { on := 8, ground := Ground.gcOnly Departure.lateStores }], guard := none }) (v := _) rfl (by kernel_rfl) (by kernel_rfl) (by kernel_rfl) (by kernel_rfl) (fun _ _ _ h => h) (by assumption) (Or.inl ⟨by rfl, ?hy139⟩) (fun _ => rfl) ?rest139
             case hy139 => (intro w hSw; (try dsimp only at hSw); go_simp; try with_reducible rfl))
          | (refine ordS_take (i := 7) (oi := { dst := some 43, op := Op.load 36 (Operand.tmp 42), type := 36, pos := _, after := #[{ on := 6, ground := Ground.data }, { on := 8, ground := Ground.gcOnly Departure.lateStores }], guard := none }) (v := undef) rfl (by kernel_rfl) (by kernel_rfl) (by kernel_rfl) (by kernel_rfl) (fun _ _ _ h => h) (by assumption) (Or.inr ⟨by rfl, rfl⟩) (fun _ => rfl) ?_)
        try simp only [Act.put, List.setIfInBounds_toArray, List.set_cons_zero, List.set_cons_succ]
        refine ordS_one (i := 3) (o := { dst := some 39, op := Op.call { callee := Callee.value (Operand.func 33), args := #[Operand.tmp 36, Operand.tmp 37, Operand.tmp 38], argTypes := #[26, 42, 3] }, type := 35, pos := _, after := #[{ on := 0, ground := Ground.data }, { on := 1, ground := Ground.data }, { on := 2, ground := Ground.data }], guard := none }) (by kernel_rfl) rfl (by rfl) (fun K hK => ?_)
        go_simp
        refine ⟨trivial, ?_⟩
        with_reducible refine (callsIn_wide.2 (hway _ (hr3.below hD) (hru3.below hD) (hst3.below hD))).mono ?_
        rintro e W4 ⟨ga, cap4, rfl, hrc, hb4⟩
        replace hD := bl_tr hD hb4
        have hS4 : W4.cell? ⟨w.heap.size, 0, none⟩ = some (.int .i64 A) ∧ W4.cell? ⟨w.heap.size, 1, none⟩ = some (.int .i64 B) ∧ W4.cell? ⟨w.heap.size, 2, none⟩ = some (.slice a zs.length cap) ∧ W4.cell? ⟨gd, gq + i, none⟩ = some (.int .u64 d) := ⟨cell_later hD f0, cell_later hD f1, cell_later hD f2, cell_later hD q⟩
        refine hK _ _ hS4 ?_
        clear hK K hb4
        try simp only [Act.put, List.setIfInBounds_toArray, List.set_cons_zero, List.set_cons_succ]
        first
          | (refine' ordS_take (i := 8) (oi := { dst := some 8, op := Op.assign (Operand.tmp 39), type := 35, pos := _, after := #[{ on := 3, ground := Ground.data }, { on := 3, ground := Ground.chain }, { on := 0, ground := Ground.phase }, { on := 1, ground := Ground.phase }, { on := 2, ground := Ground.phase }, { on := 3, ground := Ground.phase }, { on := 4, ground := Ground.textOnly Departure.lateStores }, { on := 5, ground := Ground.textOnly Departure.lateStores }, { on := 6, ground := Ground.textOnly Departure.lateStores }, { on := 7, ground := Ground.textOnly Departure.lateStores }], guard := none }) (v := _) rfl (by kernel_rfl) (by kernel_rfl) (by kernel_rfl) (by kernel_rfl) (fun _ _ _ h => h) (by assumption) (Or.inl ⟨by rfl, ?hy140⟩) (fun _ => rfl) ?rest140
             case hy140 => (intro w hSw; (try dsimp only at hSw); go_simp; try with_reducible rfl))
          | (refine ordS_take (i := 8) (oi := { dst := some 8, op := Op.assign (Operand.tmp 39), type := 35, pos := _, after := #[{ on := 3, ground := Ground.data }, { on := 3, ground := Ground.chain }, { on := 0, ground := Ground.phase }, { on := 1, ground := Ground.phase }, { on := 2, ground := Ground.phase }, { on := 3, ground := Ground.phase }, { on := 4, ground := Ground.textOnly Departure.lateStores }, { on := 5, ground := Ground.textOnly Departure.lateStores }, { on := 6, ground := Ground.textOnly Departure.lateStores }, { on := 7, ground := Ground.textOnly Departure.lateStores }], guard := none }) (v := undef) rfl (by kernel_rfl) (by kernel_rfl) (by kernel_rfl) (by kernel_rfl) (fun _ _ _ h => h) (by assumption) (Or.inr ⟨by rfl, rfl⟩) (fun _ => rfl) ?_)
        try simp only [Act.put, List.setIfInBounds_toArray, List.set_cons_zero, List.set_cons_succ]
        first
          | (refine' ordS_take (i := 9) (oi := { dst := some 9, op := Op.assign (Operand.tmp 43), type := 36, pos := _, after := #[{ on := 7, ground := Ground.data }, { on := 8, ground := Ground.chain }, { on := 0, ground := Ground.phase }, { on := 1, ground := Ground.phase }, { on := 2, ground := Ground.phase }, { on := 3, ground := Ground.phase }, { on := 4, ground := Ground.phase }, { on := 5, ground := Ground.phase }, { on := 6, ground := Ground.phase }, { on := 7, ground := Ground.phase }, { on := 8, ground := Ground.phase }], guard := none }) (v := _) rfl (by kernel_rfl) (by kernel_rfl) (by kernel_rfl) (by kernel_rfl) (fun _ _ _ h => h) (by assumption) (Or.inl ⟨by rfl, ?hy141⟩) (fun _ => rfl) ?rest141
             case hy141 => (intro w hSw; (try dsimp only at hSw); go_simp; try with_reducible rfl))
          | (refine ordS_take (i := 9) (oi := { dst := some 9, op := Op.assign (Operand.tmp 43), type := 36, pos := _, after := #[{ on := 7, ground := Ground.data }, { on := 8, ground := Ground.chain }, { on := 0, ground := Ground.phase }, { on := 1, ground := Ground.phase }, { on := 2, ground := Ground.phase }, { on := 3, ground := Ground.phase }, { on := 4, ground := Ground.phase }, { on := 5, ground := Ground.phase }, { on := 6, ground := Ground.phase }, { on := 7, ground := Ground.phase }, { on := 8, ground := Ground.phase }], guard := none }) (v := undef) rfl (by kernel_rfl) (by kernel_rfl) (by kernel_rfl) (by kernel_rfl) (fun _ _ _ h => h) (by assumption) (Or.inr ⟨by rfl, rfl⟩) (fun _ => rfl) ?_)
        try simp only [Act.put, List.setIfInBounds_toArray, List.set_cons_zero, List.set_cons_succ]
        first
          | (refine' ordS_take (i := 10) (oi := { dst := some 10, op := Op.assign (Operand.const (Value.int IntKind.i64 0)), type := 37, pos := _, after := #[{ on := 9, ground := Ground.chain }, { on := 0, ground := Ground.phase }, { on := 1, ground := Ground.phase }, { on := 2, ground := Ground.phase }, { on := 3, ground := Ground.phase }, { on := 4, ground := Ground.phase }, { on := 5, ground := Ground.phase }, { on := 6, ground := Ground.phase }, { on := 7, ground := Ground.phase }, { on := 8, ground := Ground.phase }, { on := 9, ground := Ground.phase }], guard := none }) (v := _) rfl (by kernel_rfl) (by kernel_rfl) (by kernel_rfl) (by kernel_rfl) (fun _ _ _ h => h) (by assumption) (Or.inl ⟨by rfl, ?hy142⟩) (fun _ => rfl) ?rest142
             case hy142 => (intro w hSw; (try dsimp only at hSw); go_simp; try with_reducible rfl))
          | (refine ordS_take (i := 10) (oi := { dst := some 10, op := Op.assign (Operand.const (Value.int IntKind.i64 0)), type := 37, pos := _, after := #[{ on := 9, ground := Ground.chain }, { on := 0, ground := Ground.phase }, { on := 1, ground := Ground.phase }, { on := 2, ground := Ground.phase }, { on := 3, ground := Ground.phase }, { on := 4, ground := Ground.phase }, { on := 5, ground := Ground.phase }, { on := 6, ground := Ground.phase }, { on := 7, ground := Ground.phase }, { on := 8, ground := Ground.phase }, { on := 9, ground := Ground.phase }], guard := none }) (v := undef) rfl (by kernel_rfl) (by kernel_rfl) (by kernel_rfl) (by kernel_rfl) (fun _ _ _ h => h) (by assumption) (Or.inr ⟨by rfl, rfl⟩) (fun _ => rfl) ?_)
        try simp only [Act.put, List.setIfInBounds_toArray, List.set_cons_zero, List.set_cons_succ]
        refine ordS_done (by kernel_rfl) ?_
        have HB := Lib.hid (bl_tr hA3 hD)
        have HRC := Lib.hid hrc
        have HPL := Lib.hid hpl
        clear hD hrc hpl hS hS4 hH hway
        go_wp2
        refine bodyPost_ret (v := .tuple #[.slice ga l.length cap4, .int .u64 d, .int .i64 0]) (by simp [results, Tryd.results9, go_sem]) rfl ?_
        refine ⟨⟨ga, cap4, l, d, 0, rfl, HRC.out, HPL.out, fun h => absurd rfl h, fun _ => ⟨fun h => (by rw [HH.out] at h; cases h), fun _ ds' h1 h2 => ?_⟩⟩, HB.out⟩
        have e := far_same HG.out h2 HFAR.out (by rw [h1, HDL.out])
        subst e
        rw [HTI.out]
        exact ⟨fun h => absurd h HDI.out, fun _ => ⟨rfl, HDD.out.symm, HL.out.symm⟩⟩
end Go.Proofs.YtgbhafadibdmcaaDoor

/- Least costs: the laws' helpers; the chapter's example. -/
namespace Go.Proofs.YtgbhafadibdmcaaDoor
open Go.RowKit

theorem take_sameC {xs ys : List (Int × Int)} {k : Nat} (hk : k < xs.length) (hk2 : k < ys.length) (h : xs.take k = ys.take k) (e : xs[k] = ys[k]) : xs.take (k + 1) = ys.take (k + 1) := by
  rw [List.take_succ_eq_append_getElem hk, List.take_succ_eq_append_getElem hk2, h, e]
theorem take_allC {xs ys : List (Int × Int)} {k : Nat} (h1 : xs.length ≤ k) (h2 : xs.length = ys.length) (h : xs.take k = ys.take k) : xs = ys := by
  rw [List.take_of_length_le h1, List.take_of_length_le (by omega)] at h
  exact h
set_option maxHeartbeats 2000000 in
theorem cells_any (a a2 : Option Addr) (cap cap2 : Nat) (xs ys : List (Int × Int)) (w : World) (hr : RowC w a xs) (hr2 : RowC w a2 ys) (hl : xs.length ≤ 1048576) :
    Calls Tryd.prog 13 #[.slice a xs.length cap, .slice a2 ys.length cap2] w fun e w' => e = .returned (.bool (decide (xs = ys))) ∧ Below w.heap.size w w' := by
  have hl2 : (xs.length : Int) ≤ 1048576 := by omega
  by_cases he : xs.length = ys.length
  · have h1 : ((xs.length : Int) != (ys.length : Int)) = false := by rw [bne_eq_false_iff_eq]; omega
    have HE := Lib.hid he
    clear he
    have hA0 := bl0 w
    go_enter Tryd.func13, Tryd.ntmps13
    go_wp2
    go_loopw [5] (fun i wr => ∃ k : Nat, k ≤ xs.length ∧ i = .int .i64 k ∧ xs.take k = ys.take k ∧ Below w.heap.size w wr) (fun i _ => xs.length - (intOf i).toNat)
    case atStart => exact ⟨0, Nat.zero_le _, rfl, rfl, hA0⟩
    case round =>
      obtain ⟨k, hk, rfl, ht, hB⟩ := hrel
      have HT := Lib.hid ht
      clear hA0 ht
      by_cases hlt : k < xs.length
      · have hlt2 : (k : Int) < (xs.length : Int) := by omega
        have hk0 : (0 : Int) ≤ (k : Int) := by omega
        have hlty : k < ys.length := by rw [← HE.out]; exact hlt
        obtain ⟨gb, go, rfl, q0, q1⟩ := hr.cell hlt
        obtain ⟨gb2, go2, rfl, r0, r1⟩ := hr2.cell hlty
        replace q0 := cell_later hB q0
        replace q1 := cell_later hB q1
        replace r0 := cell_later hB r0
        replace r1 := cell_later hB r1
        have hlty2 : (k : Int) < (ys.length : Int) := by omega
        clear hr hr2
        by_cases hx : xs[k] = ys[k]
        · have HS := Lib.hid (take_sameC hlt hlty HT.out hx)
          rw [← hx] at r0 r1
          clear hx
          generalize xs[k].1 = x at *
          generalize xs[k].2 = y at *
          have b1 := beq_self_eq_true x
          have b2 := beq_self_eq_true y
          go_wp2
          go_quiet (fail)
          go_wp2
          go_roundw
          case rel => exact ⟨k + 1, by omega, by go_num, HS.out, bl_tr hB (bl_drn _ _)⟩
          case measure => simp [intOf]; omega
        · have HS := Lib.hid (show xs ≠ ys by rintro rfl; exact hx rfl)
          by_cases h2 : xs[k].1 = ys[k].1
          · have h3 : (xs[k].2 == ys[k].2) = false := by rw [beq_eq_false_iff_ne]; exact fun e => hx (Prod.ext h2 e)
            rw [← h2] at r0
            clear hx h2
            generalize xs[k].1 = x at *
            generalize xs[k].2 = y at *
            generalize ys[k].2 = y' at *
            have b1 := beq_self_eq_true x
            go_wp2
            go_quiet (fail)
            go_wp2
            go_ret
            exact ⟨ret_bool (by simp [HS.out]), bl_tr hB (bl_drn _ _)⟩
          · have h3 : (xs[k].1 == ys[k].1) = false := by rw [beq_eq_false_iff_ne]; exact h2
            clear hx h2
            generalize xs[k].1 = x at *
            generalize xs[k].2 = y at *
            generalize ys[k].1 = x' at *
            generalize ys[k].2 = y' at *
            go_wp2
            go_quiet (fail)
            go_wp2
            go_ret
            exact ⟨ret_bool (by simp [HS.out]), bl_tr hB (bl_drn _ _)⟩
      · have hge : (xs.length : Int) ≤ (k : Int) := by omega
        have HS := Lib.hid (take_allC (by omega) HE.out HT.out)
        go_wp2
        go_ret
        exact ⟨ret_bool (by simp [HS.out]), hB⟩
  · have h1 : ((xs.length : Int) != (ys.length : Int)) = true := by rw [bne_iff_ne]; omega
    have HE := Lib.hid (show xs ≠ ys from fun e => he (by rw [e]))
    clear he
    go_enter Tryd.func13, Tryd.ntmps13
    go_wp2
    go_ret
    exact ⟨ret_bool (by simp [HE.out]), bl0 _⟩

set_option maxHeartbeats 2000000 in
theorem same8_any (a a2 : Option Addr) (cap cap2 : Nat) (xs ys : List Int) (w : World) (hr : RowU w a xs) (hr2 : RowU w a2 ys) (hl : xs.length ≤ 140737488355328) :
    Calls Tryd.prog 29 #[.slice a xs.length cap, .slice a2 ys.length cap2] w fun e w' => e = .returned (.bool (decide (xs = ys))) ∧ Below w.heap.size w w' := by
  have hl2 : (xs.length : Int) ≤ 140737488355328 := by omega
  by_cases he : xs.length = ys.length
  · have h1 : ((xs.length : Int) != (ys.length : Int)) = false := by rw [bne_eq_false_iff_eq]; omega
    have HE := Lib.hid he
    clear he
    have hA0 := bl0 w
    go_enter Tryd.func29, Tryd.ntmps29
    go_wp2
    go_loopw [5] (fun i wr => ∃ k : Nat, k ≤ xs.length ∧ i = .int .i64 k ∧ xs.take k = ys.take k ∧ Below w.heap.size w wr) (fun i _ => xs.length - (intOf i).toNat)
    case atStart => exact ⟨0, Nat.zero_le _, rfl, rfl, hA0⟩
    case round =>
      obtain ⟨k, hk, rfl, ht, hB⟩ := hrel
      have HT := Lib.hid ht
      clear hA0 ht
      by_cases hlt : k < xs.length
      · have hlt2 : (k : Int) < (xs.length : Int) := by omega
        have hk0 : (0 : Int) ≤ (k : Int) := by omega
        have hlty : k < ys.length := by rw [← HE.out]; exact hlt
        obtain ⟨gb, go, rfl, q⟩ := hr.cell hlt
        rw [← atD_get hlt] at q
        obtain ⟨gb2, go2, rfl, q2⟩ := hr2.cell hlty
        rw [← atD_get hlty] at q2
        replace q := cell_later hB q
        replace q2 := cell_later hB q2
        have hlty2 : (k : Int) < (ys.length : Int) := by omega
        clear hr hr2
        by_cases hx : xs[k] = ys[k]
        · have HS := Lib.hid (take_same hlt hlty HT.out hx)
          have hx2 : (xs[k] != ys[k]) = false := by rw [bne_eq_false_iff_eq]; exact hx
          clear hx
          generalize xs[k] = x at *
          generalize ys[k] = y at *
          go_wp2
          go_quiet (fail)
          go_wp2
          go_roundw
          case rel => exact ⟨k + 1, by omega, by go_num, HS.out, bl_tr hB (bl_drn _ _)⟩
          case measure => simp [intOf]; omega
        · have HS := Lib.hid (not_same_at hlt hlty hx)
          have hx2 : (xs[k] != ys[k]) = true := by rw [bne_iff_ne]; exact hx
          clear hx
          generalize xs[k] = x at *
          generalize ys[k] = y at *
          go_wp2
          go_quiet (fail)
          go_wp2
          go_ret
          exact ⟨ret_bool (by simp [HS.out]), bl_tr hB (bl_drn _ _)⟩
      · have hge : (xs.length : Int) ≤ (k : Int) := by omega
        have HS := Lib.hid (take_all (by omega) HE.out HT.out)
        go_wp2
        go_ret
        exact ⟨ret_bool (by simp [HS.out]), hB⟩
  · have h1 : ((xs.length : Int) != (ys.length : Int)) = true := by rw [bne_iff_ne]; omega
    have HE := Lib.hid (show xs ≠ ys from fun e => he (by rw [e]))
    clear he
    go_enter Tryd.func29, Tryd.ntmps29
    go_wp2
    go_ret
    exact ⟨ret_bool (by simp [HE.out]), bl0 _⟩

set_option maxHeartbeats 400000 in
theorem small8_any (A B : Int) (a : Option Addr) (n cap : Nat) (w : World) :
    Calls Tryd.prog 7 #[.agg #[.int .i64 A, .int .i64 B, .slice a n cap]] w fun e w' => e = .returned (.bool (decide ((n : Int) ≤ 150))) ∧ Below w.heap.size w w' := by
  go_enter Tryd.func7, Tryd.ntmps7
  go_wp2
  go_ret
  exact ⟨rfl, bl_al (bl0 _) _⟩

/-- The example's field, and what is told of it. -/
def zAw : List Int := [1, 2, 1, 1, 9, 1]
def dAw : List Int := [0, 2, 3, 1, 10, 4]
def okAw : Bool := (List.range 6).all fun i => (List.range 6).all fun j => !(nbL 3 2 i).contains j || (decide (atD dAw i ≤ atD dAw j + zAw.getD i 0) && decide (zAw.getD i 0 ≠ 0))
def ofAw : Bool := (List.range 6).all fun i => i == 0 || (List.range 6).any fun j => (nbL 3 2 i).contains j && decide (atD dAw i = atD dAw j + zAw.getD i 0)
def bdAw : Bool := (List.range 6).all fun i => decide (0 ≤ atD dAw i ∧ atD dAw i ≤ 4294967296) && inBx (0, 0, 3, 2) (cellN 3 i) && decide (zAw.getD i 0 ≠ 0)
theorem far_aw : Far (gphB 3 2 (0, 0, 3, 2) zAw) 0 (atD dAw) := by
  have h1 : okAw = true := by kernel_rfl
  have h2 : ofAw = true := by kernel_rfl
  have h3 : bdAw = true := by kernel_rfl
  unfold okAw at h1
  unfold ofAw at h2
  unfold bdAw at h3
  simp only [List.all_eq_true, List.any_eq_true, List.mem_range, Bool.or_eq_true, Bool.and_eq_true, decide_eq_true_eq, Bool.not_eq_true', List.contains_eq_mem, decide_eq_false_iff_not, beq_iff_eq] at h1 h2 h3
  have hlen : zAw.length = 6 := rfl
  have hop : ∀ i, i < 6 → (gphB 3 2 (0, 0, 3, 2) zAw).opn i := fun i hi => gphB_opn.2 ⟨hi, (h3 i hi).1.2, (h3 i hi).2⟩
  have hk : ∀ i, i < 6 → (gphB 3 2 (0, 0, 3, 2) zAw).k i = zAw.getD i 0 := fun i hi => gphB_k (h3 i hi).1.2
  have hno : ∀ i, 6 ≤ i → atD dAw i = 18446744073709551615 := fun i hi => atD_none hi
  refine ⟨fun i => ?_, fun i hi => ?_, fun _ => rfl, fun i j hi hj hn _ => ?_, fun i hi hf => ?_, fun h => absurd (hop 0 (by decide)) h⟩
  · by_cases h : i < 6
    · exact .inr (h3 i h).1.1
    · exact .inl (hno i (by omega))
  · by_cases h : i < 6
    · exact absurd (hop i h) hi
    · exact hno i (by omega)
  · have hi6 := (gphB_opn.1 hi).1
    have hj6 := (gphB_opn.1 hj).1
    rw [hlen] at hi6 hj6
    rw [hk i hi6]
    rcases h1 i hi6 j hj6 with h | h
    · exact absurd hn h
    · exact h.1
  · by_cases h : i < 6
    · rcases h2 i h with h | ⟨j, hj, h4, h5⟩
      · exact absurd h hi
      · refine ⟨j, h4, hop j hj, ?_, by rw [hk i h]; exact h5⟩
        have := (h3 j hj).1.1
        omega
    · exact absurd (hno i (by omega)) hf
theorem path_aw : pathL 3 2 zAw dAw 5 = [(0, 0), (1, 0), (2, 0), (2, 1)] := by kernel_rfl
theorem errW_aw : errW 3 2 6 (0, 0, 3, 2) (0, 0) = 0 := by kernel_rfl
end Go.Proofs.YtgbhafadibdmcaaDoor

/- Least costs: the chapter's example is as it says. -/
namespace Go.Proofs.YtgbhafadibdmcaaDoor
open Go.RowKit

theorem zAw_in : AllH zAw := by
  intro z hz
  simp only [zAw, List.mem_cons, List.not_mem_nil, or_false] at hz
  rcases hz with rfl | rfl | rfl | rfl | rfl | rfl <;> exact ⟨by decide, by decide⟩
theorem from_aw (b : Nat) (w : World) (hr : RowH w (some ⟨b, 0, none⟩) zAw) (hst : Stp w) :
    Calls Tryd.prog 23 #[.agg #[.int .i64 3, .int .i64 2, .slice (some ⟨b, 0, none⟩) 6 6], .agg #[.int .i64 0, .int .i64 0]] w fun e w' => (∃ a' cap', e = .returned (.tuple #[.slice a' 6 cap', .int .i64 0]) ∧ RowU w' a' dAw) ∧ Below w.heap.size w w' := by
  refine (from_any 3 2 (some ⟨b, 0, none⟩) 6 zAw (0, 0) w zAw_in hr hst).mono ?_
  rintro e w' ⟨⟨a, cap, ds, he, h2, h3, h4⟩, hb⟩
  have hE : errW 3 2 zAw.length (0, 0, 3, 2) (0, 0) = 0 := errW_aw
  rw [hE] at he h4
  obtain ⟨h5, h6⟩ := h4 rfl
  have hG : (gphB 3 2 (0, 0, 3, 2) zAw).Ok := gphB_ok (by decide) (by decide) zAw_in
  have h7 : ds = dAw := far_same hG h6 far_aw (by rw [h5]; rfl)
  subst h7
  exact ⟨⟨a, cap, he, h2⟩, hb⟩
theorem path_aw_any (b : Nat) (w : World) (hr : RowH w (some ⟨b, 0, none⟩) zAw) (hst : Stp w) :
    Calls Tryd.prog 9 #[.agg #[.int .i64 3, .int .i64 2, .slice (some ⟨b, 0, none⟩) 6 6], .agg #[.int .i64 0, .int .i64 0, .int .i64 3, .int .i64 2], .agg #[.int .i64 0, .int .i64 0], .agg #[.int .i64 2, .int .i64 1]] w fun e w' => (∃ a' cap', e = .returned (.tuple #[.slice a' 4 cap', .int .u64 4, .int .i64 0]) ∧ RowC w' a' [(0, 0), (1, 0), (2, 0), (2, 1)]) ∧ Below w.heap.size w w' := by
  refine (path_any 3 2 (some ⟨b, 0, none⟩) 6 zAw (0, 0, 3, 2) (0, 0) (2, 1) w zAw_in hr hst).mono ?_
  rintro e w' ⟨⟨a, cap, l, cost, er, he, h2, h3, h4, h5⟩, hb⟩
  have hE : errW 3 2 zAw.length (0, 0, 3, 2) (0, 0) = 0 := errW_aw
  obtain ⟨h6, h7⟩ := (h5 hE).2 (by kernel_rfl) dAw rfl far_aw
  obtain ⟨rfl, h8, h9⟩ := h7 (by decide)
  have e1 : cost = 4 := h8
  have e2 : l = [(0, 0), (1, 0), (2, 0), (2, 1)] := h9.trans path_aw
  subst e1
  subst e2
  exact ⟨⟨a, cap, he, h2⟩, hb⟩
theorem row_lit {W : World} {b : Nat} {cs : Array Value} {t : TypeId} {zs : List Int} (h : W.heap[b]? = some (.cells cs t (0, 0))) (hc : cs = (zs.map (Value.int .u16)).toArray) : RowH W (some ⟨b, 0, none⟩) zs := by
  refine .inr ⟨b, 0, rfl, fun i z hz => ?_⟩
  rw [Nat.zero_add]
  simp only [World.cell?, h, hc]
  simp [hz]
theorem rowU_lit {W : World} {b : Nat} {cs : Array Value} {t : TypeId} {zs : List Int} (h : W.heap[b]? = some (.cells cs t (0, 0))) (hc : cs = (zs.map (Value.int .u64)).toArray) : RowU W (some ⟨b, 0, none⟩) zs := by
  refine .inr ⟨b, 0, rfl, fun i z hz => ?_⟩
  rw [Nat.zero_add]
  simp only [World.cell?, h, hc]
  simp [hz]
theorem rowC_lit {W : World} {b : Nat} {cs : Array Value} {t : TypeId} {zs : List IC} (h : W.heap[b]? = some (.cells cs t (0, 0))) (hc : cs = (flatC zs).toArray) : RowC W (some ⟨b, 0, none⟩) zs := by
  refine .inr ⟨b, 0, rfl, fun i z hz => ?_⟩
  obtain ⟨e0, e1⟩ := flatC_at zs i z hz
  rw [Nat.zero_add]
  simp only [World.cell?, h, hc]
  simp [e0, e1]

set_option maxRecDepth 100000 in
set_option maxHeartbeats 4000000 in
theorem awake8 (w : World) (hst : Stp w) : Calls Tryd.prog 8 #[] w fun e w' => e = .returned (.bool true) ∧ Below w.heap.size w w' := by
  go_enter Tryd.func8, Tryd.ntmps8
  go_wp2_with fail
  have hA := bl_al (bl_al (bl0 w) (.cells #[.int .u16 1, .int .u16 2, .int .u16 1, .int .u16 1, .int .u16 9, .int .u16 1] 64)) (.cells #[.int .i64 3, .int .i64 2, .slice (some ⟨w.heap.size, 0, none⟩) 6 6] 26)
  have hrow : RowH ((w.alloc (.cells #[.int .u16 1, .int .u16 2, .int .u16 1, .int .u16 1, .int .u16 9, .int .u16 1] 64)).alloc (.cells #[.int .i64 3, .int .i64 2, .slice (some ⟨w.heap.size, 0, none⟩) 6 6] 26)) (some ⟨w.heap.size, 0, none⟩) zAw :=
    row_lit (two_allocs _ _ _).1 rfl
  refine (from_aw w.heap.size _ hrow (hst.below hA)).mono ?_
  rintro e w1 ⟨⟨a1, cap1, rfl, hu1⟩, hb1⟩
  have hA1 := bl_tr hA hb1
  have hrow1 := hrow.below hb1
  have f0 := cell_later hb1 (v := .int .i64 3) (a := ⟨w.heap.size + 1, 0, none⟩) (by simp [go_sem])
  have f1 := cell_later hb1 (v := .int .i64 2) (a := ⟨w.heap.size + 1, 1, none⟩) (by simp [go_sem])
  have f2 := cell_later hb1 (v := .slice (some ⟨w.heap.size, 0, none⟩) 6 6) (a := ⟨w.heap.size + 1, 2, none⟩) (by simp [go_sem])
  clear hA hrow hb1
  go_wp2_with fail
  refine (path_aw_any w.heap.size _ hrow1 (hst.below hA1)).mono ?_
  rintro e w2 ⟨⟨a2, cap2, rfl, hc2⟩, hb2⟩
  have hA2 := bl_tr hA1 hb2
  have hu2 := hu1.below hb2
  clear hA1 hrow1 hb2 hu1 f0 f1 f2
  go_wp2_with fail
  have hA3 := bl_al hA2 (.cells #[.int .u64 0, .int .u64 2, .int .u64 3, .int .u64 1, .int .u64 10, .int .u64 4] 36)
  have hl3 : RowU (w2.alloc (.cells #[.int .u64 0, .int .u64 2, .int .u64 3, .int .u64 1, .int .u64 10, .int .u64 4] 36)) (some ⟨w2.heap.size, 0, none⟩) dAw := rowU_lit (heap_alloc_new _ _) rfl
  have hcall := same8_any a1 (some ⟨w2.heap.size, 0, none⟩) cap1 6 dAw dAw _ (hu2.below (bl_al (bl0 w2) _)) hl3 (by decide)
  rw [show decide (dAw = dAw) = true from decide_eq_true rfl, show dAw.length = 6 from rfl] at hcall
  refine hcall.mono ?_
  rintro e w3 ⟨rfl, hb3⟩
  have hc3 := hc2.below (bl_tr (bl_al (bl0 w2) _) hb3)
  have hA4 := bl_tr hA3 hb3
  clear hA2 hA3 hl3 hu2 hcall hb3 hc2
  go_wp2_with fail
  have hl4 : RowC (w3.alloc (.cells #[.int .i64 0, .int .i64 0, .int .i64 1, .int .i64 0, .int .i64 2, .int .i64 0, .int .i64 2, .int .i64 1] 30)) (some ⟨w3.heap.size, 0, none⟩) [(0, 0), (1, 0), (2, 0), (2, 1)] := rowC_lit (heap_alloc_new _ _) rfl
  have hcall := cells_any a2 (some ⟨w3.heap.size, 0, none⟩) cap2 4 [(0, 0), (1, 0), (2, 0), (2, 1)] [(0, 0), (1, 0), (2, 0), (2, 1)] _ (hc3.below (bl_al (bl0 w3) _)) hl4 (by decide)
  rw [decide_eq_true rfl] at hcall
  try simp only [List.length_cons, List.length_nil, Nat.reduceAdd] at hcall
  refine hcall.mono ?_
  rintro e w4 ⟨rfl, hb4⟩
  have hA5 := bl_tr (bl_al hA4 _) hb4
  clear hA4 hl4 hcall hb4 hc3
  go_wp2_with fail
  go_ret
  exact ⟨rfl, hA5⟩
end Go.Proofs.YtgbhafadibdmcaaDoor

/- Least costs: the laws' plain helpers: whether a box has a cell, the next cell, how far a cell is. -/
namespace Go.Proofs.YtgbhafadibdmcaaDoor
open Go.RowKit

def wf64 (n : Int) : Prop := -9223372036854775808 ≤ n ∧ n ≤ 9223372036854775807
set_option maxRecDepth 100000 in
set_option maxHeartbeats 4000000 in
theorem rhas8_any (X Y U V : Int) (c : IC) (w : World) (hb : rightB X Y U V = true) (h0 : 0 ≤ X ∧ 0 ≤ Y) (hc : wf64 c.1 ∧ wf64 c.2) :
    Calls Tryd.prog 11 #[.agg #[.int .i64 X, .int .i64 Y, .int .i64 U, .int .i64 V], .agg #[.int .i64 c.1, .int .i64 c.2]] w fun e w' => e = .returned (.bool (inBx (X, Y, U, V) c)) ∧ Below w.heap.size w w' := by
  obtain ⟨r1, r2, r3, r4, r5, r6, r7, r8⟩ := rightB_iff.1 hb
  unfold wf64 at hc
  obtain ⟨t, ht⟩ : ∃ t, inBx (X, Y, U, V) c = t := ⟨_, rfl⟩
  have hiff : t = true ↔ X ≤ c.1 ∧ c.1 < X + U ∧ Y ≤ c.2 ∧ c.2 < Y + V := by
    rw [← ht]
    show hasB X Y U V c.1 c.2 = true ↔ _
    rw [hasB_iff]
    exact ⟨fun h => h.2, fun h => ⟨hb, h⟩⟩
  rw [ht]
  have HIFF := Lib.hid hiff
  clear ht hiff hb
  have hA := bl_al (bl_al (bl0 w) (.cells #[.int .i64 X, .int .i64 Y, .int .i64 U, .int .i64 V] 28)) (.cells #[.int .i64 c.1, .int .i64 c.2] 30)
  by_cases h1 : X ≤ c.1
  · have hw1 : IntKind.i64.wrap (c.1 - X) = c.1 - X := IntWalk.i64_in _ (by omega)
    by_cases h2 : Y ≤ c.2
    · have hw2 : IntKind.i64.wrap (c.2 - Y) = c.2 - Y := IntWalk.i64_in _ (by omega)
      by_cases h3 : c.1 - X < U
      · by_cases h4 : c.2 - Y < V
        · have d4 : decide (c.2 - Y < V) = true := decide_eq_true h4
          have htt : t = true := HIFF.out.2 ⟨by omega, by omega, by omega, by omega⟩
          subst htt
          go_enter Tryd.func11, Tryd.ntmps11
          go_wp2
          go_ret
          exact ⟨rfl, hA⟩
        · have htt : t = false := by cases t; rfl; have := HIFF.out.1 rfl; omega
          subst htt
          go_enter Tryd.func11, Tryd.ntmps11
          go_wp2
          go_ret
          exact ⟨rfl, hA⟩
      · have htt : t = false := by cases t; rfl; have := HIFF.out.1 rfl; omega
        subst htt
        go_enter Tryd.func11, Tryd.ntmps11
        go_wp2
        go_ret
        exact ⟨rfl, hA⟩
    · have htt : t = false := by cases t; rfl; have := HIFF.out.1 rfl; omega
      subst htt
      go_enter Tryd.func11, Tryd.ntmps11
      go_wp2
      go_ret
      exact ⟨rfl, hA⟩
  · have htt : t = false := by cases t; rfl; have := HIFF.out.1 rfl; omega
    subst htt
    go_enter Tryd.func11, Tryd.ntmps11
    go_wp2
    go_ret
    exact ⟨rfl, hA⟩

set_option maxRecDepth 100000 in
set_option maxHeartbeats 1600000 in
theorem eql_cell (a b : IC) (w : World) : (Op.equalIn 10000 30 (.agg #[.int .i64 a.1, .int .i64 a.2]) (.agg #[.int .i64 b.1, .int .i64 b.2])).run Tryd.prog w = .ok (decide (a = b)) w := by
  have u1 := Tryd.underlying30
  have u3 := Tryd.underlying3
  obtain ⟨r, hr⟩ : ∃ r, decide (a = b) = r := ⟨_, rfl⟩
  rw [hr]
  by_cases h1 : a.1 = b.1
  · have n1 : (a.1 == b.1) = true := by rw [beq_iff_eq]; exact h1
    by_cases h2 : a.2 = b.2
    · have n2 : (a.2 == b.2) = true := by rw [beq_iff_eq]; exact h2
      have e : r = true := by rw [← hr]; exact decide_eq_true (Prod.ext h1 h2)
      subst e
      clear h1 h2 hr
      go_simp
    · have n2 : (a.2 == b.2) = false := by rw [beq_eq_false_iff_ne]; exact h2
      have e : r = false := by rw [← hr]; exact decide_eq_false (fun q => h2 (by rw [q]))
      subst e
      clear h1 h2 hr
      go_simp
  · have n1 : (a.1 == b.1) = false := by rw [beq_eq_false_iff_ne]; exact h1
    have e : r = false := by rw [← hr]; exact decide_eq_false (fun q => h1 (by rw [q]))
    subst e
    clear h1 hr
    go_simp

set_option maxRecDepth 100000 in
set_option maxHeartbeats 4000000 in
theorem rfits8_yes (A B X Y U V : Int) (w : World) (hf : fitsB A B X Y U V = true) :
    Calls Tryd.prog 35 #[.agg #[.int .i64 A, .int .i64 B], .agg #[.int .i64 X, .int .i64 Y, .int .i64 U, .int .i64 V]] w fun e w' => e = .returned (.bool true) ∧ Below w.heap.size w w' := by
  obtain ⟨g1, g2, g3, g4, g5, g6, g7, g8⟩ := fitsB_iff.1 hf
  obtain ⟨r1, r2, r3, r4, r5, r6, r7, r8⟩ := rightB_iff.1 g1
  obtain ⟨m1, m2, m3, m4⟩ := mayB_iff.1 g2
  have k1 : (1 : Int) ≤ U := by omega
  have k2 : (1 : Int) ≤ V := by omega
  have k3 : X < A := by omega
  have k4 : Y < B := by omega
  have k5 : U ≤ A - X := by omega
  have k6 : V ≤ B - Y := by omega
  have hw1 : IntKind.i64.wrap (A - X) = A - X := IntWalk.i64_in _ (by omega)
  have hw2 : IntKind.i64.wrap (B - Y) = B - Y := IntWalk.i64_in _ (by omega)
  clear g1 g2 g3 g4 g7 g8 hf r1 r2 r3 r4 r5 r6 r7 r8 m1 m2 m3 m4
  go_enter Tryd.func35, Tryd.ntmps35
  go_wp2
  go_ret
  exact ⟨rfl, bl_al (bl_al (bl0 _) _) _⟩

set_option maxRecDepth 100000 in
set_option maxHeartbeats 4000000 in
theorem rstep8_any (X Y d : Int) (w : World) (hp : plainB X Y = true) (h0 : 0 ≤ d) (h4 : d < 4) :
    Calls Tryd.prog 37 #[.agg #[.int .i64 X, .int .i64 Y], .int .i64 d] w fun e w' => e = .returned (.agg #[.int .i64 (stepI (X, Y) d).1, .int .i64 (stepI (X, Y) d).2]) ∧ Below w.heap.size w w' := by
  obtain ⟨a1, a2, a3, a4⟩ := plainB_iff.1 hp
  obtain ⟨Z, hZ⟩ : ∃ Z, (stepI (X, Y) d).1 = Z := ⟨_, rfl⟩
  obtain ⟨W, hW⟩ : ∃ W, (stepI (X, Y) d).2 = W := ⟨_, rfl⟩
  rw [hZ, hW]
  obtain rfl | rfl | rfl | rfl : d = 0 ∨ d = 1 ∨ d = 2 ∨ d = 3 := by omega
  all_goals
    simp [stepI, dxI, dyI] at hZ hW
    subst hZ hW
    go_enter Tryd.func37, Tryd.ntmps37
    go_wp2
    refine bodyPost_ret (v := .agg #[.int .i64 _, .int .i64 _]) (by simp [results, Tryd.results37, go_sem] <;> omega) rfl ⟨rfl, ?_⟩
    first
    | exact bl_al (bl_al (bl0 _) _) _
    | exact bl_al (bl_st (bl_al (bl0 _) _) (by omega) _) _
    | exact bl_st (bl_st (bl_al (bl_al (bl0 _) _) _) (by omega) _) (by omega) _
    | exact bl_st (bl_st (bl_st (bl_al (bl_al (bl0 _) _) _) (by omega) _) (by omega) _) (by omega) _

/-- How far a cell is; none of one that is not in a box. -/
def atBx (A : Int) (b : BX) (ds : List Int) (c : IC) : Int := if inBx b c = true then atD ds (numN A c) else 18446744073709551615

/-- The least so far, of the first k directions. -/
def wantK (A : Int) (b : BX) (ds : List Int) (c : IC) (z : Int) : Nat → Int
  | 0 => 18446744073709551615
  | k + 1 => if addC (atBx A b ds (stepI c k)) z < wantK A b ds c z k then addC (atBx A b ds (stepI c k)) z else wantK A b ds c z k
theorem wantK_ge {A : Int} {b : BX} {ds : List Int} {c : IC} {z d : Int} (hd : d ≤ 18446744073709551615) : ∀ {m : Nat}, (∀ k : Nat, k < m → d ≤ addC (atBx A b ds (stepI c k)) z) → d ≤ wantK A b ds c z m
  | 0, _ => hd
  | m + 1, h => by
    have h1 := wantK_ge hd (m := m) (fun k hk => h k (by omega))
    have h2 := h m (by omega)
    unfold wantK
    split <;> assumption
theorem wantK_le {A : Int} {b : BX} {ds : List Int} {c : IC} {z : Int} : ∀ {m k : Nat}, k < m → wantK A b ds c z m ≤ addC (atBx A b ds (stepI c k)) z ∧ wantK A b ds c z m ≤ 18446744073709551615
  | 0, k, h => by omega
  | m + 1, k, h => by
    have hinf : wantK A b ds c z m ≤ 18446744073709551615 := by
      cases m with
      | zero => exact Int.le_refl _
      | succ m => exact (wantK_le (A := A) (b := b) (ds := ds) (c := c) (z := z) (m := m + 1) (k := 0) (by omega)).2
    unfold wantK
    by_cases e : k = m
    · subst e
      split <;> constructor <;> omega
    · have h1 := (wantK_le (A := A) (b := b) (ds := ds) (c := c) (z := z) (m := m) (k := k) (by omega)).1
      split <;> constructor <;> omega
theorem wantK_in {A : Int} {b : BX} {ds : List Int} {c : IC} {z : Int} (hz : 0 ≤ z) (hds : AllU ds) : ∀ m : Nat, inU (wantK A b ds c z m)
  | 0 => inU_inf
  | m + 1 => by
    have h := wantK_in (A := A) (b := b) (c := c) hz hds m
    have ha : 0 ≤ addC (atBx A b ds (stepI c m)) z := by
      have : 0 ≤ atBx A b ds (stepI c m) := by
        unfold atBx
        split
        · unfold atD
          rw [List.getD_eq_getElem?_getD]
          cases e : ds[numN A (stepI c m)]? with
          | none => decide
          | some d => exact (hds d (List.mem_of_getElem? e)).1
        · decide
      unfold addC
      split <;> omega
    unfold wantK
    split
    · exact ⟨ha, by have := h.2; omega⟩
    · exact h
/-- What is told of one, by those beside it. -/
theorem near_eq {A B : Int} {zs ds : List Int} {b : BX} {s : Nat} {c : IC} (hn : (zs.length : Int) = A * B) (hz : AllH zs) (hf : fitsB A B b.1 b.2.1 b.2.2.1 b.2.2.2 = true) (h : Far (gphB A B b zs) s (atD ds)) (hc : onB A B c = true) (hin : inBx b c = true) (h0 : zs.getD (numN A c) 0 ≠ 0) (hs : numN A c ≠ s) :
    wantK A b ds c (zs.getD (numN A c) 0) 4 = atD ds (numN A c) := by
  have hcn := cellN_num hc
  have hcl := numN_at hc hn
  have hop : (gphB A B b zs).opn (numN A c) := gphB_opn.2 ⟨hcl, by rw [hcn]; exact hin, h0⟩
  have hk : (gphB A B b zs).k (numN A c) = zs.getD (numN A c) 0 := gphB_k (by rw [hcn]; exact hin)
  have hzb := getD_in hz (numN A c)
  have hbd := h.bd (numN A c)
  have hmem : ∀ k : Nat, k < 4 → onB A B (stepI c k) = true → numN A (stepI c k) ∈ nbL A B (numN A c) := fun k hk4 ho => mem_nbL.2 ⟨(k : Int), by omega, by omega, by rw [hcn]; exact ho, by rw [hcn]⟩
  have hge : ∀ k : Nat, k < 4 → atD ds (numN A c) ≤ addC (atBx A b ds (stepI c k)) (zs.getD (numN A c) 0) := by
    intro k hk4
    unfold atBx
    by_cases hi : inBx b (stepI c k) = true
    · rw [if_pos hi]
      have ho := box_on hf hi
      by_cases hopj : (gphB A B b zs).opn (numN A (stepI c k))
      · by_cases hfin : atD ds (numN A (stepI c k)) = 18446744073709551615
        · rw [hfin]; unfold addC; split <;> omega
        · have h1 := h.le _ _ hop hopj (hmem k hk4 ho) hfin
          rw [hk] at h1
          have h2 := h.bd (numN A (stepI c k))
          unfold addC
          split <;> omega
      · rw [h.wall _ hopj]; unfold addC; split <;> omega
    · rw [if_neg hi]; unfold addC; split <;> omega
  have h1 := wantK_ge (z := zs.getD (numN A c) 0) (h.le_inf (numN A c)) hge
  by_cases hfin : atD ds (numN A c) = 18446744073709551615
  · have h2 := (wantK_le (A := A) (b := b) (ds := ds) (c := c) (z := zs.getD (numN A c) 0) (m := 4) (k := 0) (by omega)).2
    omega
  · obtain ⟨j, hj, hoj, hfj, he⟩ := h.of _ hs hfin
    obtain ⟨d, d0, d3, ho, hjd⟩ := mem_nbL.1 hj
    rw [hcn] at ho hjd
    obtain ⟨k, rfl⟩ : ∃ k : Nat, d = k := ⟨d.toNat, by omega⟩
    have hin2 : inBx b (stepI c k) = true := by
      have := (gphB_opn.1 hoj).2.1
      rw [← hjd, cellN_num ho] at this
      exact this
    have h2 := (wantK_le (A := A) (b := b) (ds := ds) (c := c) (z := zs.getD (numN A c) 0) (m := 4) (k := k) (by omega)).1
    have h3 : addC (atBx A b ds (stepI c k)) (zs.getD (numN A c) 0) = atD ds (numN A c) := by
      unfold atBx
      rw [if_pos hin2, hjd, he, hk]
      have := h.bd j
      unfold addC
      rw [if_pos (by omega)]
    omega
end Go.Proofs.YtgbhafadibdmcaaDoor

/- Least costs by definition: ways are made longer till nothing is nearer; that this comes to what is told. -/
namespace Go.Proofs.YtgbhafadibdmcaaDoor

abbrev InfI : Int := 18446744073709551615
/-- A cell is made nearer by one beside it. -/
def rlx (A : Int) (b : BX) (zs : List Int) (st : List Int) (o : IC × Nat) : List Int :=
  if inBx b (stepI o.1 (o.2 : Int)) = true ∧ atD st (numN A (stepI o.1 (o.2 : Int))) ≠ 18446744073709551615 ∧ IntKind.u64.wrap (atD st (numN A (stepI o.1 (o.2 : Int))) + zs.getD (numN A o.1) 0) < atD st (numN A o.1)
  then st.set (numN A o.1) (IntKind.u64.wrap (atD st (numN A (stepI o.1 (o.2 : Int))) + zs.getD (numN A o.1) 0)) else st
def opsD (c : IC) (d : Nat) : List (IC × Nat) := (List.range d).map fun e => (c, e)
def opsC (A : Int) (zs : List Int) (c : IC) : List (IC × Nat) := if zs.getD (numN A c) 0 = 0 then [] else opsD c 4
def opsX (A : Int) (zs : List Int) (X y : Int) (n : Nat) : List (IC × Nat) := (List.range n).flatMap fun (i : Nat) => opsC A zs (X + i, y)
def opsY (A : Int) (zs : List Int) (X Y : Int) (n m : Nat) : List (IC × Nat) := (List.range m).flatMap fun (j : Nat) => opsX A zs X (Y + j) n
theorem opsD_succ (c : IC) (d : Nat) : opsD c (d + 1) = opsD c d ++ [(c, d)] := by
  unfold opsD; rw [List.range_succ, List.map_append]; rfl
theorem opsX_succ (A : Int) (zs : List Int) (X y : Int) (n : Nat) : opsX A zs X y (n + 1) = opsX A zs X y n ++ opsC A zs (X + n, y) := by
  unfold opsX; rw [List.range_succ, List.flatMap_append]; simp
theorem opsY_succ (A : Int) (zs : List Int) (X Y : Int) (n m : Nat) : opsY A zs X Y n (m + 1) = opsY A zs X Y n m ++ opsX A zs X (Y + m) n := by
  unfold opsY; rw [List.range_succ, List.flatMap_append]; simp
def runO (A : Int) (b : BX) (zs : List Int) (st : List Int) (l : List (IC × Nat)) : List Int := l.foldl (rlx A b zs) st
theorem runO_app (A : Int) (b : BX) (zs st : List Int) (l m : List (IC × Nat)) : runO A b zs st (l ++ m) = runO A b zs (runO A b zs st l) m := by unfold runO; rw [List.foldl_append]
theorem runO_one (A : Int) (b : BX) (zs st : List Int) (o : IC × Nat) : runO A b zs st [o] = rlx A b zs st o := rfl
theorem runO_nil (A : Int) (b : BX) (zs st : List Int) : runO A b zs st [] = st := rfl
theorem rlx_len (A : Int) (b : BX) (zs st : List Int) (o : IC × Nat) : (rlx A b zs st o).length = st.length := by unfold rlx; split <;> simp
theorem runO_len (A : Int) (b : BX) (zs : List Int) : ∀ (l : List (IC × Nat)) (st : List Int), (runO A b zs st l).length = st.length
  | [], _ => rfl
  | o :: l, st => by
    show (runO A b zs (rlx A b zs st o) l).length = _
    rw [runO_len A b zs l, rlx_len]
/-- A round. -/
def rndO (A : Int) (b : BX) (zs st : List Int) : List Int := runO A b zs st (opsY A zs b.1 b.2.1 b.2.2.1.toNat b.2.2.2.toNat)
def itO (A : Int) (b : BX) (zs st : List Int) : Nat → List Int
  | 0 => st
  | n + 1 => rndO A b zs (itO A b zs st n)
theorem itO_len (A : Int) (b : BX) (zs st : List Int) : ∀ n, (itO A b zs st n).length = st.length
  | 0 => rfl
  | n + 1 => by rw [itO, rndO, runO_len, itO_len A b zs st n]
theorem itO_fix {A : Int} {b : BX} {zs st : List Int} {n : Nat} (h : rndO A b zs (itO A b zs st n) = itO A b zs st n) : ∀ m, itO A b zs st (n + m) = itO A b zs st n
  | 0 => rfl
  | m + 1 => by
    show rndO A b zs (itO A b zs st (n + m)) = _
    rw [itO_fix h m, h]
def st0 (A : Int) (zs : List Int) (c : IC) : List Int := (List.replicate zs.length 18446744073709551615).set (numN A c) 0
/-- What the reference tells. -/
def farO (A : Int) (b : BX) (zs : List Int) (c : IC) : List Int :=
  if zs.getD (numN A c) 0 = 0 then List.replicate zs.length 18446744073709551615 else itO A b zs (st0 A zs c) zs.length
theorem farO_len (A : Int) (b : BX) (zs : List Int) (c : IC) : (farO A b zs c).length = zs.length := by
  unfold farO st0
  split
  · simp
  · rw [itO_len]; simp
theorem atD_repl (n : Nat) (i : Nat) : atD (List.replicate n 18446744073709551615) i = 18446744073709551615 := by
  by_cases h : i < n
  · rw [← atD_get (by simpa using h)]; simp
  · exact atD_none (by simp; omega)

/-- What holds of the costs behind t turns. -/
structure RInv (N : Nat) (d : Nat → Int) (t : Nat) (st : List Int) : Prop where
  len : st.length = N
  bd : ∀ i, atD st i = 18446744073709551615 ∨ (0 ≤ atD st i ∧ atD st i ≤ 65535 * (t : Int))
  low : ∀ i, d i ≤ atD st i
/-- The turns that may be done: of a cell that is open. -/
def OkO (A B : Int) (b : BX) (zs : List Int) (o : IC × Nat) : Prop := onB A B o.1 = true ∧ (gphB A B b zs).opn (numN A o.1) ∧ o.2 < 4
section
variable {A B : Int} {b : BX} {zs : List Int} {s : Nat} {d : Nat → Int}
theorem rlx_step (hm : mayB A B = true) (hn : (zs.length : Int) = A * B) (hz : AllH zs) (hfit : fitsB A B b.1 b.2.1 b.2.2.1 b.2.2.2 = true) (h : Far (gphB A B b zs) s d) {t : Nat} (ht : t ≤ 1099511627776) {st : List Int} (hI : RInv zs.length d t st) {o : IC × Nat} (ho : OkO A B b zs o) :
    RInv zs.length d (t + 1) (rlx A b zs st o) ∧ (∀ i, atD (rlx A b zs st o) i ≤ atD st i) ∧
      (inBx b (stepI o.1 (o.2 : Int)) = true → atD st (numN A (stepI o.1 (o.2 : Int))) ≠ 18446744073709551615 → atD (rlx A b zs st o) (numN A o.1) ≤ atD st (numN A (stepI o.1 (o.2 : Int))) + zs.getD (numN A o.1) 0) := by
  obtain ⟨hon, hop, hd⟩ := ho
  have hG := gphB_ok (b := b) hm hn hz
  obtain ⟨hlt, hin, hk0⟩ := gphB_opn.1 hop
  have hk := gphB_k (A := A) (B := B) (zs := zs) hin
  have hp1 := hG.pos1 hop
  rw [hk] at hp1
  have hbd2 : ∀ i, atD st i = 18446744073709551615 ∨ (0 ≤ atD st i ∧ atD st i ≤ 65535 * ((t + 1 : Nat) : Int)) := fun i => by
    rcases hI.bd i with e | ⟨e1, e2⟩
    · exact .inl e
    · exact .inr ⟨e1, by omega⟩
  by_cases hmb : inBx b (stepI o.1 (o.2 : Int)) = true ∧ atD st (numN A (stepI o.1 (o.2 : Int))) ≠ 18446744073709551615
  case neg =>
    have e : rlx A b zs st o = st := by unfold rlx; rw [if_neg (fun hh => hmb ⟨hh.1, hh.2.1⟩)]
    rw [e]
    exact ⟨⟨hI.len, hbd2, hI.low⟩, fun i => Int.le_refl _, fun h1 h2 => absurd ⟨h1, h2⟩ hmb⟩
  case pos =>
  obtain ⟨h1, h2⟩ := hmb
  obtain ⟨x, hx⟩ : ∃ x, atD st (numN A (stepI o.1 (o.2 : Int))) = x := ⟨_, rfl⟩
  obtain ⟨k, hkk⟩ : ∃ k, zs.getD (numN A o.1) 0 = k := ⟨_, rfl⟩
  have hxb := hI.bd (numN A (stepI o.1 (o.2 : Int)))
  have hxl := hI.low (numN A (stepI o.1 (o.2 : Int)))
  rw [hx] at hxb hxl h2
  rw [hkk] at hk hp1
  have hw : IntKind.u64.wrap (x + k) = x + k := IntWalk.u64_in _ (by omega)
  have hdi : d (numN A o.1) ≤ x + k := by
    have hdx : d (numN A (stepI o.1 (o.2 : Int))) ≠ 18446744073709551615 := by omega
    have hnb : numN A (stepI o.1 (o.2 : Int)) ∈ (gphB A B b zs).nb (numN A o.1) := by
      show _ ∈ nbL A B (numN A o.1)
      refine mem_nbL.2 ⟨(o.2 : Int), by omega, by omega, ?_, ?_⟩
      · rw [cellN_num hon]
        obtain ⟨f1, f2, f3, f4, f5, f6, f7, f8⟩ := fitsB_iff.1 hfit
        obtain ⟨g1, g2, g3, g4, g5⟩ := hasB_iff.1 h1
        obtain ⟨m1, m2, m3, m4⟩ := mayB_iff.1 hm
        exact inB_iff.2 ⟨m1, m2, m3, m4, by omega, by omega, by omega, by omega⟩
      · rw [cellN_num hon]
    have := h.le (numN A o.1) _ hop (h.opn hdx) hnb hdx
    rw [hk] at this
    omega
  by_cases hlt2 : IntKind.u64.wrap (x + k) < atD st (numN A o.1)
  · have e : rlx A b zs st o = st.set (numN A o.1) (x + k) := by
      unfold rlx
      rw [hx, hkk, if_pos ⟨h1, h2, hlt2⟩, hw]
    have hle : numN A o.1 < st.length := by rw [hI.len]; exact hlt
    rw [hw] at hlt2
    rw [e]
    refine ⟨⟨by rw [List.length_set]; exact hI.len, fun i => ?_, fun i => ?_⟩, fun i => ?_, fun _ _ => ?_⟩
    · rw [atD_set _ _ _ _ hle]
      by_cases q : i = numN A o.1
      · rw [if_pos q]; exact .inr ⟨by omega, by omega⟩
      · rw [if_neg q]; exact hbd2 i
    · rw [atD_set _ _ _ _ hle]
      by_cases q : i = numN A o.1
      · rw [if_pos q, q]; exact hdi
      · rw [if_neg q]; exact hI.low i
    · rw [atD_set _ _ _ _ hle]
      by_cases q : i = numN A o.1
      · rw [if_pos q, q]; omega
      · rw [if_neg q]; exact Int.le_refl _
    · rw [atD_set _ _ _ _ hle, if_pos rfl, hx, hkk]; exact Int.le_refl _
  · have e : rlx A b zs st o = st := by
      unfold rlx
      rw [hx, hkk, if_neg (fun hh => hlt2 hh.2.2)]
    rw [e]
    rw [hw] at hlt2
    exact ⟨⟨hI.len, hbd2, hI.low⟩, fun i => Int.le_refl _, fun _ _ => by rw [hx, hkk]; omega⟩
theorem runO_step (hm : mayB A B = true) (hn : (zs.length : Int) = A * B) (hz : AllH zs) (hfit : fitsB A B b.1 b.2.1 b.2.2.1 b.2.2.2 = true) (h : Far (gphB A B b zs) s d) :
    ∀ (l : List (IC × Nat)) (t : Nat) (st : List Int), t + l.length ≤ 1099511627776 → RInv zs.length d t st → (∀ o ∈ l, OkO A B b zs o) →
      RInv zs.length d (t + l.length) (runO A b zs st l) ∧ (∀ i, atD (runO A b zs st l) i ≤ atD st i) ∧
      ∀ o ∈ l, inBx b (stepI o.1 (o.2 : Int)) = true → atD st (numN A (stepI o.1 (o.2 : Int))) ≠ 18446744073709551615 → atD (runO A b zs st l) (numN A o.1) ≤ atD st (numN A (stepI o.1 (o.2 : Int))) + zs.getD (numN A o.1) 0
  | [], t, st, _, hI, _ => ⟨hI, fun i => Int.le_refl _, fun o ho => by cases ho⟩
  | o :: l, t, st, ht, hI, ho => by
    rw [List.length_cons] at ht
    obtain ⟨a1, a2, a3⟩ := rlx_step hm hn hz hfit h (t := t) (by omega) hI (ho o (by simp))
    obtain ⟨b1, b2, b3⟩ := runO_step hm hn hz hfit h l (t + 1) (rlx A b zs st o) (by omega) a1 (fun p hp => ho p (by simp [hp]))
    have e : runO A b zs st (o :: l) = runO A b zs (rlx A b zs st o) l := rfl
    rw [e, List.length_cons, show t + (l.length + 1) = t + 1 + l.length by omega]
    refine ⟨b1, fun i => Int.le_trans (b2 i) (a2 i), fun p hp h1 h2 => ?_⟩
    rcases List.mem_cons.1 hp with rfl | hp
    · exact Int.le_trans (b2 _) (a3 h1 h2)
    · have q := a2 (numN A (stepI p.1 (p.2 : Int)))
      have q2 := hI.bd (numN A (stepI p.1 (p.2 : Int)))
      have := b3 p hp h1 (by omega)
      omega
theorem opsC_len (A : Int) (zs : List Int) (c : IC) : (opsC A zs c).length ≤ 4 := by unfold opsC opsD; split <;> simp
theorem opsX_len (A : Int) (zs : List Int) (X y : Int) : ∀ n, (opsX A zs X y n).length ≤ 4 * n
  | 0 => by simp [opsX]
  | n + 1 => by
    have := opsX_len A zs X y n
    have := opsC_len A zs (X + n, y)
    rw [opsX_succ, List.length_append]; omega
theorem opsY_len (A : Int) (zs : List Int) (X Y : Int) (n : Nat) : ∀ m, (opsY A zs X Y n m).length ≤ 4 * n * m
  | 0 => by simp [opsY]
  | m + 1 => by
    have := opsY_len A zs X Y n m
    have := opsX_len A zs X (Y + m) n
    rw [opsY_succ, List.length_append, Nat.mul_succ]; omega
theorem opsC_mem {c : IC} {o : IC × Nat} : o ∈ opsC A zs c ↔ o.1 = c ∧ zs.getD (numN A c) 0 ≠ 0 ∧ o.2 < 4 := by
  unfold opsC opsD
  split
  · rename_i h; exact ⟨fun q => absurd q (List.not_mem_nil), fun q => absurd h q.2.1⟩
  · rename_i h
    rw [List.mem_map]
    constructor
    · rintro ⟨e, he, rfl⟩
      rw [List.mem_range] at he
      exact ⟨rfl, h, he⟩
    · rintro ⟨rfl, _, h2⟩
      exact ⟨o.2, List.mem_range.2 h2, rfl⟩
theorem opsY_mem {X Y : Int} {n m : Nat} {o : IC × Nat} : o ∈ opsY A zs X Y n m ↔ (X ≤ o.1.1 ∧ o.1.1 < X + n ∧ Y ≤ o.1.2 ∧ o.1.2 < Y + m) ∧ zs.getD (numN A o.1) 0 ≠ 0 ∧ o.2 < 4 := by
  unfold opsY
  rw [List.mem_flatMap]
  constructor
  · rintro ⟨j, hj, h⟩
    rw [List.mem_range] at hj
    unfold opsX at h
    obtain ⟨i, hi, h⟩ := List.mem_flatMap.1 h
    rw [List.mem_range] at hi
    obtain ⟨h1, h2, h3⟩ := opsC_mem.1 h
    rw [h1]
    exact ⟨⟨by show X ≤ X + (i : Int); omega, by show X + (i : Int) < _; omega, by show Y ≤ Y + (j : Int); omega, by show Y + (j : Int) < _; omega⟩, h2, h3⟩
  · rintro ⟨⟨h1, h2, h3, h4⟩, h5, h6⟩
    refine ⟨(o.1.2 - Y).toNat, by rw [List.mem_range]; omega, ?_⟩
    unfold opsX
    rw [List.mem_flatMap]
    refine ⟨(o.1.1 - X).toNat, by rw [List.mem_range]; omega, ?_⟩
    have e : (X + ((o.1.1 - X).toNat : Int), Y + ((o.1.2 - Y).toNat : Int)) = o.1 := Prod.ext (by show X + ((o.1.1 - X).toNat : Int) = _; omega) (by show Y + ((o.1.2 - Y).toNat : Int) = _; omega)
    rw [e]
    exact opsC_mem.2 ⟨rfl, h5, h6⟩
/-- How many are nearer. -/
def rankO (N : Nat) (d : Nat → Int) (i : Nat) : Nat := (List.range N).countP fun j => decide (d j < d i)
theorem count_lt {α : Type} {p q : α → Bool} {x : α} (hpq : ∀ y, p y = true → q y = true) (hq : q x = true) (hp : p x = false) : ∀ l : List α, x ∈ l → l.countP p < l.countP q
  | [], h => by cases h
  | y :: l, h => by
    have hle : l.countP p ≤ l.countP q := List.countP_mono_left fun z _ hz => hpq z hz
    rw [List.countP_cons, List.countP_cons]
    rcases List.mem_cons.1 h with rfl | h
    · rw [hq, hp]; simp; omega
    · have ih := count_lt hpq hq hp l h
      have : (if p y = true then 1 else 0) ≤ (if q y = true then 1 else 0) := by
        by_cases hy : p y = true
        · rw [if_pos hy, if_pos (hpq y hy)]; exact Nat.le_refl _
        · rw [if_neg hy]; exact Nat.zero_le _
      omega
theorem rank_lt {N i j : Nat} (hj : j < N) (h : d j < d i) : rankO N d j < rankO N d i :=
  count_lt (x := j) (fun y hy => by rw [decide_eq_true_eq] at hy ⊢; omega) (by rw [decide_eq_true_eq]; exact h) (by simp) _ (List.mem_range.2 hj)
theorem rank_le (N i : Nat) : rankO N d i ≤ N := by
  unfold rankO
  refine Nat.le_trans List.countP_le_length ?_
  simp
theorem rnd_ok (hm : mayB A B = true) (hfit : fitsB A B b.1 b.2.1 b.2.2.1 b.2.2.2 = true) (hn : (zs.length : Int) = A * B) : ∀ o ∈ opsY A zs b.1 b.2.1 b.2.2.1.toNat b.2.2.2.toNat, OkO A B b zs o := by
  intro o ho
  obtain ⟨⟨h1, h2, h3, h4⟩, h5, h6⟩ := opsY_mem.1 ho
  obtain ⟨f1, f2, f3, f4, f5, f6, f7, f8⟩ := fitsB_iff.1 hfit
  obtain ⟨m1, m2, m3, m4⟩ := mayB_iff.1 hm
  have hin : inBx b o.1 = true := hasB_iff.2 ⟨f1, h1, by omega, h3, by omega⟩
  have hon : onB A B o.1 = true := inB_iff.2 ⟨m1, m2, m3, m4, by omega, by omega, by omega, by omega⟩
  obtain ⟨e1, e2⟩ := numN_int hon
  exact ⟨hon, gphB_opn.2 ⟨by omega, by rw [cellN_num hon]; exact hin, h5⟩, h6⟩
theorem rnd_len (hm : mayB A B = true) (hfit : fitsB A B b.1 b.2.1 b.2.2.1 b.2.2.2 = true) : (opsY A zs b.1 b.2.1 b.2.2.1.toNat b.2.2.2.toNat).length ≤ 262144 := by
  obtain ⟨f1, f2, f3, f4, f5, f6, f7, f8⟩ := fitsB_iff.1 hfit
  obtain ⟨m1, m2, m3, m4⟩ := mayB_iff.1 hm
  have h := opsY_len A zs b.1 b.2.1 b.2.2.1.toNat b.2.2.2.toNat
  have h1 : b.2.2.1.toNat ≤ 256 := by omega
  have h2 : b.2.2.2.toNat ≤ 256 := by omega
  have := Nat.mul_le_mul (Nat.mul_le_mul_left 4 h1) h2
  omega
/-- Behind k rounds all of which k are nearer at most are told right. -/
theorem itO_rank (hm : mayB A B = true) (hn : (zs.length : Int) = A * B) (hz : AllH zs) (hfit : fitsB A B b.1 b.2.1 b.2.2.1 b.2.2.2 = true) {c : IC} (hc : inBx b c = true) (hk : zs.getD (numN A c) 0 ≠ 0) (h : Far (gphB A B b zs) (numN A c) d) :
    ∀ k : Nat, k ≤ 65536 → RInv zs.length d (262144 * k) (itO A b zs (st0 A zs c) k) ∧ ∀ i, d i ≠ 18446744073709551615 → rankO zs.length d i ≤ k → atD (itO A b zs (st0 A zs c) k) i = d i := by
  obtain ⟨f1, f2, f3, f4, f5, f6, f7, f8⟩ := fitsB_iff.1 hfit
  obtain ⟨m1, m2, m3, m4⟩ := mayB_iff.1 hm
  obtain ⟨g1, g2, g3, g4, g5⟩ := hasB_iff.1 hc
  have hon : onB A B c = true := inB_iff.2 ⟨m1, m2, m3, m4, by omega, by omega, by omega, by omega⟩
  obtain ⟨e1, e2⟩ := numN_int hon
  have hlt : numN A c < zs.length := by omega
  have hop : (gphB A B b zs).opn (numN A c) := gphB_opn.2 ⟨hlt, by rw [cellN_num hon]; exact hc, hk⟩
  have hG := gphB_ok (b := b) hm hn hz
  have hs := h.src hop
  have hset : ∀ i, atD (st0 A zs c) i = if i = numN A c then 0 else 18446744073709551615 := fun i => by
    unfold st0
    rw [atD_set _ _ _ _ (by simpa using hlt), atD_repl]
  intro k
  induction k with
  | zero =>
    intro _
    refine ⟨⟨by simp [itO, st0], fun i => ?_, fun i => ?_⟩, fun i hf hr => ?_⟩
    · show atD (st0 A zs c) i = _ ∨ _
      rw [show itO A b zs (st0 A zs c) 0 = st0 A zs c from rfl, hset]
      by_cases q : i = numN A c
      · rw [if_pos q]; exact .inr ⟨by omega, by omega⟩
      · rw [if_neg q]; exact .inl rfl
    · rw [show itO A b zs (st0 A zs c) 0 = st0 A zs c from rfl, hset]
      by_cases q : i = numN A c
      · rw [if_pos q, q, hs]; exact Int.le_refl _
      · rw [if_neg q]; exact h.le_inf i
    · rw [show itO A b zs (st0 A zs c) 0 = st0 A zs c from rfl, hset]
      by_cases q : i = numN A c
      · rw [if_pos q, q, hs]
      · obtain ⟨j, h1, h2, h3, h4⟩ := h.of i q hf
        have := hG.pos1 (h.opn hf)
        have := rank_lt (d := d) (N := zs.length) (i := i) (j := j) (gphB_opn.1 h2).1 (by omega)
        omega
  | succ k ih =>
    intro hkk
    obtain ⟨hI, hr⟩ := ih (by omega)
    have hlen := rnd_len (zs := zs) hm hfit
    obtain ⟨b1, b2, b3⟩ := runO_step hm hn hz hfit h _ (262144 * k) (itO A b zs (st0 A zs c) k) (by omega) hI (rnd_ok hm hfit hn)
    have e : itO A b zs (st0 A zs c) (k + 1) = runO A b zs (itO A b zs (st0 A zs c) k) (opsY A zs b.1 b.2.1 b.2.2.1.toNat b.2.2.2.toNat) := rfl
    rw [e]
    refine ⟨⟨b1.len, fun i => ?_, b1.low⟩, fun i hf hrk => ?_⟩
    · rcases b1.bd i with q | ⟨q1, q2⟩
      · exact .inl q
      · refine .inr ⟨q1, ?_⟩
        omega
    · have hlow := b1.low i
      refine Int.le_antisymm ?_ hlow
      by_cases q : i = numN A c
      · have hsr : atD (itO A b zs (st0 A zs c) k) i = d i := hr i hf (by
          have : rankO zs.length d i = 0 := by
            unfold rankO
            rw [List.countP_eq_zero]
            intro j _
            have := h.ge0 j
            rw [q, hs]
            simp
            omega
          omega)
        rw [← hsr]; exact b2 i
      · obtain ⟨j, h1, h2, h3, h4⟩ := h.of i q hf
        have hoi := h.opn hf
        have hp := hG.pos1 hoi
        have hjl := (gphB_opn.1 h2).1
        have hrj := rank_lt (d := d) (N := zs.length) (i := i) (j := j) hjl (by omega)
        have hdj := hr j h3 (by omega)
        obtain ⟨i1, i2, i3⟩ := gphB_opn.1 hoi
        have hki : (gphB A B b zs).k i = zs.getD i 0 := gphB_k i2
        obtain ⟨e0, e00, e3, eon, enum⟩ := mem_nbL.1 h1
        have hni := numN_cell (i := i) hm (by omega)
        have hjb := (gphB_opn.1 h2).2.1
        have hst : cellN A j = stepI (cellN A i) e0 := by rw [← enum, cellN_num eon]
        have hmem : (cellN A i, e0.toNat) ∈ opsY A zs b.1 b.2.1 b.2.2.1.toNat b.2.2.2.toNat := by
          obtain ⟨u1, u2, u3, u4, u5⟩ := hasB_iff.1 i2
          refine opsY_mem.2 ⟨⟨u2, ?_, u4, ?_⟩, ?_, ?_⟩
          · show (cellN A i).1 < _; omega
          · show (cellN A i).2 < _; omega
          · show zs.getD (numN A (cellN A i)) 0 ≠ 0; rw [hni]; exact i3
          · show e0.toNat < 4; omega
        have h0 := b3 _ hmem
        simp only at h0
        rw [show ((e0.toNat : Nat) : Int) = e0 by omega, ← hst, hni, numN_cell hm (by omega), hdj] at h0
        have := h0 hjb h3
        omega
/-- What is told by definition is what is told. -/
theorem farO_eq (hm : mayB A B = true) (hn : (zs.length : Int) = A * B) (hz : AllH zs) (hfit : fitsB A B b.1 b.2.1 b.2.2.1 b.2.2.2 = true) {c : IC} (hc : inBx b c = true) {ds : List Int} (hl : ds.length = zs.length) (h : Far (gphB A B b zs) (numN A c) (atD ds)) : farO A b zs c = ds := by
  obtain ⟨f1, f2, f3, f4, f5, f6, f7, f8⟩ := fitsB_iff.1 hfit
  obtain ⟨m1, m2, m3, m4⟩ := mayB_iff.1 hm
  obtain ⟨g1, g2, g3, g4, g5⟩ := hasB_iff.1 hc
  have hon : onB A B c = true := inB_iff.2 ⟨m1, m2, m3, m4, by omega, by omega, by omega, by omega⟩
  have hal := area_bd hm
  refine List.ext_getElem (by rw [farO_len, hl]) fun i h1 h2 => ?_
  rw [atD_get h1, atD_get h2]
  unfold farO
  by_cases hk : zs.getD (numN A c) 0 = 0
  · rw [if_pos hk, atD_repl]
    refine (h.nos (fun ho => ?_) i).symm
    exact (gphB_opn.1 ho).2.2 hk
  · rw [if_neg hk]
    obtain ⟨hI, hr⟩ := itO_rank hm hn hz hfit hc hk h zs.length (by omega)
    by_cases hf : atD ds i = 18446744073709551615
    · have q1 := hI.low i
      have q2 := hI.bd i
      rcases q2 with q2 | ⟨q2, q3⟩
      · rw [q2, hf]
      · exfalso; omega
    · exact hr i hf (rank_le _ _)
end
end Go.Proofs.YtgbhafadibdmcaaDoor

/- Least costs: what is told is there; rows of cells appended whole. -/
namespace Go.Proofs.YtgbhafadibdmcaaDoor
open Go.RowKit

theorem addr_addQ (b o k : Nat) : (⟨b, o, none⟩ : Addr).add k = ⟨b, o + k, none⟩ := by unfold Addr.add; split <;> simp_all
/-- What the reference's Far tells is how far cells are. -/
theorem farO_far (A B : Int) (a : Option Addr) (cap : Nat) (zs : List Int) (b : BX) (c : IC) (w : World) (hz : AllH zs) (hr : RowH w a zs) (hs : Stp w) (hn : (zs.length : Int) = A * B) (hf : fitsB A B b.1 b.2.1 b.2.2.1 b.2.2.2 = true) (hc : inBx b c = true) :
    Far (gphB A B b zs) (numN A c) (atD (farO A b zs c)) := by
  have hm := (fitsB_iff.1 hf).2.1
  have h := within_any A B a cap zs b c w hz hr hs
  have hE : errW A B (zs.length : Nat) b c = 0 := by
    unfold errW
    have hck : chkF A B (zs.length : Nat) = 0 := by
      unfold chkF
      rw [if_pos hm, if_pos hn]
    rw [if_pos hck, if_pos ⟨hf, hc⟩]
  obtain ⟨e, w', fr, ⟨⟨_, _, ds, _, _, _, hy⟩, _⟩, _⟩ := h []
  obtain ⟨hl, hfar⟩ := hy hE
  rw [farO_eq hm hn hz hf hc hl hfar]
  exact hfar
theorem flC_one (zs : List IC) : ∀ u ∈ flatC zs, u.oneCell' = true := by
  intro u hu
  simp only [flatC, List.mem_flatMap] at hu
  obtain ⟨z, _, hz⟩ := hu
  simp at hz
  rcases hz with rfl | rfl <;> rfl
theorem flC_cells {W : World} {b o : Nat} : ∀ (zs : List IC), (∀ (i : Nat) (z : IC), zs[i]? = some z → W.cell? ⟨b, o + i * 2, none⟩ = some (.int .i64 z.1) ∧ W.cell? ⟨b, o + i * 2 + 1, none⟩ = some (.int .i64 z.2)) → ∀ (j : Nat) u, (flatC zs)[j]? = some u → W.cell? ⟨b, o + j, none⟩ = some u := by
  intro zs h j u hu
  have hj : j < (flatC zs).length := (List.getElem?_eq_some_iff.1 hu).1
  have hl := flatC_len2 zs
  obtain ⟨z, hz⟩ : ∃ z, zs[j / 2]? = some z := ⟨_, List.getElem?_eq_getElem (by omega)⟩
  obtain ⟨h0, h1⟩ := h _ _ hz
  obtain ⟨e0, e1⟩ := flatC_at zs _ _ hz
  rcases Nat.mod_two_eq_zero_or_one j with m | m
  · rw [show j / 2 * 2 = j by omega] at h0 e0
    rw [hu] at e0; cases e0
    exact h0
  · rw [show j / 2 * 2 + 1 = j by omega] at e1
    rw [show o + j / 2 * 2 + 1 = o + j by omega] at h1
    rw [hu] at e1; cases e1
    exact h1
/-- A row of cells, nil or not, appended whole. -/
theorem wpList_append_rowQ {w : World} {ops : Array Oper} {rest : List Oper} {o : Oper} {a : Act} {Q : Exit → Act → World → Prop} (hgd : o.guard = none) (s x : Operand)
    (ho : o.op = .call { callee := .builtin .append, args := #[s, x], argTypes := #[35, 35] })
    (base : Nat) (v : Value) (n : Nat) (xs : List Value) (hs : a.eval s = v) (hown : w.ownsRow base 30 2 v n xs) (r : Option Addr) (c : Nat) (zs : List IC) (hx : a.eval x = .slice r zs.length c) (hr : RowC w r zs)
    (h63 : n + zs.length ≤ 1048576) (hbase : base ≤ w.heap.size)
    (h : ∀ v' w', w'.ownsRow base 30 2 v' (n + zs.length) (xs ++ flatC zs) → w.grownBy w' v.ownBlock → wpList Tryd.prog ops Q rest (a.put o.dst v') w') : wpList Tryd.prog ops Q (o :: rest) a w := by
  obtain ⟨i0, hi, hz0, hz1, hz2⟩ := info_parts Tryd.infoCell
  cases r with
  | none =>
    have hn : zs = [] := by
      rcases hr with h | ⟨b, o, e, _⟩
      · exact h
      · cases e
    subst hn
    refine wpList_plain hgd fun K hK => ?_
    have hrun := run_append_none_c (P := Tryd.prog) (w := w) base 35 o.type 30 i0 2 c Tryd.underlying35 hi v n xs hown
    unfold Oper.wp
    simp only [List.length_nil] at hx
    simp [execOp, ho, resolve, invoke, builtin, hs, hx, hrun, Result.andThen]
    exact hK _ _ (h v w (by simpa [flatC] using hown) (World.grownBy.refl _ _))
  | some ad =>
    refine wpList_append_own w hgd s x 35 ho base 30 i0 (.agg #[.int .i64 0, .int .i64 0]) 2 16 Tryd.underlying35 hi hz0 hz1 hz2 rfl (by decide) v n xs hs hown ad zs.length c (flatC zs) hx (flatC_len2 zs) ?_ (flC_one zs) (by unfold maxLen; omega) (by omega) hbase (fun v' w' h1 h2 _ => h v' w' h1 h2)
    intro j u hu
    rcases hr with rfl | ⟨b, o, e, hcell⟩
    · simp [flatC] at hu
    · cases e
      rw [addr_addQ]
      exact flC_cells zs hcell j u hu
theorem wpList_append_rowN {w : World} {ops : Array Oper} {rest : List Oper} {o : Oper} {a : Act} {Q : Exit → Act → World → Prop} (hgd : o.guard = none) (s x : Operand)
    (ho : o.op = .call { callee := .builtin .append, args := #[s, x], argTypes := #[35, 35] })
    (base : Nat) (v : Value) (n : Nat) (xs : List Value) (hs : a.eval s = v) (hown : w.ownsRow base 30 2 v n xs) (r : Option Addr) (m c : Nat) (zs : List IC) (hm : zs.length = m) (hx : a.eval x = .slice r m c) (hr : RowC w r zs)
    (h63 : n + m ≤ 1048576) (hbase : base ≤ w.heap.size)
    (h : ∀ v' w', w'.ownsRow base 30 2 v' (n + m) (xs ++ flatC zs) → w.grownBy w' v.ownBlock → wpList Tryd.prog ops Q rest (a.put o.dst v') w') : wpList Tryd.prog ops Q (o :: rest) a w := by
  subst hm
  exact wpList_append_rowQ hgd s x ho base v n xs hs hown r c zs hx hr h63 hbase h
theorem flatC_appQ (xs ys : List IC) : flatC xs ++ flatC ys = flatC (xs ++ ys) := by simp [flatC]
theorem own_litC {w : World} {B : Nat} {c : IC} {t : TypeId} (hB : B ≤ w.heap.size) : (w.alloc (.cells #[.int .i64 c.1, .int .i64 c.2] t)).ownsRow B t 2 (.slice (some ⟨w.heap.size, 0, none⟩) 1 1) 1 (flatC [c]) :=
  ⟨rfl, .inr ⟨w.heap.size, 1, #[.int .i64 c.1, .int .i64 c.2], rfl, hB, heap_alloc_new w _, Nat.le_refl _, by unfold maxLen; omega, rfl, rfl⟩⟩
theorem own_rowC {W : World} {base n c : Nat} {a : Option Addr} {zs : List IC} (h : W.ownsRow base 30 2 (.slice a n c) n (flatC zs)) (hl : zs.length = n) : RowC W a zs := by
  rcases h.2 with ⟨e, h0⟩ | ⟨g, cap, cur, e, hb, hg, _⟩
  · exact .inl (List.eq_nil_of_length_eq_zero (by omega))
  · cases e
    exact rowC_own h
end Go.Proofs.YtgbhafadibdmcaaDoor

/- Least costs: by way of a third cell: the mathematics. -/
namespace Go.Proofs.YtgbhafadibdmcaaDoor
open Go.RowKit

/-- From a cell on the way to another one that is as far as the way says. -/
theorem way_via {A B : Int} {zs ds es : List Int} {b : BX} {s i : Nat} (hm : mayB A B = true) (hn : (zs.length : Int) = A * B) (hz : AllH zs) (h : Far (gphB A B b zs) s (atD ds)) (he : Far (gphB A B b zs) i (atD es)) (hdi : atD ds i ≠ 18446744073709551615) :
    ∀ (n : Nat) (t : Nat), atD ds t ≠ 18446744073709551615 → atD ds t ≤ (n : Int) → i ∈ wayL A B zs ds t → atD es t ≠ 18446744073709551615 ∧ atD es t + atD ds i ≤ atD ds t := by
  intro n
  induction n with
  | zero =>
    intro t ht hle hmem
    rw [wayL_next hm hn hz h ht] at hmem
    rcases List.mem_cons.1 hmem with rfl | hmem
    · have e0 := he.src (h.opn hdi)
      exact ⟨by rw [e0]; decide, by rw [e0]; omega⟩
    · cases ha : aheadF A B zs ds t with
      | none => rw [ha] at hmem; cases hmem
      | some j =>
        obtain ⟨q1, q2, q3, q4, q5⟩ := aheadF_some hm hn hz h ha ht
        omega
  | succ n ih =>
    intro t ht hle hmem
    rw [wayL_next hm hn hz h ht] at hmem
    rcases List.mem_cons.1 hmem with rfl | hmem
    · have e0 := he.src (h.opn hdi)
      exact ⟨by rw [e0]; decide, by rw [e0]; omega⟩
    · cases ha : aheadF A B zs ds t with
      | none => rw [ha] at hmem; cases hmem
      | some j =>
        rw [ha] at hmem
        obtain ⟨q1, q2, q3, q4, q5⟩ := aheadF_some hm hn hz h ha ht
        obtain ⟨r1, r2⟩ := ih j q2 (by omega) hmem
        have hot := h.opn ht
        have hoj := h.opn q2
        have hk : (gphB A B b zs).k t = zs.getD t 0 := gphB_k (gphB_opn.1 hot).2.1
        have hl := he.le t j hot hoj ((mem_nbO hn).1 q1).1 r1
        rw [hk] at hl
        have bj := he.bd j
        have bt := he.bd t
        have bz := getD_in hz t
        constructor
        · omega
        · omega
/-- By way of a third cell nothing is nearer; by way of one on the way it is as far. -/
theorem three_le {A B : Int} {zs ds es : List Int} {b : BX} {s i t : Nat} (hm : mayB A B = true) (hn : (zs.length : Int) = A * B) (hz : AllH zs) (h : Far (gphB A B b zs) s (atD ds)) (he : Far (gphB A B b zs) i (atD es)) (hdi : atD ds i ≠ 18446744073709551615) :
    atD ds t ≤ addC (atD ds i) (atD es t) := by
  have h0 := h.ge0 i
  have hl := h.le_inf t
  by_cases hi : atD es t = 18446744073709551615
  · rw [hi]; unfold addC; split <;> omega
  · obtain ⟨h1, h2⟩ := Far.three (gphB_ok hm hn hz) h he hdi t hi
    unfold addC
    split <;> omega
theorem three_eq {A B : Int} {zs ds es : List Int} {b : BX} {s i t : Nat} (hm : mayB A B = true) (hn : (zs.length : Int) = A * B) (hz : AllH zs) (h : Far (gphB A B b zs) s (atD ds)) (he : Far (gphB A B b zs) i (atD es)) (hdi : atD ds i ≠ 18446744073709551615)
    (ht : atD ds t ≠ 18446744073709551615) (hw : i ∈ wayL A B zs ds t) : addC (atD ds i) (atD es t) = atD ds t := by
  have h0 := h.ge0 t
  obtain ⟨q1, q2⟩ := way_via hm hn hz h he hdi (atD ds t).toNat t ht (by omega) hw
  have q3 := three_le (t := t) hm hn hz h he hdi
  have bt := h.bd t
  unfold addC at q3 ⊢
  split at q3 <;> split <;> omega
/-- The cells of a way are those of its numbers. -/
theorem path_mem {A B : Int} {zs ds : List Int} {b : BX} {s t i k : Nat} (hm : mayB A B = true) (hn : (zs.length : Int) = A * B) (hz : AllH zs) (h : Far (gphB A B b zs) s (atD ds)) (ht : atD ds t ≠ 18446744073709551615) (hi : i < zs.length)
    (hk : k < (pathL A B zs ds t).length) (hc : (pathL A B zs ds t)[k] = cellN A i) : i ∈ wayL A B zs ds t := by
  have h0 := h.ge0 t
  have hmem : (pathL A B zs ds t)[k] ∈ pathL A B zs ds t := List.getElem_mem hk
  rw [hc] at hmem
  unfold pathL at hmem
  rw [List.mem_reverse, List.mem_map] at hmem
  obtain ⟨x, hx, hxe⟩ := hmem
  obtain ⟨hall, _⟩ := wayL_mem hm hn hz h (atD ds t).toNat t ht (by omega)
  obtain ⟨_, _, hxl⟩ := hall x hx
  have e1 := numN_cell (i := x) hm (by omega)
  have e2 := numN_cell (i := i) hm (by omega)
  rw [hxe, e2] at e1
  rw [e1]
  exact hx
theorem atBx_inU {A : Int} {b : BX} {ds : List Int} {c : IC} (hds : AllU ds) : inU (atBx A b ds c) := by
  unfold atBx
  split
  · by_cases h : numN A c < ds.length
    · rw [← atD_get h]; exact hds _ (List.getElem_mem _)
    · rw [atD_none (by omega)]; exact inU_inf
  · exact inU_inf
end Go.Proofs.YtgbhafadibdmcaaDoor

/- Least costs: a way cell by cell: the mathematics. -/
namespace Go.Proofs.YtgbhafadibdmcaaDoor
open Go.RowKit

theorem way_head {A B : Int} {zs ds : List Int} {b : BX} {s t : Nat} (hm : mayB A B = true) (hn : (zs.length : Int) = A * B) (hz : AllH zs) (h : Far (gphB A B b zs) s (atD ds)) (ht : atD ds t ≠ 18446744073709551615) : (wayL A B zs ds t)[0]? = some t := by
  rw [wayL_next hm hn hz h ht]; rfl
theorem way_step {A B : Int} {zs ds : List Int} {b : BX} {s : Nat} (hm : mayB A B = true) (hn : (zs.length : Int) = A * B) (hz : AllH zs) (h : Far (gphB A B b zs) s (atD ds)) :
    ∀ (n t : Nat), atD ds t ≠ 18446744073709551615 → atD ds t ≤ (n : Int) → ∀ (j x y : Nat), (wayL A B zs ds t)[j]? = some x → (wayL A B zs ds t)[j + 1]? = some y → aheadF A B zs ds x = some y := by
  intro n
  induction n with
  | zero =>
    intro t ht hle j x y h1 h2
    rw [wayL_next hm hn hz h ht] at h1 h2
    cases ha : aheadF A B zs ds t with
    | none => rw [ha] at h2; simp at h2
    | some k =>
      obtain ⟨q1, q2, q3, q4, q5⟩ := aheadF_some hm hn hz h ha ht
      omega
  | succ n ih =>
    intro t ht hle j x y h1 h2
    rw [wayL_next hm hn hz h ht] at h1 h2
    cases ha : aheadF A B zs ds t with
    | none => rw [ha] at h2; simp at h2
    | some k =>
      rw [ha] at h1 h2
      simp only at h1 h2
      obtain ⟨q1, q2, q3, q4, q5⟩ := aheadF_some hm hn hz h ha ht
      rw [List.getElem?_cons_succ] at h2
      match j, h1, h2 with
      | 0, h1, h2 =>
        rw [way_head hm hn hz h q2] at h2
        rw [List.getElem?_cons_zero] at h1
        cases h1
        cases h2
        exact ha
      | j + 1, h1, h2 =>
        rw [List.getElem?_cons_succ] at h1
        exact ih k q2 (by omega) j x y h1 h2
theorem ahead_none {A B : Int} {zs ds : List Int} {b : BX} {s t : Nat} (_ : mayB A B = true) (hn : (zs.length : Int) = A * B) (_ : AllH zs) (h : Far (gphB A B b zs) s (atD ds)) (ht : atD ds t ≠ 18446744073709551615) (ha : aheadF A B zs ds t = none) : t = s := by
  apply Classical.byContradiction
  intro hne
  obtain ⟨j, hj1, hj2, hj3, hj4⟩ := h.of t hne ht
  unfold aheadF at ha
  have hot := h.opn ht
  have hk : (gphB A B b zs).k t = zs.getD t 0 := gphB_k (gphB_opn.1 hot).2.1
  obtain ⟨o1, o2, o3⟩ := gphB_opn.1 hj2
  have hmem : j ∈ nbO A B zs t := (mem_nbO hn).2 ⟨hj1, o1, o3⟩
  have hf := List.find?_eq_none.1 ha j hmem
  apply hf
  unfold fromB
  rw [beq_iff_eq]
  rw [hk] at hj4
  have bt := h.bd t
  unfold addC
  rw [if_pos (by omega)]
  exact hj4.symm
theorem way_last {A B : Int} {zs ds : List Int} {b : BX} {s : Nat} (hm : mayB A B = true) (hn : (zs.length : Int) = A * B) (hz : AllH zs) (h : Far (gphB A B b zs) s (atD ds)) :
    ∀ (n t : Nat), atD ds t ≠ 18446744073709551615 → atD ds t ≤ (n : Int) → (wayL A B zs ds t).getLast? = some s := by
  intro n
  induction n with
  | zero =>
    intro t ht hle
    rw [wayL_next hm hn hz h ht]
    cases ha : aheadF A B zs ds t with
    | none => rw [ahead_none hm hn hz h ht ha]; rfl
    | some k =>
      obtain ⟨q1, q2, q3, q4, q5⟩ := aheadF_some hm hn hz h ha ht
      omega
  | succ n ih =>
    intro t ht hle
    rw [wayL_next hm hn hz h ht]
    cases ha : aheadF A B zs ds t with
    | none => rw [ahead_none hm hn hz h ht ha]; rfl
    | some k =>
      obtain ⟨q1, q2, q3, q4, q5⟩ := aheadF_some hm hn hz h ha ht
      have := ih k q2 (by omega)
      simp only
      rw [List.getLast?_cons, this]
      rfl
/-- The number of a path's i-th cell. -/
def xN (A B : Int) (zs ds : List Int) (t i : Nat) : Nat := (wayL A B zs ds t).getD ((wayL A B zs ds t).length - 1 - i) 0
/-- What a path is, cell by cell. -/
def WayOk (A : Int) (zs ds : List Int) (b : BX) (s t : Nat) (p : List IC) (x : Nat → Nat) : Prop :=
  1 ≤ p.length ∧ x 0 = s ∧ x (p.length - 1) = t ∧ (∀ i (hi : i < p.length), p[i] = cellN A (x i) ∧ x i < zs.length ∧ atD ds (x i) ≠ 18446744073709551615 ∧ inBx b (cellN A (x i)) = true ∧ zs.getD (x i) 0 ≠ 0) ∧
  (∀ i, i + 1 < p.length → atD ds (x (i + 1)) = atD ds (x i) + zs.getD (x (i + 1)) 0 ∧ ∃ d : Int, 0 ≤ d ∧ d ≤ 3 ∧ stepI (cellN A (x i)) d = cellN A (x (i + 1)))
theorem way_ok {A B : Int} {zs ds : List Int} {b : BX} {s t : Nat} (hm : mayB A B = true) (hn : (zs.length : Int) = A * B) (hz : AllH zs) (h : Far (gphB A B b zs) s (atD ds)) (ht : atD ds t ≠ 18446744073709551615) :
    WayOk A zs ds b s t (pathL A B zs ds t) (xN A B zs ds t) := by
  have h0 := h.ge0 t
  obtain ⟨hall, _⟩ := wayL_mem hm hn hz h (atD ds t).toNat t ht (by omega)
  have hhd := way_head hm hn hz h ht
  have hst := way_step hm hn hz h (atD ds t).toNat t ht (by omega)
  have hla := way_last hm hn hz h (atD ds t).toNat t ht (by omega)
  have hx : ∀ i, xN A B zs ds t i = (wayL A B zs ds t).getD ((wayL A B zs ds t).length - 1 - i) 0 := fun i => rfl
  have hp : pathL A B zs ds t = ((wayL A B zs ds t).map (cellN A)).reverse := rfl
  generalize wayL A B zs ds t = w at *
  generalize xN A B zs ds t = x at *
  have hl : (pathL A B zs ds t).length = w.length := by rw [hp]; simp
  have hpos : 0 < w.length := by
    apply Classical.byContradiction
    intro hc
    have : w = [] := List.eq_nil_of_length_eq_zero (by omega)
    rw [this] at hhd
    cases hhd
  have hw : ∀ i, i < w.length → w[w.length - 1 - i]? = some (x i) := fun i hi => by
    rw [hx, List.getD_eq_getElem?_getD, List.getElem?_eq_getElem (by omega)]
    rfl
  refine ⟨by omega, ?_, ?_, fun i hi => ?_, fun i hi => ?_⟩
  · have h1 := hw 0 hpos
    rw [List.getLast?_eq_getElem?] at hla
    rw [Nat.sub_zero] at h1
    rw [h1] at hla
    exact Option.some.inj hla
  · have h1 := hw (w.length - 1) (by omega)
    rw [hl]
    rw [show w.length - 1 - (w.length - 1) = 0 by omega, hhd] at h1
    exact (Option.some.inj h1).symm
  · rw [hl] at hi
    have h1 := hw i hi
    have hmem : x i ∈ w := List.mem_of_getElem? h1
    obtain ⟨m1, _, m3⟩ := hall (x i) hmem
    obtain ⟨o1, o2, o3⟩ := gphB_opn.1 (h.opn m1)
    refine ⟨?_, m3, m1, o2, o3⟩
    have h2 : (pathL A B zs ds t)[i]? = some (cellN A (x i)) := by
      rw [hp, List.getElem?_reverse (by simp; omega), List.getElem?_map, List.length_map, h1]
      rfl
    rw [List.getElem?_eq_getElem (by omega)] at h2
    exact Option.some.inj h2
  · rw [hl] at hi
    have h1 := hw i (by omega)
    have h2 := hw (i + 1) hi
    have ha := hst (w.length - 1 - (i + 1)) (x (i + 1)) (x i) h2 (by rw [show w.length - 1 - (i + 1) + 1 = w.length - 1 - i by omega]; exact h1)
    obtain ⟨m1, _, m3⟩ := hall (x (i + 1)) (List.mem_of_getElem? h2)
    obtain ⟨m4, _, m6⟩ := hall (x i) (List.mem_of_getElem? h1)
    obtain ⟨q1, q2, q3, q4, q5⟩ := aheadF_some hm hn hz h ha m1
    refine ⟨q3, ?_⟩
    obtain ⟨d, d0, d3, hon, hnum⟩ := mem_nbL.1 ((mem_nbO hn).1 q1).1
    obtain ⟨e, e0, e3, he⟩ := step_back (cellN A (x (i + 1))) d0 d3
    refine ⟨e, e0, e3, ?_⟩
    have : cellN A (x i) = stepI (cellN A (x (i + 1))) d := by rw [← hnum]; exact cellN_num hon
    rw [this]
    exact he
end Go.Proofs.YtgbhafadibdmcaaDoor

/- Least costs: the way by definition: the mathematics. -/
namespace Go.Proofs.YtgbhafadibdmcaaDoor
open Go.RowKit

/-- Whether one is reached from the cell beside it in a direction, as the document says it. -/
def hitO (A : Int) (b : BX) (zs ds : List Int) (i : Nat) (d : Int) : Bool :=
  inBx b (stepI (cellN A i) d) && (decide (atD ds (numN A (stepI (cellN A i) d)) ≠ 18446744073709551615) && decide (atD ds (numN A (stepI (cellN A i) d)) + zs.getD i 0 = atD ds i))
theorem find_map (f : Int → Option Nat) (p q : Nat → Bool) (g : Int → Bool) (F : Int → Nat) : ∀ l : List Int, (∀ d ∈ l, (g d = true → f d = some (F d) ∧ p (F d) = true ∧ q (F d) = true) ∧ (∀ j, f d = some j → p j = true → q j = true → g d = true)) →
    ((l.filterMap f).filter p).find? q = (l.find? g).map F
  | [], _ => rfl
  | d :: l, h => by
    have ih := find_map f p q g F l (fun x hx => h x (List.mem_cons_of_mem _ hx))
    obtain ⟨h1, h2⟩ := h d (List.mem_cons_self ..)
    cases hg : g d
    · rw [List.find?_cons, hg]
      simp only
      rw [← ih]
      cases hf : f d with
      | none => rw [List.filterMap_cons, hf]
      | some j =>
        rw [List.filterMap_cons, hf]
        simp only
        rw [List.filter_cons]
        cases hp : p j
        · simp
        · simp only [if_true]
          rw [List.find?_cons]
          cases hq : q j
          · rfl
          · rw [h2 j hf hp hq] at hg; cases hg
    · obtain ⟨e1, e2, e3⟩ := h1 hg
      rw [List.find?_cons, hg, List.filterMap_cons, e1]
      simp only
      rw [List.filter_cons, if_pos e2, List.find?_cons, e3]
      rfl
section
variable {A B : Int} {zs ds : List Int} {b : BX} {s : Nat}
theorem hit_ahead (hm : mayB A B = true) (hn : (zs.length : Int) = A * B) (hz : AllH zs) (hf : fitsB A B b.1 b.2.1 b.2.2.1 b.2.2.2 = true) (h : Far (gphB A B b zs) s (atD ds)) {i : Nat} (hi : atD ds i ≠ 18446744073709551615) :
    aheadF A B zs ds i = ([(0 : Int), 1, 2, 3].find? (hitO A b zs ds i)).map (fun d => numN A (stepI (cellN A i) d)) := by
  unfold aheadF nbO nbL
  refine find_map _ _ _ _ _ _ (fun d _ => ⟨fun hg => ?_, fun j hj hp hq => ?_⟩)
  · unfold hitO at hg
    rw [Bool.and_eq_true, Bool.and_eq_true, decide_eq_true_iff, decide_eq_true_iff] at hg
    obtain ⟨g1, g2, g3⟩ := hg
    have ho := box_on hf g1
    refine ⟨by unfold nbD; rw [if_pos ho], ?_, ?_⟩
    · obtain ⟨o1, o2, o3⟩ := gphB_opn.1 (h.opn g2)
      exact decide_eq_true o3
    · unfold fromB addC
      rw [beq_iff_eq]
      have := h.bd i
      rw [if_pos (by omega)]
      exact g3
  · unfold nbD at hj
    split at hj
    · rename_i ho
      have e := Option.some.inj hj
      subst e
      have hp := of_decide_eq_true hp
      unfold fromB at hq
      rw [beq_iff_eq] at hq
      have hne : atD ds (numN A (stepI (cellN A i) d)) ≠ 18446744073709551615 ∧ atD ds (numN A (stepI (cellN A i) d)) + zs.getD i 0 = atD ds i := by
        have b1 := h.bd i
        have b2 := h.bd (numN A (stepI (cellN A i) d))
        have o3 := (gphB_opn.1 (h.opn hi)).2.2
        have hG := gphB_ok (b := b) hm hn hz
        have hk := hG.pos1 (h.opn hi)
        rw [gphB_k (gphB_opn.1 (h.opn hi)).2.1] at hk
        unfold addC at hq
        split at hq
        · refine ⟨fun e => ?_, hq⟩
          rename_i hle
          omega
        · omega
      obtain ⟨o1, o2, o3⟩ := gphB_opn.1 (h.opn hne.1)
      rw [cellN_num ho] at o2
      unfold hitO
      rw [Bool.and_eq_true, Bool.and_eq_true, decide_eq_true_iff, decide_eq_true_iff]
      exact ⟨o2, hne⟩
    · cases hj
theorem way_go (hm : mayB A B = true) (hn : (zs.length : Int) = A * B) (hz : AllH zs) (h : Far (gphB A B b zs) s (atD ds)) :
    ∀ (n t : Nat), atD ds t ≠ 18446744073709551615 → atD ds t ≤ (n : Int) → ∀ (j x : Nat), (wayL A B zs ds t)[j]? = some x → (wayL A B zs ds t)[j + 1]? = aheadF A B zs ds x ∧ atD ds x ≠ 18446744073709551615 ∧ x < zs.length ∧ (atD ds x = 0 ↔ aheadF A B zs ds x = none) := by
  intro n
  have key : ∀ t, atD ds t ≠ 18446744073709551615 → t < zs.length ∧ (atD ds t = 0 ↔ aheadF A B zs ds t = none) := fun t ht => by
    refine ⟨(gphB_opn.1 (h.opn ht)).1, fun h0 => ?_, fun ha => ?_⟩
    · cases ha : aheadF A B zs ds t with
      | none => rfl
      | some k =>
        obtain ⟨q1, q2, q3, q4, q5⟩ := aheadF_some hm hn hz h ha ht
        omega
    · rw [ahead_none hm hn hz h ht ha]
      exact h.src (h.opns ht)
  induction n with
  | zero =>
    intro t ht hle j x h1
    rw [wayL_next hm hn hz h ht] at h1 ⊢
    cases ha : aheadF A B zs ds t with
    | none =>
      rw [ha] at h1
      match j, h1 with
      | 0, h1 => cases h1; rw [ha]; exact ⟨rfl, ht, (key t ht).1, by have q := (key t ht).2; rw [ha] at q; exact q⟩
      | j + 1, h1 => simp at h1
    | some k =>
      obtain ⟨q1, q2, q3, q4, q5⟩ := aheadF_some hm hn hz h ha ht
      omega
  | succ n ih =>
    intro t ht hle j x h1
    rw [wayL_next hm hn hz h ht] at h1 ⊢
    cases ha : aheadF A B zs ds t with
    | none =>
      rw [ha] at h1
      match j, h1 with
      | 0, h1 => cases h1; rw [ha]; exact ⟨rfl, ht, (key t ht).1, by have q := (key t ht).2; rw [ha] at q; exact q⟩
      | j + 1, h1 => simp at h1
    | some k =>
      rw [ha] at h1
      obtain ⟨q1, q2, q3, q4, q5⟩ := aheadF_some hm hn hz h ha ht
      match j, h1 with
      | 0, h1 =>
        cases h1
        refine ⟨?_, ht, (key t ht).1, (key t ht).2⟩
        rw [List.getElem?_cons_succ, way_head hm hn hz h q2, ha]
      | j + 1, h1 =>
        simp only [List.getElem?_cons_succ] at h1 ⊢
        exact ih k q2 (by omega) j x h1
/-- What is told so far, from its end. -/
def backL (A B : Int) (zs ds : List Int) (t k : Nat) : List IC := (((wayL A B zs ds t).take k).map (cellN A)).reverse
theorem backL_len (t k : Nat) (hk : k ≤ (wayL A B zs ds t).length) : (backL A B zs ds t k).length = k := by
  unfold backL; simp; omega
theorem backL_one (hm : mayB A B = true) (hn : (zs.length : Int) = A * B) (hz : AllH zs) (h : Far (gphB A B b zs) s (atD ds)) {t : Nat} (ht : atD ds t ≠ 18446744073709551615) : backL A B zs ds t 1 = [cellN A t] := by
  unfold backL
  rw [wayL_next hm hn hz h ht]
  rfl
theorem backL_succ {t k x : Nat} (hx : (wayL A B zs ds t)[k]? = some x) : backL A B zs ds t (k + 1) = cellN A x :: backL A B zs ds t k := by
  unfold backL
  obtain ⟨hk, e⟩ := List.getElem?_eq_some_iff.1 hx
  rw [List.take_succ_eq_append_getElem hk, e]
  simp
theorem backL_all (t : Nat) : backL A B zs ds t (wayL A B zs ds t).length = pathL A B zs ds t := by
  unfold backL pathL; rw [List.take_length]
/-- What the document's loop needs of a way, from its end. -/
structure WayB (A : Int) (b : BX) (zs ds : List Int) (t : IC) (L : Nat) (BL : Nat → List IC) : Prop where
  pos : 1 ≤ L ∧ L ≤ zs.length
  len : ∀ k, k ≤ L → (BL k).length = k
  one : BL 1 = [t]
  at_ : ∀ k, k < L → ∃ x : Nat, x < zs.length ∧ BL (k + 1) = cellN A x :: BL k ∧ numN A (cellN A x) = x ∧ atD ds x ≠ 18446744073709551615 ∧ inBx b (cellN A x) = true ∧ (atD ds x = 0 → k + 1 = L) ∧ (atD ds x ≠ 0 → k + 1 < L ∧ ∃ d : Nat, d < 4 ∧ hitO A b zs ds x (d : Int) = true ∧ (∀ e : Nat, e < d → hitO A b zs ds x (e : Int) = false) ∧ BL (k + 2) = stepI (cellN A x) (d : Int) :: BL (k + 1))
theorem find_four (g : Int → Bool) (F : Int → Nat) (y : Nat) (h : ([(0 : Int), 1, 2, 3].find? g).map F = some y) : ∃ d : Nat, d < 4 ∧ g (d : Int) = true ∧ (∀ e : Nat, e < d → g (e : Int) = false) ∧ F (d : Int) = y := by
  simp only [List.find?_cons, List.find?_nil] at h
  cases h0 : g 0
  · cases h1 : g 1
    · cases h2 : g 2
      · cases h3 : g 3
        · simp [h0, h1, h2, h3] at h
        · simp [h0, h1, h2, h3] at h
          exact ⟨3, by omega, h3, fun e he => by rcases (show e = 0 ∨ e = 1 ∨ e = 2 by omega) with rfl | rfl | rfl <;> assumption, h⟩
      · simp [h0, h1, h2] at h
        exact ⟨2, by omega, h2, fun e he => by rcases (show e = 0 ∨ e = 1 by omega) with rfl | rfl <;> assumption, h⟩
    · simp [h0, h1] at h
      exact ⟨1, by omega, h1, fun e he => by rcases (show e = 0 by omega) with rfl; assumption, h⟩
  · simp [h0] at h
    exact ⟨0, by omega, h0, fun e he => absurd he (by omega), h⟩
theorem way_back (hm : mayB A B = true) (hn : (zs.length : Int) = A * B) (hz : AllH zs) (hf : fitsB A B b.1 b.2.1 b.2.2.1 b.2.2.2 = true) (h : Far (gphB A B b zs) s (atD ds)) {c : IC} (hc : onB A B c = true) (ht : atD ds (numN A c) ≠ 18446744073709551615) :
    WayB A b zs ds c (wayL A B zs ds (numN A c)).length (backL A B zs ds (numN A c)) := by
  have h0 := h.ge0 (numN A c)
  have hgo := way_go hm hn hz h (atD ds (numN A c)).toNat (numN A c) ht (by omega)
  have hhd := way_head hm hn hz h ht
  have hpos : 0 < (wayL A B zs ds (numN A c)).length := (List.getElem?_eq_some_iff.1 hhd).1
  refine ⟨⟨hpos, wayL_len hm hn hz h ht⟩, fun k hk => backL_len _ _ hk, by rw [backL_one hm hn hz h ht, cellN_num hc], fun k hk => ?_⟩
  obtain ⟨x, hx⟩ : ∃ x, (wayL A B zs ds (numN A c))[k]? = some x := ⟨_, List.getElem?_eq_getElem hk⟩
  obtain ⟨g1, g2, g3, g4⟩ := hgo k x hx
  have hxl : (x : Int) < A * B := by omega
  refine ⟨x, g3, backL_succ hx, numN_cell hm hxl, g2, (gphB_opn.1 (h.opn g2)).2.1, fun e => ?_, fun e => ?_⟩
  · rw [g4.1 e] at g1
    have := List.getElem?_eq_none_iff.1 g1
    omega
  · cases ha : aheadF A B zs ds x with
    | none => exact absurd (g4.2 ha) e
    | some y =>
      rw [ha] at g1
      obtain ⟨hk1, _⟩ := List.getElem?_eq_some_iff.1 g1
      rw [hit_ahead hm hn hz hf h g2] at ha
      obtain ⟨d, d1, d2, d3, d4⟩ := find_four _ _ _ ha
      refine ⟨hk1, d, d1, d2, d3, ?_⟩
      rw [backL_succ g1]
      congr 1
      unfold hitO at d2
      rw [Bool.and_eq_true] at d2
      rw [← d4]
      exact cellN_num (box_on hf d2.1)
end
end Go.Proofs.YtgbhafadibdmcaaDoor

/- Tables within a cluster: the costs of a box as a field of its own; how far its cells are within the box is how far they are there. -/
namespace Go.Proofs.YtgbhafadibdmcaaDoor

/-- A cell of a box, from the box's corner on. -/
def relC (X Y : Int) (c : IC) : IC := (c.1 - X, c.2 - Y)
/-- A box's costs, row by row. -/
def ownZ (A : Int) (X Y : Int) (U V : Nat) (zs : List Int) : List Int := (List.range (U * V)).map fun (i : Nat) => zs.getD (numN A ((cellN (U : Int) i).1 + X, (cellN (U : Int) i).2 + Y)) 0
theorem ownZ_len (A X Y : Int) (U V : Nat) (zs : List Int) : (ownZ A X Y U V zs).length = U * V := by simp [ownZ]
theorem ownZ_at {A X Y : Int} {U V : Nat} {zs : List Int} {i : Nat} (h : i < U * V) : (ownZ A X Y U V zs).getD i 0 = zs.getD (numN A ((cellN (U : Int) i).1 + X, (cellN (U : Int) i).2 + Y)) 0 := by
  unfold ownZ
  rw [List.getD_eq_getElem?_getD, List.getElem?_map, List.getElem?_range h]
  rfl
theorem ownZ_in {A X Y : Int} {U V : Nat} {zs : List Int} (h : AllH zs) : AllH (ownZ A X Y U V zs) := by
  intro z hz
  unfold ownZ at hz
  obtain ⟨i, _, rfl⟩ := List.mem_map.1 hz
  exact getD_in h _
/-- A box that lies on a map, in plain words. -/
structure BoxOn (A B X Y : Int) (U V : Nat) : Prop where
  a : 1 ≤ A ∧ A ≤ 256
  b : 1 ≤ B ∧ B ≤ 256
  x : 0 ≤ X ∧ X + U ≤ A
  y : 0 ≤ Y ∧ Y + V ≤ B
  u : 1 ≤ U
  v : 1 ≤ V
section
variable {A B X Y : Int} {U V : Nat} {zs : List Int} {s : Nat} {d : Nat → Int}
theorem BoxOn.fits (h : BoxOn A B X Y U V) : fitsB A B X Y (U : Int) (V : Int) = true := by
  obtain ⟨⟨a1, a2⟩, ⟨b1, b2⟩, ⟨x1, x2⟩, ⟨y1, y2⟩, u, v⟩ := h
  refine fitsB_iff.2 ⟨?_, mayB_iff.2 ⟨a1, a2, b1, b2⟩, by omega, by omega, x1, y1, x2, y2⟩
  simp [rightB]; omega
theorem BoxOn.may (h : BoxOn A B X Y U V) : mayB A B = true := mayB_iff.2 ⟨h.a.1, h.a.2, h.b.1, h.b.2⟩
theorem BoxOn.may2 (h : BoxOn A B X Y U V) : mayB (U : Int) (V : Int) = true := by
  obtain ⟨⟨a1, a2⟩, ⟨b1, b2⟩, ⟨x1, x2⟩, ⟨y1, y2⟩, u, v⟩ := h
  exact mayB_iff.2 ⟨by omega, by omega, by omega, by omega⟩
theorem BoxOn.fits2 (h : BoxOn A B X Y U V) : fitsB (U : Int) (V : Int) 0 0 (U : Int) (V : Int) = true := by
  have hm := h.may2
  obtain ⟨⟨a1, a2⟩, ⟨b1, b2⟩, ⟨x1, x2⟩, ⟨y1, y2⟩, u, v⟩ := h
  refine fitsB_iff.2 ⟨?_, hm, by omega, by omega, by omega, by omega, by omega, by omega⟩
  simp [rightB]; omega
theorem BoxOn.inb (h : BoxOn A B X Y U V) {c : IC} : inBx (X, Y, (U : Int), (V : Int)) c = true ↔ X ≤ c.1 ∧ c.1 < X + U ∧ Y ≤ c.2 ∧ c.2 < Y + V := by
  have hf := (fitsB_iff.1 h.fits).1
  exact hasB_iff.trans ⟨fun q => q.2, fun q => ⟨hf, q⟩⟩
theorem BoxOn.in0 (h : BoxOn A B X Y U V) {c : IC} : inBx (0, 0, (U : Int), (V : Int)) c = true ↔ onB (U : Int) (V : Int) c = true := by
  have hf := (fitsB_iff.1 h.fits2).1
  obtain ⟨m1, m2, m3, m4⟩ := mayB_iff.1 h.may2
  constructor
  · intro q
    obtain ⟨_, q1, q2, q3, q4⟩ := hasB_iff.1 (show hasB 0 0 (U : Int) (V : Int) c.1 c.2 = true from q)
    exact inB_iff.2 ⟨m1, m2, m3, m4, by omega, by omega, by omega, by omega⟩
  · intro q
    obtain ⟨_, _, _, _, q1, q2, q3, q4⟩ := inB_iff.1 q
    exact (show hasB 0 0 (U : Int) (V : Int) c.1 c.2 = true from hasB_iff.2 ⟨hf, by omega, by omega, by omega, by omega⟩)
theorem BoxOn.on (h : BoxOn A B X Y U V) {c : IC} (hc : inBx (X, Y, (U : Int), (V : Int)) c = true) : onB A B c = true ∧ onB (U : Int) (V : Int) (relC X Y c) = true := by
  obtain ⟨q1, q2, q3, q4⟩ := h.inb.1 hc
  obtain ⟨⟨a1, a2⟩, ⟨b1, b2⟩, ⟨x1, x2⟩, ⟨y1, y2⟩, u, v⟩ := h
  refine ⟨inB_iff.2 ⟨a1, a2, b1, b2, by omega, by omega, by omega, by omega⟩, inB_iff.2 ⟨by omega, by omega, by omega, by omega, ?_, ?_, ?_, ?_⟩⟩ <;> (simp only [relC]; omega)
theorem rel_step (c : IC) (e : Int) : relC X Y (stepI c e) = stepI (relC X Y c) e := by
  unfold relC stepI
  exact Prod.ext (by show c.1 + dxI e - X = c.1 - X + dxI e; omega) (by show c.2 + dyI e - Y = c.2 - Y + dyI e; omega)
theorem BoxOn.back (h : BoxOn A B X Y U V) {c : IC} (hc : onB (U : Int) (V : Int) (relC X Y c) = true) : inBx (X, Y, (U : Int), (V : Int)) c = true := by
  obtain ⟨_, _, _, _, q1, q2, q3, q4⟩ := inB_iff.1 hc
  simp only [relC] at q1 q2 q3 q4
  exact h.inb.2 ⟨by omega, by omega, by omega, by omega⟩
theorem BoxOn.num (h : BoxOn A B X Y U V) {c : IC} (hc : inBx (X, Y, (U : Int), (V : Int)) c = true) : numN (U : Int) (relC X Y c) < U * V ∧ (ownZ A X Y U V zs).getD (numN (U : Int) (relC X Y c)) 0 = zs.getD (numN A c) 0 := by
  obtain ⟨h1, h2⟩ := h.on hc
  obtain ⟨e1, e2⟩ := numN_int h2
  have hlt : numN (U : Int) (relC X Y c) < U * V := by
    have : ((numN (U : Int) (relC X Y c) : Nat) : Int) < ((U * V : Nat) : Int) := by rw [e1, Int.natCast_mul]; exact e2
    omega
  refine ⟨hlt, ?_⟩
  rw [ownZ_at hlt, cellN_num h2]
  have : (((relC X Y c).1 + X, (relC X Y c).2 + Y) : IC) = c := Prod.ext (by simp only [relC]; omega) (by simp only [relC]; omega)
  rw [this]
theorem BoxOn.opn (h : BoxOn A B X Y U V) (hn : (zs.length : Int) = A * B) {c : IC} (hc : inBx (X, Y, (U : Int), (V : Int)) c = true) :
    (gphB (U : Int) (V : Int) (0, 0, (U : Int), (V : Int)) (ownZ A X Y U V zs)).opn (numN (U : Int) (relC X Y c)) ↔ (gphB A B (X, Y, (U : Int), (V : Int)) zs).opn (numN A c) := by
  obtain ⟨h1, h2⟩ := h.on hc
  obtain ⟨n1, n2⟩ := h.num (zs := zs) hc
  obtain ⟨e1, e2⟩ := numN_int h1
  rw [gphB_opn, gphB_opn, cellN_num h1, cellN_num h2, ownZ_len, n2]
  constructor
  · rintro ⟨_, _, q⟩; exact ⟨by omega, hc, q⟩
  · rintro ⟨_, _, q⟩; exact ⟨n1, h.in0.2 h2, q⟩
theorem BoxOn.kk (h : BoxOn A B X Y U V) {c : IC} (hc : inBx (X, Y, (U : Int), (V : Int)) c = true) :
    (gphB (U : Int) (V : Int) (0, 0, (U : Int), (V : Int)) (ownZ A X Y U V zs)).k (numN (U : Int) (relC X Y c)) = (gphB A B (X, Y, (U : Int), (V : Int)) zs).k (numN A c) := by
  obtain ⟨h1, h2⟩ := h.on hc
  rw [gphB_k (by rw [cellN_num h2]; exact h.in0.2 h2), gphB_k (by rw [cellN_num h1]; exact hc), (h.num (zs := zs) hc).2]
theorem BoxOn.nb (h : BoxOn A B X Y U V) {c : IC} {e : Int} (h0 : 0 ≤ e) (h3 : e ≤ 3) (hc : inBx (X, Y, (U : Int), (V : Int)) c = true) (hs : inBx (X, Y, (U : Int), (V : Int)) (stepI c e) = true) :
    numN (U : Int) (relC X Y (stepI c e)) ∈ nbL (U : Int) (V : Int) (numN (U : Int) (relC X Y c)) ∧ numN A (stepI c e) ∈ nbL A B (numN A c) := by
  obtain ⟨h1, h2⟩ := h.on hc
  obtain ⟨g1, g2⟩ := h.on hs
  refine ⟨mem_nbL.2 ⟨e, h0, h3, ?_, ?_⟩, mem_nbL.2 ⟨e, h0, h3, ?_, ?_⟩⟩
  · rw [cellN_num h2, ← rel_step]; exact g2
  · rw [cellN_num h2, ← rel_step]
  · rw [cellN_num h1]; exact g1
  · rw [cellN_num h1]
/-- What is told of the box as a field of its own, on the map. -/
def upD (A X Y : Int) (U V : Nat) (d : Nat → Int) (i : Nat) : Int := if inBx (X, Y, (U : Int), (V : Int)) (cellN A i) = true then d (numN (U : Int) (relC X Y (cellN A i))) else 18446744073709551615
theorem far_up (h : BoxOn A B X Y U V) (hn : (zs.length : Int) = A * B) {c : IC} (hc : inBx (X, Y, (U : Int), (V : Int)) c = true)
    (hd : Far (gphB (U : Int) (V : Int) (0, 0, (U : Int), (V : Int)) (ownZ A X Y U V zs)) (numN (U : Int) (relC X Y c)) d) :
    Far (gphB A B (X, Y, (U : Int), (V : Int)) zs) (numN A c) (fun i => if i < zs.length then upD A X Y U V d i else 18446744073709551615) := by
  have hm := h.may
  have hup : ∀ i, i < zs.length → numN A (cellN A i) = i := fun i hi => numN_cell hm (by omega)
  have hnc : ∀ {c : IC}, inBx (X, Y, (U : Int), (V : Int)) c = true → numN A c < zs.length ∧ cellN A (numN A c) = c := fun {c} hc => by
    obtain ⟨h1, _⟩ := h.on hc
    obtain ⟨e1, e2⟩ := numN_int h1
    exact ⟨by omega, cellN_num h1⟩
  have hat : ∀ {c : IC}, inBx (X, Y, (U : Int), (V : Int)) c = true → (if numN A c < zs.length then upD A X Y U V d (numN A c) else 18446744073709551615) = d (numN (U : Int) (relC X Y c)) := fun {c} hc => by
    obtain ⟨e1, e2⟩ := hnc hc
    rw [if_pos e1]; unfold upD; rw [e2, if_pos hc]
  have hno : ∀ i, (if i < zs.length then upD A X Y U V d i else 18446744073709551615) ≠ 18446744073709551615 → ∃ c, inBx (X, Y, (U : Int), (V : Int)) c = true ∧ i = numN A c := fun i hi => by
    split at hi
    · rename_i hl
      unfold upD at hi
      split at hi
      · rename_i hb; exact ⟨_, hb, (hup i hl).symm⟩
      · exact absurd rfl hi
    · exact absurd rfl hi
  have hop : ∀ i, (gphB A B (X, Y, (U : Int), (V : Int)) zs).opn i → ∃ c, inBx (X, Y, (U : Int), (V : Int)) c = true ∧ i = numN A c := fun i hi => by
    obtain ⟨h1, h2, _⟩ := gphB_opn.1 hi
    exact ⟨_, h2, (hup i h1).symm⟩
  refine ⟨fun i => ?_, fun i hi => ?_, fun hs => ?_, fun i j hi hj hij hf => ?_, fun i hi hf => ?_, fun hs i => ?_⟩
  · show (if i < zs.length then upD A X Y U V d i else 18446744073709551615) = _ ∨ _
    by_cases q : (if i < zs.length then upD A X Y U V d i else 18446744073709551615) = 18446744073709551615
    · exact .inl q
    · obtain ⟨c, hc, rfl⟩ := hno i q
      try simp only
      rw [hat hc]
      exact hd.bd _
  · apply Classical.byContradiction
    intro q
    obtain ⟨c, hc, rfl⟩ := hno i q
    try simp only at q
    rw [hat hc] at q
    exact hi ((h.opn hn hc).1 (hd.opn q))
  · try simp only
    rw [hat hc]
    exact hd.src ((h.opn hn hc).2 hs)
  · obtain ⟨ci, hci, rfl⟩ := hop i hi
    obtain ⟨cj, hcj, rfl⟩ := hop j hj
    try simp only at hf ⊢
    rw [hat hcj] at hf ⊢
    rw [hat hci]
    obtain ⟨e, e0, e3, eo, en⟩ := mem_nbL.1 hij
    rw [(hnc hci).2] at eo en
    have hcj2 : stepI ci e = cj := by
      have := congrArg (cellN A) en
      rw [cellN_num eo, (hnc hcj).2] at this
      exact this
    subst hcj2
    have := hd.le _ _ ((h.opn hn hci).2 hi) ((h.opn hn hcj).2 hj) (h.nb e0 e3 hci hcj).1 hf
    rw [h.kk hci] at this
    exact this
  · obtain ⟨ci, hci, rfl⟩ := hno i hf
    try simp only at hf ⊢
    rw [hat hci] at hf
    have hne : numN (U : Int) (relC X Y ci) ≠ numN (U : Int) (relC X Y c) := fun q => by
      have := congrArg (cellN (U : Int)) q
      rw [cellN_num (h.on hci).2, cellN_num (h.on hc).2] at this
      have h1 := (Prod.ext_iff.1 this).1
      have h2 := (Prod.ext_iff.1 this).2
      simp only [relC] at h1 h2
      exact hi (by rw [Prod.ext (show ci.1 = c.1 by omega) (show ci.2 = c.2 by omega)])
    obtain ⟨j, h1, h2, h3, h4⟩ := hd.of _ hne hf
    obtain ⟨e, e0, e3, eo, rfl⟩ := mem_nbL.1 h1
    rw [cellN_num (h.on hci).2, ← rel_step] at eo h2 h3 h4
    have hcj := h.back eo
    refine ⟨numN A (stepI ci e), (h.nb e0 e3 hci hcj).2, (h.opn hn hcj).1 h2, ?_, ?_⟩
    · rw [hat hcj]; exact h3
    · rw [hat hci, hat hcj, ← h.kk hci]; exact h4
  · apply Classical.byContradiction
    intro q
    obtain ⟨ci, hci, rfl⟩ := hno i q
    try simp only at q
    rw [hat hci] at q
    exact q (hd.nos (fun ho => hs ((h.opn hn hc).1 ho)) _)
end
end Go.Proofs.YtgbhafadibdmcaaDoor
