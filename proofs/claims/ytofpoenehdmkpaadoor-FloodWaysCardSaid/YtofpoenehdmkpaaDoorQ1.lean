/- Texts joined: Cj, Ck, Op, Cl, Cm, Cn, Co, Cp, Cr, Cs, Lgthree. -/
import Derived.Test.YtofpoenehdmkpaaDoorCi
import Derived.Test.YtofpoenehdmkpaaDoorOz
/- Least costs: within a box, and on the whole map. -/
namespace Go.Proofs.YtofpoenehdmkpaaDoor
open Go.RowKit

/-- What is wrong. -/
def errW (A B n : Int) (b : BX) (c : IC) : Int := if chkF A B n = 0 then (if fitsB A B b.1 b.2.1 b.2.2.1 b.2.2.2 = true ∧ inBx b c = true then 0 else 10) else chkF A B n
/-- What is told within a box, or nothing. -/
def WinR (A B : Int) (zs : List Int) (b : BX) (c : IC) (e : Ending) (W : World) : Prop :=
  ∃ (a : Option Addr) (cap : Nat) (ds : List Int), e = .returned (.tuple #[.slice a ds.length cap, .int .i64 (errW A B zs.length b c)]) ∧ RowU W a ds ∧ (errW A B zs.length b c ≠ 0 → ds = []) ∧
    (errW A B zs.length b c = 0 → ds.length = zs.length ∧ Far (gphB A B b zs) (numN A c) (atD ds))
theorem errW_ok {A B n : Int} {b : BX} {c : IC} (h : errW A B n b c = 0) : chkF A B n = 0 ∧ fitsB A B b.1 b.2.1 b.2.2.1 b.2.2.2 = true ∧ inBx b c = true := by
  unfold errW at h
  split at h
  · split at h
    · rename_i h1 h2; exact ⟨h1, h2.1, h2.2⟩
    · cases h
  · exact absurd h (by assumption)
theorem chkF_may {A B n : Int} (h : chkF A B n = 0) : mayB A B = true ∧ n = A * B := by
  unfold chkF at h
  split at h
  · rename_i hm
    split at h
    · rename_i hn; exact ⟨hm, hn⟩
    · cases h
  · cases h
theorem box_on {A B : Int} {b : BX} {c : IC} (hf : fitsB A B b.1 b.2.1 b.2.2.1 b.2.2.2 = true) (hh : inBx b c = true) : onB A B c = true := by
  obtain ⟨f1, f2, f3, f4, f5, f6, f7, f8⟩ := fitsB_iff.1 hf
  obtain ⟨g1, g2, g3, g4, g5⟩ := hasB_iff.1 hh
  obtain ⟨m1, m2, m3, m4⟩ := mayB_iff.1 f2
  exact inB_iff.2 ⟨m1, m2, m3, m4, by omega, by omega, by omega, by omega⟩

set_option maxRecDepth 100000 in
set_option maxHeartbeats 4000000 in
theorem within_any (A B : Int) (a : Option Addr) (cap : Nat) (zs : List Int) (b : BX) (c : IC) (w : World) (hz : AllH zs) (hr : RowH w a zs) (hst : Stp w) :
    Calls Tryd.prog 15 #[.agg #[.int .i64 A, .int .i64 B, .slice a zs.length cap], .agg #[.int .i64 b.1, .int .i64 b.2.1, .int .i64 b.2.2.1, .int .i64 b.2.2.2], .agg #[.int .i64 c.1, .int .i64 c.2]] w fun e w' => WinR A B zs b c e w' ∧ Below w.heap.size w w' := by
  have hA := bl0 w
  obtain ⟨E, hE⟩ : ∃ E, errW A B zs.length b c = E := ⟨_, rfl⟩
  have HE := Lib.hid hE
  unfold WinR
  rw [hE]
  obtain ⟨chk, hchk⟩ : ∃ chk, chkF A B zs.length = chk := ⟨_, rfl⟩
  have HC := Lib.hid hchk
  unfold errW at hE
  rw [hchk] at hE
  by_cases h0 : chk = 0
  · rw [if_pos h0] at hE
    subst h0
    obtain ⟨hmay, hn⟩ := chkF_may hchk
    have HN := Lib.hid hn
    obtain ⟨X, Y, U, V⟩ := b
    dsimp only at hE ⊢
    clear hchk hn
    by_cases hf : fitsB A B X Y U V = true
    · by_cases hh : inBx (X, Y, U, V) c = true
      · rw [if_pos ⟨hf, hh⟩] at hE
        subst hE
        have hon := box_on (b := (X, Y, U, V)) hf hh
        have hh2 : hasB X Y U V c.1 c.2 = true := hh
        have hnl := numN_at hon HN.out
        go_enter Tryd.func15, Tryd.ntmps15
        go_wp2_with fail
        refine (check_any _ _ _ _ _ _).mono ?_
        rintro e w1 ⟨rfl, hb⟩
        have hk : Below w.heap.size w w1 := by first | exact hb | exact bl_tr (bl_al (bl0 _) _) hb | exact bl_tr (bl_dr (bl_al (bl0 _) _)) hb | exact bl_tr (bl_al (bl_al (bl0 _) _) _) hb | exact bl_tr (bl_dr (bl_al (bl_al (bl0 _) _) _)) hb | exact bl_tr (bl_al (bl_al (bl_al (bl0 _) _) _) _) hb | exact bl_tr (bl_dr (bl_al (bl_al (bl_al (bl0 _) _) _) _)) hb | exact bl_tr (bl_al (bl_al (bl_al (bl_al (bl0 _) _) _) _) _) hb | exact bl_tr (bl_dr (bl_al (bl_al (bl_al (bl_al (bl0 _) _) _) _) _)) hb | exact bl_tr (bl_al (bl_al (bl_al (bl_al (bl_al (bl0 _) _) _) _) _) _) hb | exact bl_tr (bl_dr (bl_al (bl_al (bl_al (bl_al (bl_al (bl0 _) _) _) _) _) _)) hb | exact bl_tr (bl_al (bl_al (bl_al (bl_al (bl_al (bl_al (bl0 _) _) _) _) _) _) _) hb | exact bl_tr (bl_dr (bl_al (bl_al (bl_al (bl_al (bl_al (bl_al (bl0 _) _) _) _) _) _) _)) hb | exact bl_tr (bl_dr (bl0 _)) hb
        replace hA := bl_tr hA hk
        have f0 := cell_later hb (v := .int .i64 A) (a := ⟨w.heap.size, 0, none⟩) (by simp [go_sem])
        have f1 := cell_later hb (v := .int .i64 B) (a := ⟨w.heap.size, 1, none⟩) (by simp [go_sem])
        have f2 := cell_later hb (v := .slice a zs.length cap) (a := ⟨w.heap.size, 2, none⟩) (by simp [go_sem])
        have g0 := cell_later hb (v := .int .i64 X) (a := ⟨w.heap.size + 1, 0, none⟩) (by simp [go_sem])
        have g1 := cell_later hb (v := .int .i64 Y) (a := ⟨w.heap.size + 1, 1, none⟩) (by simp [go_sem])
        have g2 := cell_later hb (v := .int .i64 U) (a := ⟨w.heap.size + 1, 2, none⟩) (by simp [go_sem])
        have g3 := cell_later hb (v := .int .i64 V) (a := ⟨w.heap.size + 1, 3, none⟩) (by simp [go_sem])
        have h0 := cell_later hb (v := .int .i64 c.1) (a := ⟨w.heap.size + 1 + 1, 0, none⟩) (by simp [go_sem])
        have h1 := cell_later hb (v := .int .i64 c.2) (a := ⟨w.heap.size + 1 + 1, 1, none⟩) (by simp [go_sem])
        clear hb hk
        have zf0 := blk_lt f0
        have zf1 := blk_lt f1
        have zf2 := blk_lt f2
        have zg0 := blk_lt g0
        have zg1 := blk_lt g1
        have zg2 := blk_lt g2
        have zg3 := blk_lt g3
        have zh0 := blk_lt h0
        have zh1 := blk_lt h1
        rw [HC.out]
        go_wp2_with fail
        refine (fits_any _ _ _ _ _ _ _).mono ?_
        rintro e w2 ⟨rfl, hb⟩
        have hk : Below w1.heap.size w1 w2 := by first | exact hb | exact bl_tr (bl_al (bl0 _) _) hb | exact bl_tr (bl_dr (bl_al (bl0 _) _)) hb | exact bl_tr (bl_al (bl_al (bl0 _) _) _) hb | exact bl_tr (bl_dr (bl_al (bl_al (bl0 _) _) _)) hb | exact bl_tr (bl_al (bl_al (bl_al (bl0 _) _) _) _) hb | exact bl_tr (bl_dr (bl_al (bl_al (bl_al (bl0 _) _) _) _)) hb | exact bl_tr (bl_al (bl_al (bl_al (bl_al (bl0 _) _) _) _) _) hb | exact bl_tr (bl_dr (bl_al (bl_al (bl_al (bl_al (bl0 _) _) _) _) _)) hb | exact bl_tr (bl_al (bl_al (bl_al (bl_al (bl_al (bl0 _) _) _) _) _) _) hb | exact bl_tr (bl_dr (bl_al (bl_al (bl_al (bl_al (bl_al (bl0 _) _) _) _) _) _)) hb | exact bl_tr (bl_al (bl_al (bl_al (bl_al (bl_al (bl_al (bl0 _) _) _) _) _) _) _) hb | exact bl_tr (bl_dr (bl_al (bl_al (bl_al (bl_al (bl_al (bl_al (bl0 _) _) _) _) _) _) _)) hb | exact bl_tr (bl_dr (bl0 _)) hb
        replace hA := bl_tr hA hk
        replace f0 := cell_later hk f0
        replace f1 := cell_later hk f1
        replace f2 := cell_later hk f2
        replace g0 := cell_later hk g0
        replace g1 := cell_later hk g1
        replace g2 := cell_later hk g2
        replace g3 := cell_later hk g3
        replace h0 := cell_later hk h0
        replace h1 := cell_later hk h1
        clear hb hk
        have zf0 := blk_lt f0
        have zf1 := blk_lt f1
        have zf2 := blk_lt f2
        have zg0 := blk_lt g0
        have zg1 := blk_lt g1
        have zg2 := blk_lt g2
        have zg3 := blk_lt g3
        have zh0 := blk_lt h0
        have zh1 := blk_lt h1
        rw [hf]
        go_wp2_with fail
        refine (has_any _ _ _ _ _ _ _).mono ?_
        rintro e w3 ⟨rfl, hb⟩
        have hk : Below w2.heap.size w2 w3 := by first | exact hb | exact bl_tr (bl_al (bl0 _) _) hb | exact bl_tr (bl_dr (bl_al (bl0 _) _)) hb | exact bl_tr (bl_al (bl_al (bl0 _) _) _) hb | exact bl_tr (bl_dr (bl_al (bl_al (bl0 _) _) _)) hb | exact bl_tr (bl_al (bl_al (bl_al (bl0 _) _) _) _) hb | exact bl_tr (bl_dr (bl_al (bl_al (bl_al (bl0 _) _) _) _)) hb | exact bl_tr (bl_al (bl_al (bl_al (bl_al (bl0 _) _) _) _) _) hb | exact bl_tr (bl_dr (bl_al (bl_al (bl_al (bl_al (bl0 _) _) _) _) _)) hb | exact bl_tr (bl_al (bl_al (bl_al (bl_al (bl_al (bl0 _) _) _) _) _) _) hb | exact bl_tr (bl_dr (bl_al (bl_al (bl_al (bl_al (bl_al (bl0 _) _) _) _) _) _)) hb | exact bl_tr (bl_al (bl_al (bl_al (bl_al (bl_al (bl_al (bl0 _) _) _) _) _) _) _) hb | exact bl_tr (bl_dr (bl_al (bl_al (bl_al (bl_al (bl_al (bl_al (bl0 _) _) _) _) _) _) _)) hb | exact bl_tr (bl_dr (bl0 _)) hb
        replace hA := bl_tr hA hk
        replace f0 := cell_later hk f0
        replace f1 := cell_later hk f1
        replace f2 := cell_later hk f2
        replace g0 := cell_later hk g0
        replace g1 := cell_later hk g1
        replace g2 := cell_later hk g2
        replace g3 := cell_later hk g3
        replace h0 := cell_later hk h0
        replace h1 := cell_later hk h1
        clear hb hk
        have zf0 := blk_lt f0
        have zf1 := blk_lt f1
        have zf2 := blk_lt f2
        have zg0 := blk_lt g0
        have zg1 := blk_lt g1
        have zg2 := blk_lt g2
        have zg3 := blk_lt g3
        have zh0 := blk_lt h0
        have zh1 := blk_lt h1
        rw [hh2]
        have hcut := fun W (h : RowH W a zs) => cut_any A B a cap zs (X, Y, U, V) W hmay HN.out hf h
        have hnum := fun W => number_any A B a zs.length cap c W hon
        have hr3 := hr.below hA
        have hs3 := hst.below hA
        have hD := bl_dr (bl0 w3)
        have hlen := cutL_len A (X, Y, U, V) zs
        go_wp2
        refine (wpIn_wide (n := 11)).1 ?_
        refine ordS_begin (S := (fun w' : World => w'.cell? ⟨w.heap.size, 0, none⟩ = some (.int .i64 A) ∧ w'.cell? ⟨w.heap.size, 1, none⟩ = some (.int .i64 B) ∧ w'.cell? ⟨w.heap.size, 2, none⟩ = some (.slice a zs.length cap) ∧ w'.cell? ⟨w.heap.size + 1, 0, none⟩ = some (.int .i64 X) ∧ w'.cell? ⟨w.heap.size + 1, 1, none⟩ = some (.int .i64 Y) ∧ w'.cell? ⟨w.heap.size + 1, 2, none⟩ = some (.int .i64 U) ∧ w'.cell? ⟨w.heap.size + 1, 3, none⟩ = some (.int .i64 V) ∧ w'.cell? ⟨w.heap.size + 1 + 1, 0, none⟩ = some (.int .i64 c.1) ∧ w'.cell? ⟨w.heap.size + 1 + 1, 1, none⟩ = some (.int .i64 c.2))) (by kernel_rfl) ⟨cell_later hD f0, cell_later hD f1, cell_later hD f2, cell_later hD g0, cell_later hD g1, cell_later hD g2, cell_later hD g3, cell_later hD h0, cell_later hD h1⟩ (fun hH => ?_)
        first
          | (refine' ordS_take (i := 0) (oi := { dst := some 25, op := Op.load 26 (Operand.tmp 3), type := 26, pos := _, after := #[], guard := none }) (v := _) rfl (by kernel_rfl) (by kernel_rfl) (by kernel_rfl) (by kernel_rfl) (fun _ _ _ h => h) (by assumption) (Or.inl ⟨by rfl, ?hy98⟩) (fun _ => rfl) ?rest98
             case hy98 => (intro w hSw; (try dsimp only at hSw); go_simp; try with_reducible rfl))
          | (refine ordS_take (i := 0) (oi := { dst := some 25, op := Op.load 26 (Operand.tmp 3), type := 26, pos := _, after := #[], guard := none }) (v := undef) rfl (by kernel_rfl) (by kernel_rfl) (by kernel_rfl) (by kernel_rfl) (fun _ _ _ h => h) (by assumption) (Or.inr ⟨by rfl, rfl⟩) (fun _ => rfl) ?_)
        try simp only [Act.put, List.setIfInBounds_toArray, List.set_cons_zero, List.set_cons_succ]
        first
          | (refine' ordS_take (i := 1) (oi := { dst := some 26, op := Op.load 28 (Operand.tmp 4), type := 28, pos := _, after := #[], guard := none }) (v := _) rfl (by kernel_rfl) (by kernel_rfl) (by kernel_rfl) (by kernel_rfl) (fun _ _ _ h => h) (by assumption) (Or.inl ⟨by rfl, ?hy99⟩) (fun _ => rfl) ?rest99
             case hy99 => (intro w hSw; (try dsimp only at hSw); go_simp; try with_reducible rfl))
          | (refine ordS_take (i := 1) (oi := { dst := some 26, op := Op.load 28 (Operand.tmp 4), type := 28, pos := _, after := #[], guard := none }) (v := undef) rfl (by kernel_rfl) (by kernel_rfl) (by kernel_rfl) (by kernel_rfl) (fun _ _ _ h => h) (by assumption) (Or.inr ⟨by rfl, rfl⟩) (fun _ => rfl) ?_)
        try simp only [Act.put, List.setIfInBounds_toArray, List.set_cons_zero, List.set_cons_succ]
        first
          | (refine' ordS_take (i := 3) (oi := { dst := some 28, op := Op.load 26 (Operand.tmp 3), type := 26, pos := _, after := #[], guard := none }) (v := _) rfl (by kernel_rfl) (by kernel_rfl) (by kernel_rfl) (by kernel_rfl) (fun _ _ _ h => h) (by assumption) (Or.inl ⟨by rfl, ?hy100⟩) (fun _ => rfl) ?rest100
             case hy100 => (intro w hSw; (try dsimp only at hSw); go_simp; try with_reducible rfl))
          | (refine ordS_take (i := 3) (oi := { dst := some 28, op := Op.load 26 (Operand.tmp 3), type := 26, pos := _, after := #[], guard := none }) (v := undef) rfl (by kernel_rfl) (by kernel_rfl) (by kernel_rfl) (by kernel_rfl) (fun _ _ _ h => h) (by assumption) (Or.inr ⟨by rfl, rfl⟩) (fun _ => rfl) ?_)
        try simp only [Act.put, List.setIfInBounds_toArray, List.set_cons_zero, List.set_cons_succ]
        first
          | (refine' ordS_take (i := 4) (oi := { dst := some 29, op := Op.load 30 (Operand.tmp 5), type := 30, pos := _, after := #[], guard := none }) (v := _) rfl (by kernel_rfl) (by kernel_rfl) (by kernel_rfl) (by kernel_rfl) (fun _ _ _ h => h) (by assumption) (Or.inl ⟨by rfl, ?hy101⟩) (fun _ => rfl) ?rest101
             case hy101 => (intro w hSw; (try dsimp only at hSw); go_simp; try with_reducible rfl))
          | (refine ordS_take (i := 4) (oi := { dst := some 29, op := Op.load 30 (Operand.tmp 5), type := 30, pos := _, after := #[], guard := none }) (v := undef) rfl (by kernel_rfl) (by kernel_rfl) (by kernel_rfl) (by kernel_rfl) (fun _ _ _ h => h) (by assumption) (Or.inr ⟨by rfl, rfl⟩) (fun _ => rfl) ?_)
        try simp only [Act.put, List.setIfInBounds_toArray, List.set_cons_zero, List.set_cons_succ]
        refine ordS_one (i := 2) (o := { dst := some 27, op := Op.call { callee := Callee.value (Operand.func 41), args := #[Operand.tmp 25, Operand.tmp 26], argTypes := #[26, 28] }, type := 26, pos := _, after := #[{ on := 0, ground := Ground.data }, { on := 1, ground := Ground.data }], guard := none }) (by kernel_rfl) rfl (by rfl) (fun K hK => ?_)
        go_simp
        refine ⟨trivial, ?_⟩
        with_reducible refine (callsIn_wide.2 (hcut _ (hr3.below hD))).mono ?_
        rintro e W4 ⟨g, rfl, hrow, hb4⟩
        replace hD := bl_tr hD hb4
        refine hK _ _ ⟨cell_later hD f0, cell_later hD f1, cell_later hD f2, cell_later hD g0, cell_later hD g1, cell_later hD g2, cell_later hD g3, cell_later hD h0, cell_later hD h1⟩ ?_
        clear hK K hb4
        try simp only [Act.put, List.setIfInBounds_toArray, List.set_cons_zero, List.set_cons_succ]
        refine ordS_one (i := 5) (o := { dst := some 30, op := Op.call { callee := Callee.value (Operand.func 42), args := #[Operand.tmp 28, Operand.tmp 29], argTypes := #[26, 30] }, type := 3, pos := _, after := #[{ on := 3, ground := Ground.data }, { on := 4, ground := Ground.data }, { on := 2, ground := Ground.chain }], guard := none }) (by kernel_rfl) rfl (by rfl) (fun K hK => ?_)
        go_simp
        refine ⟨trivial, ?_⟩
        with_reducible refine (callsIn_wide.2 (hnum _)).mono ?_
        rintro e W5 ⟨rfl, hb5⟩
        replace hD := bl_tr hD hb5
        replace hrow := hrow.below hb5
        refine hK _ _ ⟨cell_later hD f0, cell_later hD f1, cell_later hD f2, cell_later hD g0, cell_later hD g1, cell_later hD g2, cell_later hD g3, cell_later hD h0, cell_later hD h1⟩ ?_
        clear hK K hb5
        try simp only [Act.put, List.setIfInBounds_toArray, List.set_cons_zero, List.set_cons_succ]
        have hspr := spread_any A B (some ⟨g, 0, none⟩) zs.length (cutL A (X, Y, U, V) zs) (numN A c) W5 hmay (by rw [hlen]; exact HN.out) (cutL_in hz) hrow (hs3.below hD) (by rw [hlen]; exact hnl)
        rw [hlen] at hspr
        refine ordS_one (i := 6) (o := { dst := some 31, op := Op.call { callee := Callee.value (Operand.func 40), args := #[Operand.tmp 27, Operand.tmp 30], argTypes := #[26, 3] }, type := 33, pos := _, after := #[{ on := 2, ground := Ground.data }, { on := 5, ground := Ground.data }, { on := 5, ground := Ground.chain }], guard := none }) (by kernel_rfl) rfl (by rfl) (fun K hK => ?_)
        go_simp
        refine ⟨trivial, ?_⟩
        with_reducible refine (callsIn_wide.2 hspr).mono ?_
        rintro e W6 ⟨gd, ds, rfl, hdl, hru, hfar, hb6⟩
        replace hD := bl_tr hD hb6
        have hS6 : W6.cell? ⟨w.heap.size, 0, none⟩ = some (.int .i64 A) ∧ W6.cell? ⟨w.heap.size, 1, none⟩ = some (.int .i64 B) ∧ W6.cell? ⟨w.heap.size, 2, none⟩ = some (.slice a zs.length cap) ∧ W6.cell? ⟨w.heap.size + 1, 0, none⟩ = some (.int .i64 X) ∧ W6.cell? ⟨w.heap.size + 1, 1, none⟩ = some (.int .i64 Y) ∧ W6.cell? ⟨w.heap.size + 1, 2, none⟩ = some (.int .i64 U) ∧ W6.cell? ⟨w.heap.size + 1, 3, none⟩ = some (.int .i64 V) ∧ W6.cell? ⟨w.heap.size + 1 + 1, 0, none⟩ = some (.int .i64 c.1) ∧ W6.cell? ⟨w.heap.size + 1 + 1, 1, none⟩ = some (.int .i64 c.2) := ⟨cell_later hD f0, cell_later hD f1, cell_later hD f2, cell_later hD g0, cell_later hD g1, cell_later hD g2, cell_later hD g3, cell_later hD h0, cell_later hD h1⟩
        refine hK _ _ hS6 ?_
        clear hK K hb6
        try simp only [Act.put, List.setIfInBounds_toArray, List.set_cons_zero, List.set_cons_succ]
        first
          | (refine' ordS_take (i := 7) (oi := { dst := some 6, op := Op.assign (Operand.tmp 31), type := 33, pos := _, after := #[{ on := 6, ground := Ground.data }, { on := 6, ground := Ground.chain }, { on := 0, ground := Ground.phase }, { on := 1, ground := Ground.phase }, { on := 2, ground := Ground.phase }, { on := 3, ground := Ground.phase }, { on := 4, ground := Ground.phase }, { on := 5, ground := Ground.phase }, { on := 6, ground := Ground.phase }], guard := none }) (v := _) rfl (by kernel_rfl) (by kernel_rfl) (by kernel_rfl) (by kernel_rfl) (fun _ _ _ h => h) (by assumption) (Or.inl ⟨by rfl, ?hy102⟩) (fun _ => rfl) ?rest102
             case hy102 => (intro w hSw; (try dsimp only at hSw); go_simp; try with_reducible rfl))
          | (refine ordS_take (i := 7) (oi := { dst := some 6, op := Op.assign (Operand.tmp 31), type := 33, pos := _, after := #[{ on := 6, ground := Ground.data }, { on := 6, ground := Ground.chain }, { on := 0, ground := Ground.phase }, { on := 1, ground := Ground.phase }, { on := 2, ground := Ground.phase }, { on := 3, ground := Ground.phase }, { on := 4, ground := Ground.phase }, { on := 5, ground := Ground.phase }, { on := 6, ground := Ground.phase }], guard := none }) (v := undef) rfl (by kernel_rfl) (by kernel_rfl) (by kernel_rfl) (by kernel_rfl) (fun _ _ _ h => h) (by assumption) (Or.inr ⟨by rfl, rfl⟩) (fun _ => rfl) ?_)
        try simp only [Act.put, List.setIfInBounds_toArray, List.set_cons_zero, List.set_cons_succ]
        first
          | (refine' ordS_take (i := 8) (oi := { dst := some 7, op := Op.assign (Operand.const (Value.int IntKind.i64 0)), type := 34, pos := _, after := #[{ on := 7, ground := Ground.chain }, { on := 0, ground := Ground.phase }, { on := 1, ground := Ground.phase }, { on := 2, ground := Ground.phase }, { on := 3, ground := Ground.phase }, { on := 4, ground := Ground.phase }, { on := 5, ground := Ground.phase }, { on := 6, ground := Ground.phase }, { on := 7, ground := Ground.phase }], guard := none }) (v := _) rfl (by kernel_rfl) (by kernel_rfl) (by kernel_rfl) (by kernel_rfl) (fun _ _ _ h => h) (by assumption) (Or.inl ⟨by rfl, ?hy103⟩) (fun _ => rfl) ?rest103
             case hy103 => (intro w hSw; (try dsimp only at hSw); go_simp; try with_reducible rfl))
          | (refine ordS_take (i := 8) (oi := { dst := some 7, op := Op.assign (Operand.const (Value.int IntKind.i64 0)), type := 34, pos := _, after := #[{ on := 7, ground := Ground.chain }, { on := 0, ground := Ground.phase }, { on := 1, ground := Ground.phase }, { on := 2, ground := Ground.phase }, { on := 3, ground := Ground.phase }, { on := 4, ground := Ground.phase }, { on := 5, ground := Ground.phase }, { on := 6, ground := Ground.phase }, { on := 7, ground := Ground.phase }], guard := none }) (v := undef) rfl (by kernel_rfl) (by kernel_rfl) (by kernel_rfl) (by kernel_rfl) (fun _ _ _ h => h) (by assumption) (Or.inr ⟨by rfl, rfl⟩) (fun _ => rfl) ?_)
        try simp only [Act.put, List.setIfInBounds_toArray, List.set_cons_zero, List.set_cons_succ]
        refine ordS_done (by kernel_rfl) ?_
        have HD := Lib.hid (bl_tr hA hD)
        have HRU := Lib.hid hru
        have HDL := Lib.hid hdl
        clear hD hru hlen hdl
        go_wp2
        go_ret2
        exact ⟨⟨some ⟨gd, 0, none⟩, zs.length, ds, by rw [HDL.out]; rfl, HRU.out, fun h => absurd rfl h, fun _ => ⟨HDL.out, hfar⟩⟩, HD.out⟩
      · rw [if_neg (fun h => hh h.2)] at hE
        subst hE
        have hh2 : hasB X Y U V c.1 c.2 = false := by
          have : ¬ hasB X Y U V c.1 c.2 = true := hh
          simpa using this
        go_enter Tryd.func15, Tryd.ntmps15
        go_wp2_with fail
        refine (check_any _ _ _ _ _ _).mono ?_
        rintro e w1 ⟨rfl, hb⟩
        have hk : Below w.heap.size w w1 := by first | exact hb | exact bl_tr (bl_al (bl0 _) _) hb | exact bl_tr (bl_dr (bl_al (bl0 _) _)) hb | exact bl_tr (bl_al (bl_al (bl0 _) _) _) hb | exact bl_tr (bl_dr (bl_al (bl_al (bl0 _) _) _)) hb | exact bl_tr (bl_al (bl_al (bl_al (bl0 _) _) _) _) hb | exact bl_tr (bl_dr (bl_al (bl_al (bl_al (bl0 _) _) _) _)) hb | exact bl_tr (bl_al (bl_al (bl_al (bl_al (bl0 _) _) _) _) _) hb | exact bl_tr (bl_dr (bl_al (bl_al (bl_al (bl_al (bl0 _) _) _) _) _)) hb | exact bl_tr (bl_al (bl_al (bl_al (bl_al (bl_al (bl0 _) _) _) _) _) _) hb | exact bl_tr (bl_dr (bl_al (bl_al (bl_al (bl_al (bl_al (bl0 _) _) _) _) _) _)) hb | exact bl_tr (bl_al (bl_al (bl_al (bl_al (bl_al (bl_al (bl0 _) _) _) _) _) _) _) hb | exact bl_tr (bl_dr (bl_al (bl_al (bl_al (bl_al (bl_al (bl_al (bl0 _) _) _) _) _) _) _)) hb | exact bl_tr (bl_dr (bl0 _)) hb
        replace hA := bl_tr hA hk
        have f0 := cell_later hb (v := .int .i64 A) (a := ⟨w.heap.size, 0, none⟩) (by simp [go_sem])
        have f1 := cell_later hb (v := .int .i64 B) (a := ⟨w.heap.size, 1, none⟩) (by simp [go_sem])
        have f2 := cell_later hb (v := .slice a zs.length cap) (a := ⟨w.heap.size, 2, none⟩) (by simp [go_sem])
        have g0 := cell_later hb (v := .int .i64 X) (a := ⟨w.heap.size + 1, 0, none⟩) (by simp [go_sem])
        have g1 := cell_later hb (v := .int .i64 Y) (a := ⟨w.heap.size + 1, 1, none⟩) (by simp [go_sem])
        have g2 := cell_later hb (v := .int .i64 U) (a := ⟨w.heap.size + 1, 2, none⟩) (by simp [go_sem])
        have g3 := cell_later hb (v := .int .i64 V) (a := ⟨w.heap.size + 1, 3, none⟩) (by simp [go_sem])
        have h0 := cell_later hb (v := .int .i64 c.1) (a := ⟨w.heap.size + 1 + 1, 0, none⟩) (by simp [go_sem])
        have h1 := cell_later hb (v := .int .i64 c.2) (a := ⟨w.heap.size + 1 + 1, 1, none⟩) (by simp [go_sem])
        clear hb hk
        have zf0 := blk_lt f0
        have zf1 := blk_lt f1
        have zf2 := blk_lt f2
        have zg0 := blk_lt g0
        have zg1 := blk_lt g1
        have zg2 := blk_lt g2
        have zg3 := blk_lt g3
        have zh0 := blk_lt h0
        have zh1 := blk_lt h1
        rw [HC.out]
        go_wp2_with fail
        refine (fits_any _ _ _ _ _ _ _).mono ?_
        rintro e w2 ⟨rfl, hb⟩
        have hk : Below w1.heap.size w1 w2 := by first | exact hb | exact bl_tr (bl_al (bl0 _) _) hb | exact bl_tr (bl_dr (bl_al (bl0 _) _)) hb | exact bl_tr (bl_al (bl_al (bl0 _) _) _) hb | exact bl_tr (bl_dr (bl_al (bl_al (bl0 _) _) _)) hb | exact bl_tr (bl_al (bl_al (bl_al (bl0 _) _) _) _) hb | exact bl_tr (bl_dr (bl_al (bl_al (bl_al (bl0 _) _) _) _)) hb | exact bl_tr (bl_al (bl_al (bl_al (bl_al (bl0 _) _) _) _) _) hb | exact bl_tr (bl_dr (bl_al (bl_al (bl_al (bl_al (bl0 _) _) _) _) _)) hb | exact bl_tr (bl_al (bl_al (bl_al (bl_al (bl_al (bl0 _) _) _) _) _) _) hb | exact bl_tr (bl_dr (bl_al (bl_al (bl_al (bl_al (bl_al (bl0 _) _) _) _) _) _)) hb | exact bl_tr (bl_al (bl_al (bl_al (bl_al (bl_al (bl_al (bl0 _) _) _) _) _) _) _) hb | exact bl_tr (bl_dr (bl_al (bl_al (bl_al (bl_al (bl_al (bl_al (bl0 _) _) _) _) _) _) _)) hb | exact bl_tr (bl_dr (bl0 _)) hb
        replace hA := bl_tr hA hk
        replace f0 := cell_later hk f0
        replace f1 := cell_later hk f1
        replace f2 := cell_later hk f2
        replace g0 := cell_later hk g0
        replace g1 := cell_later hk g1
        replace g2 := cell_later hk g2
        replace g3 := cell_later hk g3
        replace h0 := cell_later hk h0
        replace h1 := cell_later hk h1
        clear hb hk
        have zf0 := blk_lt f0
        have zf1 := blk_lt f1
        have zf2 := blk_lt f2
        have zg0 := blk_lt g0
        have zg1 := blk_lt g1
        have zg2 := blk_lt g2
        have zg3 := blk_lt g3
        have zh0 := blk_lt h0
        have zh1 := blk_lt h1
        rw [hf]
        go_wp2_with fail
        refine (has_any _ _ _ _ _ _ _).mono ?_
        rintro e w3 ⟨rfl, hb⟩
        have hk : Below w2.heap.size w2 w3 := by first | exact hb | exact bl_tr (bl_al (bl0 _) _) hb | exact bl_tr (bl_dr (bl_al (bl0 _) _)) hb | exact bl_tr (bl_al (bl_al (bl0 _) _) _) hb | exact bl_tr (bl_dr (bl_al (bl_al (bl0 _) _) _)) hb | exact bl_tr (bl_al (bl_al (bl_al (bl0 _) _) _) _) hb | exact bl_tr (bl_dr (bl_al (bl_al (bl_al (bl0 _) _) _) _)) hb | exact bl_tr (bl_al (bl_al (bl_al (bl_al (bl0 _) _) _) _) _) hb | exact bl_tr (bl_dr (bl_al (bl_al (bl_al (bl_al (bl0 _) _) _) _) _)) hb | exact bl_tr (bl_al (bl_al (bl_al (bl_al (bl_al (bl0 _) _) _) _) _) _) hb | exact bl_tr (bl_dr (bl_al (bl_al (bl_al (bl_al (bl_al (bl0 _) _) _) _) _) _)) hb | exact bl_tr (bl_al (bl_al (bl_al (bl_al (bl_al (bl_al (bl0 _) _) _) _) _) _) _) hb | exact bl_tr (bl_dr (bl_al (bl_al (bl_al (bl_al (bl_al (bl_al (bl0 _) _) _) _) _) _) _)) hb | exact bl_tr (bl_dr (bl0 _)) hb
        replace hA := bl_tr hA hk
        replace f0 := cell_later hk f0
        replace f1 := cell_later hk f1
        replace f2 := cell_later hk f2
        replace g0 := cell_later hk g0
        replace g1 := cell_later hk g1
        replace g2 := cell_later hk g2
        replace g3 := cell_later hk g3
        replace h0 := cell_later hk h0
        replace h1 := cell_later hk h1
        clear hb hk
        have zf0 := blk_lt f0
        have zf1 := blk_lt f1
        have zf2 := blk_lt f2
        have zg0 := blk_lt g0
        have zg1 := blk_lt g1
        have zg2 := blk_lt g2
        have zg3 := blk_lt g3
        have zh0 := blk_lt h0
        have zh1 := blk_lt h1
        rw [hh2]
        go_wp2
        go_ret2
        exact ⟨⟨none, 0, [], rfl, .inl rfl, fun _ => rfl, fun h => by cases h⟩, hA⟩
    · have hf2 : fitsB A B X Y U V = false := by simpa using hf
      rw [if_neg (fun h => hf h.1)] at hE
      subst hE
      clear hf
      go_enter Tryd.func15, Tryd.ntmps15
      go_wp2_with fail
      refine (check_any _ _ _ _ _ _).mono ?_
      rintro e w1 ⟨rfl, hb⟩
      have hk : Below w.heap.size w w1 := by first | exact hb | exact bl_tr (bl_al (bl0 _) _) hb | exact bl_tr (bl_dr (bl_al (bl0 _) _)) hb | exact bl_tr (bl_al (bl_al (bl0 _) _) _) hb | exact bl_tr (bl_dr (bl_al (bl_al (bl0 _) _) _)) hb | exact bl_tr (bl_al (bl_al (bl_al (bl0 _) _) _) _) hb | exact bl_tr (bl_dr (bl_al (bl_al (bl_al (bl0 _) _) _) _)) hb | exact bl_tr (bl_al (bl_al (bl_al (bl_al (bl0 _) _) _) _) _) hb | exact bl_tr (bl_dr (bl_al (bl_al (bl_al (bl_al (bl0 _) _) _) _) _)) hb | exact bl_tr (bl_al (bl_al (bl_al (bl_al (bl_al (bl0 _) _) _) _) _) _) hb | exact bl_tr (bl_dr (bl_al (bl_al (bl_al (bl_al (bl_al (bl0 _) _) _) _) _) _)) hb | exact bl_tr (bl_al (bl_al (bl_al (bl_al (bl_al (bl_al (bl0 _) _) _) _) _) _) _) hb | exact bl_tr (bl_dr (bl_al (bl_al (bl_al (bl_al (bl_al (bl_al (bl0 _) _) _) _) _) _) _)) hb | exact bl_tr (bl_dr (bl0 _)) hb
      replace hA := bl_tr hA hk
      have f0 := cell_later hb (v := .int .i64 A) (a := ⟨w.heap.size, 0, none⟩) (by simp [go_sem])
      have f1 := cell_later hb (v := .int .i64 B) (a := ⟨w.heap.size, 1, none⟩) (by simp [go_sem])
      have f2 := cell_later hb (v := .slice a zs.length cap) (a := ⟨w.heap.size, 2, none⟩) (by simp [go_sem])
      have g0 := cell_later hb (v := .int .i64 X) (a := ⟨w.heap.size + 1, 0, none⟩) (by simp [go_sem])
      have g1 := cell_later hb (v := .int .i64 Y) (a := ⟨w.heap.size + 1, 1, none⟩) (by simp [go_sem])
      have g2 := cell_later hb (v := .int .i64 U) (a := ⟨w.heap.size + 1, 2, none⟩) (by simp [go_sem])
      have g3 := cell_later hb (v := .int .i64 V) (a := ⟨w.heap.size + 1, 3, none⟩) (by simp [go_sem])
      have h0 := cell_later hb (v := .int .i64 c.1) (a := ⟨w.heap.size + 1 + 1, 0, none⟩) (by simp [go_sem])
      have h1 := cell_later hb (v := .int .i64 c.2) (a := ⟨w.heap.size + 1 + 1, 1, none⟩) (by simp [go_sem])
      clear hb hk
      have zf0 := blk_lt f0
      have zf1 := blk_lt f1
      have zf2 := blk_lt f2
      have zg0 := blk_lt g0
      have zg1 := blk_lt g1
      have zg2 := blk_lt g2
      have zg3 := blk_lt g3
      have zh0 := blk_lt h0
      have zh1 := blk_lt h1
      rw [HC.out]
      go_wp2_with fail
      refine (fits_any _ _ _ _ _ _ _).mono ?_
      rintro e w2 ⟨rfl, hb⟩
      have hk : Below w1.heap.size w1 w2 := by first | exact hb | exact bl_tr (bl_al (bl0 _) _) hb | exact bl_tr (bl_dr (bl_al (bl0 _) _)) hb | exact bl_tr (bl_al (bl_al (bl0 _) _) _) hb | exact bl_tr (bl_dr (bl_al (bl_al (bl0 _) _) _)) hb | exact bl_tr (bl_al (bl_al (bl_al (bl0 _) _) _) _) hb | exact bl_tr (bl_dr (bl_al (bl_al (bl_al (bl0 _) _) _) _)) hb | exact bl_tr (bl_al (bl_al (bl_al (bl_al (bl0 _) _) _) _) _) hb | exact bl_tr (bl_dr (bl_al (bl_al (bl_al (bl_al (bl0 _) _) _) _) _)) hb | exact bl_tr (bl_al (bl_al (bl_al (bl_al (bl_al (bl0 _) _) _) _) _) _) hb | exact bl_tr (bl_dr (bl_al (bl_al (bl_al (bl_al (bl_al (bl0 _) _) _) _) _) _)) hb | exact bl_tr (bl_al (bl_al (bl_al (bl_al (bl_al (bl_al (bl0 _) _) _) _) _) _) _) hb | exact bl_tr (bl_dr (bl_al (bl_al (bl_al (bl_al (bl_al (bl_al (bl0 _) _) _) _) _) _) _)) hb | exact bl_tr (bl_dr (bl0 _)) hb
      replace hA := bl_tr hA hk
      replace f0 := cell_later hk f0
      replace f1 := cell_later hk f1
      replace f2 := cell_later hk f2
      replace g0 := cell_later hk g0
      replace g1 := cell_later hk g1
      replace g2 := cell_later hk g2
      replace g3 := cell_later hk g3
      replace h0 := cell_later hk h0
      replace h1 := cell_later hk h1
      clear hb hk
      have zf0 := blk_lt f0
      have zf1 := blk_lt f1
      have zf2 := blk_lt f2
      have zg0 := blk_lt g0
      have zg1 := blk_lt g1
      have zg2 := blk_lt g2
      have zg3 := blk_lt g3
      have zh0 := blk_lt h0
      have zh1 := blk_lt h1
      rw [hf2]
      go_wp2
      go_ret2
      exact ⟨⟨none, 0, [], rfl, .inl rfl, fun _ => rfl, fun h => by cases h⟩, hA⟩
  · rw [if_neg h0] at hE
    subst hE
    have h1 : (chk != 0) = true := by rw [bne_iff_ne]; exact h0
    have H0 := Lib.hid h0
    clear hchk h0
    go_enter Tryd.func15, Tryd.ntmps15
    go_wp2_with fail
    refine (check_any _ _ _ _ _ _).mono ?_
    rintro e w1 ⟨rfl, hb⟩
    have hk : Below w.heap.size w w1 := by first | exact hb | exact bl_tr (bl_al (bl0 _) _) hb | exact bl_tr (bl_dr (bl_al (bl0 _) _)) hb | exact bl_tr (bl_al (bl_al (bl0 _) _) _) hb | exact bl_tr (bl_dr (bl_al (bl_al (bl0 _) _) _)) hb | exact bl_tr (bl_al (bl_al (bl_al (bl0 _) _) _) _) hb | exact bl_tr (bl_dr (bl_al (bl_al (bl_al (bl0 _) _) _) _)) hb | exact bl_tr (bl_al (bl_al (bl_al (bl_al (bl0 _) _) _) _) _) hb | exact bl_tr (bl_dr (bl_al (bl_al (bl_al (bl_al (bl0 _) _) _) _) _)) hb | exact bl_tr (bl_al (bl_al (bl_al (bl_al (bl_al (bl0 _) _) _) _) _) _) hb | exact bl_tr (bl_dr (bl_al (bl_al (bl_al (bl_al (bl_al (bl0 _) _) _) _) _) _)) hb | exact bl_tr (bl_al (bl_al (bl_al (bl_al (bl_al (bl_al (bl0 _) _) _) _) _) _) _) hb | exact bl_tr (bl_dr (bl_al (bl_al (bl_al (bl_al (bl_al (bl_al (bl0 _) _) _) _) _) _) _)) hb | exact bl_tr (bl_dr (bl0 _)) hb
    replace hA := bl_tr hA hk
    clear hb hk
    rw [HC.out]
    go_wp2
    go_ret2
    exact ⟨⟨none, 0, [], rfl, .inl rfl, fun _ => rfl, fun h => absurd h H0.out⟩, hA⟩

set_option maxRecDepth 100000 in
set_option maxHeartbeats 4000000 in
theorem from_any (A B : Int) (a : Option Addr) (cap : Nat) (zs : List Int) (c : IC) (w : World) (hz : AllH zs) (hr : RowH w a zs) (hst : Stp w) :
    Calls Tryd.prog 19 #[.agg #[.int .i64 A, .int .i64 B, .slice a zs.length cap], .agg #[.int .i64 c.1, .int .i64 c.2]] w fun e w' => WinR A B zs (0, 0, A, B) c e w' ∧ Below w.heap.size w w' := by
  have hA := bl0 w
  have hcall := fun W (h1 : RowH W a zs) (h2 : Stp W) => within_any A B a cap zs (0, 0, A, B) c W hz h1 h2
  have HC := Lib.hid hcall
  clear hcall
  go_enter Tryd.func19, Tryd.ntmps19
  go_wp2_with fail
  have hA1 := bl_al (bl_al hA (.cells #[.int .i64 A, .int .i64 B, .slice a zs.length cap] 26)) (.cells #[.int .i64 c.1, .int .i64 c.2] 30)
  refine (HC.out _ (hr.below hA1) (hst.below hA1)).mono ?_
  rintro e w1 ⟨⟨b, cap2, ds, rfl, h2, h3, h4⟩, hb⟩
  have hA2 := bl_tr hA1 hb
  obtain ⟨E, hE⟩ : ∃ E, errW A B zs.length (0, 0, A, B) c = E := ⟨_, rfl⟩
  rw [hE] at h3 h4 ⊢
  have HE := Lib.hid hE
  have H2 := Lib.hid h2
  have H3 := Lib.hid h3
  have H4 := Lib.hid h4
  clear h2 h3 h4 hA1 hb hE
  go_wp2
  go_ret2
  refine ⟨?_, hA2⟩
  unfold WinR
  rw [HE.out]
  exact ⟨b, cap2, ds, rfl, H2.out, H3.out, H4.out⟩
end Go.Proofs.YtofpoenehdmkpaaDoor

/- Least costs: from which cell one is reached. -/
namespace Go.Proofs.YtofpoenehdmkpaaDoor
open Go.RowKit Go.Shelf
attribute [local go_sem] Oper.semAt_some

/-- Whether one is reached from another one at least cost. -/
def fromB (zs ds : List Int) (i j : Nat) : Bool := addC (atD ds j) (zs.getD i 0) == atD ds i
/-- The first one from which one is reached. -/
def aheadF (A B : Int) (zs ds : List Int) (i : Nat) : Option Nat := (nbO A B zs i).find? (fromB zs ds i)
theorem find_pre {p : Nat → Bool} {xs pre : List Nat} {x : Nat} (h : pre ++ [x] <+: xs) (hn : ∀ j ∈ pre, p j = false) (hx : p x = true) : xs.find? p = some x := by
  obtain ⟨t, rfl⟩ := h
  rw [List.append_assoc, List.find?_append]
  rw [show pre.find? p = none from List.find?_eq_none.2 (fun j hj => by rw [hn j hj]; decide)]
  simp [hx]

/-- Two blocks are turned. -/
def Two2 (a b : Nat) (A B : World) : Prop := (B.os = A.os ∧ B.tape = A.tape ∧ B.output = A.output ∧ A.heap.size ≤ B.heap.size) ∧ ∀ k, k < A.heap.size → k ≠ a → k ≠ b → B.heap[k]? = A.heap[k]?
theorem gq2_set (A : World) (a b : Nat) (u v : Value) : Two2 a b A ((A.setCell ⟨a, 0, none⟩ u).setCell ⟨b, 0, none⟩ v) := by
  have h1 := hgrown_set A a 0 u
  have h2 := hgrown_set (A.setCell ⟨a, 0, none⟩ u) b 0 v
  exact ⟨⟨h2.os.trans h1.os, h2.tape.trans h1.tape, h2.output.trans h1.output, Nat.le_trans h1.size h2.size⟩, fun k hk ha hb => (h2.block k (Nat.lt_of_lt_of_le hk h1.size) (fun e => hb (by cases e; rfl))).trans (h1.block k hk (fun e => ha (by cases e; rfl)))⟩
theorem Two2.kp {a b p c : Nat} {W A B : World} (h : Two2 a b A B) (hb : Below W.heap.size W A) (hp : (a < p ∧ b < p) ∧ p + c ≤ W.heap.size) : KP p c W B :=
  ⟨Nat.le_trans hb.size h.1.2.2.2, fun k h1 h2 => (h.2 k (Nat.lt_of_lt_of_le (by omega) hb.size) (by omega) (by omega)).trans (hb.block k (by omega))⟩
theorem Two2.bel {a b n : Nat} {A B : World} (h : Two2 a b A B) (hn : n ≤ A.heap.size) (hp : n ≤ a ∧ n ≤ b) : Below n A B :=
  ⟨h.1.1, h.1.2.1, h.1.2.2.1, h.1.2.2.2, fun k hk => h.2 k (by omega) (by omega) (by omega)⟩
/-- What the loop holds: all lies, and none was found. -/
def AhI (w0 : World) (zs ds : List Int) (i C : Nat) (pre : List Nat) (W : World) : Prop := Below w0.heap.size w0 W ∧ C < W.heap.size ∧ ∀ j ∈ pre, fromB zs ds i j = false
set_option maxRecDepth 100000 in
set_option maxHeartbeats 4000000 in
theorem fahead_any (A B : Int) (a b : Option Addr) (cap cap2 : Nat) (zs ds : List Int) (i : Nat) (w : World) (hm : mayB A B = true) (hn : (zs.length : Int) = A * B) (hz : AllH zs) (hdu : AllU ds) (hdl : ds.length = zs.length) (hr : RowH w a zs) (hru : RowU w b ds) (hst : Stp w) (hi : i < zs.length) :
    Calls Tryd.prog 66 #[.agg #[.int .i64 A, .int .i64 B, .slice a zs.length cap], .slice b zs.length cap2, .int .i64 (i : Int)] w fun e w' => e = .returned (.tuple #[.int .i64 (((aheadF A B zs ds i).getD 0 : Nat) : Int), .bool (aheadF A B zs ds i).isSome]) ∧ Below w.heap.size w w' := by
  have HN := Lib.hid hn
  have HDL := Lib.hid hdl
  obtain ⟨F, hF⟩ : ∃ F, aheadF A B zs ds i = F := ⟨_, rfl⟩
  have HF := Lib.hid hF
  rw [hF]
  clear hF hn hdl
  have hA0 := bl_al (bl_al (bl_al (bl_al (bl_al (bl0 w) (.cells #[.int .i64 A, .int .i64 B, .slice a zs.length cap] 26)) (.cells #[.slice b zs.length cap2] 33)) (.cells #[.int .i64 (i : Int)] 3)) (.cells #[.int .i64 0] 3)) (.cells #[.bool false] 4)
  refine (callsIn_wide (n := 11)).1 (callsIn_of_wp_marks Tryd.func66 rfl trivial ?_ rfl)
  simp only [Tryd.ntmps66, List.size_toArray, List.length_cons, List.length_nil, Nat.reduceAdd, Nat.reduceSub, Array.replicate_succ, Array.replicate_zero, List.push_toArray, List.append_toArray, List.nil_append, List.cons_append]
  refine wpIn_wide.2 ?_
  go_wp2_with fail
  obtain ⟨w0, hw0⟩ : ∃ w0, ((((w.alloc (.cells #[.int .i64 A, .int .i64 B, .slice a zs.length cap] 26)).alloc (.cells #[.slice b zs.length cap2] 33)).alloc (.cells #[.int .i64 (i : Int)] 3)).alloc (.cells #[.int .i64 0] 3)).alloc (.cells #[.bool false] 4) = w0 := ⟨_, rfl⟩
  have z0 : w0.heap.size = w.heap.size + 5 := by rw [← hw0]; simp
  have f2 : w0.cell? ⟨w.heap.size, 2, none⟩ = some (.slice a zs.length cap) := by rw [← hw0]; simp [go_sem]
  have r0 : w0.cell? ⟨w.heap.size + 1, 0, none⟩ = some (.slice b zs.length cap2) := by rw [← hw0]; simp [go_sem]
  have i0 : w0.cell? ⟨w.heap.size + 1 + 1, 0, none⟩ = some (.int .i64 (i : Int)) := by rw [← hw0]; simp [go_sem]
  have o1 : Boxed w0 (w.heap.size + 1 + 1 + 1) 3 (.int .i64 0) := by
    rw [← hw0]
    have h := Boxed.new (((w.alloc (.cells #[.int .i64 A, .int .i64 B, .slice a zs.length cap] 26)).alloc (.cells #[.slice b zs.length cap2] 33)).alloc (.cells #[.int .i64 (i : Int)] 3)) 3 (.int .i64 0)
    simp only [World.size_alloc] at h
    exact h.kept (grown_of_below (bl_al (bl0 _) _)) (fun e => by cases e)
  have o2 : Boxed w0 (w.heap.size + 1 + 1 + 1 + 1) 4 (.bool false) := by
    rw [← hw0]
    have h := Boxed.new ((((w.alloc (.cells #[.int .i64 A, .int .i64 B, .slice a zs.length cap] 26)).alloc (.cells #[.slice b zs.length cap2] 33)).alloc (.cells #[.int .i64 (i : Int)] 3)).alloc (.cells #[.int .i64 0] 3)) 4 (.bool false)
    simp only [World.size_alloc] at h
    exact h
  rw [hw0] at hA0 ⊢
  have Z0 : w.heap.size + 5 ≤ w0.heap.size := by omega
  clear hw0 z0
  refine (beside_mk _ _ _ _ _ _ _).mono ?_
  rintro e W3 ⟨rfl, hbes, hz3, hb3⟩
  obtain ⟨pI, hpI⟩ : ∃ pI, w0.heap.size = pI := ⟨_, rfl⟩
  rw [hpI] at hbes hz3 ⊢
  have hz4 : pI + 2 ≤ W3.heap.size := by omega
  have hpI2 : w.heap.size + 5 ≤ pI := by omega
  have HP := Lib.hid hpI
  clear hz3 hpI
  go_wp2_with fail
  have hb30 : Below w0.heap.size w0 W3 := hb3
  have hsz30 := hb30.size
  refine wpIn_wide.1 (range_s pI 2 80 #[.pointer (some ⟨pI, 0, none⟩), .pointer (some ⟨pI + 1, 0, none⟩)] (nbO A B zs i) (fun W => RowH W a zs ∧ Stp W) (iter_beside pI A B _ cap zs i hm HN.out hi W3 hbes) rfl (fun _ => rfl) hz4 (enters_of Tryd.func80 (by kernel_rfl) rfl)
    (fun C pre W => AhI w0 zs ds i C pre W)
    (fun C cc pre W => cc = .ret ∧ Below w.heap.size w W ∧ ∃ x : Nat, Boxed W (w.heap.size + 1 + 1 + 1) 3 (.int .i64 (x : Int)) ∧ Boxed W (w.heap.size + 1 + 1 + 1 + 1) 4 (.bool true) ∧ F = some x)
    ?hI ?hIx ?hIp ?hIR ?hIxR ?h0
    (fun x a' W => ∃ y0 y1 y2 y9 y10 y11 y12 y13 y14 y15 y16 y17 y18 y19 y20 y21 y22 y23 y24 y25 y26 y27 y28 y29 : Value, a' = { tmps := #[y0, y1, y2, .pointer (some ⟨w.heap.size, 0, none⟩), .pointer (some ⟨w.heap.size + 1, 0, none⟩), .pointer (some ⟨w.heap.size + 1 + 1, 0, none⟩), .pointer (some ⟨w.heap.size + 1 + 1 + 1, 0, none⟩), .pointer (some ⟨w.heap.size + 1 + 1 + 1 + 1, 0, none⟩), .int .i64 (x : Int), y9, y10, y11, y12, y13, y14, y15, y16, y17, y18, y19, y20, y21, y22, y23, y24, y25, y26, y27, y28, y29], defers := [] }) ?ax ?assign ?body ?done ?stop)
  case hI =>
    rintro C pre A' B' row ⟨h1, h2, h3⟩ hg hr
    exact ⟨h1.grown hg h1.size (fun r e => by have := hr r e; omega), Nat.lt_of_lt_of_le h2 hg.size, h3⟩
  case hIx =>
    rintro C cc pre A' B' row ⟨h1, h2, x, h3, h4, h5⟩ hg hr
    exact ⟨h1, h2.grown hg h2.size (fun r e => by have := hr r e; omega), x, h3.kept hg (fun e => by have := hr _ e.symm; omega), h4.kept hg (fun e => by have := hr _ e.symm; omega), h5⟩
  case hIp =>
    rintro C pre A' B' row ⟨h1, h2, h3⟩ hg hr
    exact ⟨h1.grown hg h1.size (fun r e => by have := hr r e; have := HP.out; omega), Nat.lt_of_lt_of_le h2 hg.size, h3⟩
  case hIR =>
    rintro C pre W ⟨h1, h2, h3⟩
    have h := bl_tr hA0 h1
    exact ⟨hr.below h, hst.below h⟩
  case hIxR =>
    rintro C cc pre W ⟨h1, h2, h3⟩
    exact ⟨hr.below h2, hst.below h2⟩
  case h0 =>
    intro W' C hb hC1 hC2
    exact ⟨bl_tr hb30 hb, hC2, fun j hj => by cases hj⟩
  case ax =>
    rintro x a' _ A' B' row ⟨y0, y1, y2, y9, y10, y11, y12, y13, y14, y15, y16, y17, y18, y19, y20, y21, y22, y23, y24, y25, y26, y27, y28, y29, h⟩ hg hr
    exact ⟨_, _, _, _, _, _, _, _, _, _, _, _, _, _, _, _, _, _, _, _, _, _, _, _, h⟩
  case assign =>
    rintro C pre x W K hC hI hK
    have HK := Lib.hid hK
    have HI := Lib.hid hI
    clear hK hI
    simp [encI]
    gi_wp2
    exact HK.out _ W (KP.refl _ _ _) (KP.refl _ _ _) (KP.refl _ _ _) HI.out ⟨_, _, _, _, _, _, _, _, _, _, _, _, _, _, _, _, _, _, _, _, _, _, _, _, rfl⟩
  case body =>
    rintro C pre x a' W hC ⟨lr, hlr⟩ hI ⟨y0, y1, y2, y9, y10, y11, y12, y13, y14, y15, y16, y17, y18, y19, y20, y21, y22, y23, y24, y25, y26, y27, y28, y29, rfl⟩ hpre
    have hxl : x < zs.length := by
      obtain ⟨_, h⟩ := (mem_nbO HN.out).1 (hpre.subset (List.mem_append_right _ (List.mem_singleton.2 rfl)))
      exact h.1
    obtain ⟨hI1, hI2, hI3⟩ := hI
    have hA := bl_tr hA0 hI1
    have hD := bl_dr (bl0 W)
    have hAD := bl_tr hA hD
    have hID := bl_tr hI1 hD
    have g2 := cell_later hID f2
    have q0 := cell_later hID r0
    have j0 := cell_later hID i0
    obtain ⟨gb, go, rfl, qz⟩ := (hr.below hAD).cell hi
    obtain ⟨gd, gq, rfl, qx⟩ := (hru.below hAD).cell (show x < ds.length by rw [HDL.out]; exact hxl)
    obtain ⟨gd', gq', e, qi⟩ := (hru.below hAD).cell (show i < ds.length by rw [HDL.out]; exact hi)
    cases e
    rw [getD_get hi] at qz
    have hx0 : (0 : Int) ≤ (x : Int) := by omega
    have hx1 : (x : Int) < (zs.length : Int) := by omega
    have hi0 : (0 : Int) ≤ (i : Int) := by omega
    have hi1 : (i : Int) < (zs.length : Int) := by omega
    have hzi := getD_in hz i
    have hux : inU (atD ds x) := by rw [← atD_get (show x < ds.length by rw [HDL.out]; exact hxl)]; exact hdu _ (List.getElem_mem _)
    obtain ⟨t, ht⟩ : ∃ t, fromB zs ds i x = t := ⟨_, rfl⟩
    have HFX := Lib.hid ht
    unfold fromB at ht
    obtain ⟨z, hzz⟩ : ∃ z, zs.getD i 0 = z := ⟨_, rfl⟩
    rw [hzz] at qz hzi ht
    obtain ⟨dx, hdx⟩ : ∃ dx, atD ds x = dx := ⟨_, rfl⟩
    rw [hdx] at qx hux ht
    obtain ⟨di, hdi⟩ : ∃ di, atD ds i = di := ⟨_, rfl⟩
    rw [hdi] at qi ht
    have hac := fun W => add_any dx z W hux ⟨hzi.1, by omega⟩
    have hwz : IntKind.u64.wrap z = z := IntWalk.u64_in _ (by omega)
    obtain ⟨sm, hsm⟩ : ∃ sm, addC dx z = sm := ⟨_, rfl⟩
    rw [hsm] at hac ht
    have HPRE := Lib.hid hpre
    have HI3 := Lib.hid hI3
    have HI1 := Lib.hid hI1
    have b1 := o1.kept (grown_of_below hID) (fun e => by cases e)
    have b2 := o2.kept (grown_of_below hID) (fun e => by cases e)
    have HB1 := Lib.hid b1
    have HB2 := Lib.hid b2
    have c1 := b1.cell
    have c2 := b2.cell
    have d1 := (o1.kept (grown_of_below hI1) (fun e => by cases e)).frozen
    have d2 := (o2.kept (grown_of_below hI1) (fun e => by cases e)).frozen
    have c3 := (o1.kept (grown_of_below hI1) (fun e => by cases e)).cell
    have c4 := (o2.kept (grown_of_below hI1) (fun e => by cases e)).cell
    have l1 := (o1.kept (grown_of_below hI1) (fun e => by cases e)).lt
    have l2 := (o2.kept (grown_of_below hI1) (fun e => by cases e)).lt
    clear b1 b2
    have HA := Lib.hid hA
    have hwz2 := hI1.size
    clear hzz hdx hdi hsm hpre hI3 hux hzi hA hlr hI1 hAD hID hr hru hbes
    gi_wp2
    have hS : W.drew.cell? ⟨w.heap.size, 2, none⟩ = some (.slice (some ⟨gb, go, none⟩) zs.length cap) ∧ W.drew.cell? ⟨w.heap.size + 1, 0, none⟩ = some (.slice (some ⟨gd, gq, none⟩) zs.length cap2) ∧ W.drew.cell? ⟨w.heap.size + 1 + 1, 0, none⟩ = some (.int .i64 (i : Int)) ∧ W.drew.cell? ⟨gb, go + i, none⟩ = some (.int .u16 z) ∧ W.drew.cell? ⟨gd, gq + x, none⟩ = some (.int .u64 dx) ∧ W.drew.cell? ⟨gd, gq + i, none⟩ = some (.int .u64 di) := ⟨g2, q0, j0, qz, qx, qi⟩
    refine ordS_begin (S := (fun w' : World => w'.cell? ⟨w.heap.size, 2, none⟩ = some (.slice (some ⟨gb, go, none⟩) zs.length cap) ∧ w'.cell? ⟨w.heap.size + 1, 0, none⟩ = some (.slice (some ⟨gd, gq, none⟩) zs.length cap2) ∧ w'.cell? ⟨w.heap.size + 1 + 1, 0, none⟩ = some (.int .i64 (i : Int)) ∧ w'.cell? ⟨gb, go + i, none⟩ = some (.int .u16 z) ∧ w'.cell? ⟨gd, gq + x, none⟩ = some (.int .u64 dx) ∧ w'.cell? ⟨gd, gq + i, none⟩ = some (.int .u64 di))) (by kernel_rfl) hS (fun hH => ?_)
    first
      | (refine' ordS_take (i := 0) (oi := { dst := some 13, op := Op.load 33 (Operand.tmp 4), type := 33, pos := _, after := #[], guard := none }) (v := _) rfl (by kernel_rfl) (by kernel_rfl) (by kernel_rfl) (by kernel_rfl) (fun _ _ _ h => h) (by assumption) (Or.inl ⟨by rfl, ?hy104⟩) (fun _ => rfl) ?rest104
         case hy104 => (intro w hSw; (try dsimp only at hSw); go_simp; try with_reducible rfl))
      | (refine ordS_take (i := 0) (oi := { dst := some 13, op := Op.load 33 (Operand.tmp 4), type := 33, pos := _, after := #[], guard := none }) (v := undef) rfl (by kernel_rfl) (by kernel_rfl) (by kernel_rfl) (by kernel_rfl) (fun _ _ _ h => h) (by assumption) (Or.inr ⟨by rfl, rfl⟩) (fun _ => rfl) ?_)
    try simp only [Act.put, List.setIfInBounds_toArray, List.set_cons_zero, List.set_cons_succ]
    first
      | (refine' ordS_take (i := 1) (oi := { dst := some 14, op := Op.move (Operand.tmp 8), type := 3, pos := _, after := #[], guard := none }) (v := _) rfl (by kernel_rfl) (by kernel_rfl) (by kernel_rfl) (by kernel_rfl) (fun _ _ _ h => h) (by assumption) (Or.inl ⟨by rfl, ?hy105⟩) (fun _ => rfl) ?rest105
         case hy105 => (intro w hSw; (try dsimp only at hSw); go_simp; try with_reducible rfl))
      | (refine ordS_take (i := 1) (oi := { dst := some 14, op := Op.move (Operand.tmp 8), type := 3, pos := _, after := #[], guard := none }) (v := undef) rfl (by kernel_rfl) (by kernel_rfl) (by kernel_rfl) (by kernel_rfl) (fun _ _ _ h => h) (by assumption) (Or.inr ⟨by rfl, rfl⟩) (fun _ => rfl) ?_)
    try simp only [Act.put, List.setIfInBounds_toArray, List.set_cons_zero, List.set_cons_succ]
    first
      | (refine' ordS_take (i := 2) (oi := { dst := some 15, op := Op.indexAddr 33 (Operand.tmp 13) (Operand.tmp 14), type := 0, pos := _, after := #[{ on := 0, ground := Ground.data }, { on := 1, ground := Ground.data }], guard := none }) (v := _) rfl (by kernel_rfl) (by kernel_rfl) (by kernel_rfl) (by kernel_rfl) (fun _ _ _ h => h) (by assumption) (Or.inl ⟨by rfl, ?hy106⟩) (fun _ => rfl) ?rest106
         case hy106 => (intro w hSw; (try dsimp only at hSw); go_simp; try with_reducible rfl))
      | (refine ordS_take (i := 2) (oi := { dst := some 15, op := Op.indexAddr 33 (Operand.tmp 13) (Operand.tmp 14), type := 0, pos := _, after := #[{ on := 0, ground := Ground.data }, { on := 1, ground := Ground.data }], guard := none }) (v := undef) rfl (by kernel_rfl) (by kernel_rfl) (by kernel_rfl) (by kernel_rfl) (fun _ _ _ h => h) (by assumption) (Or.inr ⟨by rfl, rfl⟩) (fun _ => rfl) ?_)
    try simp only [Act.put, List.setIfInBounds_toArray, List.set_cons_zero, List.set_cons_succ]
    first
      | (refine' ordS_take (i := 3) (oi := { dst := some 16, op := Op.load 45 (Operand.tmp 15), type := 45, pos := _, after := #[{ on := 2, ground := Ground.data }], guard := none }) (v := _) rfl (by kernel_rfl) (by kernel_rfl) (by kernel_rfl) (by kernel_rfl) (fun _ _ _ h => h) (by assumption) (Or.inl ⟨by rfl, ?hy107⟩) (fun _ => rfl) ?rest107
         case hy107 => (intro w hSw; (try dsimp only at hSw); go_simp; try with_reducible rfl))
      | (refine ordS_take (i := 3) (oi := { dst := some 16, op := Op.load 45 (Operand.tmp 15), type := 45, pos := _, after := #[{ on := 2, ground := Ground.data }], guard := none }) (v := undef) rfl (by kernel_rfl) (by kernel_rfl) (by kernel_rfl) (by kernel_rfl) (fun _ _ _ h => h) (by assumption) (Or.inr ⟨by rfl, rfl⟩) (fun _ => rfl) ?_)
    try simp only [Act.put, List.setIfInBounds_toArray, List.set_cons_zero, List.set_cons_succ]
    first
      | (refine' ordS_take (i := 4) (oi := { dst := some 17, op := Op.fieldAddr 26 (Operand.tmp 3) 1, type := 0, pos := _, after := #[], guard := none }) (v := _) rfl (by kernel_rfl) (by kernel_rfl) (by kernel_rfl) (by kernel_rfl) (fun _ _ _ h => h) (by assumption) (Or.inl ⟨by rfl, ?hy108⟩) (fun _ => rfl) ?rest108
         case hy108 => (intro w hSw; (try dsimp only at hSw); go_simp; try with_reducible rfl))
      | (refine ordS_take (i := 4) (oi := { dst := some 17, op := Op.fieldAddr 26 (Operand.tmp 3) 1, type := 0, pos := _, after := #[], guard := none }) (v := undef) rfl (by kernel_rfl) (by kernel_rfl) (by kernel_rfl) (by kernel_rfl) (fun _ _ _ h => h) (by assumption) (Or.inr ⟨by rfl, rfl⟩) (fun _ => rfl) ?_)
    try simp only [Act.put, List.setIfInBounds_toArray, List.set_cons_zero, List.set_cons_succ]
    first
      | (refine' ordS_take (i := 5) (oi := { dst := some 18, op := Op.load 24 (Operand.tmp 17), type := 24, pos := _, after := #[{ on := 4, ground := Ground.data }], guard := none }) (v := _) rfl (by kernel_rfl) (by kernel_rfl) (by kernel_rfl) (by kernel_rfl) (fun _ _ _ h => h) (by assumption) (Or.inl ⟨by rfl, ?hy109⟩) (fun _ => rfl) ?rest109
         case hy109 => (intro w hSw; (try dsimp only at hSw); go_simp; try with_reducible rfl))
      | (refine ordS_take (i := 5) (oi := { dst := some 18, op := Op.load 24 (Operand.tmp 17), type := 24, pos := _, after := #[{ on := 4, ground := Ground.data }], guard := none }) (v := undef) rfl (by kernel_rfl) (by kernel_rfl) (by kernel_rfl) (by kernel_rfl) (fun _ _ _ h => h) (by assumption) (Or.inr ⟨by rfl, rfl⟩) (fun _ => rfl) ?_)
    try simp only [Act.put, List.setIfInBounds_toArray, List.set_cons_zero, List.set_cons_succ]
    first
      | (refine' ordS_take (i := 6) (oi := { dst := some 19, op := Op.load 3 (Operand.tmp 5), type := 3, pos := _, after := #[], guard := none }) (v := _) rfl (by kernel_rfl) (by kernel_rfl) (by kernel_rfl) (by kernel_rfl) (fun _ _ _ h => h) (by assumption) (Or.inl ⟨by rfl, ?hy110⟩) (fun _ => rfl) ?rest110
         case hy110 => (intro w hSw; (try dsimp only at hSw); go_simp; try with_reducible rfl))
      | (refine ordS_take (i := 6) (oi := { dst := some 19, op := Op.load 3 (Operand.tmp 5), type := 3, pos := _, after := #[], guard := none }) (v := undef) rfl (by kernel_rfl) (by kernel_rfl) (by kernel_rfl) (by kernel_rfl) (fun _ _ _ h => h) (by assumption) (Or.inr ⟨by rfl, rfl⟩) (fun _ => rfl) ?_)
    try simp only [Act.put, List.setIfInBounds_toArray, List.set_cons_zero, List.set_cons_succ]
    first
      | (refine' ordS_take (i := 7) (oi := { dst := some 20, op := Op.indexAddr 24 (Operand.tmp 18) (Operand.tmp 19), type := 0, pos := _, after := #[{ on := 5, ground := Ground.data }, { on := 6, ground := Ground.data }], guard := none }) (v := _) rfl (by kernel_rfl) (by kernel_rfl) (by kernel_rfl) (by kernel_rfl) (fun _ _ _ h => h) (by assumption) (Or.inl ⟨by rfl, ?hy111⟩) (fun _ => rfl) ?rest111
         case hy111 => (intro w hSw; (try dsimp only at hSw); go_simp; try with_reducible rfl))
      | (refine ordS_take (i := 7) (oi := { dst := some 20, op := Op.indexAddr 24 (Operand.tmp 18) (Operand.tmp 19), type := 0, pos := _, after := #[{ on := 5, ground := Ground.data }, { on := 6, ground := Ground.data }], guard := none }) (v := undef) rfl (by kernel_rfl) (by kernel_rfl) (by kernel_rfl) (by kernel_rfl) (fun _ _ _ h => h) (by assumption) (Or.inr ⟨by rfl, rfl⟩) (fun _ => rfl) ?_)
    try simp only [Act.put, List.setIfInBounds_toArray, List.set_cons_zero, List.set_cons_succ]
    first
      | (refine' ordS_take (i := 8) (oi := { dst := some 21, op := Op.load 53 (Operand.tmp 20), type := 53, pos := _, after := #[{ on := 7, ground := Ground.data }], guard := none }) (v := _) rfl (by kernel_rfl) (by kernel_rfl) (by kernel_rfl) (by kernel_rfl) (fun _ _ _ h => h) (by assumption) (Or.inl ⟨by rfl, ?hy112⟩) (fun _ => rfl) ?rest112
         case hy112 => (intro w hSw; (try dsimp only at hSw); go_simp; try with_reducible rfl))
      | (refine ordS_take (i := 8) (oi := { dst := some 21, op := Op.load 53 (Operand.tmp 20), type := 53, pos := _, after := #[{ on := 7, ground := Ground.data }], guard := none }) (v := undef) rfl (by kernel_rfl) (by kernel_rfl) (by kernel_rfl) (by kernel_rfl) (fun _ _ _ h => h) (by assumption) (Or.inr ⟨by rfl, rfl⟩) (fun _ => rfl) ?_)
    try simp only [Act.put, List.setIfInBounds_toArray, List.set_cons_zero, List.set_cons_succ]
    first
      | (refine' ordS_take (i := 9) (oi := { dst := some 22, op := Op.convert 53 45 (Operand.tmp 21), type := 45, pos := _, after := #[{ on := 8, ground := Ground.data }], guard := none }) (v := _) rfl (by kernel_rfl) (by kernel_rfl) (by kernel_rfl) (by kernel_rfl) (fun _ _ _ h => h) (by assumption) (Or.inl ⟨by rfl, ?hy113⟩) (fun _ => rfl) ?rest113
         case hy113 => (intro w hSw; (try dsimp only at hSw); go_simp; try with_reducible rfl))
      | (refine ordS_take (i := 9) (oi := { dst := some 22, op := Op.convert 53 45 (Operand.tmp 21), type := 45, pos := _, after := #[{ on := 8, ground := Ground.data }], guard := none }) (v := undef) rfl (by kernel_rfl) (by kernel_rfl) (by kernel_rfl) (by kernel_rfl) (fun _ _ _ h => h) (by assumption) (Or.inr ⟨by rfl, rfl⟩) (fun _ => rfl) ?_)
    try simp only [Act.put, List.setIfInBounds_toArray, List.set_cons_zero, List.set_cons_succ]
    first
      | (refine' ordS_take (i := 11) (oi := { dst := some 24, op := Op.load 33 (Operand.tmp 4), type := 33, pos := _, after := #[], guard := none }) (v := _) rfl (by kernel_rfl) (by kernel_rfl) (by kernel_rfl) (by kernel_rfl) (fun _ _ _ h => h) (by assumption) (Or.inl ⟨by rfl, ?hy114⟩) (fun _ => rfl) ?rest114
         case hy114 => (intro w hSw; (try dsimp only at hSw); go_simp; try with_reducible rfl))
      | (refine ordS_take (i := 11) (oi := { dst := some 24, op := Op.load 33 (Operand.tmp 4), type := 33, pos := _, after := #[], guard := none }) (v := undef) rfl (by kernel_rfl) (by kernel_rfl) (by kernel_rfl) (by kernel_rfl) (fun _ _ _ h => h) (by assumption) (Or.inr ⟨by rfl, rfl⟩) (fun _ => rfl) ?_)
    try simp only [Act.put, List.setIfInBounds_toArray, List.set_cons_zero, List.set_cons_succ]
    first
      | (refine' ordS_take (i := 12) (oi := { dst := some 25, op := Op.load 3 (Operand.tmp 5), type := 3, pos := _, after := #[], guard := none }) (v := _) rfl (by kernel_rfl) (by kernel_rfl) (by kernel_rfl) (by kernel_rfl) (fun _ _ _ h => h) (by assumption) (Or.inl ⟨by rfl, ?hy115⟩) (fun _ => rfl) ?rest115
         case hy115 => (intro w hSw; (try dsimp only at hSw); go_simp; try with_reducible rfl))
      | (refine ordS_take (i := 12) (oi := { dst := some 25, op := Op.load 3 (Operand.tmp 5), type := 3, pos := _, after := #[], guard := none }) (v := undef) rfl (by kernel_rfl) (by kernel_rfl) (by kernel_rfl) (by kernel_rfl) (fun _ _ _ h => h) (by assumption) (Or.inr ⟨by rfl, rfl⟩) (fun _ => rfl) ?_)
    try simp only [Act.put, List.setIfInBounds_toArray, List.set_cons_zero, List.set_cons_succ]
    first
      | (refine' ordS_take (i := 13) (oi := { dst := some 26, op := Op.indexAddr 33 (Operand.tmp 24) (Operand.tmp 25), type := 0, pos := _, after := #[{ on := 11, ground := Ground.data }, { on := 12, ground := Ground.data }], guard := none }) (v := _) rfl (by kernel_rfl) (by kernel_rfl) (by kernel_rfl) (by kernel_rfl) (fun _ _ _ h => h) (by assumption) (Or.inl ⟨by rfl, ?hy116⟩) (fun _ => rfl) ?rest116
         case hy116 => (intro w hSw; (try dsimp only at hSw); go_simp; try with_reducible rfl))
      | (refine ordS_take (i := 13) (oi := { dst := some 26, op := Op.indexAddr 33 (Operand.tmp 24) (Operand.tmp 25), type := 0, pos := _, after := #[{ on := 11, ground := Ground.data }, { on := 12, ground := Ground.data }], guard := none }) (v := undef) rfl (by kernel_rfl) (by kernel_rfl) (by kernel_rfl) (by kernel_rfl) (fun _ _ _ h => h) (by assumption) (Or.inr ⟨by rfl, rfl⟩) (fun _ => rfl) ?_)
    try simp only [Act.put, List.setIfInBounds_toArray, List.set_cons_zero, List.set_cons_succ]
    first
      | (refine' ordS_take (i := 14) (oi := { dst := some 27, op := Op.load 45 (Operand.tmp 26), type := 45, pos := _, after := #[{ on := 13, ground := Ground.data }], guard := none }) (v := _) rfl (by kernel_rfl) (by kernel_rfl) (by kernel_rfl) (by kernel_rfl) (fun _ _ _ h => h) (by assumption) (Or.inl ⟨by rfl, ?hy117⟩) (fun _ => rfl) ?rest117
         case hy117 => (intro w hSw; (try dsimp only at hSw); go_simp; try with_reducible rfl))
      | (refine ordS_take (i := 14) (oi := { dst := some 27, op := Op.load 45 (Operand.tmp 26), type := 45, pos := _, after := #[{ on := 13, ground := Ground.data }], guard := none }) (v := undef) rfl (by kernel_rfl) (by kernel_rfl) (by kernel_rfl) (by kernel_rfl) (fun _ _ _ h => h) (by assumption) (Or.inr ⟨by rfl, rfl⟩) (fun _ => rfl) ?_)
    try simp only [Act.put, List.setIfInBounds_toArray, List.set_cons_zero, List.set_cons_succ]
    refine ordS_one (i := 10) (o := { dst := some 23, op := Op.call { callee := Callee.value (Operand.func 26), args := #[Operand.tmp 16, Operand.tmp 22], argTypes := #[45, 45] }, type := 45, pos := _, after := #[{ on := 3, ground := Ground.data }, { on := 9, ground := Ground.data }], guard := none }) (by kernel_rfl) rfl (by rfl) (fun K hK => ?_)
    go_simp
    refine ⟨trivial, ?_⟩
    with_reducible refine (CallsIn.inRound _ (callsIn_wide.2 (hac _))).mono ?_
    rintro e W6 ⟨rfl, rfl⟩
    refine hK _ _ hS ?_
    clear hK K
    try simp only [Act.put, List.setIfInBounds_toArray, List.set_cons_zero, List.set_cons_succ]
    first
      | (refine' ordS_take (i := 15) (oi := { dst := some 28, op := Op.binOp BinOp.eql 45 (Operand.tmp 23) (Operand.tmp 27) 45, type := 4, pos := _, after := #[{ on := 10, ground := Ground.data }, { on := 14, ground := Ground.data }], guard := none }) (v := _) rfl (by kernel_rfl) (by kernel_rfl) (by kernel_rfl) (by kernel_rfl) (fun _ _ _ h => h) (by assumption) (Or.inl ⟨by rfl, ?hy118⟩) (fun _ => rfl) ?rest118
         case hy118 => (intro w hSw; (try dsimp only at hSw); go_simp; try with_reducible rfl))
      | (refine ordS_take (i := 15) (oi := { dst := some 28, op := Op.binOp BinOp.eql 45 (Operand.tmp 23) (Operand.tmp 27) 45, type := 4, pos := _, after := #[{ on := 10, ground := Ground.data }, { on := 14, ground := Ground.data }], guard := none }) (v := undef) rfl (by kernel_rfl) (by kernel_rfl) (by kernel_rfl) (by kernel_rfl) (fun _ _ _ h => h) (by assumption) (Or.inr ⟨by rfl, rfl⟩) (fun _ => rfl) ?_)
    try simp only [Act.put, List.setIfInBounds_toArray, List.set_cons_zero, List.set_cons_succ]
    refine ordS_done (by kernel_rfl) ?_
    cases t
    · clear hS hH g2 q0 j0 qz qx qi hac
      gi_wp2
      exact ⟨.of_below hD (by omega), .of_below hD (by omega), .of_below hD (by omega), bl_tr HI1.out hD, Nat.lt_of_lt_of_le hI2 hD.size, fun j hj => by
        rcases List.mem_append.1 hj with h | h
        · exact HI3.out j h
        · rw [List.mem_singleton.1 h]; exact HFX.out⟩
    · clear hS hH g2 q0 j0 qz qx qi hac
      have HFF := Lib.hid (show F = some x by rw [← HF.out]; exact find_pre HPRE.out HI3.out HFX.out)
      gi_wp2
      have hg := gq2_set W.drew (w.heap.size + 1 + 1 + 1) (w.heap.size + 1 + 1 + 1 + 1) (.int .i64 (x : Int)) (.bool true)
      refine ⟨hg.kp hD (by omega), hg.kp hD (by omega), hg.kp hD (by omega), rfl, ?_, x, ?_, ?_, HFF.out⟩
      · exact (bl_tr HA.out hD).trans (hg.bel (by have := hD.size; have := HA.out.size; omega) (by omega))
      · exact (HB1.out.set _).kept (hgrown_set _ _ _ _) (fun e => by have := Option.some.inj e; omega)
      · exact (HB2.out.kept (hgrown_set _ _ _ _) (fun e => by have := Option.some.inj e; omega)).set _
  case done =>
    rintro C W ⟨hI1, hI2, hI3⟩ hdef
    have hFn : F = none := by
      rw [← HF.out]
      exact List.find?_eq_none.2 (fun j hj => by rw [hI3 j hj]; decide)
    have b1 := o1.kept (grown_of_below hI1) (fun e => by cases e)
    have b2 := o2.kept (grown_of_below hI1) (fun e => by cases e)
    have HB1 := Lib.hid b1
    have HB2 := Lib.hid b2
    have c1 := b1.cell
    have c2 := b2.cell
    have d1 := b1.frozen
    have d2 := b2.frozen
    have l1 := b1.lt
    have l2 := b2.lt
    have HA := Lib.hid (bl_tr hA0 hI1)
    have HDF := Lib.hid hdef
    subst hFn
    have hw3 := hI1.size
    clear b1 b2 hI1 hI2 hI3 hdef
    go_wp2
    have hg := gq2_set W (w.heap.size + 1 + 1 + 1) (w.heap.size + 1 + 1 + 1 + 1) (.int .i64 0) (.bool false)
    have x1 := (HB1.out.set (.int .i64 0)).kept (hgrown_set _ (w.heap.size + 1 + 1 + 1 + 1) 0 (.bool false)) (fun e => by have := Option.some.inj e; omega)
    have x2 := (HB2.out.kept (hgrown_set _ (w.heap.size + 1 + 1 + 1) 0 (.int .i64 0)) (fun e => by have := Option.some.inj e; omega)).set (.bool false)
    have hd9 := (hg.2 W3.heap.size (Array.getElem?_eq_some_iff.1 HDF.out).1 (by omega) (by omega)).trans HDF.out
    have hB9 := HA.out.trans (hg.bel (by omega) (by omega))
    refine ⟨by simp, .inl ⟨_, _, rfl, run_takeDeferred hd9, ?_⟩⟩
    have hg4 := grownBy_putObj' ((W.setCell ⟨w.heap.size + 1 + 1 + 1, 0, none⟩ (.int .i64 0)).setCell ⟨w.heap.size + 1 + 1 + 1 + 1, 0, none⟩ (.bool false)) W3.heap.size (.deferred none)
    have y1 := (x1.kept hg4 (fun e => by have := Option.some.inj e; omega)).cell
    have y2 := (x2.kept hg4 (fun e => by have := Option.some.inj e; omega)).cell
    have hBA : Below w.heap.size w _ := hB9.grown hg4 hB9.size (fun j e => by cases e; omega)
    exact ⟨.tuple #[.int .i64 0, .bool false], by simp [results, Tryd.results66, go_sem, y1, y2], rfl, hBA⟩
  case stop =>
    rintro C cc q W hq ⟨rfl, hB, x, hx1, hx2, hFx⟩ hdef
    have HB := Lib.hid hB
    have HX1 := Lib.hid hx1
    have HX2 := Lib.hid hx2
    have HDF := Lib.hid hdef
    subst hFx
    clear hB hx1 hx2 hdef
    refine wpIn_wide.2 ?_
    go_wp2
    refine ⟨by simp, .inl ⟨_, _, rfl, run_takeDeferred HDF.out, ?_⟩⟩
    have hg4 := grownBy_putObj' W W3.heap.size (.deferred none)
    have y1 := (HX1.out.kept hg4 (fun e => by have := Option.some.inj e; omega)).cell
    have y2 := (HX2.out.kept hg4 (fun e => by have := Option.some.inj e; omega)).cell
    have hBA : Below w.heap.size w _ := HB.out.grown hg4 HB.out.size (fun j e => by cases e; omega)
    exact ⟨.tuple #[.int .i64 (x : Int), .bool true], by simp [results, Tryd.results66, go_sem, y1, y2], rfl, hBA⟩
end Go.Proofs.YtofpoenehdmkpaaDoor

/- As text Oz: an operation that tells the same in every world may be taken first, whether it comes ahead of z or behind it. -/
namespace Go.Proofs.YtofpoenehdmkpaaDoor
open Go

section
variable {F : Fence} {n : Nat} {P : Program} {ops : Array Oper} {Q : Exit → Act → World → Prop} {md : Region.Mode} {S : World → Prop} {z : Nat}
theorem OrdZ.firstP {i : Nat} {oi : Oper} {v : Value} (hi : ops[i]? = some oi) (hsel : ∀ (j : Nat) (o : Oper) cs b, ops[j]? = some o → o.op ≠ .select cs b) (hdef : ∀ (j : Nat) (o : Oper) c, ops[j]? = some o → o.op ≠ .defer c)
    (hQ : ∀ c a w, Q (.panic c) (a.put oi.dst v) w → Q (.panic c) a w) (hzi : i ≠ z) (k : Nat) : ∀ (l : Array Bool) (a : Act) (w : World), (l.getD z true = false → S w) →
      (∀ j oj, ops[j]? = some oj → j ≠ i → l.getD j true = false → (∀ e ∈ oj.after, Region.binds md e = true → e.on ≠ i) → oi.apart ops oj = true) →
      i ∈ Region.ready md ops l → TellsS P ops (fun _ => True) oi v a → OrdZ F n P md ops Q S z k (l.setIfInBounds i true) (a.put oi.dst v) w → OrdZ F n P md ops Q S z (k + 1) l a w := by
  induction k with
  | zero =>
    intro l a w hS _ hr hy H
    refine ⟨fun h => absurd hr (by simp [h]), fun j hj => ?_⟩
    by_cases e : j = i
    · subst e
      exact hy.step hi (fun c => hdef _ _ c hi) trivial ⟨fun h => hS (by rwa [getD_set_ne true hzi] at h), H⟩
    · have hm := ready_mono hj e
      rw [H.1] at hm
      cases hm
  | succ k ih =>
    intro l a w hS hfree hr hy H
    refine ⟨fun h => absurd hr (by simp [h]), fun j hj => ?_⟩
    by_cases e : j = i
    · subst e
      exact hy.step hi (fun c => hdef _ _ c hi) trivial ⟨fun h => hS (by rwa [getD_set_ne true hzi] at h), H⟩
    · obtain ⟨hun, oj, hoj, hall⟩ := mem_ready.1 hj
      have hli : l.getD i true = false := (mem_ready.1 hr).1
      have hnot : ∀ x ∈ oj.after, Region.binds md x = true → x.on ≠ i := fun x hx hb heq => by
        have h1 := hall x hx hb
        rw [heq] at h1
        rcases Nat.lt_or_ge i l.size with hl | hl <;> simp_all
      have h2 := hy.past hoj (hfree j oj hoj e hun hnot) (fun cs b => hsel i oi cs b hi) (fun cs b => hsel j oj cs b hoj) (fun c => hdef j oj c hoj) hQ (H.2 j (ready_mono hj e))
      refine wpOpIn_mono (fun a1 w1 h3 => ?_) h2
      obtain ⟨hy1, hS1, H1⟩ := h3
      have hS2 : (l.setIfInBounds j true).getD z true = false → S w1 := fun h => hS1 (by rw [Array.setIfInBounds_comm _ _ (Ne.symm e), getD_set_ne true hzi]; exact h)
      refine ⟨hS2, ih (l.setIfInBounds j true) a1 w1 hS2 ?_ (ready_mono hr (Ne.symm e)) hy1 (by rw [Array.setIfInBounds_comm _ _ e]; exact H1)⟩
      intro x ox hx hxi hxun hno
      refine hfree x ox hx hxi ?_ hno
      by_cases hjx : j = x
      · subst hjx; exact hun
      · rwa [getD_set_ne true hjx] at hxun
/-- Take number i first. -/
theorem ordP_take {i : Nat} {oi : Oper} {v : Value} {k : Nat} {l : Array Bool} {a : Act} {w : World} (hi : ops[i]? = some oi) (hr : (Region.ready md ops l).contains i = true) (hf : Region.free md ops l i = true)
    (hs : Region.noSelect ops = true) (hd : noDefer ops = true) (hQ : ∀ c a w, Q (.panic c) (a.put oi.dst v) w → Q (.panic c) a w) (hS : l.getD z true = false → S w)
    (hzi : i ≠ z) (hy : YieldsIf P ops (fun _ => True) oi v a) (hab : ∀ w, oi.about P w a.eval = none) (h : OrdZ F n P md ops Q S z k (l.setIfInBounds i true) (a.put oi.dst v) w) : OrdZ F n P md ops Q S z (k + 1) l a w :=
  OrdZ.firstP hi (Region.noSelect_spec hs) (noDefer_spec hd) hQ hzi k l a w hS (Region.free_spec hi hf) (by simpa using hr) ⟨hy, hab⟩ h
end
end Go.Proofs.YtofpoenehdmkpaaDoor

/- Least costs: a row of cells of one's own turned round. -/
namespace Go.Proofs.YtofpoenehdmkpaaDoor
open Go.RowKit

theorem flatC_cons (z : IC) (zs : List IC) : flatC (z :: zs) = .int .i64 z.1 :: .int .i64 z.2 :: flatC zs := rfl
theorem flatC_len2 : ∀ zs : List IC, (flatC zs).length = zs.length * 2
  | [] => rfl
  | z :: zs => by
    have := flatC_len2 zs
    rw [flatC_cons]
    simp
    omega
theorem flatC_set : ∀ (zs : List IC) (n : Nat) (z : IC), flatC (zs.set n z) = ((flatC zs).set (n * 2) (.int .i64 z.1)).set (n * 2 + 1) (.int .i64 z.2)
  | [], n, z => by simp [flatC]
  | y :: zs, 0, z => by simp [flatC_cons]
  | y :: zs, n + 1, z => by
    have ih := flatC_set zs n z
    rw [List.set_cons_succ, flatC_cons, flatC_cons, ih, show (n + 1) * 2 = n * 2 + 1 + 1 by omega]
    simp only [List.set_cons_succ]
/-- Turned round in k places from each end. -/
def revK (xs : List IC) (k : Nat) : List IC := (List.range xs.length).map fun j => if j < k ∨ xs.length ≤ j + k then cK xs (xs.length - 1 - j) else cK xs j
theorem revK_len (xs : List IC) (k : Nat) : (revK xs k).length = xs.length := by simp [revK]
theorem revK_at (xs : List IC) (k j : Nat) (h : j < xs.length) : (revK xs k)[j]? = some (if j < k ∨ xs.length ≤ j + k then cK xs (xs.length - 1 - j) else cK xs j) := by
  unfold revK
  rw [List.getElem?_map, List.getElem?_range h]
  rfl
theorem revK_zero (xs : List IC) : revK xs 0 = xs := by
  refine List.ext_getElem? fun j => ?_
  by_cases h : j < xs.length
  · rw [revK_at xs 0 j h, if_neg (by omega), cK_at h]
  · rw [List.getElem?_eq_none (by rw [revK_len]; omega), List.getElem?_eq_none (by omega)]
theorem revK_all (xs : List IC) {k : Nat} (hk : xs.length ≤ 2 * k + 1) : revK xs k = xs.reverse := by
  refine List.ext_getElem? fun j => ?_
  by_cases h : j < xs.length
  · rw [revK_at xs k j h, List.getElem?_reverse h, cK_at (show xs.length - 1 - j < xs.length by omega)]
    split
    · rfl
    · have e : xs.length - 1 - j = j := by omega
      rw [e]
  · rw [List.getElem?_eq_none (by rw [revK_len]; omega), List.getElem?_eq_none (by rw [List.length_reverse]; omega)]
theorem revK_step (xs : List IC) {k : Nat} (hk : 2 * k + 1 < xs.length) : ((revK xs k).set k (cK xs (xs.length - 1 - k))).set (xs.length - 1 - k) (cK xs k) = revK xs (k + 1) := by
  refine List.ext_getElem? fun j => ?_
  by_cases h : j < xs.length
  · rw [revK_at xs (k + 1) j h, List.getElem?_set, List.getElem?_set, revK_at xs k j h, List.length_set, revK_len]
    by_cases e1 : xs.length - 1 - k = j
    · rw [if_pos e1, if_pos (by omega), if_pos (by omega)]
      congr 2
      omega
    · rw [if_neg e1]
      by_cases e2 : k = j
      · rw [if_pos e2, if_pos (by omega), if_pos (by omega), e2]
      · rw [if_neg e2]
        congr 1
        by_cases e3 : j < k ∨ xs.length ≤ j + k
        · rw [if_pos e3, if_pos (by omega)]
        · rw [if_neg e3, if_neg (by omega)]
  · rw [List.getElem?_eq_none (by simp [revK_len]; omega), List.getElem?_eq_none (by rw [revK_len]; omega)]
theorem own_cellC {W : World} {B n cap g : Nat} {xs : List IC} (h : W.ownsRow B 30 2 (.slice (some ⟨g, 0, none⟩) n cap) n (flatC xs)) {j : Nat} {z : IC} (hz : xs[j]? = some z) :
    W.cell? ⟨g, j * 2, none⟩ = some (.int .i64 z.1) ∧ W.cell? ⟨g, j * 2 + 1, none⟩ = some (.int .i64 z.2) := by
  obtain ⟨e0, e1⟩ := flatC_at xs j z hz
  have h0 := h.cells (g := g) rfl _ _ e0
  have h1 := h.cells (g := g) rfl _ _ e1
  rw [hadd] at h0 h1
  exact ⟨h0, h1⟩
theorem own_setC {W : World} {B n cap g : Nat} {xs : List IC} (h : W.ownsRow B 30 2 (.slice (some ⟨g, 0, none⟩) n cap) n (flatC xs)) (j : Nat) (z : IC) :
    ((W.setCell ⟨g, j * 2, none⟩ (.int .i64 z.1)).setCell ⟨g, j * 2 + 1, none⟩ (.int .i64 z.2)).ownsRow B 30 2 (.slice (some ⟨g, 0, none⟩) n cap) n (flatC (xs.set j z)) := by
  rw [flatC_set]
  exact ((h.stored (j * 2) _).1.stored (j * 2 + 1) _).1

set_option maxRecDepth 100000 in
set_option maxHeartbeats 4000000 in
theorem reverse_own (B g cap n : Nat) (xs : List IC) (w : World) (hn : xs.length = n) (hn1 : 1 ≤ n) (hn2 : n ≤ 1048576) (h : w.ownsRow B 30 2 (.slice (some ⟨g, 0, none⟩) n cap) n (flatC xs)) :
    Calls Tryd.prog 68 #[.slice (some ⟨g, 0, none⟩) n cap] w fun e w' => e = .returned (.tuple #[]) ∧ w'.ownsRow B 30 2 (.slice (some ⟨g, 0, none⟩) n cap) n (flatC xs.reverse) ∧ Below B w w' := by
  have HN := Lib.hid hn
  have hgB := (h.lt g rfl).1
  have h0 : w.ownsRow B 30 2 (.slice (some ⟨g, 0, none⟩) n cap) n (flatC (revK xs 0)) := by rw [revK_zero]; exact h
  have hnw : IntKind.i64.wrap ((n : Int) - 1) = (n : Int) - 1 := IntWalk.i64_in _ (by omega)
  clear hn h
  go_enter Tryd.func68, Tryd.ntmps68
  go_wp2
  go_loopw [2, 3] (fun i j wr => ∃ k : Nat, k ≤ n ∧ i = .int .i64 k ∧ j = .int .i64 ((n : Int) - 1 - k) ∧ wr.ownsRow B 30 2 (.slice (some ⟨g, 0, none⟩) n cap) n (flatC (revK xs k)) ∧ Below B w wr) (fun i _ _ => n - (intOf i).toNat)
  case atStart => exact ⟨0, Nat.zero_le _, rfl, by simp, h0, Below.refl _ _⟩
  case round =>
    obtain ⟨k, hk, rfl, rfl, hrow, hB⟩ := hrel
    by_cases hlt : 2 * k + 1 < n
    · have hlt2 : (k : Int) < (n : Int) - 1 - (k : Int) := by omega
      obtain ⟨j, hj⟩ : ∃ j : Nat, j = n - 1 - k := ⟨_, rfl⟩
      have hjj : (n : Int) - 1 - (k : Int) = (j : Int) := by omega
      have hHL := HN.out
      have a1 : (revK xs k)[k]? = some (cK xs k) := by rw [revK_at xs k k (by omega), if_neg (by omega)]
      have a2 : (revK xs k)[j]? = some (cK xs j) := by rw [revK_at xs k j (by omega), if_neg (by omega)]
      obtain ⟨q0, q1⟩ := own_cellC hrow a1
      obtain ⟨p0, p1⟩ := own_cellC hrow a2
      have hst := revK_step xs (k := k) (by omega)
      rw [hHL, ← hj] at hst
      have HST := Lib.hid hst
      have HROW := Lib.hid hrow
      have HB := Lib.hid hB
      have hk0 : (0 : Int) ≤ (k : Int) := by omega
      have hk1 : (k : Int) < (n : Int) := by omega
      have hj0 : (0 : Int) ≤ (j : Int) := by omega
      have hj1 : (j : Int) < (n : Int) := by omega
      have fr : ∀ i, wr.frozen? ⟨g, i, none⟩ = false := hrow.frozenAt
      have f0 := fr (k * 2)
      have f1 := fr (k * 2 + 1)
      have f2 := fr (j * 2)
      have f3 := fr (j * 2 + 1)
      have hkj : k ≠ j := by omega
      rw [hjj] at hlt2 ⊢
      have HJ := Lib.hid (show (n : Int) - 1 - ((k : Int) + 1) = (j : Int) - 1 by omega)
      have HK := Lib.hid (show k < n by omega)
      have HJJ := Lib.hid hj
      have HA2 := Lib.hid a2
      generalize cK xs k = x at *
      generalize cK xs j = y at *
      clear hst hrow hB hHL a1 a2 fr hj hjj h0
      go_wp2
      have hD := bl_dr (bl0 wr)
      refine (wpIn_wide (n := 11)).1 ?_
      refine ordZ_begin (z := 13) (S := (fun w' : World => w'.cell? ⟨g, k * 2, none⟩ = some (.int .i64 x.1) ∧ w'.cell? ⟨g, k * 2 + 1, none⟩ = some (.int .i64 x.2) ∧ w'.cell? ⟨g, j * 2, none⟩ = some (.int .i64 y.1) ∧ w'.cell? ⟨g, j * 2 + 1, none⟩ = some (.int .i64 y.2))) (by kernel_rfl) ⟨q0, q1, p0, p1⟩ (fun hH => ?_)
      first
        | (refine' ordZ_take (i := 0) (oi := { dst := some 14, op := Op.move (Operand.tmp 0), type := 44, pos := _, after := #[], guard := none }) (v := _) rfl (by kernel_rfl) (by kernel_rfl) (by kernel_rfl) (by kernel_rfl) (fun _ _ _ h => h) (by assumption) (by kernel_rfl) (by decide) (by rfl) (Or.inl ⟨by rfl, ?hy119⟩) (fun _ => rfl) ?rest119
           case hy119 => (intro w hSw; (try dsimp only at hSw); go_simp; try with_reducible rfl))
        | (refine ordZ_take (i := 0) (oi := { dst := some 14, op := Op.move (Operand.tmp 0), type := 44, pos := _, after := #[], guard := none }) (v := undef) rfl (by kernel_rfl) (by kernel_rfl) (by kernel_rfl) (by kernel_rfl) (fun _ _ _ h => h) (by assumption) (by kernel_rfl) (by decide) (by rfl) (Or.inr ⟨by rfl, rfl⟩) (fun _ => rfl) ?_)
      try simp only [Act.put, List.setIfInBounds_toArray, List.set_cons_zero, List.set_cons_succ]
      first
        | (refine' ordZ_take (i := 1) (oi := { dst := some 15, op := Op.move (Operand.tmp 2), type := 3, pos := _, after := #[], guard := none }) (v := _) rfl (by kernel_rfl) (by kernel_rfl) (by kernel_rfl) (by kernel_rfl) (fun _ _ _ h => h) (by assumption) (by kernel_rfl) (by decide) (by rfl) (Or.inl ⟨by rfl, ?hy120⟩) (fun _ => rfl) ?rest120
           case hy120 => (intro w hSw; (try dsimp only at hSw); go_simp; try with_reducible rfl))
        | (refine ordZ_take (i := 1) (oi := { dst := some 15, op := Op.move (Operand.tmp 2), type := 3, pos := _, after := #[], guard := none }) (v := undef) rfl (by kernel_rfl) (by kernel_rfl) (by kernel_rfl) (by kernel_rfl) (fun _ _ _ h => h) (by assumption) (by kernel_rfl) (by decide) (by rfl) (Or.inr ⟨by rfl, rfl⟩) (fun _ => rfl) ?_)
      try simp only [Act.put, List.setIfInBounds_toArray, List.set_cons_zero, List.set_cons_succ]
      first
        | (refine' ordZ_take (i := 4) (oi := { dst := some 18, op := Op.move (Operand.tmp 0), type := 44, pos := _, after := #[], guard := none }) (v := _) rfl (by kernel_rfl) (by kernel_rfl) (by kernel_rfl) (by kernel_rfl) (fun _ _ _ h => h) (by assumption) (by kernel_rfl) (by decide) (by rfl) (Or.inl ⟨by rfl, ?hy121⟩) (fun _ => rfl) ?rest121
           case hy121 => (intro w hSw; (try dsimp only at hSw); go_simp; try with_reducible rfl))
        | (refine ordZ_take (i := 4) (oi := { dst := some 18, op := Op.move (Operand.tmp 0), type := 44, pos := _, after := #[], guard := none }) (v := undef) rfl (by kernel_rfl) (by kernel_rfl) (by kernel_rfl) (by kernel_rfl) (fun _ _ _ h => h) (by assumption) (by kernel_rfl) (by decide) (by rfl) (Or.inr ⟨by rfl, rfl⟩) (fun _ => rfl) ?_)
      try simp only [Act.put, List.setIfInBounds_toArray, List.set_cons_zero, List.set_cons_succ]
      first
        | (refine' ordZ_take (i := 5) (oi := { dst := some 19, op := Op.move (Operand.tmp 3), type := 3, pos := _, after := #[], guard := none }) (v := _) rfl (by kernel_rfl) (by kernel_rfl) (by kernel_rfl) (by kernel_rfl) (fun _ _ _ h => h) (by assumption) (by kernel_rfl) (by decide) (by rfl) (Or.inl ⟨by rfl, ?hy122⟩) (fun _ => rfl) ?rest122
           case hy122 => (intro w hSw; (try dsimp only at hSw); go_simp; try with_reducible rfl))
        | (refine ordZ_take (i := 5) (oi := { dst := some 19, op := Op.move (Operand.tmp 3), type := 3, pos := _, after := #[], guard := none }) (v := undef) rfl (by kernel_rfl) (by kernel_rfl) (by kernel_rfl) (by kernel_rfl) (fun _ _ _ h => h) (by assumption) (by kernel_rfl) (by decide) (by rfl) (Or.inr ⟨by rfl, rfl⟩) (fun _ => rfl) ?_)
      try simp only [Act.put, List.setIfInBounds_toArray, List.set_cons_zero, List.set_cons_succ]
      first
        | (refine' ordZ_take (i := 6) (oi := { dst := some 20, op := Op.indexAddr 44 (Operand.tmp 18) (Operand.tmp 19), type := 0, pos := _, after := #[{ on := 4, ground := Ground.data }, { on := 5, ground := Ground.data }], guard := none }) (v := _) rfl (by kernel_rfl) (by kernel_rfl) (by kernel_rfl) (by kernel_rfl) (fun _ _ _ h => h) (by assumption) (by kernel_rfl) (by decide) (by rfl) (Or.inl ⟨by rfl, ?hy123⟩) (fun _ => rfl) ?rest123
           case hy123 => (intro w hSw; (try dsimp only at hSw); go_simp; try with_reducible rfl))
        | (refine ordZ_take (i := 6) (oi := { dst := some 20, op := Op.indexAddr 44 (Operand.tmp 18) (Operand.tmp 19), type := 0, pos := _, after := #[{ on := 4, ground := Ground.data }, { on := 5, ground := Ground.data }], guard := none }) (v := undef) rfl (by kernel_rfl) (by kernel_rfl) (by kernel_rfl) (by kernel_rfl) (fun _ _ _ h => h) (by assumption) (by kernel_rfl) (by decide) (by rfl) (Or.inr ⟨by rfl, rfl⟩) (fun _ => rfl) ?_)
      try simp only [Act.put, List.setIfInBounds_toArray, List.set_cons_zero, List.set_cons_succ]
      first
        | (refine' ordZ_take (i := 7) (oi := { dst := some 21, op := Op.load 30 (Operand.tmp 20), type := 30, pos := _, after := #[{ on := 6, ground := Ground.data }], guard := none }) (v := _) rfl (by kernel_rfl) (by kernel_rfl) (by kernel_rfl) (by kernel_rfl) (fun _ _ _ h => h) (by assumption) (by kernel_rfl) (by decide) (by rfl) (Or.inl ⟨by rfl, ?hy124⟩) (fun _ => rfl) ?rest124
           case hy124 => (intro w hSw; (try dsimp only at hSw); go_simp; try with_reducible rfl))
        | (refine ordZ_take (i := 7) (oi := { dst := some 21, op := Op.load 30 (Operand.tmp 20), type := 30, pos := _, after := #[{ on := 6, ground := Ground.data }], guard := none }) (v := undef) rfl (by kernel_rfl) (by kernel_rfl) (by kernel_rfl) (by kernel_rfl) (fun _ _ _ h => h) (by assumption) (by kernel_rfl) (by decide) (by rfl) (Or.inr ⟨by rfl, rfl⟩) (fun _ => rfl) ?_)
      try simp only [Act.put, List.setIfInBounds_toArray, List.set_cons_zero, List.set_cons_succ]
      first
        | (refine' ordP_take (i := 2) (oi := { dst := some 16, op := Op.move (Operand.tmp 0), type := 44, pos := _, after := #[{ on := 13, ground := Ground.gcOnly Departure.lateStores }], guard := none }) (v := _) rfl (by kernel_rfl) (by kernel_rfl) (by kernel_rfl) (by kernel_rfl) (fun _ _ _ h => h) (fun h => by first | assumption | (exact absurd h (by decide))) (by decide) (Or.inl ⟨by rfl, ?hy125⟩) (fun _ => rfl) ?rest125
           case hy125 => (intro w hSw; (try dsimp only at hSw); go_simp; try with_reducible rfl))
        | (refine ordP_take (i := 2) (oi := { dst := some 16, op := Op.move (Operand.tmp 0), type := 44, pos := _, after := #[{ on := 13, ground := Ground.gcOnly Departure.lateStores }], guard := none }) (v := undef) rfl (by kernel_rfl) (by kernel_rfl) (by kernel_rfl) (by kernel_rfl) (fun _ _ _ h => h) (fun h => by first | assumption | (exact absurd h (by decide))) (by decide) (Or.inr ⟨by rfl, rfl⟩) (fun _ => rfl) ?_)
      try simp only [Act.put, List.setIfInBounds_toArray, List.set_cons_zero, List.set_cons_succ]
      first
        | (refine' ordP_take (i := 3) (oi := { dst := some 17, op := Op.move (Operand.tmp 3), type := 3, pos := _, after := #[{ on := 13, ground := Ground.gcOnly Departure.lateStores }], guard := none }) (v := _) rfl (by kernel_rfl) (by kernel_rfl) (by kernel_rfl) (by kernel_rfl) (fun _ _ _ h => h) (fun h => by first | assumption | (exact absurd h (by decide))) (by decide) (Or.inl ⟨by rfl, ?hy126⟩) (fun _ => rfl) ?rest126
           case hy126 => (intro w hSw; (try dsimp only at hSw); go_simp; try with_reducible rfl))
        | (refine ordP_take (i := 3) (oi := { dst := some 17, op := Op.move (Operand.tmp 3), type := 3, pos := _, after := #[{ on := 13, ground := Ground.gcOnly Departure.lateStores }], guard := none }) (v := undef) rfl (by kernel_rfl) (by kernel_rfl) (by kernel_rfl) (by kernel_rfl) (fun _ _ _ h => h) (fun h => by first | assumption | (exact absurd h (by decide))) (by decide) (Or.inr ⟨by rfl, rfl⟩) (fun _ => rfl) ?_)
      try simp only [Act.put, List.setIfInBounds_toArray, List.set_cons_zero, List.set_cons_succ]
      first
        | (refine' ordP_take (i := 8) (oi := { dst := some 22, op := Op.move (Operand.tmp 0), type := 44, pos := _, after := #[], guard := none }) (v := _) rfl (by kernel_rfl) (by kernel_rfl) (by kernel_rfl) (by kernel_rfl) (fun _ _ _ h => h) (fun h => by first | assumption | (exact absurd h (by decide))) (by decide) (Or.inl ⟨by rfl, ?hy127⟩) (fun _ => rfl) ?rest127
           case hy127 => (intro w hSw; (try dsimp only at hSw); go_simp; try with_reducible rfl))
        | (refine ordP_take (i := 8) (oi := { dst := some 22, op := Op.move (Operand.tmp 0), type := 44, pos := _, after := #[], guard := none }) (v := undef) rfl (by kernel_rfl) (by kernel_rfl) (by kernel_rfl) (by kernel_rfl) (fun _ _ _ h => h) (fun h => by first | assumption | (exact absurd h (by decide))) (by decide) (Or.inr ⟨by rfl, rfl⟩) (fun _ => rfl) ?_)
      try simp only [Act.put, List.setIfInBounds_toArray, List.set_cons_zero, List.set_cons_succ]
      first
        | (refine' ordP_take (i := 9) (oi := { dst := some 23, op := Op.move (Operand.tmp 2), type := 3, pos := _, after := #[], guard := none }) (v := _) rfl (by kernel_rfl) (by kernel_rfl) (by kernel_rfl) (by kernel_rfl) (fun _ _ _ h => h) (fun h => by first | assumption | (exact absurd h (by decide))) (by decide) (Or.inl ⟨by rfl, ?hy128⟩) (fun _ => rfl) ?rest128
           case hy128 => (intro w hSw; (try dsimp only at hSw); go_simp; try with_reducible rfl))
        | (refine ordP_take (i := 9) (oi := { dst := some 23, op := Op.move (Operand.tmp 2), type := 3, pos := _, after := #[], guard := none }) (v := undef) rfl (by kernel_rfl) (by kernel_rfl) (by kernel_rfl) (by kernel_rfl) (fun _ _ _ h => h) (fun h => by first | assumption | (exact absurd h (by decide))) (by decide) (Or.inr ⟨by rfl, rfl⟩) (fun _ => rfl) ?_)
      try simp only [Act.put, List.setIfInBounds_toArray, List.set_cons_zero, List.set_cons_succ]
      first
        | (refine' ordP_take (i := 10) (oi := { dst := some 24, op := Op.indexAddr 44 (Operand.tmp 22) (Operand.tmp 23), type := 0, pos := _, after := #[{ on := 8, ground := Ground.data }, { on := 9, ground := Ground.data }], guard := none }) (v := _) rfl (by kernel_rfl) (by kernel_rfl) (by kernel_rfl) (by kernel_rfl) (fun _ _ _ h => h) (fun h => by first | assumption | (exact absurd h (by decide))) (by decide) (Or.inl ⟨by rfl, ?hy129⟩) (fun _ => rfl) ?rest129
           case hy129 => (intro w hSw; (try dsimp only at hSw); go_simp; try with_reducible rfl))
        | (refine ordP_take (i := 10) (oi := { dst := some 24, op := Op.indexAddr 44 (Operand.tmp 22) (Operand.tmp 23), type := 0, pos := _, after := #[{ on := 8, ground := Ground.data }, { on := 9, ground := Ground.data }], guard := none }) (v := undef) rfl (by kernel_rfl) (by kernel_rfl) (by kernel_rfl) (by kernel_rfl) (fun _ _ _ h => h) (fun h => by first | assumption | (exact absurd h (by decide))) (by decide) (Or.inr ⟨by rfl, rfl⟩) (fun _ => rfl) ?_)
      try simp only [Act.put, List.setIfInBounds_toArray, List.set_cons_zero, List.set_cons_succ]
      first
        | (refine' ordZ_take (i := 11) (oi := { dst := some 25, op := Op.load 30 (Operand.tmp 24), type := 30, pos := _, after := #[{ on := 10, ground := Ground.data }], guard := none }) (v := _) rfl (by kernel_rfl) (by kernel_rfl) (by kernel_rfl) (by kernel_rfl) (fun _ _ _ h => h) (by assumption) (by kernel_rfl) (by decide) (by rfl) (Or.inl ⟨by rfl, ?hy130⟩) (fun _ => rfl) ?rest130
           case hy130 => (intro w hSw; (try dsimp only at hSw); go_simp; try with_reducible rfl))
        | (refine ordZ_take (i := 11) (oi := { dst := some 25, op := Op.load 30 (Operand.tmp 24), type := 30, pos := _, after := #[{ on := 10, ground := Ground.data }], guard := none }) (v := undef) rfl (by kernel_rfl) (by kernel_rfl) (by kernel_rfl) (by kernel_rfl) (fun _ _ _ h => h) (by assumption) (by kernel_rfl) (by decide) (by rfl) (Or.inr ⟨by rfl, rfl⟩) (fun _ => rfl) ?_)
      try simp only [Act.put, List.setIfInBounds_toArray, List.set_cons_zero, List.set_cons_succ]
      first
        | (refine' ordZ_take (i := 12) (oi := { dst := some 26, op := Op.indexAddr 44 (Operand.tmp 14) (Operand.tmp 15), type := 0, pos := _, after := #[{ on := 0, ground := Ground.data }, { on := 1, ground := Ground.data }, { on := 0, ground := Ground.phase }, { on := 1, ground := Ground.phase }, { on := 2, ground := Ground.textOnly Departure.lateStores }, { on := 3, ground := Ground.textOnly Departure.lateStores }, { on := 4, ground := Ground.phase }, { on := 5, ground := Ground.phase }, { on := 6, ground := Ground.phase }, { on := 7, ground := Ground.phase }, { on := 8, ground := Ground.textOnly Departure.lateStores }, { on := 9, ground := Ground.textOnly Departure.lateStores }, { on := 10, ground := Ground.textOnly Departure.lateStoresUnsure }, { on := 11, ground := Ground.phase }], guard := none }) (v := _) rfl (by kernel_rfl) (by kernel_rfl) (by kernel_rfl) (by kernel_rfl) (fun _ _ _ h => h) (by assumption) (by kernel_rfl) (by decide) (by rfl) (Or.inl ⟨by rfl, ?hy131⟩) (fun _ => rfl) ?rest131
           case hy131 => (intro w hSw; (try dsimp only at hSw); go_simp; try with_reducible rfl))
        | (refine ordZ_take (i := 12) (oi := { dst := some 26, op := Op.indexAddr 44 (Operand.tmp 14) (Operand.tmp 15), type := 0, pos := _, after := #[{ on := 0, ground := Ground.data }, { on := 1, ground := Ground.data }, { on := 0, ground := Ground.phase }, { on := 1, ground := Ground.phase }, { on := 2, ground := Ground.textOnly Departure.lateStores }, { on := 3, ground := Ground.textOnly Departure.lateStores }, { on := 4, ground := Ground.phase }, { on := 5, ground := Ground.phase }, { on := 6, ground := Ground.phase }, { on := 7, ground := Ground.phase }, { on := 8, ground := Ground.textOnly Departure.lateStores }, { on := 9, ground := Ground.textOnly Departure.lateStores }, { on := 10, ground := Ground.textOnly Departure.lateStoresUnsure }, { on := 11, ground := Ground.phase }], guard := none }) (v := undef) rfl (by kernel_rfl) (by kernel_rfl) (by kernel_rfl) (by kernel_rfl) (fun _ _ _ h => h) (by assumption) (by kernel_rfl) (by decide) (by rfl) (Or.inr ⟨by rfl, rfl⟩) (fun _ => rfl) ?_)
      try simp only [Act.put, List.setIfInBounds_toArray, List.set_cons_zero, List.set_cons_succ]
      refine ordZ_one (i := 13) (o := { dst := none, op := Op.store 30 (Operand.tmp 26) (Operand.tmp 21), type := 0, pos := _, after := #[{ on := 12, ground := Ground.data }, { on := 7, ground := Ground.data }, { on := 0, ground := Ground.phase }, { on := 1, ground := Ground.phase }, { on := 2, ground := Ground.textOnly Departure.lateStores }, { on := 3, ground := Ground.textOnly Departure.lateStores }, { on := 4, ground := Ground.phase }, { on := 5, ground := Ground.phase }, { on := 6, ground := Ground.phase }, { on := 7, ground := Ground.phase }, { on := 8, ground := Ground.textOnly Departure.lateStores }, { on := 9, ground := Ground.textOnly Departure.lateStores }, { on := 10, ground := Ground.textOnly Departure.lateStoresUnsure }, { on := 11, ground := Ground.phase }], guard := none }) (by kernel_rfl) rfl (by rfl) (fun K hK => ?_)
      go_simp
      have hrow2 := own_setC HROW.out k y
      have a3 : ((revK xs k).set k y)[j]? = some y := by rw [List.getElem?_set, if_neg hkj]; exact HA2.out
      obtain ⟨v0, v1⟩ := own_cellC hrow2 a3
      have w0 := hrow2.frozenAt (j * 2)
      have w1 := hrow2.frozenAt (j * 2 + 1)
      have hrow3 := own_setC hrow2 j x
      rw [HST.out] at hrow3
      have HROW3 := Lib.hid hrow3
      have hB3 : Below B w ((((wr.setCell ⟨g, k * 2, none⟩ (.int .i64 y.1)).setCell ⟨g, k * 2 + 1, none⟩ (.int .i64 y.2)).setCell ⟨g, j * 2, none⟩ (.int .i64 x.1)).setCell ⟨g, j * 2 + 1, none⟩ (.int .i64 x.2)) :=
        (((HB.out.setCell (p := ⟨g, k * 2, none⟩) hgB _).setCell (p := ⟨g, k * 2 + 1, none⟩) hgB _).setCell (p := ⟨g, j * 2, none⟩) hgB _).setCell (p := ⟨g, j * 2 + 1, none⟩) hgB _
      have HB3 := Lib.hid hB3
      clear hrow2 hrow3 hB3 a3
      generalize (wr.setCell ⟨g, k * 2, none⟩ (.int .i64 y.1)).setCell ⟨g, k * 2 + 1, none⟩ (.int .i64 y.2) = W5 at *
      refine hK _ _ (fun h => by cases h) ?_
      clear hK K hH
      try simp only [Act.put, List.setIfInBounds_toArray, List.set_cons_zero, List.set_cons_succ]
      first
        | (refine' ordP_take (i := 14) (oi := { dst := some 27, op := Op.indexAddr 44 (Operand.tmp 16) (Operand.tmp 17), type := 0, pos := _, after := #[{ on := 2, ground := Ground.data }, { on := 3, ground := Ground.data }, { on := 0, ground := Ground.phase }, { on := 1, ground := Ground.phase }, { on := 2, ground := Ground.phase }, { on := 3, ground := Ground.phase }, { on := 4, ground := Ground.phase }, { on := 5, ground := Ground.phase }, { on := 6, ground := Ground.phase }, { on := 7, ground := Ground.phase }, { on := 8, ground := Ground.phase }, { on := 9, ground := Ground.phase }, { on := 10, ground := Ground.phase }, { on := 11, ground := Ground.phase }, { on := 12, ground := Ground.phase }, { on := 13, ground := Ground.phase }], guard := none }) (v := _) rfl (by kernel_rfl) (by kernel_rfl) (by kernel_rfl) (by kernel_rfl) (fun _ _ _ h => h) (fun h => by first | assumption | (exact absurd h (by decide))) (by decide) (Or.inl ⟨by rfl, ?hy132⟩) (fun _ => rfl) ?rest132
           case hy132 => (intro w hSw; (try dsimp only at hSw); go_simp; try with_reducible rfl))
        | (refine ordP_take (i := 14) (oi := { dst := some 27, op := Op.indexAddr 44 (Operand.tmp 16) (Operand.tmp 17), type := 0, pos := _, after := #[{ on := 2, ground := Ground.data }, { on := 3, ground := Ground.data }, { on := 0, ground := Ground.phase }, { on := 1, ground := Ground.phase }, { on := 2, ground := Ground.phase }, { on := 3, ground := Ground.phase }, { on := 4, ground := Ground.phase }, { on := 5, ground := Ground.phase }, { on := 6, ground := Ground.phase }, { on := 7, ground := Ground.phase }, { on := 8, ground := Ground.phase }, { on := 9, ground := Ground.phase }, { on := 10, ground := Ground.phase }, { on := 11, ground := Ground.phase }, { on := 12, ground := Ground.phase }, { on := 13, ground := Ground.phase }], guard := none }) (v := undef) rfl (by kernel_rfl) (by kernel_rfl) (by kernel_rfl) (by kernel_rfl) (fun _ _ _ h => h) (fun h => by first | assumption | (exact absurd h (by decide))) (by decide) (Or.inr ⟨by rfl, rfl⟩) (fun _ => rfl) ?_)
      try simp only [Act.put, List.setIfInBounds_toArray, List.set_cons_zero, List.set_cons_succ]
      refine ordZ_one (i := 15) (o := { dst := none, op := Op.store 30 (Operand.tmp 27) (Operand.tmp 25), type := 0, pos := _, after := #[{ on := 14, ground := Ground.data }, { on := 11, ground := Ground.data }, { on := 13, ground := Ground.chain }, { on := 0, ground := Ground.phase }, { on := 1, ground := Ground.phase }, { on := 2, ground := Ground.phase }, { on := 3, ground := Ground.phase }, { on := 4, ground := Ground.phase }, { on := 5, ground := Ground.phase }, { on := 6, ground := Ground.phase }, { on := 7, ground := Ground.phase }, { on := 8, ground := Ground.phase }, { on := 9, ground := Ground.phase }, { on := 10, ground := Ground.phase }, { on := 11, ground := Ground.phase }, { on := 12, ground := Ground.phase }, { on := 13, ground := Ground.phase }], guard := none }) (by kernel_rfl) rfl (by rfl) (fun K hK => ?_)
      go_simp
      refine hK _ _ (fun h => by cases h) ?_
      clear hK K
      try simp only [Act.put, List.setIfInBounds_toArray, List.set_cons_zero, List.set_cons_succ]
      refine ordZ_done (by kernel_rfl) ?_
      go_wp2
      refine ⟨⟨k + 1, HK.out, by go_num, ?_, HROW3.out, HB3.out.drew⟩, by simp [intOf]; have := HK.out; omega⟩
      have e := HJ.out
      rw [show ((k + 1 : Nat) : Int) = (k : Int) + 1 by omega, e]
    · have hge : ¬ ((k : Int) < (n : Int) - 1 - (k : Int)) := by omega
      have HR := Lib.hid (revK_all xs (k := k) (by have := HN.out; omega))
      go_wp2
      go_end0
      exact ⟨rfl, by rw [← HR.out]; exact hrow, hB⟩
end Go.Proofs.YtofpoenehdmkpaaDoor

/- Least costs: the way that is told. -/
namespace Go.Proofs.YtofpoenehdmkpaaDoor
open Go.RowKit

theorem nodup_lt_len : ∀ (N : Nat) (l : List Nat), l.Nodup → (∀ x ∈ l, x < N) → l.length ≤ N
  | 0, l, _, h => by
    cases l with
    | nil => exact Nat.le_refl _
    | cons x l => exact absurd (h x (by simp)) (by omega)
  | N + 1, l, hn, h => by
    have h1 := nodup_lt_len N (l.filter (fun x => decide (x ≠ N))) (hn.sublist List.filter_sublist) (fun x hx => by
      rw [List.mem_filter] at hx
      have := h x hx.1
      have := of_decide_eq_true hx.2
      omega)
    have h2 : ∀ l : List Nat, l.Nodup → l.length ≤ (l.filter (fun x => decide (x ≠ N))).length + 1 := by
      intro l
      induction l with
      | nil => intro _; exact Nat.zero_le _
      | cons x l ih =>
        intro hn
        rw [List.nodup_cons] at hn
        by_cases e : x = N
        · have : l.filter (fun x => decide (x ≠ N)) = l := by
            rw [List.filter_eq_self]
            intro y hy
            exact decide_eq_true (fun q => hn.1 (by rw [e, ← q]; exact hy))
          rw [List.filter_cons, if_neg (by simp [e]), this]
          simp
        · rw [List.filter_cons, if_pos (decide_eq_true e)]
          have := ih hn.2
          simp only [List.length_cons]
          omega
    have := h2 l hn
    omega
/-- The way back from one. -/
def wayF (A B : Int) (zs ds : List Int) : Nat → Nat → List Nat
  | 0, i => [i]
  | n + 1, i => i :: (match aheadF A B zs ds i with | none => [] | some j => wayF A B zs ds n j)
def wayL (A B : Int) (zs ds : List Int) (i : Nat) : List Nat := wayF A B zs ds (atD ds i).toNat i
section
variable {A B : Int} {zs ds : List Int} {b : BX} {s : Nat}
theorem aheadF_some (hm : mayB A B = true) (hn : (zs.length : Int) = A * B) (hz : AllH zs) (h : Far (gphB A B b zs) s (atD ds)) {i j : Nat} (ha : aheadF A B zs ds i = some j) (hi : atD ds i ≠ 18446744073709551615) :
    j ∈ nbO A B zs i ∧ atD ds j ≠ 18446744073709551615 ∧ atD ds i = atD ds j + zs.getD i 0 ∧ atD ds j < atD ds i ∧ 0 ≤ atD ds j := by
  unfold aheadF at ha
  have h1 := List.find?_some ha
  have h2 := List.mem_of_find?_eq_some ha
  unfold fromB at h1
  rw [beq_iff_eq] at h1
  have hG := gphB_ok (b := b) hm hn hz
  have ho := h.opn hi
  have hk := hG.pos1 ho
  obtain ⟨q1, q2, q3⟩ := gphB_opn.1 ho
  rw [gphB_k q2] at hk
  have hb := h.bd j
  have hbi := h.bd i
  unfold addC at h1
  split at h1 <;> exact ⟨h2, by omega, by omega, by omega, by omega⟩
theorem wayF_more (hm : mayB A B = true) (hn : (zs.length : Int) = A * B) (hz : AllH zs) (h : Far (gphB A B b zs) s (atD ds)) : ∀ (n : Nat) (i : Nat), atD ds i ≠ 18446744073709551615 → atD ds i ≤ (n : Int) → ∀ m, n ≤ m → wayF A B zs ds m i = wayF A B zs ds n i
  | 0, i, hi, hin, m, _ => by
    cases m with
    | zero => rfl
    | succ m =>
      cases ha : aheadF A B zs ds i with
      | none => simp [wayF, ha]
      | some j =>
        have := aheadF_some hm hn hz h ha hi
        omega
  | n + 1, i, hi, hin, m, hm' => by
    cases m with
    | zero => omega
    | succ m =>
      cases ha : aheadF A B zs ds i with
      | none => simp [wayF, ha]
      | some j =>
        obtain ⟨q1, q2, q3, q4, q5⟩ := aheadF_some hm hn hz h ha hi
        have := wayF_more hm hn hz h n j q2 (by omega) m (by omega)
        simp [wayF, ha, this]
theorem wayL_next (hm : mayB A B = true) (hn : (zs.length : Int) = A * B) (hz : AllH zs) (h : Far (gphB A B b zs) s (atD ds)) {i : Nat} (hi : atD ds i ≠ 18446744073709551615) :
    wayL A B zs ds i = i :: (match aheadF A B zs ds i with | none => [] | some j => wayL A B zs ds j) := by
  have h0 := h.ge0 i
  have h1 := wayF_more hm hn hz h (atD ds i).toNat i hi (by omega) ((atD ds i).toNat + 1) (by omega)
  unfold wayL
  rw [← h1, wayF]
  cases ha : aheadF A B zs ds i with
  | none => rfl
  | some j =>
    obtain ⟨q1, q2, q3, q4, q5⟩ := aheadF_some hm hn hz h ha hi
    have := wayF_more hm hn hz h (atD ds j).toNat j q2 (by omega) (atD ds i).toNat (by omega)
    simp only [this]
/-- What is on a way back. -/
theorem wayL_mem (hm : mayB A B = true) (hn : (zs.length : Int) = A * B) (hz : AllH zs) (h : Far (gphB A B b zs) s (atD ds)) : ∀ (n : Nat) (i : Nat), atD ds i ≠ 18446744073709551615 → atD ds i ≤ (n : Int) → (∀ x ∈ wayL A B zs ds i, atD ds x ≠ 18446744073709551615 ∧ atD ds x ≤ atD ds i ∧ x < zs.length) ∧ (wayL A B zs ds i).Nodup
  | n, i, hi, hin => by
    have hnx := wayL_next hm hn hz h hi
    have hil : i < zs.length := (gphB_opn.1 (h.opn hi)).1
    have h0 := h.ge0 i
    rw [hnx]
    cases ha : aheadF A B zs ds i with
    | none =>
      refine ⟨fun x hx => ?_, by simp⟩
      rw [List.mem_singleton.1 hx]
      exact ⟨hi, Int.le_refl _, hil⟩
    | some j =>
      obtain ⟨q1, q2, q3, q4, q5⟩ := aheadF_some hm hn hz h ha hi
      cases n with
      | zero => omega
      | succ n =>
        obtain ⟨r1, r2⟩ := wayL_mem hm hn hz h n j q2 (by omega)
        refine ⟨fun x hx => ?_, List.nodup_cons.2 ⟨fun hx => ?_, r2⟩⟩
        · rcases List.mem_cons.1 hx with rfl | hx
          · exact ⟨hi, Int.le_refl _, hil⟩
          · have := r1 x hx
            exact ⟨this.1, by omega, this.2.2⟩
        · have := (r1 i hx).2.1
          omega
theorem wayL_len (hm : mayB A B = true) (hn : (zs.length : Int) = A * B) (hz : AllH zs) (h : Far (gphB A B b zs) s (atD ds)) {i : Nat} (hi : atD ds i ≠ 18446744073709551615) : (wayL A B zs ds i).length ≤ zs.length := by
  have h0 := h.ge0 i
  obtain ⟨r1, r2⟩ := wayL_mem hm hn hz h (atD ds i).toNat i hi (by omega)
  exact nodup_lt_len _ _ r2 (fun x hx => (r1 x hx).2.2)
theorem far_allU (h : Far (gphB A B b zs) s (atD ds)) : AllU ds := by
  intro d hd
  obtain ⟨i, hi⟩ := List.getElem?_of_mem hd
  have hl := (List.getElem?_eq_some_iff.1 hi).1
  have e := atD_get hl
  rw [List.getElem?_eq_getElem hl] at hi
  rw [← Option.some.inj hi, e]
  have := h.bd i
  exact ⟨by omega, by omega⟩
end
/-- The cells from where all is told from up to one. -/
def pathL (A B : Int) (zs ds : List Int) (i : Nat) : List IC := ((wayL A B zs ds i).map (cellN A)).reverse
/-- What is left of a way back. -/
def restW (A B : Int) (zs ds : List Int) : Option Nat → List Nat
  | none => []
  | some i => wayL A B zs ds i

theorem rowC_own {W : World} {Bq n cap g : Nat} {xs : List IC} (h : W.ownsRow Bq 30 2 (.slice (some ⟨g, 0, none⟩) n cap) n (flatC xs)) : RowC W (some ⟨g, 0, none⟩) xs := by
  refine .inr ⟨g, 0, rfl, fun k z hz => ?_⟩
  have := own_cellC h hz
  rw [Nat.zero_add]
  exact this
def muW (ds : List Int) (at_ is : Value) : Nat := match is with
  | .bool true => (atD ds (intOf at_).toNat).toNat + 1
  | _ => 0
set_option maxRecDepth 100000 in
set_option maxHeartbeats 4000000 in
theorem way_any (A B : Int) (a b : Option Addr) (cap cap2 : Nat) (zs ds : List Int) (bx : BX) (s i : Nat) (w : World) (hm : mayB A B = true) (hn : (zs.length : Int) = A * B) (hz : AllH zs) (hf : Far (gphB A B bx zs) s (atD ds)) (hdl : ds.length = zs.length) (hr : RowH w a zs) (hru : RowU w b ds) (hst : Stp w) (hi : atD ds i ≠ 18446744073709551615) :
    Calls Tryd.prog 46 #[.agg #[.int .i64 A, .int .i64 B, .slice a zs.length cap], .slice b zs.length cap2, .int .i64 (i : Int)] w fun e w' => ∃ a' cap', e = .returned (.slice a' (pathL A B zs ds i).length cap') ∧ RowC w' a' (pathL A B zs ds i) ∧ Below w.heap.size w w' := by
  obtain ⟨ar1, ar2⟩ := area_bd hm
  have HN := Lib.hid hn
  have HDL := Lib.hid hdl
  have HF := Lib.hid hf
  have HLEN := Lib.hid (wayL_len hm hn hz hf hi)
  have HI := Lib.hid hi
  have HNX := Lib.hid (fun i => wayL_next (i := i) hm hn hz hf)
  have HSM := Lib.hid (fun i j => aheadF_some (i := i) (j := j) hm hn hz hf)
  have hzl : zs.length ≤ 65536 := by omega
  have hah := fun (i : Nat) (W : World) h1 h2 h3 h4 => fahead_any A B a b cap cap2 zs ds i W hm hn hz (far_allU hf) hdl h1 h2 h3 h4
  have hilt : ∀ i, atD ds i ≠ 18446744073709551615 → i < zs.length := fun i hi => (gphB_opn.1 (hf.opn hi)).1
  have HILT := Lib.hid hilt
  have HAH := Lib.hid hah
  have hatc := fun (i : Nat) (w : World) (h : i < zs.length) => at_cell A B i w hm (by omega)
  have HAT := Lib.hid hatc
  obtain ⟨i0, hi0, hz0, hz1, hz2⟩ := info_parts Tryd.infoCell
  clear hn hdl hf hi hah hilt hatc
  go_enter Tryd.func46, Tryd.ntmps46
  go_wp2
  go_loopw [7, 8, 9] (fun v at_ is wr => ∃ (ls : List Nat) (o : Option Nat), at_ = .int .i64 ((o.getD 0 : Nat) : Int) ∧ is = .bool o.isSome ∧ wr.ownsRow (w.heap.size + 1) 30 2 v ls.length (flatC (ls.map (cellN A))) ∧ ls ++ restW A B zs ds o = wayL A B zs ds i ∧ (∀ j, o = some j → atD ds j ≠ 18446744073709551615) ∧ Below w.heap.size w wr ∧ wr.cell? ⟨w.heap.size, 0, none⟩ = some (.int .i64 A) ∧ wr.cell? ⟨w.heap.size, 1, none⟩ = some (.int .i64 B) ∧ wr.cell? ⟨w.heap.size, 2, none⟩ = some (.slice a zs.length cap)) (fun _ at_ is _ => muW ds at_ is)
  case atStart =>
    refine ⟨[], some i, rfl, rfl, World.ownsRow_nil _ _ _ _, rfl, fun j hj => by cases hj; exact HI.out, bl_al (bl0 _) _, ?_, ?_, ?_⟩ <;> simp [go_sem]
  case round =>
    obtain ⟨ls, o, rfl, rfl, hown, hrest, hoj, hB, f0, f1, f2⟩ := hrel
    cases o with
    | none =>
      have hls : ls = wayL A B zs ds i := by rw [← hrest]; simp [restW]
      have hrv := fun g n cap' w' (h : w'.ownsRow (w.heap.size + 1) 30 2 (.slice (some ⟨g, 0, none⟩) n cap') n (flatC (ls.map (cellN A)))) h1 h2 h3 => reverse_own (w.heap.size + 1) g cap' n (ls.map (cellN A)) w' h1 h2 h3 h
      have hl1 : 1 ≤ ls.length := by rw [hls, HNX.out i HI.out]; simp
      have hl2 : ls.length ≤ zs.length := by rw [hls]; exact HLEN.out
      obtain ⟨g, cap', hvv⟩ : ∃ g cap', u7 = .slice (some ⟨g, 0, none⟩) ls.length cap' := by
        rcases hown.2 with ⟨_, e⟩ | ⟨g', cap', cur, e, _⟩
        · omega
        · exact ⟨g', cap', e⟩
      subst hvv
      have hcall := hrv g ls.length cap' wr hown (by simp) hl1 (by omega)
      have HLS := Lib.hid hls
      have HPL := Lib.hid (show pathL A B zs ds i = (ls.map (cellN A)).reverse by unfold pathL; rw [hls])
      have HL := Lib.hid (show (pathL A B zs ds i).length = ls.length by rw [HPL.out]; simp)
      simp only [Option.isSome_none]
      clear hrv hown hrest hoj hls
      go_wp2_with fail
      refine hcall.mono ?_
      rintro e w2 ⟨rfl, hown2, hb2⟩
      have hB2 := Lib.hid (hB.trans (hb2.mono (by omega)))
      have HOWN := Lib.hid hown2
      clear hcall hown2 hb2
      go_wp2
      go_ret
      refine ⟨some ⟨g, 0, none⟩, cap', by rw [HL.out]; rfl, ?_, hB2.out⟩
      have hh := HOWN.out
      rw [← HPL.out] at hh
      exact rowC_own hh
    | some j =>
      have hj := hoj j rfl
      have hjl := HILT.out j hj
      have hll : ls.length + 1 ≤ zs.length := by
        have h1 := HLEN.out
        rw [← hrest, List.length_append] at h1
        have h2 : 1 ≤ (restW A B zs ds (some j)).length := by show 1 ≤ (wayL A B zs ds j).length; rw [HNX.out j hj]; simp
        omega
      obtain ⟨F, hF⟩ : ∃ F, aheadF A B zs ds j = F := ⟨_, rfl⟩
      have hnx := HNX.out j hj
      rw [hF] at hnx
      have hsm := fun k (hk : F = some k) => HSM.out j k (by rw [hF, hk]) hj
      have hah := fun W h1 h2 h3 => HAH.out j W h1 h2 h3 hjl
      rw [hF] at hah
      have HRE := Lib.hid (show (ls ++ [j]) ++ restW A B zs ds F = wayL A B zs ds i by
        rw [← hrest, List.append_assoc]
        congr 1
        show [j] ++ restW A B zs ds F = wayL A B zs ds j
        rw [hnx]
        cases F <;> rfl)
      have HSMF := Lib.hid hsm
      have HAHF := Lib.hid hah
      have HFS := Lib.hid (show flatC ((ls ++ [j]).map (cellN A)) = flatC (ls.map (cellN A)) ++ [.int .i64 (cellN A j).1, .int .i64 (cellN A j).2] by rw [List.map_append]; exact flatC_snoc _ _)
      have HJ := Lib.hid hj
      have hat := fun w => HAT.out j w hjl
      simp only [Option.getD_some, Option.isSome_some]
      clear hrest hoj hnx hsm hah hF hj
      generalize cellN A j = c at *
      go_wp2_with fail
      refine (hat _).mono ?_
      rintro e w1 ⟨rfl, hb1⟩
      have hown1 := own_later hown hb1
      have hB1 := bl_tr hB hb1
      replace f0 := cell_later hb1 f0; replace f1 := cell_later hb1 f1; replace f2 := cell_later hb1 f2
      have zf := blk_lt f0
      clear hown hB hb1 hat
      have hbc := bl_al (bl0 w1) (.cells #[.int .i64 c.1, .int .i64 c.2] 30)
      have hown2 := own_later hown1 hbc
      have hB2 := bl_tr hB1 hbc
      replace f0 := cell_later hbc f0; replace f1 := cell_later hbc f1; replace f2 := cell_later hbc f2
      have hd0 : (w1.alloc (.cells #[.int .i64 c.1, .int .i64 c.2] 30)).cell? ⟨w1.heap.size, 0, none⟩ = some (.int .i64 c.1) := by simp [go_sem]
      have hd1 : (w1.alloc (.cells #[.int .i64 c.1, .int .i64 c.2] 30)).cell? ⟨w1.heap.size, 1, none⟩ = some (.int .i64 c.2) := by simp [go_sem]
      have hzc : w1.heap.size < (w1.alloc (.cells #[.int .i64 c.1, .int .i64 c.2] 30)).heap.size := by simp
      obtain ⟨cb, hcb⟩ : ∃ cb, w1.heap.size = cb := ⟨_, rfl⟩
      obtain ⟨wc, hwc⟩ : ∃ wc, w1.alloc (.cells #[.int .i64 c.1, .int .i64 c.2] 30) = wc := ⟨_, rfl⟩
      rw [hwc] at hown2 hB2 f0 f1 f2 hd0 hd1 hzc
      rw [hcb] at hd0 hd1 hzc
      have hzw := hB2.size
      clear hown1 hB1 hbc
      go_wp2_with (at_builtin; refine wpList_append_own _ rfl _ _ 44 rfl (w.heap.size + 1) 30 i0 (.agg #[.int .i64 0, .int .i64 0]) 2 16 Tryd.underlying44 hi0 hz0 hz1 hz2 rfl (by decide) _ _ _ rfl (hown2.alloc _) ⟨wc.heap.size, 0, none⟩ 1 1 [.int .i64 c.1, .int .i64 c.2] rfl rfl ?c1 ?c2 ?c3 ?c4 ?c5 ?_)
      case c1 =>
        intro k u hu
        rw [hadd]
        rcases k with _ | _ | k
        · simp at hu; subst hu; simp [go_sem]
        · simp at hu; subst hu; simp [go_sem]
        · simp at hu
      case c2 =>
        intro u hu
        simp only [List.mem_cons, List.not_mem_nil, or_false] at hu
        rcases hu with rfl | rfl <;> rfl
      case c3 => unfold maxLen; omega
      case c4 => omega
      case c5 => simp; omega
      intro v' w5 hown' hgrow _
      have hne : some w.heap.size ≠ Value.ownBlock u7 := fun e => by have := (hown2.lt _ e.symm).1; omega
      have hB3 : Below w.heap.size w w5 := (bl_al hB2 _).grown hgrow (by simp; omega) (fun j hj => by have := (hown2.lt j hj).1; omega)
      rw [← HFS.out] at hown'
      replace f0 := hgrow.cell (cell_later (bl_al (bl0 _) _) f0) hne
      replace f1 := hgrow.cell (cell_later (bl_al (bl0 _) _) f1) hne
      replace f2 := hgrow.cell (cell_later (bl_al (bl0 _) _) f2) hne
      have hah := HAHF.out w5 (hr.below hB3) (hru.below hB3) (hst.below hB3)
      clear hgrow hown2 hne hd0 hd1 hzc hwc hcb hB2 hzw
      go_wp2_with fail
      refine hah.mono ?_
      rintro e w6 ⟨rfl, hb6⟩
      have hown6 := own_later hown' hb6
      have hB6 := bl_tr hB3 hb6
      replace f0 := cell_later hb6 f0; replace f1 := cell_later hb6 f1; replace f2 := cell_later hb6 f2
      clear hah hown' hB3 hb6
      have HO := Lib.hid hown6
      have HB := Lib.hid hB6
      clear hown6 hB6
      go_wp2
      go_roundw
      case rel => exact ⟨ls ++ [j], F, rfl, rfl, by rw [List.length_append]; exact HO.out, HRE.out, fun k hk => (HSMF.out k hk).2.1, HB.out, f0, f1, f2⟩
      case measure =>
        cases F with
        | none => exact Nat.succ_pos _
        | some k =>
          obtain ⟨-, -, -, q4, q5⟩ := HSMF.out k rfl
          show (atD ds (intOf (.int .i64 (k : Int))).toNat).toNat + 1 < (atD ds (intOf (.int .i64 (j : Int))).toNat).toNat + 1
          simp only [intOf, Int.toNat_natCast]
          omega
end Go.Proofs.YtofpoenehdmkpaaDoor

/- Least costs: Path. -/
namespace Go.Proofs.YtofpoenehdmkpaaDoor
open Go.RowKit

/-- What Path tells. -/
def PathR (A B : Int) (zs : List Int) (b : BX) (c t : IC) (e : Ending) (W : World) : Prop :=
  ∃ (a : Option Addr) (cap : Nat) (l : List IC) (cost er : Int), e = .returned (.tuple #[.slice a l.length cap, .int .u64 cost, .int .i64 er]) ∧ RowC W a l ∧ l.length ≤ 65536 ∧
    (errW A B zs.length b c ≠ 0 → er = errW A B zs.length b c ∧ l = [] ∧ cost = 0) ∧
    (errW A B zs.length b c = 0 → (inBx b t = false → er = 10 ∧ l = [] ∧ cost = 0) ∧
      (inBx b t = true → ∀ ds : List Int, ds.length = zs.length → Far (gphB A B b zs) (numN A c) (atD ds) →
        (atD ds (numN A t) = 18446744073709551615 → er = 22 ∧ l = [] ∧ cost = 0) ∧ (atD ds (numN A t) ≠ 18446744073709551615 → er = 0 ∧ cost = atD ds (numN A t) ∧ l = pathL A B zs ds (numN A t))))
/-- What is told of all is one list. -/
theorem far_same {A B : Int} {zs ds ds' : List Int} {b : BX} {s : Nat} (hG : (gphB A B b zs).Ok) (h : Far (gphB A B b zs) s (atD ds)) (h' : Far (gphB A B b zs) s (atD ds')) (hl : ds.length = ds'.length) : ds = ds' := by
  refine List.ext_getElem hl fun i h1 h2 => ?_
  rw [atD_get h1, atD_get h2]
  exact h.one hG h' i

set_option maxRecDepth 100000 in
set_option maxHeartbeats 4000000 in
theorem path_any (A B : Int) (a : Option Addr) (cap : Nat) (zs : List Int) (b : BX) (c t : IC) (w : World) (hz : AllH zs) (hr : RowH w a zs) (hst : Stp w) :
    Calls Tryd.prog 20 #[.agg #[.int .i64 A, .int .i64 B, .slice a zs.length cap], .agg #[.int .i64 b.1, .int .i64 b.2.1, .int .i64 b.2.2.1, .int .i64 b.2.2.2], .agg #[.int .i64 c.1, .int .i64 c.2], .agg #[.int .i64 t.1, .int .i64 t.2]] w fun e w' => PathR A B zs b c t e w' ∧ Below w.heap.size w w' := by
  have hA0 := bl_al (bl_al (bl_al (bl_al (bl0 w) (.cells #[.int .i64 A, .int .i64 B, .slice a zs.length cap] 26)) (.cells #[.int .i64 b.1, .int .i64 b.2.1, .int .i64 b.2.2.1, .int .i64 b.2.2.2] 28)) (.cells #[.int .i64 c.1, .int .i64 c.2] 30)) (.cells #[.int .i64 t.1, .int .i64 t.2] 30)
  have hcall := within_any A B a cap zs b c _ hz (hr.below hA0) (hst.below hA0)
  obtain ⟨X, Y, U, V⟩ := b
  dsimp only at hcall hA0 ⊢
  obtain ⟨E, hE⟩ : ∃ E, errW A B zs.length (X, Y, U, V) c = E := ⟨_, rfl⟩
  have HE := Lib.hid hE
  unfold WinR at hcall
  rw [hE] at hcall
  unfold PathR
  rw [hE]
  by_cases h0 : E = 0
  case neg =>
    have h1 : (E != 0) = true := by rw [bne_iff_ne]; exact h0
    have H0 := Lib.hid h0
    clear hE h0 hr hst
    go_enter Tryd.func20, Tryd.ntmps20
    go_wp2_with fail
    refine hcall.mono ?_
    rintro e w1 ⟨⟨b1, cap1, ds, rfl, -, h3, -⟩, hb⟩
    have hds := h3 H0.out
    subst hds
    have hA1 := bl_tr hA0 hb
    clear hcall hA0 hb h3
    go_wp2
    refine bodyPost_ret (v := .tuple #[.slice none 0 0, .int .u64 0, .int .i64 E]) (by simp [results, Tryd.results20, go_sem]) rfl ?_
    exact ⟨⟨none, 0, [], 0, E, rfl, .inl rfl, Nat.zero_le _, fun _ => ⟨rfl, rfl, rfl⟩, fun h => absurd h H0.out⟩, hA1⟩
  case pos =>
    subst h0
    obtain ⟨hchk, hf, hin⟩ := errW_ok hE
    obtain ⟨hmay, hn⟩ := chkF_may hchk
    have HN := Lib.hid hn
    have HG := Lib.hid (gphB_ok (b := (X, Y, U, V)) hmay hn hz)
    have hru0 := hr.below hA0
    clear hE hchk hn
    have c0 : ∀ w1, Below _ _ w1 → _ := fun w1 (hb : Below ((((w.alloc (.cells #[.int .i64 A, .int .i64 B, .slice a zs.length cap] 26)).alloc (.cells #[.int .i64 X, .int .i64 Y, .int .i64 U, .int .i64 V] 28)).alloc (.cells #[.int .i64 c.1, .int .i64 c.2] 30)).alloc (.cells #[.int .i64 t.1, .int .i64 t.2] 30)).heap.size ((((w.alloc (.cells #[.int .i64 A, .int .i64 B, .slice a zs.length cap] 26)).alloc (.cells #[.int .i64 X, .int .i64 Y, .int .i64 U, .int .i64 V] 28)).alloc (.cells #[.int .i64 c.1, .int .i64 c.2] 30)).alloc (.cells #[.int .i64 t.1, .int .i64 t.2] 30)) w1) =>
      (⟨cell_later hb (v := .int .i64 A) (a := ⟨w.heap.size, 0, none⟩) (by simp [go_sem]), cell_later hb (v := .int .i64 B) (a := ⟨w.heap.size, 1, none⟩) (by simp [go_sem]), cell_later hb (v := .slice a zs.length cap) (a := ⟨w.heap.size, 2, none⟩) (by simp [go_sem]), cell_later hb (v := .int .i64 X) (a := ⟨w.heap.size + 1, 0, none⟩) (by simp [go_sem]), cell_later hb (v := .int .i64 Y) (a := ⟨w.heap.size + 1, 1, none⟩) (by simp [go_sem]), cell_later hb (v := .int .i64 U) (a := ⟨w.heap.size + 1, 2, none⟩) (by simp [go_sem]), cell_later hb (v := .int .i64 V) (a := ⟨w.heap.size + 1, 3, none⟩) (by simp [go_sem]), cell_later hb (v := .int .i64 t.1) (a := ⟨w.heap.size + 1 + 1 + 1, 0, none⟩) (by simp [go_sem]), cell_later hb (v := .int .i64 t.2) (a := ⟨w.heap.size + 1 + 1 + 1, 1, none⟩) (by simp [go_sem])⟩ : w1.cell? ⟨w.heap.size, 0, none⟩ = some (.int .i64 A) ∧ w1.cell? ⟨w.heap.size, 1, none⟩ = some (.int .i64 B) ∧ w1.cell? ⟨w.heap.size, 2, none⟩ = some (.slice a zs.length cap) ∧ w1.cell? ⟨w.heap.size + 1, 0, none⟩ = some (.int .i64 X) ∧ w1.cell? ⟨w.heap.size + 1, 1, none⟩ = some (.int .i64 Y) ∧ w1.cell? ⟨w.heap.size + 1, 2, none⟩ = some (.int .i64 U) ∧ w1.cell? ⟨w.heap.size + 1, 3, none⟩ = some (.int .i64 V) ∧ w1.cell? ⟨w.heap.size + 1 + 1 + 1, 0, none⟩ = some (.int .i64 t.1) ∧ w1.cell? ⟨w.heap.size + 1 + 1 + 1, 1, none⟩ = some (.int .i64 t.2))
    have HC0 := Lib.hid c0
    clear c0
    go_enter Tryd.func20, Tryd.ntmps20
    go_wp2_with fail
    refine hcall.mono ?_
    rintro e w1 ⟨⟨b1, cap1, ds, rfl, hru, -, h4⟩, hb⟩
    obtain ⟨hdl, hfar⟩ := h4 (by first | rfl | trivial)
    rw [hdl]
    obtain ⟨f0, f1, f2, g0, g1, g2, g3, t0, t1⟩ := HC0.out _ hb
    have zf := blk_lt f0
    have zt := blk_lt t0
    have hA1 := bl_tr hA0 hb
    have HFAR := Lib.hid hfar
    have HDL := Lib.hid hdl
    clear hcall hb h4 hA0 hru0 hfar hdl HC0
    go_wp2_with fail
    refine (has_any _ _ _ _ _ _ _).mono ?_
    rintro e w2 ⟨rfl, hb2⟩
    replace f0 := cell_later hb2 f0; replace f1 := cell_later hb2 f1; replace f2 := cell_later hb2 f2; replace t0 := cell_later hb2 t0; replace t1 := cell_later hb2 t1
    have zf2 := blk_lt f0
    have zt2 := blk_lt t0
    have hA2 := bl_tr hA1 hb2
    replace hru := hru.below hb2
    clear hb2 hA1 g0 g1 g2 g3 zf zt
    obtain ⟨hh, hhe⟩ : ∃ hh, hasB X Y U V t.1 t.2 = hh := ⟨_, rfl⟩
    have HH := Lib.hid (show inBx (X, Y, U, V) t = hh from hhe)
    rw [hhe]
    cases hh
    · clear hhe
      go_wp2
      refine bodyPost_ret (v := .tuple #[.slice none 0 0, .int .u64 0, .int .i64 10]) (by simp [results, Tryd.results20, go_sem]) rfl ?_
      exact ⟨⟨none, 0, [], 0, 10, rfl, .inl rfl, Nat.zero_le _, fun h => absurd rfl h, fun _ => ⟨fun _ => ⟨rfl, rfl, rfl⟩, fun h => by rw [HH.out] at h; cases h⟩⟩, hA2⟩
    · have hon := box_on (b := (X, Y, U, V)) hf hhe
      have htl := numN_at hon HN.out
      have hnum := fun w => number_any A B a zs.length cap t w hon
      obtain ⟨i, hti⟩ : ∃ i, numN A t = i := ⟨_, rfl⟩
      have HTI := Lib.hid hti
      rw [hti] at hnum htl
      clear hti
      clear hhe
      go_wp2_with fail
      refine (hnum _).mono ?_
      rintro e w3 ⟨rfl, hb3⟩
      replace f0 := cell_later hb3 f0; replace f1 := cell_later hb3 f1; replace f2 := cell_later hb3 f2
      have hA3 := bl_tr hA2 hb3
      have hru3 := hru.below hb3
      have zf3 := blk_lt f0
      obtain ⟨gd, gq, e, q⟩ := hru3.cell (show i < ds.length by rw [HDL.out]; exact htl)
      subst e
      have hi0 : (0 : Int) ≤ (i : Int) := by omega
      have hi1 : (i : Int) < (zs.length : Int) := by omega
      clear hb3 hA2 hru hnum zf2 zt2 t0 t1
      by_cases hd : atD ds i = 18446744073709551615
      · rw [hd] at q
        have HD := Lib.hid hd
        clear hd
        go_wp2
        refine bodyPost_ret (v := .tuple #[.slice none 0 0, .int .u64 0, .int .i64 22]) (by simp [results, Tryd.results20, go_sem]) rfl ?_
        refine ⟨⟨none, 0, [], 0, 22, rfl, .inl rfl, Nat.zero_le _, fun h => absurd rfl h, fun _ => ⟨fun h => (by rw [HH.out] at h; cases h), fun _ ds' h1 h2 => ?_⟩⟩, hA3⟩
        have e := far_same HG.out h2 HFAR.out (by rw [h1, HDL.out])
        subst e
        rw [HTI.out]
        exact ⟨fun _ => ⟨rfl, rfl, rfl⟩, fun h => absurd HD.out h⟩
      · have hd2 : (atD ds i == 18446744073709551615) = false := by rw [beq_eq_false_iff_ne]; exact hd
        have hway := fun W h1 h2 h3 => way_any A B a (some ⟨gd, gq, none⟩) cap cap1 zs ds (X, Y, U, V) (numN A c) i W hmay HN.out hz HFAR.out HDL.out h1 h2 h3 hd
        have hpl : (pathL A B zs ds i).length ≤ 65536 := by
          have h1 := wayL_len hmay HN.out hz HFAR.out hd
          have := area_bd hmay
          have := HN.out
          unfold pathL
          simp
          omega
        obtain ⟨l, hl⟩ : ∃ l, pathL A B zs ds i = l := ⟨_, rfl⟩
        rw [hl] at hway hpl
        have HL := Lib.hid hl
        have HDI := Lib.hid hd
        obtain ⟨d, hdd⟩ : ∃ d, atD ds i = d := ⟨_, rfl⟩
        rw [hdd] at q hd2
        have HDD := Lib.hid hdd
        have hr3 := hr.below hA3
        have hst3 := hst.below hA3
        clear hl hd hdd
        have hD := bl_dr (bl0 w3)
        have hS : w3.drew.cell? ⟨w.heap.size, 0, none⟩ = some (.int .i64 A) ∧ w3.drew.cell? ⟨w.heap.size, 1, none⟩ = some (.int .i64 B) ∧ w3.drew.cell? ⟨w.heap.size, 2, none⟩ = some (.slice a zs.length cap) ∧ w3.drew.cell? ⟨gd, gq + i, none⟩ = some (.int .u64 d) := ⟨cell_later hD f0, cell_later hD f1, cell_later hD f2, cell_later hD q⟩
        go_wp2
        refine (wpIn_wide (n := 11)).1 ?_
        refine ordS_begin (S := (fun w' : World => w'.cell? ⟨w.heap.size, 0, none⟩ = some (.int .i64 A) ∧ w'.cell? ⟨w.heap.size, 1, none⟩ = some (.int .i64 B) ∧ w'.cell? ⟨w.heap.size, 2, none⟩ = some (.slice a zs.length cap) ∧ w'.cell? ⟨gd, gq + i, none⟩ = some (.int .u64 d))) (by kernel_rfl) hS (fun hH => ?_)
        first
          | (refine' ordS_take (i := 0) (oi := { dst := some 36, op := Op.load 26 (Operand.tmp 4), type := 26, pos := _, after := #[], guard := none }) (v := _) rfl (by kernel_rfl) (by kernel_rfl) (by kernel_rfl) (by kernel_rfl) (fun _ _ _ h => h) (by assumption) (Or.inl ⟨by rfl, ?hy133⟩) (fun _ => rfl) ?rest133
             case hy133 => (intro w hSw; (try dsimp only at hSw); go_simp; try with_reducible rfl))
          | (refine ordS_take (i := 0) (oi := { dst := some 36, op := Op.load 26 (Operand.tmp 4), type := 26, pos := _, after := #[], guard := none }) (v := undef) rfl (by kernel_rfl) (by kernel_rfl) (by kernel_rfl) (by kernel_rfl) (fun _ _ _ h => h) (by assumption) (Or.inr ⟨by rfl, rfl⟩) (fun _ => rfl) ?_)
        try simp only [Act.put, List.setIfInBounds_toArray, List.set_cons_zero, List.set_cons_succ]
        first
          | (refine' ordS_take (i := 1) (oi := { dst := some 37, op := Op.move (Operand.tmp 11), type := 33, pos := _, after := #[], guard := none }) (v := _) rfl (by kernel_rfl) (by kernel_rfl) (by kernel_rfl) (by kernel_rfl) (fun _ _ _ h => h) (by assumption) (Or.inl ⟨by rfl, ?hy134⟩) (fun _ => rfl) ?rest134
             case hy134 => (intro w hSw; (try dsimp only at hSw); go_simp; try with_reducible rfl))
          | (refine ordS_take (i := 1) (oi := { dst := some 37, op := Op.move (Operand.tmp 11), type := 33, pos := _, after := #[], guard := none }) (v := undef) rfl (by kernel_rfl) (by kernel_rfl) (by kernel_rfl) (by kernel_rfl) (fun _ _ _ h => h) (by assumption) (Or.inr ⟨by rfl, rfl⟩) (fun _ => rfl) ?_)
        try simp only [Act.put, List.setIfInBounds_toArray, List.set_cons_zero, List.set_cons_succ]
        first
          | (refine' ordS_take (i := 2) (oi := { dst := some 38, op := Op.move (Operand.tmp 13), type := 3, pos := _, after := #[], guard := none }) (v := _) rfl (by kernel_rfl) (by kernel_rfl) (by kernel_rfl) (by kernel_rfl) (fun _ _ _ h => h) (by assumption) (Or.inl ⟨by rfl, ?hy135⟩) (fun _ => rfl) ?rest135
             case hy135 => (intro w hSw; (try dsimp only at hSw); go_simp; try with_reducible rfl))
          | (refine ordS_take (i := 2) (oi := { dst := some 38, op := Op.move (Operand.tmp 13), type := 3, pos := _, after := #[], guard := none }) (v := undef) rfl (by kernel_rfl) (by kernel_rfl) (by kernel_rfl) (by kernel_rfl) (fun _ _ _ h => h) (by assumption) (Or.inr ⟨by rfl, rfl⟩) (fun _ => rfl) ?_)
        try simp only [Act.put, List.setIfInBounds_toArray, List.set_cons_zero, List.set_cons_succ]
        first
          | (refine' ordS_take (i := 4) (oi := { dst := some 40, op := Op.move (Operand.tmp 11), type := 33, pos := _, after := #[{ on := 8, ground := Ground.gcOnly Departure.lateStores }], guard := none }) (v := _) rfl (by kernel_rfl) (by kernel_rfl) (by kernel_rfl) (by kernel_rfl) (fun _ _ _ h => h) (by assumption) (Or.inl ⟨by rfl, ?hy136⟩) (fun _ => rfl) ?rest136
             case hy136 => (intro w hSw; (try dsimp only at hSw); go_simp; try with_reducible rfl))
          | (refine ordS_take (i := 4) (oi := { dst := some 40, op := Op.move (Operand.tmp 11), type := 33, pos := _, after := #[{ on := 8, ground := Ground.gcOnly Departure.lateStores }], guard := none }) (v := undef) rfl (by kernel_rfl) (by kernel_rfl) (by kernel_rfl) (by kernel_rfl) (fun _ _ _ h => h) (by assumption) (Or.inr ⟨by rfl, rfl⟩) (fun _ => rfl) ?_)
        try simp only [Act.put, List.setIfInBounds_toArray, List.set_cons_zero, List.set_cons_succ]
        first
          | (refine' ordS_take (i := 5) (oi := { dst := some 41, op := Op.move (Operand.tmp 13), type := 3, pos := _, after := #[{ on := 8, ground := Ground.gcOnly Departure.lateStores }], guard := none }) (v := _) rfl (by kernel_rfl) (by kernel_rfl) (by kernel_rfl) (by kernel_rfl) (fun _ _ _ h => h) (by assumption) (Or.inl ⟨by rfl, ?hy137⟩) (fun _ => rfl) ?rest137
             case hy137 => (intro w hSw; (try dsimp only at hSw); go_simp; try with_reducible rfl))
          | (refine ordS_take (i := 5) (oi := { dst := some 41, op := Op.move (Operand.tmp 13), type := 3, pos := _, after := #[{ on := 8, ground := Ground.gcOnly Departure.lateStores }], guard := none }) (v := undef) rfl (by kernel_rfl) (by kernel_rfl) (by kernel_rfl) (by kernel_rfl) (fun _ _ _ h => h) (by assumption) (Or.inr ⟨by rfl, rfl⟩) (fun _ => rfl) ?_)
        try simp only [Act.put, List.setIfInBounds_toArray, List.set_cons_zero, List.set_cons_succ]
        first
          | (refine' ordS_take (i := 6) (oi := { dst := some 42, op := Op.indexAddr 33 (Operand.tmp 40) (Operand.tmp 41), type := 0, pos := _, after := #[{ on := 4, ground := Ground.data }, { on := 5, ground := Ground.data }, { on := 8, ground := Ground.gcOnly Departure.lateStores }], guard := none }) (v := _) rfl (by kernel_rfl) (by kernel_rfl) (by kernel_rfl) (by kernel_rfl) (fun _ _ _ h => h) (by assumption) (Or.inl ⟨by rfl, ?hy138⟩) (fun _ => rfl) ?rest138
             case hy138 => (intro w hSw; (try dsimp only at hSw); go_simp; try with_reducible rfl))
          | (refine ordS_take (i := 6) (oi := { dst := some 42, op := Op.indexAddr 33 (Operand.tmp 40) (Operand.tmp 41), type := 0, pos := _, after := #[{ on := 4, ground := Ground.data }, { on := 5, ground := Ground.data }, { on := 8, ground := Ground.gcOnly Departure.lateStores }], guard := none }) (v := undef) rfl (by kernel_rfl) (by kernel_rfl) (by kernel_rfl) (by kernel_rfl) (fun _ _ _ h => h) (by assumption) (Or.inr ⟨by rfl, rfl⟩) (fun _ => rfl) ?_)
        try simp only [Act.put, List.setIfInBounds_toArray, List.set_cons_zero, List.set_cons_succ]
        first
          | (refine' ordS_take (i := 7) (oi := { dst := some 43, op := Op.load 45 (Operand.tmp 42), type := 45, pos := _, after := #[{ on := 6, ground := Ground.data }, { on := 8, ground := Ground.gcOnly Departure.lateStores }], guard := none }) (v := _) rfl (by kernel_rfl) (by kernel_rfl) (by kernel_rfl) (by kernel_rfl) (fun _ _ _ h => h) (by assumption) (Or.inl ⟨by rfl, ?hy139⟩) (fun _ => rfl) ?rest139
             case hy139 => (intro w hSw; (try dsimp only at hSw); go_simp; try with_reducible rfl))
          | (refine ordS_take (i := 7) (oi := { dst := some 43, op := Op.load 45 (Operand.tmp 42), type := 45, pos := _, after := #[{ on := 6, ground := Ground.data }, { on := 8, ground := Ground.gcOnly Departure.lateStores }], guard := none }) (v := undef) rfl (by kernel_rfl) (by kernel_rfl) (by kernel_rfl) (by kernel_rfl) (fun _ _ _ h => h) (by assumption) (Or.inr ⟨by rfl, rfl⟩) (fun _ => rfl) ?_)
        try simp only [Act.put, List.setIfInBounds_toArray, List.set_cons_zero, List.set_cons_succ]
        refine ordS_one (i := 3) (o := { dst := some 39, op := Op.call { callee := Callee.value (Operand.func 46), args := #[Operand.tmp 36, Operand.tmp 37, Operand.tmp 38], argTypes := #[26, 33, 3] }, type := 44, pos := _, after := #[{ on := 0, ground := Ground.data }, { on := 1, ground := Ground.data }, { on := 2, ground := Ground.data }], guard := none }) (by kernel_rfl) rfl (by rfl) (fun K hK => ?_)
        go_simp
        refine ⟨trivial, ?_⟩
        with_reducible refine (callsIn_wide.2 (hway _ (hr3.below hD) (hru3.below hD) (hst3.below hD))).mono ?_
        rintro e W4 ⟨ga, cap4, rfl, hrc, hb4⟩
        replace hD := bl_tr hD hb4
        have hS4 : W4.cell? ⟨w.heap.size, 0, none⟩ = some (.int .i64 A) ∧ W4.cell? ⟨w.heap.size, 1, none⟩ = some (.int .i64 B) ∧ W4.cell? ⟨w.heap.size, 2, none⟩ = some (.slice a zs.length cap) ∧ W4.cell? ⟨gd, gq + i, none⟩ = some (.int .u64 d) := ⟨cell_later hD f0, cell_later hD f1, cell_later hD f2, cell_later hD q⟩
        refine hK _ _ hS4 ?_
        clear hK K hb4
        try simp only [Act.put, List.setIfInBounds_toArray, List.set_cons_zero, List.set_cons_succ]
        first
          | (refine' ordS_take (i := 8) (oi := { dst := some 8, op := Op.assign (Operand.tmp 39), type := 44, pos := _, after := #[{ on := 3, ground := Ground.data }, { on := 3, ground := Ground.chain }, { on := 0, ground := Ground.phase }, { on := 1, ground := Ground.phase }, { on := 2, ground := Ground.phase }, { on := 3, ground := Ground.phase }, { on := 4, ground := Ground.textOnly Departure.lateStores }, { on := 5, ground := Ground.textOnly Departure.lateStores }, { on := 6, ground := Ground.textOnly Departure.lateStores }, { on := 7, ground := Ground.textOnly Departure.lateStores }], guard := none }) (v := _) rfl (by kernel_rfl) (by kernel_rfl) (by kernel_rfl) (by kernel_rfl) (fun _ _ _ h => h) (by assumption) (Or.inl ⟨by rfl, ?hy140⟩) (fun _ => rfl) ?rest140
             case hy140 => (intro w hSw; (try dsimp only at hSw); go_simp; try with_reducible rfl))
          | (refine ordS_take (i := 8) (oi := { dst := some 8, op := Op.assign (Operand.tmp 39), type := 44, pos := _, after := #[{ on := 3, ground := Ground.data }, { on := 3, ground := Ground.chain }, { on := 0, ground := Ground.phase }, { on := 1, ground := Ground.phase }, { on := 2, ground := Ground.phase }, { on := 3, ground := Ground.phase }, { on := 4, ground := Ground.textOnly Departure.lateStores }, { on := 5, ground := Ground.textOnly Departure.lateStores }, { on := 6, ground := Ground.textOnly Departure.lateStores }, { on := 7, ground := Ground.textOnly Departure.lateStores }], guard := none }) (v := undef) rfl (by kernel_rfl) (by kernel_rfl) (by kernel_rfl) (by kernel_rfl) (fun _ _ _ h => h) (by assumption) (Or.inr ⟨by rfl, rfl⟩) (fun _ => rfl) ?_)
        try simp only [Act.put, List.setIfInBounds_toArray, List.set_cons_zero, List.set_cons_succ]
        first
          | (refine' ordS_take (i := 9) (oi := { dst := some 9, op := Op.assign (Operand.tmp 43), type := 45, pos := _, after := #[{ on := 7, ground := Ground.data }, { on := 8, ground := Ground.chain }, { on := 0, ground := Ground.phase }, { on := 1, ground := Ground.phase }, { on := 2, ground := Ground.phase }, { on := 3, ground := Ground.phase }, { on := 4, ground := Ground.phase }, { on := 5, ground := Ground.phase }, { on := 6, ground := Ground.phase }, { on := 7, ground := Ground.phase }, { on := 8, ground := Ground.phase }], guard := none }) (v := _) rfl (by kernel_rfl) (by kernel_rfl) (by kernel_rfl) (by kernel_rfl) (fun _ _ _ h => h) (by assumption) (Or.inl ⟨by rfl, ?hy141⟩) (fun _ => rfl) ?rest141
             case hy141 => (intro w hSw; (try dsimp only at hSw); go_simp; try with_reducible rfl))
          | (refine ordS_take (i := 9) (oi := { dst := some 9, op := Op.assign (Operand.tmp 43), type := 45, pos := _, after := #[{ on := 7, ground := Ground.data }, { on := 8, ground := Ground.chain }, { on := 0, ground := Ground.phase }, { on := 1, ground := Ground.phase }, { on := 2, ground := Ground.phase }, { on := 3, ground := Ground.phase }, { on := 4, ground := Ground.phase }, { on := 5, ground := Ground.phase }, { on := 6, ground := Ground.phase }, { on := 7, ground := Ground.phase }, { on := 8, ground := Ground.phase }], guard := none }) (v := undef) rfl (by kernel_rfl) (by kernel_rfl) (by kernel_rfl) (by kernel_rfl) (fun _ _ _ h => h) (by assumption) (Or.inr ⟨by rfl, rfl⟩) (fun _ => rfl) ?_)
        try simp only [Act.put, List.setIfInBounds_toArray, List.set_cons_zero, List.set_cons_succ]
        first
          | (refine' ordS_take (i := 10) (oi := { dst := some 10, op := Op.assign (Operand.const (Value.int IntKind.i64 0)), type := 34, pos := _, after := #[{ on := 9, ground := Ground.chain }, { on := 0, ground := Ground.phase }, { on := 1, ground := Ground.phase }, { on := 2, ground := Ground.phase }, { on := 3, ground := Ground.phase }, { on := 4, ground := Ground.phase }, { on := 5, ground := Ground.phase }, { on := 6, ground := Ground.phase }, { on := 7, ground := Ground.phase }, { on := 8, ground := Ground.phase }, { on := 9, ground := Ground.phase }], guard := none }) (v := _) rfl (by kernel_rfl) (by kernel_rfl) (by kernel_rfl) (by kernel_rfl) (fun _ _ _ h => h) (by assumption) (Or.inl ⟨by rfl, ?hy142⟩) (fun _ => rfl) ?rest142
             case hy142 => (intro w hSw; (try dsimp only at hSw); go_simp; try with_reducible rfl))
          | (refine ordS_take (i := 10) (oi := { dst := some 10, op := Op.assign (Operand.const (Value.int IntKind.i64 0)), type := 34, pos := _, after := #[{ on := 9, ground := Ground.chain }, { on := 0, ground := Ground.phase }, { on := 1, ground := Ground.phase }, { on := 2, ground := Ground.phase }, { on := 3, ground := Ground.phase }, { on := 4, ground := Ground.phase }, { on := 5, ground := Ground.phase }, { on := 6, ground := Ground.phase }, { on := 7, ground := Ground.phase }, { on := 8, ground := Ground.phase }, { on := 9, ground := Ground.phase }], guard := none }) (v := undef) rfl (by kernel_rfl) (by kernel_rfl) (by kernel_rfl) (by kernel_rfl) (fun _ _ _ h => h) (by assumption) (Or.inr ⟨by rfl, rfl⟩) (fun _ => rfl) ?_)
        try simp only [Act.put, List.setIfInBounds_toArray, List.set_cons_zero, List.set_cons_succ]
        refine ordS_done (by kernel_rfl) ?_
        have HB := Lib.hid (bl_tr hA3 hD)
        have HRC := Lib.hid hrc
        have HPL := Lib.hid hpl
        clear hD hrc hpl hS hS4 hH hway
        go_wp2
        refine bodyPost_ret (v := .tuple #[.slice ga l.length cap4, .int .u64 d, .int .i64 0]) (by simp [results, Tryd.results20, go_sem]) rfl ?_
        refine ⟨⟨ga, cap4, l, d, 0, rfl, HRC.out, HPL.out, fun h => absurd rfl h, fun _ => ⟨fun h => (by rw [HH.out] at h; cases h), fun _ ds' h1 h2 => ?_⟩⟩, HB.out⟩
        have e := far_same HG.out h2 HFAR.out (by rw [h1, HDL.out])
        subst e
        rw [HTI.out]
        exact ⟨fun h => absurd h HDI.out, fun _ => ⟨rfl, HDD.out.symm, HL.out.symm⟩⟩
end Go.Proofs.YtofpoenehdmkpaaDoor

/- Least costs: the laws' helpers; the chapter's example. -/
namespace Go.Proofs.YtofpoenehdmkpaaDoor
open Go.RowKit

theorem take_sameC {xs ys : List (Int × Int)} {k : Nat} (hk : k < xs.length) (hk2 : k < ys.length) (h : xs.take k = ys.take k) (e : xs[k] = ys[k]) : xs.take (k + 1) = ys.take (k + 1) := by
  rw [List.take_succ_eq_append_getElem hk, List.take_succ_eq_append_getElem hk2, h, e]
theorem take_allC {xs ys : List (Int × Int)} {k : Nat} (h1 : xs.length ≤ k) (h2 : xs.length = ys.length) (h : xs.take k = ys.take k) : xs = ys := by
  rw [List.take_of_length_le h1, List.take_of_length_le (by omega)] at h
  exact h
set_option maxHeartbeats 2000000 in
theorem cells_any (a a2 : Option Addr) (cap cap2 : Nat) (xs ys : List (Int × Int)) (w : World) (hr : RowC w a xs) (hr2 : RowC w a2 ys) (hl : xs.length ≤ 1048576) :
    Calls Tryd.prog 22 #[.slice a xs.length cap, .slice a2 ys.length cap2] w fun e w' => e = .returned (.bool (decide (xs = ys))) ∧ Below w.heap.size w w' := by
  have hl2 : (xs.length : Int) ≤ 1048576 := by omega
  by_cases he : xs.length = ys.length
  · have h1 : ((xs.length : Int) != (ys.length : Int)) = false := by rw [bne_eq_false_iff_eq]; omega
    have HE := Lib.hid he
    clear he
    have hA0 := bl0 w
    go_enter Tryd.func22, Tryd.ntmps22
    go_wp2
    go_loopw [5] (fun i wr => ∃ k : Nat, k ≤ xs.length ∧ i = .int .i64 k ∧ xs.take k = ys.take k ∧ Below w.heap.size w wr) (fun i _ => xs.length - (intOf i).toNat)
    case atStart => exact ⟨0, Nat.zero_le _, rfl, rfl, hA0⟩
    case round =>
      obtain ⟨k, hk, rfl, ht, hB⟩ := hrel
      have HT := Lib.hid ht
      clear hA0 ht
      by_cases hlt : k < xs.length
      · have hlt2 : (k : Int) < (xs.length : Int) := by omega
        have hk0 : (0 : Int) ≤ (k : Int) := by omega
        have hlty : k < ys.length := by rw [← HE.out]; exact hlt
        obtain ⟨gb, go, rfl, q0, q1⟩ := hr.cell hlt
        obtain ⟨gb2, go2, rfl, r0, r1⟩ := hr2.cell hlty
        replace q0 := cell_later hB q0
        replace q1 := cell_later hB q1
        replace r0 := cell_later hB r0
        replace r1 := cell_later hB r1
        have hlty2 : (k : Int) < (ys.length : Int) := by omega
        clear hr hr2
        by_cases hx : xs[k] = ys[k]
        · have HS := Lib.hid (take_sameC hlt hlty HT.out hx)
          rw [← hx] at r0 r1
          clear hx
          generalize xs[k].1 = x at *
          generalize xs[k].2 = y at *
          have b1 := beq_self_eq_true x
          have b2 := beq_self_eq_true y
          go_wp2
          go_quiet (fail)
          go_wp2
          go_roundw
          case rel => exact ⟨k + 1, by omega, by go_num, HS.out, bl_tr hB (bl_drn _ _)⟩
          case measure => simp [intOf]; omega
        · have HS := Lib.hid (show xs ≠ ys by rintro rfl; exact hx rfl)
          by_cases h2 : xs[k].1 = ys[k].1
          · have h3 : (xs[k].2 == ys[k].2) = false := by rw [beq_eq_false_iff_ne]; exact fun e => hx (Prod.ext h2 e)
            rw [← h2] at r0
            clear hx h2
            generalize xs[k].1 = x at *
            generalize xs[k].2 = y at *
            generalize ys[k].2 = y' at *
            have b1 := beq_self_eq_true x
            go_wp2
            go_quiet (fail)
            go_wp2
            go_ret
            exact ⟨ret_bool (by simp [HS.out]), bl_tr hB (bl_drn _ _)⟩
          · have h3 : (xs[k].1 == ys[k].1) = false := by rw [beq_eq_false_iff_ne]; exact h2
            clear hx h2
            generalize xs[k].1 = x at *
            generalize xs[k].2 = y at *
            generalize ys[k].1 = x' at *
            generalize ys[k].2 = y' at *
            go_wp2
            go_quiet (fail)
            go_wp2
            go_ret
            exact ⟨ret_bool (by simp [HS.out]), bl_tr hB (bl_drn _ _)⟩
      · have hge : (xs.length : Int) ≤ (k : Int) := by omega
        have HS := Lib.hid (take_allC (by omega) HE.out HT.out)
        go_wp2
        go_ret
        exact ⟨ret_bool (by simp [HS.out]), hB⟩
  · have h1 : ((xs.length : Int) != (ys.length : Int)) = true := by rw [bne_iff_ne]; omega
    have HE := Lib.hid (show xs ≠ ys from fun e => he (by rw [e]))
    clear he
    go_enter Tryd.func22, Tryd.ntmps22
    go_wp2
    go_ret
    exact ⟨ret_bool (by simp [HE.out]), bl0 _⟩

set_option maxHeartbeats 2000000 in
theorem same8_any (a a2 : Option Addr) (cap cap2 : Nat) (xs ys : List Int) (w : World) (hr : RowU w a xs) (hr2 : RowU w a2 ys) (hl : xs.length ≤ 140737488355328) :
    Calls Tryd.prog 17 #[.slice a xs.length cap, .slice a2 ys.length cap2] w fun e w' => e = .returned (.bool (decide (xs = ys))) ∧ Below w.heap.size w w' := by
  have hl2 : (xs.length : Int) ≤ 140737488355328 := by omega
  by_cases he : xs.length = ys.length
  · have h1 : ((xs.length : Int) != (ys.length : Int)) = false := by rw [bne_eq_false_iff_eq]; omega
    have HE := Lib.hid he
    clear he
    have hA0 := bl0 w
    go_enter Tryd.func17, Tryd.ntmps17
    go_wp2
    go_loopw [5] (fun i wr => ∃ k : Nat, k ≤ xs.length ∧ i = .int .i64 k ∧ xs.take k = ys.take k ∧ Below w.heap.size w wr) (fun i _ => xs.length - (intOf i).toNat)
    case atStart => exact ⟨0, Nat.zero_le _, rfl, rfl, hA0⟩
    case round =>
      obtain ⟨k, hk, rfl, ht, hB⟩ := hrel
      have HT := Lib.hid ht
      clear hA0 ht
      by_cases hlt : k < xs.length
      · have hlt2 : (k : Int) < (xs.length : Int) := by omega
        have hk0 : (0 : Int) ≤ (k : Int) := by omega
        have hlty : k < ys.length := by rw [← HE.out]; exact hlt
        obtain ⟨gb, go, rfl, q⟩ := hr.cell hlt
        rw [← atD_get hlt] at q
        obtain ⟨gb2, go2, rfl, q2⟩ := hr2.cell hlty
        rw [← atD_get hlty] at q2
        replace q := cell_later hB q
        replace q2 := cell_later hB q2
        have hlty2 : (k : Int) < (ys.length : Int) := by omega
        clear hr hr2
        by_cases hx : xs[k] = ys[k]
        · have HS := Lib.hid (take_same hlt hlty HT.out hx)
          have hx2 : (xs[k] != ys[k]) = false := by rw [bne_eq_false_iff_eq]; exact hx
          clear hx
          generalize xs[k] = x at *
          generalize ys[k] = y at *
          go_wp2
          go_quiet (fail)
          go_wp2
          go_roundw
          case rel => exact ⟨k + 1, by omega, by go_num, HS.out, bl_tr hB (bl_drn _ _)⟩
          case measure => simp [intOf]; omega
        · have HS := Lib.hid (not_same_at hlt hlty hx)
          have hx2 : (xs[k] != ys[k]) = true := by rw [bne_iff_ne]; exact hx
          clear hx
          generalize xs[k] = x at *
          generalize ys[k] = y at *
          go_wp2
          go_quiet (fail)
          go_wp2
          go_ret
          exact ⟨ret_bool (by simp [HS.out]), bl_tr hB (bl_drn _ _)⟩
      · have hge : (xs.length : Int) ≤ (k : Int) := by omega
        have HS := Lib.hid (take_all (by omega) HE.out HT.out)
        go_wp2
        go_ret
        exact ⟨ret_bool (by simp [HS.out]), hB⟩
  · have h1 : ((xs.length : Int) != (ys.length : Int)) = true := by rw [bne_iff_ne]; omega
    have HE := Lib.hid (show xs ≠ ys from fun e => he (by rw [e]))
    clear he
    go_enter Tryd.func17, Tryd.ntmps17
    go_wp2
    go_ret
    exact ⟨ret_bool (by simp [HE.out]), bl0 _⟩

set_option maxHeartbeats 400000 in
theorem small8_any (A B : Int) (a : Option Addr) (n cap : Nat) (w : World) :
    Calls Tryd.prog 13 #[.agg #[.int .i64 A, .int .i64 B, .slice a n cap]] w fun e w' => e = .returned (.bool (decide ((n : Int) ≤ 150))) ∧ Below w.heap.size w w' := by
  go_enter Tryd.func13, Tryd.ntmps13
  go_wp2
  go_ret
  exact ⟨rfl, bl_al (bl0 _) _⟩

/-- The example's field, and what is told of it. -/
def zAw : List Int := [1, 2, 1, 1, 9, 1]
def dAw : List Int := [0, 2, 3, 1, 10, 4]
def okAw : Bool := (List.range 6).all fun i => (List.range 6).all fun j => !(nbL 3 2 i).contains j || (decide (atD dAw i ≤ atD dAw j + zAw.getD i 0) && decide (zAw.getD i 0 ≠ 0))
def ofAw : Bool := (List.range 6).all fun i => i == 0 || (List.range 6).any fun j => (nbL 3 2 i).contains j && decide (atD dAw i = atD dAw j + zAw.getD i 0)
def bdAw : Bool := (List.range 6).all fun i => decide (0 ≤ atD dAw i ∧ atD dAw i ≤ 4294967296) && inBx (0, 0, 3, 2) (cellN 3 i) && decide (zAw.getD i 0 ≠ 0)
theorem far_aw : Far (gphB 3 2 (0, 0, 3, 2) zAw) 0 (atD dAw) := by
  have h1 : okAw = true := by kernel_rfl
  have h2 : ofAw = true := by kernel_rfl
  have h3 : bdAw = true := by kernel_rfl
  unfold okAw at h1
  unfold ofAw at h2
  unfold bdAw at h3
  simp only [List.all_eq_true, List.any_eq_true, List.mem_range, Bool.or_eq_true, Bool.and_eq_true, decide_eq_true_eq, Bool.not_eq_true', List.contains_eq_mem, decide_eq_false_iff_not, beq_iff_eq] at h1 h2 h3
  have hlen : zAw.length = 6 := rfl
  have hop : ∀ i, i < 6 → (gphB 3 2 (0, 0, 3, 2) zAw).opn i := fun i hi => gphB_opn.2 ⟨hi, (h3 i hi).1.2, (h3 i hi).2⟩
  have hk : ∀ i, i < 6 → (gphB 3 2 (0, 0, 3, 2) zAw).k i = zAw.getD i 0 := fun i hi => gphB_k (h3 i hi).1.2
  have hno : ∀ i, 6 ≤ i → atD dAw i = 18446744073709551615 := fun i hi => atD_none hi
  refine ⟨fun i => ?_, fun i hi => ?_, fun _ => rfl, fun i j hi hj hn _ => ?_, fun i hi hf => ?_, fun h => absurd (hop 0 (by decide)) h⟩
  · by_cases h : i < 6
    · exact .inr (h3 i h).1.1
    · exact .inl (hno i (by omega))
  · by_cases h : i < 6
    · exact absurd (hop i h) hi
    · exact hno i (by omega)
  · have hi6 := (gphB_opn.1 hi).1
    have hj6 := (gphB_opn.1 hj).1
    rw [hlen] at hi6 hj6
    rw [hk i hi6]
    rcases h1 i hi6 j hj6 with h | h
    · exact absurd hn h
    · exact h.1
  · by_cases h : i < 6
    · rcases h2 i h with h | ⟨j, hj, h4, h5⟩
      · exact absurd h hi
      · refine ⟨j, h4, hop j hj, ?_, by rw [hk i h]; exact h5⟩
        have := (h3 j hj).1.1
        omega
    · exact absurd (hno i (by omega)) hf
theorem path_aw : pathL 3 2 zAw dAw 5 = [(0, 0), (1, 0), (2, 0), (2, 1)] := by kernel_rfl
theorem errW_aw : errW 3 2 6 (0, 0, 3, 2) (0, 0) = 0 := by kernel_rfl
end Go.Proofs.YtofpoenehdmkpaaDoor

/- Least costs: the chapter's example is as it says. -/
namespace Go.Proofs.YtofpoenehdmkpaaDoor
open Go.RowKit

theorem zAw_in : AllH zAw := by
  intro z hz
  simp only [zAw, List.mem_cons, List.not_mem_nil, or_false] at hz
  rcases hz with rfl | rfl | rfl | rfl | rfl | rfl <;> exact ⟨by decide, by decide⟩
theorem from_aw (b : Nat) (w : World) (hr : RowH w (some ⟨b, 0, none⟩) zAw) (hst : Stp w) :
    Calls Tryd.prog 19 #[.agg #[.int .i64 3, .int .i64 2, .slice (some ⟨b, 0, none⟩) 6 6], .agg #[.int .i64 0, .int .i64 0]] w fun e w' => (∃ a' cap', e = .returned (.tuple #[.slice a' 6 cap', .int .i64 0]) ∧ RowU w' a' dAw) ∧ Below w.heap.size w w' := by
  refine (from_any 3 2 (some ⟨b, 0, none⟩) 6 zAw (0, 0) w zAw_in hr hst).mono ?_
  rintro e w' ⟨⟨a, cap, ds, he, h2, h3, h4⟩, hb⟩
  have hE : errW 3 2 zAw.length (0, 0, 3, 2) (0, 0) = 0 := errW_aw
  rw [hE] at he h4
  obtain ⟨h5, h6⟩ := h4 rfl
  have hG : (gphB 3 2 (0, 0, 3, 2) zAw).Ok := gphB_ok (by decide) (by decide) zAw_in
  have h7 : ds = dAw := far_same hG h6 far_aw (by rw [h5]; rfl)
  subst h7
  exact ⟨⟨a, cap, he, h2⟩, hb⟩
theorem path_aw_any (b : Nat) (w : World) (hr : RowH w (some ⟨b, 0, none⟩) zAw) (hst : Stp w) :
    Calls Tryd.prog 20 #[.agg #[.int .i64 3, .int .i64 2, .slice (some ⟨b, 0, none⟩) 6 6], .agg #[.int .i64 0, .int .i64 0, .int .i64 3, .int .i64 2], .agg #[.int .i64 0, .int .i64 0], .agg #[.int .i64 2, .int .i64 1]] w fun e w' => (∃ a' cap', e = .returned (.tuple #[.slice a' 4 cap', .int .u64 4, .int .i64 0]) ∧ RowC w' a' [(0, 0), (1, 0), (2, 0), (2, 1)]) ∧ Below w.heap.size w w' := by
  refine (path_any 3 2 (some ⟨b, 0, none⟩) 6 zAw (0, 0, 3, 2) (0, 0) (2, 1) w zAw_in hr hst).mono ?_
  rintro e w' ⟨⟨a, cap, l, cost, er, he, h2, h3, h4, h5⟩, hb⟩
  have hE : errW 3 2 zAw.length (0, 0, 3, 2) (0, 0) = 0 := errW_aw
  obtain ⟨h6, h7⟩ := (h5 hE).2 (by kernel_rfl) dAw rfl far_aw
  obtain ⟨rfl, h8, h9⟩ := h7 (by decide)
  have e1 : cost = 4 := h8
  have e2 : l = [(0, 0), (1, 0), (2, 0), (2, 1)] := h9.trans path_aw
  subst e1
  subst e2
  exact ⟨⟨a, cap, he, h2⟩, hb⟩
theorem row_lit {W : World} {b : Nat} {cs : Array Value} {t : TypeId} {zs : List Int} (h : W.heap[b]? = some (.cells cs t (0, 0))) (hc : cs = (zs.map (Value.int .u16)).toArray) : RowH W (some ⟨b, 0, none⟩) zs := by
  refine .inr ⟨b, 0, rfl, fun i z hz => ?_⟩
  rw [Nat.zero_add]
  simp only [World.cell?, h, hc]
  simp [hz]
theorem rowU_lit {W : World} {b : Nat} {cs : Array Value} {t : TypeId} {zs : List Int} (h : W.heap[b]? = some (.cells cs t (0, 0))) (hc : cs = (zs.map (Value.int .u64)).toArray) : RowU W (some ⟨b, 0, none⟩) zs := by
  refine .inr ⟨b, 0, rfl, fun i z hz => ?_⟩
  rw [Nat.zero_add]
  simp only [World.cell?, h, hc]
  simp [hz]
theorem rowC_lit {W : World} {b : Nat} {cs : Array Value} {t : TypeId} {zs : List IC} (h : W.heap[b]? = some (.cells cs t (0, 0))) (hc : cs = (flatC zs).toArray) : RowC W (some ⟨b, 0, none⟩) zs := by
  refine .inr ⟨b, 0, rfl, fun i z hz => ?_⟩
  obtain ⟨e0, e1⟩ := flatC_at zs i z hz
  rw [Nat.zero_add]
  simp only [World.cell?, h, hc]
  simp [e0, e1]

set_option maxRecDepth 100000 in
set_option maxHeartbeats 4000000 in
theorem awake8 (w : World) (hst : Stp w) : Calls Tryd.prog 14 #[] w fun e w' => e = .returned (.bool true) ∧ Below w.heap.size w w' := by
  go_enter Tryd.func14, Tryd.ntmps14
  go_wp2_with fail
  have hA := bl_al (bl_al (bl0 w) (.cells #[.int .u16 1, .int .u16 2, .int .u16 1, .int .u16 1, .int .u16 9, .int .u16 1] 53)) (.cells #[.int .i64 3, .int .i64 2, .slice (some ⟨w.heap.size, 0, none⟩) 6 6] 26)
  have hrow : RowH ((w.alloc (.cells #[.int .u16 1, .int .u16 2, .int .u16 1, .int .u16 1, .int .u16 9, .int .u16 1] 53)).alloc (.cells #[.int .i64 3, .int .i64 2, .slice (some ⟨w.heap.size, 0, none⟩) 6 6] 26)) (some ⟨w.heap.size, 0, none⟩) zAw :=
    row_lit (two_allocs _ _ _).1 rfl
  refine (from_aw w.heap.size _ hrow (hst.below hA)).mono ?_
  rintro e w1 ⟨⟨a1, cap1, rfl, hu1⟩, hb1⟩
  have hA1 := bl_tr hA hb1
  have hrow1 := hrow.below hb1
  have f0 := cell_later hb1 (v := .int .i64 3) (a := ⟨w.heap.size + 1, 0, none⟩) (by simp [go_sem])
  have f1 := cell_later hb1 (v := .int .i64 2) (a := ⟨w.heap.size + 1, 1, none⟩) (by simp [go_sem])
  have f2 := cell_later hb1 (v := .slice (some ⟨w.heap.size, 0, none⟩) 6 6) (a := ⟨w.heap.size + 1, 2, none⟩) (by simp [go_sem])
  clear hA hrow hb1
  go_wp2_with fail
  refine (path_aw_any w.heap.size _ hrow1 (hst.below hA1)).mono ?_
  rintro e w2 ⟨⟨a2, cap2, rfl, hc2⟩, hb2⟩
  have hA2 := bl_tr hA1 hb2
  have hu2 := hu1.below hb2
  clear hA1 hrow1 hb2 hu1 f0 f1 f2
  go_wp2_with fail
  have hA3 := bl_al hA2 (.cells #[.int .u64 0, .int .u64 2, .int .u64 3, .int .u64 1, .int .u64 10, .int .u64 4] 45)
  have hl3 : RowU (w2.alloc (.cells #[.int .u64 0, .int .u64 2, .int .u64 3, .int .u64 1, .int .u64 10, .int .u64 4] 45)) (some ⟨w2.heap.size, 0, none⟩) dAw := rowU_lit (heap_alloc_new _ _) rfl
  have hcall := same8_any a1 (some ⟨w2.heap.size, 0, none⟩) cap1 6 dAw dAw _ (hu2.below (bl_al (bl0 w2) _)) hl3 (by decide)
  rw [show decide (dAw = dAw) = true from decide_eq_true rfl, show dAw.length = 6 from rfl] at hcall
  refine hcall.mono ?_
  rintro e w3 ⟨rfl, hb3⟩
  have hc3 := hc2.below (bl_tr (bl_al (bl0 w2) _) hb3)
  have hA4 := bl_tr hA3 hb3
  clear hA2 hA3 hl3 hu2 hcall hb3 hc2
  go_wp2_with fail
  have hl4 : RowC (w3.alloc (.cells #[.int .i64 0, .int .i64 0, .int .i64 1, .int .i64 0, .int .i64 2, .int .i64 0, .int .i64 2, .int .i64 1] 30)) (some ⟨w3.heap.size, 0, none⟩) [(0, 0), (1, 0), (2, 0), (2, 1)] := rowC_lit (heap_alloc_new _ _) rfl
  have hcall := cells_any a2 (some ⟨w3.heap.size, 0, none⟩) cap2 4 [(0, 0), (1, 0), (2, 0), (2, 1)] [(0, 0), (1, 0), (2, 0), (2, 1)] _ (hc3.below (bl_al (bl0 w3) _)) hl4 (by decide)
  rw [decide_eq_true rfl] at hcall
  try simp only [List.length_cons, List.length_nil, Nat.reduceAdd] at hcall
  refine hcall.mono ?_
  rintro e w4 ⟨rfl, hb4⟩
  have hA5 := bl_tr (bl_al hA4 _) hb4
  clear hA4 hl4 hcall hb4 hc3
  go_wp2_with fail
  go_ret
  exact ⟨rfl, hA5⟩
end Go.Proofs.YtofpoenehdmkpaaDoor

/- Least costs: the laws' plain helpers: whether a box has a cell, the next cell, how far a cell is. -/
namespace Go.Proofs.YtofpoenehdmkpaaDoor
open Go.RowKit

def wf64 (n : Int) : Prop := -9223372036854775808 ≤ n ∧ n ≤ 9223372036854775807
set_option maxRecDepth 100000 in
set_option maxHeartbeats 4000000 in
theorem rhas8_any (X Y U V : Int) (c : IC) (w : World) (hb : rightB X Y U V = true) (h0 : 0 ≤ X ∧ 0 ≤ Y) (hc : wf64 c.1 ∧ wf64 c.2) :
    Calls Tryd.prog 21 #[.agg #[.int .i64 X, .int .i64 Y, .int .i64 U, .int .i64 V], .agg #[.int .i64 c.1, .int .i64 c.2]] w fun e w' => e = .returned (.bool (inBx (X, Y, U, V) c)) ∧ Below w.heap.size w w' := by
  obtain ⟨r1, r2, r3, r4, r5, r6, r7, r8⟩ := rightB_iff.1 hb
  unfold wf64 at hc
  obtain ⟨t, ht⟩ : ∃ t, inBx (X, Y, U, V) c = t := ⟨_, rfl⟩
  have hiff : t = true ↔ X ≤ c.1 ∧ c.1 < X + U ∧ Y ≤ c.2 ∧ c.2 < Y + V := by
    rw [← ht]
    show hasB X Y U V c.1 c.2 = true ↔ _
    rw [hasB_iff]
    exact ⟨fun h => h.2, fun h => ⟨hb, h⟩⟩
  rw [ht]
  have HIFF := Lib.hid hiff
  clear ht hiff hb
  have hA := bl_al (bl_al (bl0 w) (.cells #[.int .i64 X, .int .i64 Y, .int .i64 U, .int .i64 V] 28)) (.cells #[.int .i64 c.1, .int .i64 c.2] 30)
  by_cases h1 : X ≤ c.1
  · have hw1 : IntKind.i64.wrap (c.1 - X) = c.1 - X := IntWalk.i64_in _ (by omega)
    by_cases h2 : Y ≤ c.2
    · have hw2 : IntKind.i64.wrap (c.2 - Y) = c.2 - Y := IntWalk.i64_in _ (by omega)
      by_cases h3 : c.1 - X < U
      · by_cases h4 : c.2 - Y < V
        · have d4 : decide (c.2 - Y < V) = true := decide_eq_true h4
          have htt : t = true := HIFF.out.2 ⟨by omega, by omega, by omega, by omega⟩
          subst htt
          go_enter Tryd.func21, Tryd.ntmps21
          go_wp2
          go_ret
          exact ⟨rfl, hA⟩
        · have htt : t = false := by cases t; rfl; have := HIFF.out.1 rfl; omega
          subst htt
          go_enter Tryd.func21, Tryd.ntmps21
          go_wp2
          go_ret
          exact ⟨rfl, hA⟩
      · have htt : t = false := by cases t; rfl; have := HIFF.out.1 rfl; omega
        subst htt
        go_enter Tryd.func21, Tryd.ntmps21
        go_wp2
        go_ret
        exact ⟨rfl, hA⟩
    · have htt : t = false := by cases t; rfl; have := HIFF.out.1 rfl; omega
      subst htt
      go_enter Tryd.func21, Tryd.ntmps21
      go_wp2
      go_ret
      exact ⟨rfl, hA⟩
  · have htt : t = false := by cases t; rfl; have := HIFF.out.1 rfl; omega
    subst htt
    go_enter Tryd.func21, Tryd.ntmps21
    go_wp2
    go_ret
    exact ⟨rfl, hA⟩

set_option maxRecDepth 100000 in
set_option maxHeartbeats 1600000 in
theorem eql_cell (a b : IC) (w : World) : (Op.equalIn 10000 30 (.agg #[.int .i64 a.1, .int .i64 a.2]) (.agg #[.int .i64 b.1, .int .i64 b.2])).run Tryd.prog w = .ok (decide (a = b)) w := by
  have u1 := Tryd.underlying30
  have u3 := Tryd.underlying3
  obtain ⟨r, hr⟩ : ∃ r, decide (a = b) = r := ⟨_, rfl⟩
  rw [hr]
  by_cases h1 : a.1 = b.1
  · have n1 : (a.1 == b.1) = true := by rw [beq_iff_eq]; exact h1
    by_cases h2 : a.2 = b.2
    · have n2 : (a.2 == b.2) = true := by rw [beq_iff_eq]; exact h2
      have e : r = true := by rw [← hr]; exact decide_eq_true (Prod.ext h1 h2)
      subst e
      clear h1 h2 hr
      go_simp
    · have n2 : (a.2 == b.2) = false := by rw [beq_eq_false_iff_ne]; exact h2
      have e : r = false := by rw [← hr]; exact decide_eq_false (fun q => h2 (by rw [q]))
      subst e
      clear h1 h2 hr
      go_simp
  · have n1 : (a.1 == b.1) = false := by rw [beq_eq_false_iff_ne]; exact h1
    have e : r = false := by rw [← hr]; exact decide_eq_false (fun q => h1 (by rw [q]))
    subst e
    clear h1 hr
    go_simp

set_option maxRecDepth 100000 in
set_option maxHeartbeats 4000000 in
theorem rfits8_yes (A B X Y U V : Int) (w : World) (hf : fitsB A B X Y U V = true) :
    Calls Tryd.prog 44 #[.agg #[.int .i64 A, .int .i64 B], .agg #[.int .i64 X, .int .i64 Y, .int .i64 U, .int .i64 V]] w fun e w' => e = .returned (.bool true) ∧ Below w.heap.size w w' := by
  obtain ⟨g1, g2, g3, g4, g5, g6, g7, g8⟩ := fitsB_iff.1 hf
  obtain ⟨r1, r2, r3, r4, r5, r6, r7, r8⟩ := rightB_iff.1 g1
  obtain ⟨m1, m2, m3, m4⟩ := mayB_iff.1 g2
  have k1 : (1 : Int) ≤ U := by omega
  have k2 : (1 : Int) ≤ V := by omega
  have k3 : X < A := by omega
  have k4 : Y < B := by omega
  have k5 : U ≤ A - X := by omega
  have k6 : V ≤ B - Y := by omega
  have hw1 : IntKind.i64.wrap (A - X) = A - X := IntWalk.i64_in _ (by omega)
  have hw2 : IntKind.i64.wrap (B - Y) = B - Y := IntWalk.i64_in _ (by omega)
  clear g1 g2 g3 g4 g7 g8 hf r1 r2 r3 r4 r5 r6 r7 r8 m1 m2 m3 m4
  go_enter Tryd.func44, Tryd.ntmps44
  go_wp2
  go_ret
  exact ⟨rfl, bl_al (bl_al (bl0 _) _) _⟩

set_option maxRecDepth 100000 in
set_option maxHeartbeats 4000000 in
theorem rstep8_any (X Y d : Int) (w : World) (hp : plainB X Y = true) (h0 : 0 ≤ d) (h4 : d < 4) :
    Calls Tryd.prog 25 #[.agg #[.int .i64 X, .int .i64 Y], .int .i64 d] w fun e w' => e = .returned (.agg #[.int .i64 (stepI (X, Y) d).1, .int .i64 (stepI (X, Y) d).2]) ∧ Below w.heap.size w w' := by
  obtain ⟨a1, a2, a3, a4⟩ := plainB_iff.1 hp
  obtain ⟨Z, hZ⟩ : ∃ Z, (stepI (X, Y) d).1 = Z := ⟨_, rfl⟩
  obtain ⟨W, hW⟩ : ∃ W, (stepI (X, Y) d).2 = W := ⟨_, rfl⟩
  rw [hZ, hW]
  obtain rfl | rfl | rfl | rfl : d = 0 ∨ d = 1 ∨ d = 2 ∨ d = 3 := by omega
  all_goals
    simp [stepI, dxI, dyI] at hZ hW
    subst hZ hW
    go_enter Tryd.func25, Tryd.ntmps25
    go_wp2
    refine bodyPost_ret (v := .agg #[.int .i64 _, .int .i64 _]) (by simp [results, Tryd.results25, go_sem] <;> omega) rfl ⟨rfl, ?_⟩
    first
    | exact bl_al (bl_al (bl0 _) _) _
    | exact bl_al (bl_st (bl_al (bl0 _) _) (by omega) _) _
    | exact bl_st (bl_st (bl_al (bl_al (bl0 _) _) _) (by omega) _) (by omega) _
    | exact bl_st (bl_st (bl_st (bl_al (bl_al (bl0 _) _) _) (by omega) _) (by omega) _) (by omega) _

/-- How far a cell is; none of one that is not in a box. -/
def atBx (A : Int) (b : BX) (ds : List Int) (c : IC) : Int := if inBx b c = true then atD ds (numN A c) else 18446744073709551615
set_option maxRecDepth 100000 in
set_option maxHeartbeats 4000000 in
theorem at8_any (A B : Int) (a a2 : Option Addr) (n cap cap2 : Nat) (ds : List Int) (X Y U V : Int) (c : IC) (w : World) (hf : fitsB A B X Y U V = true) (hn : (ds.length : Int) = A * B) (hru : RowU w a2 ds) (hc : wf64 c.1 ∧ wf64 c.2) :
    Calls Tryd.prog 24 #[.agg #[.int .i64 A, .int .i64 B, .slice a n cap], .agg #[.int .i64 X, .int .i64 Y, .int .i64 U, .int .i64 V], .slice a2 ds.length cap2, .agg #[.int .i64 c.1, .int .i64 c.2]] w fun e w' => e = .returned (.int .u64 (atBx A (X, Y, U, V) ds c)) ∧ Below w.heap.size w w' := by
  obtain ⟨g1, g2, g3, g4, g5, g6, g7, g8⟩ := fitsB_iff.1 hf
  have hA := bl0 w
  have hh := fun w => rhas8_any X Y U V c w g1 ⟨g5, g6⟩ hc
  cases hin : inBx (X, Y, U, V) c
  · have e : atBx A (X, Y, U, V) ds c = 18446744073709551615 := by unfold atBx; rw [if_neg (by rw [hin]; decide)]
    rw [e]
    rw [hin] at hh
    clear hin e
    go_enter Tryd.func24, Tryd.ntmps24
    go_wp2_with fail
    refine (hh _).mono ?_
    rintro e w1 ⟨rfl, hb⟩
    have hk : Below w.heap.size w w1 := by first | exact hb | exact bl_tr (bl_al (bl0 _) _) hb | exact bl_tr (bl_dr (bl_al (bl0 _) _)) hb | exact bl_tr (bl_al (bl_al (bl0 _) _) _) hb | exact bl_tr (bl_dr (bl_al (bl_al (bl0 _) _) _)) hb | exact bl_tr (bl_al (bl_al (bl_al (bl0 _) _) _) _) hb | exact bl_tr (bl_dr (bl_al (bl_al (bl_al (bl0 _) _) _) _)) hb | exact bl_tr (bl_al (bl_al (bl_al (bl_al (bl0 _) _) _) _) _) hb | exact bl_tr (bl_dr (bl_al (bl_al (bl_al (bl_al (bl0 _) _) _) _) _)) hb | exact bl_tr (bl_al (bl_al (bl_al (bl_al (bl_al (bl0 _) _) _) _) _) _) hb | exact bl_tr (bl_dr (bl_al (bl_al (bl_al (bl_al (bl_al (bl0 _) _) _) _) _) _)) hb | exact bl_tr (bl_al (bl_al (bl_al (bl_al (bl_al (bl_al (bl0 _) _) _) _) _) _) _) hb | exact bl_tr (bl_dr (bl_al (bl_al (bl_al (bl_al (bl_al (bl_al (bl0 _) _) _) _) _) _) _)) hb | exact bl_tr (bl_dr (bl0 _)) hb
    replace hA := bl_tr hA hk
    clear hb hk
    go_wp2
    go_ret
    exact ⟨rfl, hA⟩
  · have e : atBx A (X, Y, U, V) ds c = atD ds (numN A c) := by unfold atBx; rw [if_pos hin]
    rw [e]
    have hon := box_on (b := (X, Y, U, V)) hf hin
    obtain ⟨n1, n2⟩ := numN_int hon
    obtain ⟨p1, p2, p3, p4, p5, p6, p7, p8⟩ := inB_iff.1 hon
    obtain ⟨m1, m2⟩ := mul_bd p7 (by omega) p1 p2
    have hw1 : IntKind.i64.wrap (c.2 * A) = c.2 * A := IntWalk.i64_in _ (by omega)
    have hw2 : IntKind.i64.wrap (c.2 * A + c.1) = (numN A c : Int) := by rw [n1]; exact IntWalk.i64_in _ (by omega)
    have hil : numN A c < ds.length := by omega
    rw [hin] at hh
    generalize numN A c = i at *
    have d1 : ¬ ((i : Int) < 0) := by omega
    have d2 : decide ((ds.length : Int) ≤ (i : Int)) = false := decide_eq_false (by omega)
    have d3 : decide (ds.length ≤ i) = false := decide_eq_false (by omega)
    have hi0 : (0 : Int) ≤ (i : Int) := by omega
    have hi1 : (i : Int) < (ds.length : Int) := by omega
    clear hin e n1 n2 m1 m2 hon p1 p2 p3 p4 p5 p6 p7 p8 g1 g2 g3 g4 g5 g6 g7 g8 hf hn hc
    go_enter Tryd.func24, Tryd.ntmps24
    go_wp2_with fail
    refine (hh _).mono ?_
    rintro e w1 ⟨rfl, hb⟩
    have hk : Below w.heap.size w w1 := by first | exact hb | exact bl_tr (bl_al (bl0 _) _) hb | exact bl_tr (bl_dr (bl_al (bl0 _) _)) hb | exact bl_tr (bl_al (bl_al (bl0 _) _) _) hb | exact bl_tr (bl_dr (bl_al (bl_al (bl0 _) _) _)) hb | exact bl_tr (bl_al (bl_al (bl_al (bl0 _) _) _) _) hb | exact bl_tr (bl_dr (bl_al (bl_al (bl_al (bl0 _) _) _) _)) hb | exact bl_tr (bl_al (bl_al (bl_al (bl_al (bl0 _) _) _) _) _) hb | exact bl_tr (bl_dr (bl_al (bl_al (bl_al (bl_al (bl0 _) _) _) _) _)) hb | exact bl_tr (bl_al (bl_al (bl_al (bl_al (bl_al (bl0 _) _) _) _) _) _) hb | exact bl_tr (bl_dr (bl_al (bl_al (bl_al (bl_al (bl_al (bl0 _) _) _) _) _) _)) hb | exact bl_tr (bl_al (bl_al (bl_al (bl_al (bl_al (bl_al (bl0 _) _) _) _) _) _) _) hb | exact bl_tr (bl_dr (bl_al (bl_al (bl_al (bl_al (bl_al (bl_al (bl0 _) _) _) _) _) _) _)) hb | exact bl_tr (bl_dr (bl0 _)) hb
    replace hA := bl_tr hA hk
    clear hb hk
    obtain ⟨gd, gq, r, q⟩ := (hru.below hA).cell hil
    subst r
    clear hh hru
    go_wp2
    go_ret
    exact ⟨rfl, hA⟩

/-- The least so far, of the first k directions. -/
def wantK (A : Int) (b : BX) (ds : List Int) (c : IC) (z : Int) : Nat → Int
  | 0 => 18446744073709551615
  | k + 1 => if addC (atBx A b ds (stepI c k)) z < wantK A b ds c z k then addC (atBx A b ds (stepI c k)) z else wantK A b ds c z k
theorem wantK_ge {A : Int} {b : BX} {ds : List Int} {c : IC} {z d : Int} (hd : d ≤ 18446744073709551615) : ∀ {m : Nat}, (∀ k : Nat, k < m → d ≤ addC (atBx A b ds (stepI c k)) z) → d ≤ wantK A b ds c z m
  | 0, _ => hd
  | m + 1, h => by
    have h1 := wantK_ge hd (m := m) (fun k hk => h k (by omega))
    have h2 := h m (by omega)
    unfold wantK
    split <;> assumption
theorem wantK_le {A : Int} {b : BX} {ds : List Int} {c : IC} {z : Int} : ∀ {m k : Nat}, k < m → wantK A b ds c z m ≤ addC (atBx A b ds (stepI c k)) z ∧ wantK A b ds c z m ≤ 18446744073709551615
  | 0, k, h => by omega
  | m + 1, k, h => by
    have hinf : wantK A b ds c z m ≤ 18446744073709551615 := by
      cases m with
      | zero => exact Int.le_refl _
      | succ m => exact (wantK_le (A := A) (b := b) (ds := ds) (c := c) (z := z) (m := m + 1) (k := 0) (by omega)).2
    unfold wantK
    by_cases e : k = m
    · subst e
      split <;> constructor <;> omega
    · have h1 := (wantK_le (A := A) (b := b) (ds := ds) (c := c) (z := z) (m := m) (k := k) (by omega)).1
      split <;> constructor <;> omega
theorem wantK_in {A : Int} {b : BX} {ds : List Int} {c : IC} {z : Int} (hz : 0 ≤ z) (hds : AllU ds) : ∀ m : Nat, inU (wantK A b ds c z m)
  | 0 => inU_inf
  | m + 1 => by
    have h := wantK_in (A := A) (b := b) (c := c) hz hds m
    have ha : 0 ≤ addC (atBx A b ds (stepI c m)) z := by
      have : 0 ≤ atBx A b ds (stepI c m) := by
        unfold atBx
        split
        · unfold atD
          rw [List.getD_eq_getElem?_getD]
          cases e : ds[numN A (stepI c m)]? with
          | none => decide
          | some d => exact (hds d (List.mem_of_getElem? e)).1
        · decide
      unfold addC
      split <;> omega
    unfold wantK
    split
    · exact ⟨ha, by have := h.2; omega⟩
    · exact h
/-- What is told of one, by those beside it. -/
theorem near_eq {A B : Int} {zs ds : List Int} {b : BX} {s : Nat} {c : IC} (hn : (zs.length : Int) = A * B) (hz : AllH zs) (hf : fitsB A B b.1 b.2.1 b.2.2.1 b.2.2.2 = true) (h : Far (gphB A B b zs) s (atD ds)) (hc : onB A B c = true) (hin : inBx b c = true) (h0 : zs.getD (numN A c) 0 ≠ 0) (hs : numN A c ≠ s) :
    wantK A b ds c (zs.getD (numN A c) 0) 4 = atD ds (numN A c) := by
  have hcn := cellN_num hc
  have hcl := numN_at hc hn
  have hop : (gphB A B b zs).opn (numN A c) := gphB_opn.2 ⟨hcl, by rw [hcn]; exact hin, h0⟩
  have hk : (gphB A B b zs).k (numN A c) = zs.getD (numN A c) 0 := gphB_k (by rw [hcn]; exact hin)
  have hzb := getD_in hz (numN A c)
  have hbd := h.bd (numN A c)
  have hmem : ∀ k : Nat, k < 4 → onB A B (stepI c k) = true → numN A (stepI c k) ∈ nbL A B (numN A c) := fun k hk4 ho => mem_nbL.2 ⟨(k : Int), by omega, by omega, by rw [hcn]; exact ho, by rw [hcn]⟩
  have hge : ∀ k : Nat, k < 4 → atD ds (numN A c) ≤ addC (atBx A b ds (stepI c k)) (zs.getD (numN A c) 0) := by
    intro k hk4
    unfold atBx
    by_cases hi : inBx b (stepI c k) = true
    · rw [if_pos hi]
      have ho := box_on hf hi
      by_cases hopj : (gphB A B b zs).opn (numN A (stepI c k))
      · by_cases hfin : atD ds (numN A (stepI c k)) = 18446744073709551615
        · rw [hfin]; unfold addC; split <;> omega
        · have h1 := h.le _ _ hop hopj (hmem k hk4 ho) hfin
          rw [hk] at h1
          have h2 := h.bd (numN A (stepI c k))
          unfold addC
          split <;> omega
      · rw [h.wall _ hopj]; unfold addC; split <;> omega
    · rw [if_neg hi]; unfold addC; split <;> omega
  have h1 := wantK_ge (z := zs.getD (numN A c) 0) (h.le_inf (numN A c)) hge
  by_cases hfin : atD ds (numN A c) = 18446744073709551615
  · have h2 := (wantK_le (A := A) (b := b) (ds := ds) (c := c) (z := zs.getD (numN A c) 0) (m := 4) (k := 0) (by omega)).2
    omega
  · obtain ⟨j, hj, hoj, hfj, he⟩ := h.of _ hs hfin
    obtain ⟨d, d0, d3, ho, hjd⟩ := mem_nbL.1 hj
    rw [hcn] at ho hjd
    obtain ⟨k, rfl⟩ : ∃ k : Nat, d = k := ⟨d.toNat, by omega⟩
    have hin2 : inBx b (stepI c k) = true := by
      have := (gphB_opn.1 hoj).2.1
      rw [← hjd, cellN_num ho] at this
      exact this
    have h2 := (wantK_le (A := A) (b := b) (ds := ds) (c := c) (z := zs.getD (numN A c) 0) (m := 4) (k := k) (by omega)).1
    have h3 : addC (atBx A b ds (stepI c k)) (zs.getD (numN A c) 0) = atD ds (numN A c) := by
      unfold atBx
      rw [if_pos hin2, hjd, he, hk]
      have := h.bd j
      unfold addC
      rw [if_pos (by omega)]
    omega
end Go.Proofs.YtofpoenehdmkpaaDoor

/- Least costs: by way of a third cell: the mathematics. -/
namespace Go.Proofs.YtofpoenehdmkpaaDoor
open Go.RowKit

/-- From a cell on the way to another one that is as far as the way says. -/
theorem way_via {A B : Int} {zs ds es : List Int} {b : BX} {s i : Nat} (hm : mayB A B = true) (hn : (zs.length : Int) = A * B) (hz : AllH zs) (h : Far (gphB A B b zs) s (atD ds)) (he : Far (gphB A B b zs) i (atD es)) (hdi : atD ds i ≠ 18446744073709551615) :
    ∀ (n : Nat) (t : Nat), atD ds t ≠ 18446744073709551615 → atD ds t ≤ (n : Int) → i ∈ wayL A B zs ds t → atD es t ≠ 18446744073709551615 ∧ atD es t + atD ds i ≤ atD ds t := by
  intro n
  induction n with
  | zero =>
    intro t ht hle hmem
    rw [wayL_next hm hn hz h ht] at hmem
    rcases List.mem_cons.1 hmem with rfl | hmem
    · have e0 := he.src (h.opn hdi)
      exact ⟨by rw [e0]; decide, by rw [e0]; omega⟩
    · cases ha : aheadF A B zs ds t with
      | none => rw [ha] at hmem; cases hmem
      | some j =>
        obtain ⟨q1, q2, q3, q4, q5⟩ := aheadF_some hm hn hz h ha ht
        omega
  | succ n ih =>
    intro t ht hle hmem
    rw [wayL_next hm hn hz h ht] at hmem
    rcases List.mem_cons.1 hmem with rfl | hmem
    · have e0 := he.src (h.opn hdi)
      exact ⟨by rw [e0]; decide, by rw [e0]; omega⟩
    · cases ha : aheadF A B zs ds t with
      | none => rw [ha] at hmem; cases hmem
      | some j =>
        rw [ha] at hmem
        obtain ⟨q1, q2, q3, q4, q5⟩ := aheadF_some hm hn hz h ha ht
        obtain ⟨r1, r2⟩ := ih j q2 (by omega) hmem
        have hot := h.opn ht
        have hoj := h.opn q2
        have hk : (gphB A B b zs).k t = zs.getD t 0 := gphB_k (gphB_opn.1 hot).2.1
        have hl := he.le t j hot hoj ((mem_nbO hn).1 q1).1 r1
        rw [hk] at hl
        have bj := he.bd j
        have bt := he.bd t
        have bz := getD_in hz t
        constructor
        · omega
        · omega
/-- By way of a third cell nothing is nearer; by way of one on the way it is as far. -/
theorem three_le {A B : Int} {zs ds es : List Int} {b : BX} {s i t : Nat} (hm : mayB A B = true) (hn : (zs.length : Int) = A * B) (hz : AllH zs) (h : Far (gphB A B b zs) s (atD ds)) (he : Far (gphB A B b zs) i (atD es)) (hdi : atD ds i ≠ 18446744073709551615) :
    atD ds t ≤ addC (atD ds i) (atD es t) := by
  have h0 := h.ge0 i
  have hl := h.le_inf t
  by_cases hi : atD es t = 18446744073709551615
  · rw [hi]; unfold addC; split <;> omega
  · obtain ⟨h1, h2⟩ := Far.three (gphB_ok hm hn hz) h he hdi t hi
    unfold addC
    split <;> omega
theorem three_eq {A B : Int} {zs ds es : List Int} {b : BX} {s i t : Nat} (hm : mayB A B = true) (hn : (zs.length : Int) = A * B) (hz : AllH zs) (h : Far (gphB A B b zs) s (atD ds)) (he : Far (gphB A B b zs) i (atD es)) (hdi : atD ds i ≠ 18446744073709551615)
    (ht : atD ds t ≠ 18446744073709551615) (hw : i ∈ wayL A B zs ds t) : addC (atD ds i) (atD es t) = atD ds t := by
  have h0 := h.ge0 t
  obtain ⟨q1, q2⟩ := way_via hm hn hz h he hdi (atD ds t).toNat t ht (by omega) hw
  have q3 := three_le (t := t) hm hn hz h he hdi
  have bt := h.bd t
  unfold addC at q3 ⊢
  split at q3 <;> split <;> omega
/-- The cells of a way are those of its numbers. -/
theorem path_mem {A B : Int} {zs ds : List Int} {b : BX} {s t i k : Nat} (hm : mayB A B = true) (hn : (zs.length : Int) = A * B) (hz : AllH zs) (h : Far (gphB A B b zs) s (atD ds)) (ht : atD ds t ≠ 18446744073709551615) (hi : i < zs.length)
    (hk : k < (pathL A B zs ds t).length) (hc : (pathL A B zs ds t)[k] = cellN A i) : i ∈ wayL A B zs ds t := by
  have h0 := h.ge0 t
  have hmem : (pathL A B zs ds t)[k] ∈ pathL A B zs ds t := List.getElem_mem hk
  rw [hc] at hmem
  unfold pathL at hmem
  rw [List.mem_reverse, List.mem_map] at hmem
  obtain ⟨x, hx, hxe⟩ := hmem
  obtain ⟨hall, _⟩ := wayL_mem hm hn hz h (atD ds t).toNat t ht (by omega)
  obtain ⟨_, _, hxl⟩ := hall x hx
  have e1 := numN_cell (i := x) hm (by omega)
  have e2 := numN_cell (i := i) hm (by omega)
  rw [hxe, e2] at e1
  rw [e1]
  exact hx
theorem atBx_inU {A : Int} {b : BX} {ds : List Int} {c : IC} (hds : AllU ds) : inU (atBx A b ds c) := by
  unfold atBx
  split
  · by_cases h : numN A c < ds.length
    · rw [← atD_get h]; exact hds _ (List.getElem_mem _)
    · rw [atD_none (by omega)]; exact inU_inf
  · exact inU_inf
end Go.Proofs.YtofpoenehdmkpaaDoor

/- FloodThree: the law's walk. -/
namespace Go.Proofs.YtofpoenehdmkpaaDoor
open Go.RowKit

set_option maxRecDepth 100000 in
set_option maxHeartbeats 8000000 in
theorem gthree_walk (A B : Int) (a : Option Addr) (cap : Nat) (zs : List Int) (X Y U V : Int) (F T : IC) (w : World) (hT : wf64 T.1 ∧ wf64 T.2) (hs : Stp w) (hr : RowH w a zs) (hu : AllH zs) :
    Calls Tryd.prog 6 #[.agg #[.int .i64 A, .int .i64 B, .slice a zs.length cap], .agg #[.int .i64 X, .int .i64 Y, .int .i64 U, .int .i64 V], .agg #[.int .i64 F.1, .int .i64 F.2, .int .i64 T.1, .int .i64 T.2]] w fun e w' => e = .returned (.bool true) ∧ Below w.heap.size w w' := by
  have hA := bl0 w
  by_cases hsm : (zs.length : Int) ≤ 150
  case neg =>
    have hd : decide ((zs.length : Int) ≤ 150) = false := decide_eq_false hsm
    clear hsm
    go_enter Tryd.func6, Tryd.ntmps6
    go_wp2_with fail
    refine (small8_any _ _ _ _ _ _).mono ?_
    rintro e w1 ⟨rfl, hb⟩
    have hk : Below w.heap.size w w1 := by first | exact hb | exact bl_tr (bl_al (bl0 _) _) hb | exact bl_tr (bl_dr (bl_al (bl0 _) _)) hb | exact bl_tr (bl_al (bl_al (bl0 _) _) _) hb | exact bl_tr (bl_dr (bl_al (bl_al (bl0 _) _) _)) hb | exact bl_tr (bl_al (bl_al (bl_al (bl0 _) _) _) _) hb | exact bl_tr (bl_dr (bl_al (bl_al (bl_al (bl0 _) _) _) _)) hb | exact bl_tr (bl_al (bl_al (bl_al (bl_al (bl0 _) _) _) _) _) hb | exact bl_tr (bl_dr (bl_al (bl_al (bl_al (bl_al (bl0 _) _) _) _) _)) hb | exact bl_tr (bl_al (bl_al (bl_al (bl_al (bl_al (bl0 _) _) _) _) _) _) hb | exact bl_tr (bl_dr (bl_al (bl_al (bl_al (bl_al (bl_al (bl0 _) _) _) _) _) _)) hb | exact bl_tr (bl_al (bl_al (bl_al (bl_al (bl_al (bl_al (bl0 _) _) _) _) _) _) _) hb | exact bl_tr (bl_dr (bl_al (bl_al (bl_al (bl_al (bl_al (bl_al (bl0 _) _) _) _) _) _) _)) hb | exact bl_tr (bl_dr (bl0 _)) hb
    replace hA := bl_tr hA hk
    clear hb hk
    rw [hd]
    go_wp2_with fail
    refine (awake8 _ (hs.below hA)).mono ?_
    rintro e w2 ⟨rfl, hb⟩
    have hA2 := bl_tr hA hb
    clear hb
    go_wp2
    go_ret
    exact ⟨rfl, hA2⟩
  case pos =>
    have hd : decide ((zs.length : Int) ≤ 150) = true := decide_eq_true hsm
    go_enter Tryd.func6, Tryd.ntmps6
    go_wp2_with fail
    refine (small8_any _ _ _ _ _ _).mono ?_
    rintro e w1 ⟨rfl, hb⟩
    have hk : Below w.heap.size w w1 := by first | exact hb | exact bl_tr (bl_al (bl0 _) _) hb | exact bl_tr (bl_dr (bl_al (bl0 _) _)) hb | exact bl_tr (bl_al (bl_al (bl0 _) _) _) hb | exact bl_tr (bl_dr (bl_al (bl_al (bl0 _) _) _)) hb | exact bl_tr (bl_al (bl_al (bl_al (bl0 _) _) _) _) hb | exact bl_tr (bl_dr (bl_al (bl_al (bl_al (bl0 _) _) _) _)) hb | exact bl_tr (bl_al (bl_al (bl_al (bl_al (bl0 _) _) _) _) _) hb | exact bl_tr (bl_dr (bl_al (bl_al (bl_al (bl_al (bl0 _) _) _) _) _)) hb | exact bl_tr (bl_al (bl_al (bl_al (bl_al (bl_al (bl0 _) _) _) _) _) _) hb | exact bl_tr (bl_dr (bl_al (bl_al (bl_al (bl_al (bl_al (bl0 _) _) _) _) _) _)) hb | exact bl_tr (bl_al (bl_al (bl_al (bl_al (bl_al (bl_al (bl0 _) _) _) _) _) _) _) hb | exact bl_tr (bl_dr (bl_al (bl_al (bl_al (bl_al (bl_al (bl_al (bl0 _) _) _) _) _) _) _)) hb | exact bl_tr (bl_dr (bl0 _)) hb
    replace hA := bl_tr hA hk
    have f0 := cell_later hb (v := .int .i64 A) (a := ⟨w.heap.size, 0, none⟩) (by simp [go_sem])
    have f1 := cell_later hb (v := .int .i64 B) (a := ⟨w.heap.size, 1, none⟩) (by simp [go_sem])
    have f2 := cell_later hb (v := .slice a zs.length cap) (a := ⟨w.heap.size, 2, none⟩) (by simp [go_sem])
    have g0 := cell_later hb (v := .int .i64 X) (a := ⟨w.heap.size + 1, 0, none⟩) (by simp [go_sem])
    have g1 := cell_later hb (v := .int .i64 Y) (a := ⟨w.heap.size + 1, 1, none⟩) (by simp [go_sem])
    have g2 := cell_later hb (v := .int .i64 U) (a := ⟨w.heap.size + 1, 2, none⟩) (by simp [go_sem])
    have g3 := cell_later hb (v := .int .i64 V) (a := ⟨w.heap.size + 1, 3, none⟩) (by simp [go_sem])
    have x0 := cell_later hb (v := .int .i64 F.1) (a := ⟨w.heap.size + 1 + 1, 0, none⟩) (by simp [go_sem])
    have x1 := cell_later hb (v := .int .i64 F.2) (a := ⟨w.heap.size + 1 + 1, 1, none⟩) (by simp [go_sem])
    have y0 := cell_later hb (v := .int .i64 T.1) (a := ⟨w.heap.size + 1 + 1, 2, none⟩) (by simp [go_sem])
    have y1 := cell_later hb (v := .int .i64 T.2) (a := ⟨w.heap.size + 1 + 1, 3, none⟩) (by simp [go_sem])
    clear hb hk
    have zf0 := blk_lt f0
    have zf1 := blk_lt f1
    have zf2 := blk_lt f2
    have zg0 := blk_lt g0
    have zg1 := blk_lt g1
    have zg2 := blk_lt g2
    have zg3 := blk_lt g3
    have zx0 := blk_lt x0
    have zx1 := blk_lt x1
    have zy0 := blk_lt y0
    have zy1 := blk_lt y1
    rw [hd]
    clear hd
    go_wp2_with fail
    refine (within_any A B a cap zs (X, Y, U, V) F _ hu (hr.below (by first | exact hA | exact (bl_al hA _) | exact (bl_dr (bl_al hA _)) | exact (bl_al (bl_al hA _) _) | exact (bl_dr (bl_al (bl_al hA _) _)) | exact (bl_al (bl_al (bl_al hA _) _) _) | exact (bl_dr (bl_al (bl_al (bl_al hA _) _) _)) | exact (bl_al (bl_al (bl_al (bl_al hA _) _) _) _) | exact (bl_dr (bl_al (bl_al (bl_al (bl_al hA _) _) _) _)) | exact (bl_al (bl_al (bl_al (bl_al (bl_al hA _) _) _) _) _) | exact (bl_dr (bl_al (bl_al (bl_al (bl_al (bl_al hA _) _) _) _) _)) | exact (bl_al (bl_al (bl_al (bl_al (bl_al (bl_al hA _) _) _) _) _) _) | exact (bl_dr (bl_al (bl_al (bl_al (bl_al (bl_al (bl_al hA _) _) _) _) _) _)) | exact (bl_dr hA))) (hs.below (by first | exact hA | exact (bl_al hA _) | exact (bl_dr (bl_al hA _)) | exact (bl_al (bl_al hA _) _) | exact (bl_dr (bl_al (bl_al hA _) _)) | exact (bl_al (bl_al (bl_al hA _) _) _) | exact (bl_dr (bl_al (bl_al (bl_al hA _) _) _)) | exact (bl_al (bl_al (bl_al (bl_al hA _) _) _) _) | exact (bl_dr (bl_al (bl_al (bl_al (bl_al hA _) _) _) _)) | exact (bl_al (bl_al (bl_al (bl_al (bl_al hA _) _) _) _) _) | exact (bl_dr (bl_al (bl_al (bl_al (bl_al (bl_al hA _) _) _) _) _)) | exact (bl_al (bl_al (bl_al (bl_al (bl_al (bl_al hA _) _) _) _) _) _) | exact (bl_dr (bl_al (bl_al (bl_al (bl_al (bl_al (bl_al hA _) _) _) _) _) _)) | exact (bl_dr hA)))).mono ?_
    rintro e w2 ⟨⟨b1, cap1, l, rfl, hru1, hn1, hy1⟩, hb⟩
    have hk : Below w1.heap.size w1 w2 := by first | exact hb | exact bl_tr (bl_al (bl0 _) _) hb | exact bl_tr (bl_dr (bl_al (bl0 _) _)) hb | exact bl_tr (bl_al (bl_al (bl0 _) _) _) hb | exact bl_tr (bl_dr (bl_al (bl_al (bl0 _) _) _)) hb | exact bl_tr (bl_al (bl_al (bl_al (bl0 _) _) _) _) hb | exact bl_tr (bl_dr (bl_al (bl_al (bl_al (bl0 _) _) _) _)) hb | exact bl_tr (bl_al (bl_al (bl_al (bl_al (bl0 _) _) _) _) _) hb | exact bl_tr (bl_dr (bl_al (bl_al (bl_al (bl_al (bl0 _) _) _) _) _)) hb | exact bl_tr (bl_al (bl_al (bl_al (bl_al (bl_al (bl0 _) _) _) _) _) _) hb | exact bl_tr (bl_dr (bl_al (bl_al (bl_al (bl_al (bl_al (bl0 _) _) _) _) _) _)) hb | exact bl_tr (bl_al (bl_al (bl_al (bl_al (bl_al (bl_al (bl0 _) _) _) _) _) _) _) hb | exact bl_tr (bl_dr (bl_al (bl_al (bl_al (bl_al (bl_al (bl_al (bl0 _) _) _) _) _) _) _)) hb | exact bl_tr (bl_dr (bl0 _)) hb
    replace hA := bl_tr hA hk
    replace f0 := cell_later hk f0
    replace f1 := cell_later hk f1
    replace f2 := cell_later hk f2
    replace g0 := cell_later hk g0
    replace g1 := cell_later hk g1
    replace g2 := cell_later hk g2
    replace g3 := cell_later hk g3
    replace x0 := cell_later hk x0
    replace x1 := cell_later hk x1
    replace y0 := cell_later hk y0
    replace y1 := cell_later hk y1
    clear hb hk
    have zf0 := blk_lt f0
    have zf1 := blk_lt f1
    have zf2 := blk_lt f2
    have zg0 := blk_lt g0
    have zg1 := blk_lt g1
    have zg2 := blk_lt g2
    have zg3 := blk_lt g3
    have zx0 := blk_lt x0
    have zx1 := blk_lt x1
    have zy0 := blk_lt y0
    have zy1 := blk_lt y1
    obtain ⟨E1, hE1⟩ : ∃ E1, errW A B zs.length (X, Y, U, V) F = E1 := ⟨_, rfl⟩
    rw [hE1] at hn1 hy1 ⊢
    have HE1 := Lib.hid hE1
    have HY1 := Lib.hid hy1
    have HN1 := Lib.hid hn1
    clear hE1 hy1 hn1
    go_wp2_with fail
    refine (path_any A B a cap zs (X, Y, U, V) F T _ hu (hr.below (by first | exact hA | exact (bl_al hA _) | exact (bl_dr (bl_al hA _)) | exact (bl_al (bl_al hA _) _) | exact (bl_dr (bl_al (bl_al hA _) _)) | exact (bl_al (bl_al (bl_al hA _) _) _) | exact (bl_dr (bl_al (bl_al (bl_al hA _) _) _)) | exact (bl_al (bl_al (bl_al (bl_al hA _) _) _) _) | exact (bl_dr (bl_al (bl_al (bl_al (bl_al hA _) _) _) _)) | exact (bl_al (bl_al (bl_al (bl_al (bl_al hA _) _) _) _) _) | exact (bl_dr (bl_al (bl_al (bl_al (bl_al (bl_al hA _) _) _) _) _)) | exact (bl_al (bl_al (bl_al (bl_al (bl_al (bl_al hA _) _) _) _) _) _) | exact (bl_dr (bl_al (bl_al (bl_al (bl_al (bl_al (bl_al hA _) _) _) _) _) _)) | exact (bl_dr hA))) (hs.below (by first | exact hA | exact (bl_al hA _) | exact (bl_dr (bl_al hA _)) | exact (bl_al (bl_al hA _) _) | exact (bl_dr (bl_al (bl_al hA _) _)) | exact (bl_al (bl_al (bl_al hA _) _) _) | exact (bl_dr (bl_al (bl_al (bl_al hA _) _) _)) | exact (bl_al (bl_al (bl_al (bl_al hA _) _) _) _) | exact (bl_dr (bl_al (bl_al (bl_al (bl_al hA _) _) _) _)) | exact (bl_al (bl_al (bl_al (bl_al (bl_al hA _) _) _) _) _) | exact (bl_dr (bl_al (bl_al (bl_al (bl_al (bl_al hA _) _) _) _) _)) | exact (bl_al (bl_al (bl_al (bl_al (bl_al (bl_al hA _) _) _) _) _) _) | exact (bl_dr (bl_al (bl_al (bl_al (bl_al (bl_al (bl_al hA _) _) _) _) _) _)) | exact (bl_dr hA)))).mono ?_
    rintro e w3 ⟨⟨b2, cap2, p, cost, er, rfl, hrp, hpl, hpe, hpo⟩, hb⟩
    have hk : Below w2.heap.size w2 w3 := by first | exact hb | exact bl_tr (bl_al (bl0 _) _) hb | exact bl_tr (bl_dr (bl_al (bl0 _) _)) hb | exact bl_tr (bl_al (bl_al (bl0 _) _) _) hb | exact bl_tr (bl_dr (bl_al (bl_al (bl0 _) _) _)) hb | exact bl_tr (bl_al (bl_al (bl_al (bl0 _) _) _) _) hb | exact bl_tr (bl_dr (bl_al (bl_al (bl_al (bl0 _) _) _) _)) hb | exact bl_tr (bl_al (bl_al (bl_al (bl_al (bl0 _) _) _) _) _) hb | exact bl_tr (bl_dr (bl_al (bl_al (bl_al (bl_al (bl0 _) _) _) _) _)) hb | exact bl_tr (bl_al (bl_al (bl_al (bl_al (bl_al (bl0 _) _) _) _) _) _) hb | exact bl_tr (bl_dr (bl_al (bl_al (bl_al (bl_al (bl_al (bl0 _) _) _) _) _) _)) hb | exact bl_tr (bl_al (bl_al (bl_al (bl_al (bl_al (bl_al (bl0 _) _) _) _) _) _) _) hb | exact bl_tr (bl_dr (bl_al (bl_al (bl_al (bl_al (bl_al (bl_al (bl0 _) _) _) _) _) _) _)) hb | exact bl_tr (bl_dr (bl0 _)) hb
    replace hA := bl_tr hA hk
    replace hru1 := hru1.below hk
    replace f0 := cell_later hk f0
    replace f1 := cell_later hk f1
    replace f2 := cell_later hk f2
    replace g0 := cell_later hk g0
    replace g1 := cell_later hk g1
    replace g2 := cell_later hk g2
    replace g3 := cell_later hk g3
    replace x0 := cell_later hk x0
    replace x1 := cell_later hk x1
    replace y0 := cell_later hk y0
    replace y1 := cell_later hk y1
    clear hb hk
    have zf0 := blk_lt f0
    have zf1 := blk_lt f1
    have zf2 := blk_lt f2
    have zg0 := blk_lt g0
    have zg1 := blk_lt g1
    have zg2 := blk_lt g2
    have zg3 := blk_lt g3
    have zx0 := blk_lt x0
    have zx1 := blk_lt x1
    have zy0 := blk_lt y0
    have zy1 := blk_lt y1
    rw [HE1.out] at hpe hpo
    have HPE := Lib.hid hpe
    have HPO := Lib.hid hpo
    have HPL := Lib.hid hpl
    clear hpe hpo hpl
    by_cases h1 : E1 = 0
    case neg =>
      have h2 : (E1 != 0) = true := by rw [bne_iff_ne]; exact h1
      obtain ⟨e1, e2, e3⟩ := HPE.out h1
      have e4 := HN1.out h1
      subst e1 e2 e3 e4
      clear h1
      go_wp2_with fail
      refine (awake8 _ (hs.below hA)).mono ?_
      rintro e w4 ⟨rfl, hb⟩
      have hA2 := bl_tr hA hb
      clear hb
      go_wp2
      go_ret
      exact ⟨rfl, hA2⟩
    case pos =>
    subst h1
    obtain ⟨hpo1, hpo2⟩ := HPO.out rfl
    cases hin : inBx (X, Y, U, V) T
    case false =>
      obtain ⟨e1, e2, e3⟩ := hpo1 hin
      subst e1 e2 e3
      clear hpo1 hpo2 hin
      go_wp2_with fail
      refine (awake8 _ (hs.below hA)).mono ?_
      rintro e w4 ⟨rfl, hb⟩
      have hA2 := bl_tr hA hb
      clear hb
      go_wp2
      go_ret
      exact ⟨rfl, hA2⟩
    case true =>
    obtain ⟨hll, hf1⟩ := HY1.out rfl
    have hpo3 := hpo2 hin l hll hf1
    clear hpo1 hpo2
    obtain ⟨hchk, hfit, hin1⟩ := errW_ok HE1.out
    obtain ⟨hmay, hn⟩ := chkF_may hchk
    obtain ⟨g1', g2', g3', g4', g5, g6, g7, g8⟩ := fitsB_iff.1 hfit
    obtain ⟨m1, m2, m3, m4⟩ := mayB_iff.1 hmay
    have hAU := far_allU hf1
    have hwT : atBx A (X, Y, U, V) l T = atD l (numN A T) := by unfold atBx; rw [if_pos hin]
    obtain ⟨it, hit⟩ : ∃ it, numN A T = it := ⟨_, rfl⟩
    rw [hit] at hpo3 hwT
    have HPK := Lib.hid (fun (i : Nat) (es : List Int) (hi : i < zs.length) (hdi : atD l i ≠ 18446744073709551615) (he : Far (gphB A B (X, Y, U, V) zs) i (atD es)) (k : Nat) (hk : k < p.length) (hc : p[k] = cellN A i) => (show addC (atD l i) (atD es it) = atD l it by
      by_cases hwi : atD l it = 18446744073709551615
      · obtain ⟨_, e2, _⟩ := hpo3.1 hwi
        subst e2
        simp at hk
      · obtain ⟨_, _, e3⟩ := hpo3.2 hwi
        subst e3
        exact three_eq hmay hn hu hf1 he hdi hwi (path_mem hmay hn hu hf1 hwi hi hk hc)))
    have HLE := Lib.hid (fun (i : Nat) (es : List Int) (hdi : atD l i ≠ 18446744073709551615) (he : Far (gphB A B (X, Y, U, V) zs) i (atD es)) => three_le (t := it) hmay hn hu hf1 he hdi)
    have her : (er = 22 ∧ atD l it = 18446744073709551615) ∨ (er = 0 ∧ atD l it ≠ 18446744073709551615) := by
      by_cases hwi : atD l it = 18446744073709551615
      · exact .inl ⟨(hpo3.1 hwi).1, hwi⟩
      · exact .inr ⟨(hpo3.2 hwi).1, hwi⟩
    have HEC := Lib.hid (fun (i : Nat) (hdi : atD l i ≠ 18446744073709551615) => (show errW A B zs.length (X, Y, U, V) (cellN A i) = 0 ∧ numN A (cellN A i) = i by
      have ho := hf1.opn hdi
      obtain ⟨q1, q2, q3⟩ := gphB_opn.1 ho
      refine ⟨?_, numN_cell hmay (by omega)⟩
      unfold errW
      rw [if_pos hchk, if_pos ⟨hfit, q2⟩]))
    have HLB := Lib.hid (fun (i : Nat) => hf1.bd i)
    obtain ⟨wh, hwh⟩ : ∃ wh, atD l it = wh := ⟨_, rfl⟩
    rw [hwh] at HPK HLE her hwT
    have HAT := Lib.hid (fun (c2 : Option Addr) (cp : Nat) (es : List Int) w (he : es.length = zs.length) (hru : RowU w c2 es) => at8_any A B a c2 zs.length cap cp es X Y U V T w hfit (by rw [he]; exact hn) hru hT)
    have HAU2 := Lib.hid (fun (i : Nat) (es : List Int) (he : Far (gphB A B (X, Y, U, V) zs) i (atD es)) => (far_allU he : AllU es))
    have HIT := Lib.hid (show ∀ es : List Int, atBx A (X, Y, U, V) es T = atD es it from fun es => by unfold atBx; rw [if_pos hin, hit])
    have hlen : ((l.length : Nat) : Int) = (zs.length : Int) := by rw [hll]
    have hat1 := fun w => HAT.out b1 cap1 l w hll
    rw [hwT, hll] at hat1
    have HAT1 := Lib.hid hat1
    have hhas := fun w => rhas8_any X Y U V T w g1' ⟨g5, g6⟩ hT
    rw [hin] at hhas
    have HHAS := Lib.hid hhas
    rw [hll]
    have lh : ((zs.length : Int) != (zs.length : Int)) = false := by simp
    have k1 : ¬ (A < 1) := by omega
    have hA1 : 1 ≤ A := m1
    have hA2 : A ≤ 256 := m2
    have HMAY := Lib.hid hmay; have HNN := Lib.hid hn; have HFIT := Lib.hid hfit; have HLL := Lib.hid hll; have HF1 := Lib.hid hf1; have HAU := Lib.hid hAU
    obtain ⟨eb, heb⟩ : ∃ eb, (er == (22 : Int)) = eb := ⟨_, rfl⟩
    have heb2 : (wh == (18446744073709551615 : Int)) = eb := by
      rw [← heb]
      rcases her with ⟨e1, e2⟩ | ⟨e1, e2⟩
      · rw [e1, e2]; rfl
      · rw [e1, beq_eq_false_iff_ne.2 e2]; rfl
    have HER := Lib.hid her
    have HEB := Lib.hid heb; have HEB2 := Lib.hid heb2
    have hwhU : inU wh := by rw [← hwT]; exact atBx_inU hAU
    clear hpo3 her hlen hat1 hhas hwh hwT hit hin hll hf1 hchk hfit hin1 hmay hn g1' g2' g3' g4' g5 g6 g7 g8 m1 m2 m3 m4 hAU HPE HPO HY1 HE1 HN1 heb heb2
    go_upto_region 5 with fail
    go_cut [51] from 42 to 50 (fun s wx => s = .bool false ∧ Below w3.heap.size w3 wx)
    case first =>
      rcases HER.out with ⟨e1, _⟩ | ⟨e1, _⟩
      all_goals
        subst e1
        go_wp2
        go_meet
        exact ⟨rfl, bl0 _⟩
    case rest =>
    obtain ⟨rfl, hb⟩ := hcut
    replace hA := bl_tr hA hb
    replace f0 := cell_later hb f0; replace f1 := cell_later hb f1; replace f2 := cell_later hb f2; replace g0 := cell_later hb g0; replace g1 := cell_later hb g1; replace g2 := cell_later hb g2; replace g3 := cell_later hb g3; replace y0 := cell_later hb y0; replace y1 := cell_later hb y1
    replace hrp := hrp.below hb
    replace hru1 := hru1.below hb
    clear hb x0 x1
    have zf := blk_lt f0
    have zg := blk_lt g0
    have zy := blk_lt y0
    go_wp2_with fail
    refine (HHAS.out _).mono ?_
    rintro e w4 ⟨rfl, hb⟩
    have hk : Below wc.heap.size wc w4 := by first | exact hb | exact bl_tr (bl_al (bl0 _) _) hb | exact bl_tr (bl_dr (bl_al (bl0 _) _)) hb | exact bl_tr (bl_al (bl_al (bl0 _) _) _) hb | exact bl_tr (bl_dr (bl_al (bl_al (bl0 _) _) _)) hb | exact bl_tr (bl_al (bl_al (bl_al (bl0 _) _) _) _) hb | exact bl_tr (bl_dr (bl_al (bl_al (bl_al (bl0 _) _) _) _)) hb | exact bl_tr (bl_al (bl_al (bl_al (bl_al (bl0 _) _) _) _) _) hb | exact bl_tr (bl_dr (bl_al (bl_al (bl_al (bl_al (bl0 _) _) _) _) _)) hb | exact bl_tr (bl_al (bl_al (bl_al (bl_al (bl_al (bl0 _) _) _) _) _) _) hb | exact bl_tr (bl_dr (bl_al (bl_al (bl_al (bl_al (bl_al (bl0 _) _) _) _) _) _)) hb | exact bl_tr (bl_al (bl_al (bl_al (bl_al (bl_al (bl_al (bl0 _) _) _) _) _) _) _) hb | exact bl_tr (bl_dr (bl_al (bl_al (bl_al (bl_al (bl_al (bl_al (bl0 _) _) _) _) _) _) _)) hb | exact bl_tr (bl_dr (bl0 _)) hb
    replace hA := bl_tr hA hk
    replace hrp := hrp.below hk
    replace hru1 := hru1.below hk
    replace f0 := cell_later hk f0
    replace f1 := cell_later hk f1
    replace f2 := cell_later hk f2
    replace g0 := cell_later hk g0
    replace g1 := cell_later hk g1
    replace g2 := cell_later hk g2
    replace g3 := cell_later hk g3
    replace y0 := cell_later hk y0
    replace y1 := cell_later hk y1
    clear hb hk
    have zf0 := blk_lt f0
    have zf1 := blk_lt f1
    have zf2 := blk_lt f2
    have zg0 := blk_lt g0
    have zg1 := blk_lt g1
    have zg2 := blk_lt g2
    have zg3 := blk_lt g3
    have zy0 := blk_lt y0
    have zy1 := blk_lt y1
    go_wp2_with fail
    refine (HAT1.out _ hru1).mono ?_
    rintro e w5 ⟨rfl, hb⟩
    have hk : Below w4.heap.size w4 w5 := by first | exact hb | exact bl_tr (bl_al (bl0 _) _) hb | exact bl_tr (bl_dr (bl_al (bl0 _) _)) hb | exact bl_tr (bl_al (bl_al (bl0 _) _) _) hb | exact bl_tr (bl_dr (bl_al (bl_al (bl0 _) _) _)) hb | exact bl_tr (bl_al (bl_al (bl_al (bl0 _) _) _) _) hb | exact bl_tr (bl_dr (bl_al (bl_al (bl_al (bl0 _) _) _) _)) hb | exact bl_tr (bl_al (bl_al (bl_al (bl_al (bl0 _) _) _) _) _) hb | exact bl_tr (bl_dr (bl_al (bl_al (bl_al (bl_al (bl0 _) _) _) _) _)) hb | exact bl_tr (bl_al (bl_al (bl_al (bl_al (bl_al (bl0 _) _) _) _) _) _) hb | exact bl_tr (bl_dr (bl_al (bl_al (bl_al (bl_al (bl_al (bl0 _) _) _) _) _) _)) hb | exact bl_tr (bl_al (bl_al (bl_al (bl_al (bl_al (bl_al (bl0 _) _) _) _) _) _) _) hb | exact bl_tr (bl_dr (bl_al (bl_al (bl_al (bl_al (bl_al (bl_al (bl0 _) _) _) _) _) _) _)) hb | exact bl_tr (bl_dr (bl0 _)) hb
    replace hA := bl_tr hA hk
    replace hrp := hrp.below hk
    replace hru1 := hru1.below hk
    replace f0 := cell_later hk f0
    replace f1 := cell_later hk f1
    replace f2 := cell_later hk f2
    replace g0 := cell_later hk g0
    replace g1 := cell_later hk g1
    replace g2 := cell_later hk g2
    replace g3 := cell_later hk g3
    replace y0 := cell_later hk y0
    replace y1 := cell_later hk y1
    clear hb hk
    have zf0 := blk_lt f0
    have zf1 := blk_lt f1
    have zf2 := blk_lt f2
    have zg0 := blk_lt g0
    have zg1 := blk_lt g1
    have zg2 := blk_lt g2
    have zg3 := blk_lt g3
    have zy0 := blk_lt y0
    have zy1 := blk_lt y1
    have HA5 := Lib.hid hA
    have HRP := Lib.hid hrp; have HRU := Lib.hid hru1; have HRH := Lib.hid (hr.below hA)
    have F0 := Lib.hid f0; have F1 := Lib.hid f1; have F2 := Lib.hid f2; have G0 := Lib.hid g0; have G1 := Lib.hid g1; have G2 := Lib.hid g2; have G3 := Lib.hid g3; have Y0 := Lib.hid y0; have Y1 := Lib.hid y1
    go_wp2_with fail
    clear f0 f1 f2 g0 g1 g2 g3 y0 y1 hrp hru1 hA zf zg zy zf0 zf1 zf2 zg0 zg1 zg2 zg3 zy0 zy1
    go_loopw [13, 14, 15, 16, 17, 18] (fun iv _ _ _ _ _ wr => ∃ i : Nat, i ≤ zs.length ∧ iv = .int .i64 i ∧ Below w5.heap.size w5 wr) (fun iv _ _ _ _ _ _ => zs.length - (intOf iv).toNat)
    case atStart => exact ⟨0, Nat.zero_le _, rfl, bl0 _⟩
    case round =>
      obtain ⟨i, hi, rfl, hB⟩ := hrel
      have hi0 : (0 : Int) ≤ (i : Int) := by omega
      by_cases hlt : i < zs.length
      case neg =>
        obtain rfl : i = zs.length := by omega
        have hge : ¬ (zs.length : Int) < (zs.length : Int) := by omega
        have hA := bl_tr HA5.out hB
        have heb := HEB.out
        have heb2 := HEB2.out
        have hee : (eb == eb) = true := by simp
        go_wp2_with fail
        refine (awake8 _ (hs.below hA)).mono ?_
        rintro e w8 ⟨rfl, hb⟩
        have hA8 := bl_tr hA hb
        clear hb hA hB
        go_wp2
        go_ret
        exact ⟨rfl, hA8⟩
      case pos =>
        have hlt2 : (i : Int) < (zs.length : Int) := by omega
        have f0 := cell_later hB F0.out
        have zf := blk_lt f0
        have az : (A == 0) = false := by rw [beq_eq_false_iff_ne]; omega
        have az2 : A ≠ 0 := by omega
        obtain ⟨cx, hcx⟩ : ∃ cx, (i : Int) % A = cx := ⟨_, rfl⟩
        obtain ⟨cy, hcy⟩ : ∃ cy, (i : Int) / A = cy := ⟨_, rfl⟩
        have hcN : cellN A i = (cx, cy) := by unfold cellN; rw [hcx, hcy]
        have bx := Int.emod_nonneg (i : Int) az2
        have bx2 := Int.emod_lt_of_pos (i : Int) (show 0 < A by omega)
        have by0 := Int.ediv_nonneg (a := (i : Int)) (b := A) hi0 (by omega)
        have by2 : (i : Int) / A ≤ (i : Int) := Int.ediv_le_self _ hi0
        rw [hcx] at bx bx2
        rw [hcy] at by0 by2
        have d1 : (i : Int).tmod A = cx := by rw [← hcx]; exact Int.tmod_eq_emod_of_nonneg hi0
        have d2 : (i : Int).tdiv A = cy := by rw [← hcy]; exact Int.tdiv_eq_ediv_of_nonneg hi0
        have d3 : IntKind.i64.wrap cx = cx := IntWalk.i64_in _ (by omega)
        have d4 : IntKind.i64.wrap cy = cy := IntWalk.i64_in _ (by omega)
        have HCN := Lib.hid hcN
        clear hcN
        obtain ⟨g1, o1, r1, ql⟩ := (HRU.out.below hB).cell (show i < l.length by rw [HLL.out]; exact hlt)
        subst r1
        have zql := blk_lt ql
        obtain ⟨t, ht⟩ : ∃ t, atD l i = t := ⟨_, rfl⟩
        rw [ht] at ql
        have hbt := HLB.out i
        rw [ht] at hbt
        have HT := Lib.hid ht
        clear ht
        go_upto_region 13 with fail
        go_region
        go_upto_region 14 with fail
        obtain ⟨W1, hW1⟩ : ∃ W1, (wr.alloc (.cells #[.int .i64 cx, .int .i64 cy] 30)).drew = W1 := ⟨_, rfl⟩
        have hb1 : Below wr.heap.size wr W1 := by rw [← hW1]; exact bl_dr (bl_al (bl0 _) _)
        have c0 : W1.cell? ⟨wr.heap.size, 0, none⟩ = some (.int .i64 cx) := by rw [← hW1]; simp [go_sem]
        have c1 : W1.cell? ⟨wr.heap.size, 1, none⟩ = some (.int .i64 cy) := by rw [← hW1]; simp [go_sem]
        rw [hW1]
        clear hW1
        obtain ⟨cp, hcp⟩ : ∃ cp, wr.heap.size = cp := ⟨_, rfl⟩
        rw [hcp] at c0 c1 ⊢
        have hB1 := bl_tr hB hb1
        replace ql := cell_later hb1 ql
        replace zql := blk_lt ql
        have zc := blk_lt c0
        clear hb1 hcp f0 zf hcx hcy d1 d2 d3 d4 az az2
        by_cases htf : t = 18446744073709551615
        · have bt : (t == (18446744073709551615 : Int)) = true := by rw [beq_iff_eq]; exact htf
          clear htf
          go_wp2
          go_roundw
          case rel => exact ⟨i + 1, by omega, by go_num, hB1⟩
          case measure => simp [intOf]; omega
        · have bt : (t == (18446744073709551615 : Int)) = false := by rw [beq_eq_false_iff_ne]; exact htf
          have htn : atD l i ≠ 18446744073709551615 := by rw [HT.out]; exact htf
          obtain ⟨hec, hnc⟩ := HEC.out i htn
          rw [HCN.out] at hec hnc
          have HEC2 := Lib.hid hec
          have HNC := Lib.hid hnc
          have HTN := Lib.hid htn
          have f0 := cell_later hB1 F0.out; have f1 := cell_later hB1 F1.out; have f2 := cell_later hB1 F2.out; have g0 := cell_later hB1 G0.out; have g1' := cell_later hB1 G1.out; have g2 := cell_later hB1 G2.out; have g3 := cell_later hB1 G3.out
          have zf := blk_lt f0
          have zg := blk_lt g0
          have hA1 := bl_tr HA5.out hB1
          have hw := within_any A B a cap zs (X, Y, U, V) (cx, cy) W1 hu (hr.below hA1) (hs.below hA1)
          have HW := Lib.hid hw
          clear hec hnc htn htf hw
          go_wp2_with fail
          refine (HW.out).mono ?_
          rintro e w7 ⟨⟨b3, cap3, es, rfl, hru3, hn3, hy3⟩, hb⟩
          obtain ⟨hes, hfe⟩ := hy3 HEC2.out
          rw [HNC.out] at hfe
          rw [HEC2.out, hes]
          have hB7 := bl_tr hB1 hb
          replace ql := cell_later hb ql
          replace c0 := cell_later hb c0
          replace c1 := cell_later hb c1
          have f0 := cell_later hB7 F0.out; have f1 := cell_later hB7 F1.out; have f2 := cell_later hB7 F2.out; have g0 := cell_later hB7 G0.out; have g1' := cell_later hB7 G1.out; have g2 := cell_later hB7 G2.out; have g3 := cell_later hB7 G3.out; have y0 := cell_later hB7 Y0.out; have y1 := cell_later hB7 Y1.out
          have hle := HLE.out i es HTN.out hfe
          have hpk := fun k hk hc => HPK.out i es hlt HTN.out hfe k hk hc
          have heU := HAU2.out i es hfe
          have hat := fun w => HAT.out b3 cap3 es w hes
          have hml := HIT.out es
          rw [hes] at hat
          obtain ⟨m, hm⟩ : ∃ m, atBx A (X, Y, U, V) es T = m := ⟨_, rfl⟩
          have hmU : inU m := by rw [← hm]; exact atBx_inU heU
          rw [hm] at hat hml
          rw [← hml, HT.out] at hle hpk
          have htU : inU t := by rw [← HT.out, ← atD_get (show i < l.length by rw [HLL.out]; exact hlt)]; exact HAU.out _ (List.getElem_mem _)
          have hadd := fun W => add_any t m W htU hmU
          obtain ⟨th, hth⟩ : ∃ th, addC t m = th := ⟨_, rfl⟩
          rw [hth] at hadd hle hpk
          have hgt : ¬ th < wh := by omega
          have HPKK := Lib.hid hpk
          have HATT := Lib.hid hat
          have HADD := Lib.hid hadd
          clear hb hn3 hy3 hes hfe hpk hat hadd hm hml hth heU htU hmU hle
          replace zql := blk_lt ql
          replace zc := blk_lt c0
          go_upto_region 18 with fail
          have hBB := bl_dr (bl0 w7)
          go_cut [17] from 125 to 135 (fun s wx => s = .int .u64 th ∧ Below w7.heap.size w7 wx)
          case first =>
            go_region_held3 (fun W => (W.cell? ⟨w.heap.size, 0, none⟩ = some (.int .i64 A) ∧ W.cell? ⟨w.heap.size, 1, none⟩ = some (.int .i64 B) ∧ W.cell? ⟨w.heap.size, 2, none⟩ = some (.slice a zs.length cap)) ∧ (W.cell? ⟨w.heap.size + 1, 0, none⟩ = some (.int .i64 X) ∧ W.cell? ⟨w.heap.size + 1, 1, none⟩ = some (.int .i64 Y) ∧ W.cell? ⟨w.heap.size + 1, 2, none⟩ = some (.int .i64 U) ∧ W.cell? ⟨w.heap.size + 1, 3, none⟩ = some (.int .i64 V)) ∧ (W.cell? ⟨w.heap.size + 1 + 1, 2, none⟩ = some (.int .i64 T.1) ∧ W.cell? ⟨w.heap.size + 1 + 1, 3, none⟩ = some (.int .i64 T.2)) ∧ W.cell? ⟨g1, o1 + i, none⟩ = some (.int .u64 t))
              (exact ⟨⟨cell_later hBB f0, cell_later hBB f1, cell_later hBB f2⟩, ⟨cell_later hBB g0, cell_later hBB g1', cell_later hBB g2, cell_later hBB g3⟩, ⟨cell_later hBB y0, cell_later hBB y1⟩, cell_later hBB ql⟩)
              (first
              | (go_at_call 24; (with_reducible refine (HATT.out _ (hru3.below hBB)).mono ?_); rintro e W2 ⟨rfl, hb⟩; replace hBB := bl_tr hBB hb; clear hb)
              | (go_at_call 26; (with_reducible refine (HADD.out _).mono ?_); rintro e W3 ⟨rfl, rfl⟩))
            all_goals
              go_wp2_with fail
              go_meet
              exact ⟨rfl, hBB⟩
          case rest =>
          obtain ⟨rfl, hb⟩ := hcut
          have hBc := bl_tr hB7 hb
          replace c0 := cell_later hb c0
          replace c1 := cell_later hb c1
          clear hb hBB f0 f1 f2 g0 g1' g2 g3 y0 y1 ql zql zc zf zg
          have HBC := Lib.hid hBc
          have C0 := Lib.hid c0; have C1 := Lib.hid c1
          go_wp2_with fail
          clear hBc c0 c1
          go_loopw [18] (fun kv wr => ∃ k : Nat, k ≤ p.length ∧ kv = .int .i64 k ∧ Below wc.heap.size wc wr) (fun kv _ => p.length - (intOf kv).toNat)
          case atStart => exact ⟨0, Nat.zero_le _, rfl, bl0 _⟩
          case round =>
            obtain ⟨k, hk, rfl, hB9⟩ := hrel
            have hk0 : (0 : Int) ≤ (k : Int) := by omega
            have hBA := bl_tr HBC.out hB9
            have hpl := HPL.out
            by_cases hlk : k < p.length
            · have hlk2 : (k : Int) < (p.length : Int) := by omega
              obtain ⟨g2, o2, r2, q0, q1⟩ := (HRP.out.below hBA).cell hlk
              subst r2
              have c0 := cell_later hB9 C0.out
              have c1 := cell_later hB9 C1.out
              have zq := blk_lt q0
              have zc := blk_lt c0
              have heq := fun w => eql_cell p[k] (cx, cy) w
              have hpk := HPKK.out k hlk
              by_cases hpc : p[k] = (cx, cy)
              · have hth : th = wh := hpk (by rw [HCN.out]; exact hpc)
                have bth : (th != wh) = false := by rw [bne_eq_false_iff_eq]; exact hth
                simp only [decide_eq_true hpc] at heq
                clear hpc hth hpk
                generalize p[k] = z at *
                go_wp2
                go_quiet (fail)
                go_wp2
                go_roundw
                case rel => exact ⟨k + 1, by omega, by go_num, bl_tr hB9 (bl_drn _ _)⟩
                case measure => simp [intOf]; omega
              · simp only [decide_eq_false hpc] at heq
                clear hpc hpk
                generalize p[k] = z at *
                go_wp2
                go_quiet (fail)
                go_wp2
                go_roundw
                case rel => exact ⟨k + 1, by omega, by go_num, bl_tr hB9 (bl_drn _ _)⟩
                case measure => simp [intOf]; omega
            · have hge : (p.length : Int) ≤ (k : Int) := by omega
              have hge2 : ¬ (k : Int) < (p.length : Int) := by omega
              go_wp2
              go_roundw
              case rel => exact ⟨i + 1, by omega, by go_num, hBA⟩
              case measure => simp [intOf]; omega
end Go.Proofs.YtofpoenehdmkpaaDoor
