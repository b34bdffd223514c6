/- Least costs: within a box, and on the whole map. -/
import Derived.Test.YtjkecdghlpeigaaDoorCi
namespace Go.Proofs.YtjkecdghlpeigaaDoor
open Go.RowKit

/-- What is wrong. -/
def errW (A B n : Int) (b : BX) (c : IC) : Int := if chkF A B n = 0 then (if fitsB A B b.1 b.2.1 b.2.2.1 b.2.2.2 = true ∧ inBx b c = true then 0 else 10) else chkF A B n
/-- What is told within a box, or nothing. -/
def WinR (A B : Int) (zs : List Int) (b : BX) (c : IC) (e : Ending) (W : World) : Prop :=
  ∃ (a : Option Addr) (cap : Nat) (ds : List Int), e = .returned (.tuple #[.slice a ds.length cap, .int .i64 (errW A B zs.length b c)]) ∧ RowU W a ds ∧ (errW A B zs.length b c ≠ 0 → ds = []) ∧
    (errW A B zs.length b c = 0 → ds.length = zs.length ∧ Far (gphB A B b zs) (numN A c) (atD ds))
theorem errW_ok {A B n : Int} {b : BX} {c : IC} (h : errW A B n b c = 0) : chkF A B n = 0 ∧ fitsB A B b.1 b.2.1 b.2.2.1 b.2.2.2 = true ∧ inBx b c = true := by
  unfold errW at h
  split at h
  · split at h
    · rename_i h1 h2; exact ⟨h1, h2.1, h2.2⟩
    · cases h
  · exact absurd h (by assumption)
theorem chkF_may {A B n : Int} (h : chkF A B n = 0) : mayB A B = true ∧ n = A * B := by
  unfold chkF at h
  split at h
  · rename_i hm
    split at h
    · rename_i hn; exact ⟨hm, hn⟩
    · cases h
  · cases h
theorem box_on {A B : Int} {b : BX} {c : IC} (hf : fitsB A B b.1 b.2.1 b.2.2.1 b.2.2.2 = true) (hh : inBx b c = true) : onB A B c = true := by
  obtain ⟨f1, f2, f3, f4, f5, f6, f7, f8⟩ := fitsB_iff.1 hf
  obtain ⟨g1, g2, g3, g4, g5⟩ := hasB_iff.1 hh
  obtain ⟨m1, m2, m3, m4⟩ := mayB_iff.1 f2
  exact inB_iff.2 ⟨m1, m2, m3, m4, by omega, by omega, by omega, by omega⟩

set_option maxRecDepth 100000 in
set_option maxHeartbeats 4000000 in
theorem within_any (A B : Int) (a : Option Addr) (cap : Nat) (zs : List Int) (b : BX) (c : IC) (w : World) (hz : AllH zs) (hr : RowH w a zs) (hst : Stp w) :
    Calls Tryd.prog 16 #[.agg #[.int .i64 A, .int .i64 B, .slice a zs.length cap], .agg #[.int .i64 b.1, .int .i64 b.2.1, .int .i64 b.2.2.1, .int .i64 b.2.2.2], .agg #[.int .i64 c.1, .int .i64 c.2]] w fun e w' => WinR A B zs b c e w' ∧ Below w.heap.size w w' := by
  have hA := bl0 w
  obtain ⟨E, hE⟩ : ∃ E, errW A B zs.length b c = E := ⟨_, rfl⟩
  have HE := Lib.hid hE
  unfold WinR
  rw [hE]
  obtain ⟨chk, hchk⟩ : ∃ chk, chkF A B zs.length = chk := ⟨_, rfl⟩
  have HC := Lib.hid hchk
  unfold errW at hE
  rw [hchk] at hE
  by_cases h0 : chk = 0
  · rw [if_pos h0] at hE
    subst h0
    obtain ⟨hmay, hn⟩ := chkF_may hchk
    have HN := Lib.hid hn
    obtain ⟨X, Y, U, V⟩ := b
    dsimp only at hE ⊢
    clear hchk hn
    by_cases hf : fitsB A B X Y U V = true
    · by_cases hh : inBx (X, Y, U, V) c = true
      · rw [if_pos ⟨hf, hh⟩] at hE
        subst hE
        have hon := box_on (b := (X, Y, U, V)) hf hh
        have hh2 : hasB X Y U V c.1 c.2 = true := hh
        have hnl := numN_at hon HN.out
        go_enter Tryd.func16, Tryd.ntmps16
        go_wp2_with fail
        refine (check_any _ _ _ _ _ _).mono ?_
        rintro e w1 ⟨rfl, hb⟩
        have hk : Below w.heap.size w w1 := by first | exact hb | exact bl_tr (bl_al (bl0 _) _) hb | exact bl_tr (bl_dr (bl_al (bl0 _) _)) hb | exact bl_tr (bl_al (bl_al (bl0 _) _) _) hb | exact bl_tr (bl_dr (bl_al (bl_al (bl0 _) _) _)) hb | exact bl_tr (bl_al (bl_al (bl_al (bl0 _) _) _) _) hb | exact bl_tr (bl_dr (bl_al (bl_al (bl_al (bl0 _) _) _) _)) hb | exact bl_tr (bl_al (bl_al (bl_al (bl_al (bl0 _) _) _) _) _) hb | exact bl_tr (bl_dr (bl_al (bl_al (bl_al (bl_al (bl0 _) _) _) _) _)) hb | exact bl_tr (bl_al (bl_al (bl_al (bl_al (bl_al (bl0 _) _) _) _) _) _) hb | exact bl_tr (bl_dr (bl_al (bl_al (bl_al (bl_al (bl_al (bl0 _) _) _) _) _) _)) hb | exact bl_tr (bl_al (bl_al (bl_al (bl_al (bl_al (bl_al (bl0 _) _) _) _) _) _) _) hb | exact bl_tr (bl_dr (bl_al (bl_al (bl_al (bl_al (bl_al (bl_al (bl0 _) _) _) _) _) _) _)) hb | exact bl_tr (bl_dr (bl0 _)) hb
        replace hA := bl_tr hA hk
        have f0 := cell_later hb (v := .int .i64 A) (a := ⟨w.heap.size, 0, none⟩) (by simp [go_sem])
        have f1 := cell_later hb (v := .int .i64 B) (a := ⟨w.heap.size, 1, none⟩) (by simp [go_sem])
        have f2 := cell_later hb (v := .slice a zs.length cap) (a := ⟨w.heap.size, 2, none⟩) (by simp [go_sem])
        have g0 := cell_later hb (v := .int .i64 X) (a := ⟨w.heap.size + 1, 0, none⟩) (by simp [go_sem])
        have g1 := cell_later hb (v := .int .i64 Y) (a := ⟨w.heap.size + 1, 1, none⟩) (by simp [go_sem])
        have g2 := cell_later hb (v := .int .i64 U) (a := ⟨w.heap.size + 1, 2, none⟩) (by simp [go_sem])
        have g3 := cell_later hb (v := .int .i64 V) (a := ⟨w.heap.size + 1, 3, none⟩) (by simp [go_sem])
        have h0 := cell_later hb (v := .int .i64 c.1) (a := ⟨w.heap.size + 1 + 1, 0, none⟩) (by simp [go_sem])
        have h1 := cell_later hb (v := .int .i64 c.2) (a := ⟨w.heap.size + 1 + 1, 1, none⟩) (by simp [go_sem])
        clear hb hk
        have zf0 := blk_lt f0
        have zf1 := blk_lt f1
        have zf2 := blk_lt f2
        have zg0 := blk_lt g0
        have zg1 := blk_lt g1
        have zg2 := blk_lt g2
        have zg3 := blk_lt g3
        have zh0 := blk_lt h0
        have zh1 := blk_lt h1
        rw [HC.out]
        go_wp2_with fail
        refine (fits_any _ _ _ _ _ _ _).mono ?_
        rintro e w2 ⟨rfl, hb⟩
        have hk : Below w1.heap.size w1 w2 := by first | exact hb | exact bl_tr (bl_al (bl0 _) _) hb | exact bl_tr (bl_dr (bl_al (bl0 _) _)) hb | exact bl_tr (bl_al (bl_al (bl0 _) _) _) hb | exact bl_tr (bl_dr (bl_al (bl_al (bl0 _) _) _)) hb | exact bl_tr (bl_al (bl_al (bl_al (bl0 _) _) _) _) hb | exact bl_tr (bl_dr (bl_al (bl_al (bl_al (bl0 _) _) _) _)) hb | exact bl_tr (bl_al (bl_al (bl_al (bl_al (bl0 _) _) _) _) _) hb | exact bl_tr (bl_dr (bl_al (bl_al (bl_al (bl_al (bl0 _) _) _) _) _)) hb | exact bl_tr (bl_al (bl_al (bl_al (bl_al (bl_al (bl0 _) _) _) _) _) _) hb | exact bl_tr (bl_dr (bl_al (bl_al (bl_al (bl_al (bl_al (bl0 _) _) _) _) _) _)) hb | exact bl_tr (bl_al (bl_al (bl_al (bl_al (bl_al (bl_al (bl0 _) _) _) _) _) _) _) hb | exact bl_tr (bl_dr (bl_al (bl_al (bl_al (bl_al (bl_al (bl_al (bl0 _) _) _) _) _) _) _)) hb | exact bl_tr (bl_dr (bl0 _)) hb
        replace hA := bl_tr hA hk
        replace f0 := cell_later hk f0
        replace f1 := cell_later hk f1
        replace f2 := cell_later hk f2
        replace g0 := cell_later hk g0
        replace g1 := cell_later hk g1
        replace g2 := cell_later hk g2
        replace g3 := cell_later hk g3
        replace h0 := cell_later hk h0
        replace h1 := cell_later hk h1
        clear hb hk
        have zf0 := blk_lt f0
        have zf1 := blk_lt f1
        have zf2 := blk_lt f2
        have zg0 := blk_lt g0
        have zg1 := blk_lt g1
        have zg2 := blk_lt g2
        have zg3 := blk_lt g3
        have zh0 := blk_lt h0
        have zh1 := blk_lt h1
        rw [hf]
        go_wp2_with fail
        refine (has_any _ _ _ _ _ _ _).mono ?_
        rintro e w3 ⟨rfl, hb⟩
        have hk : Below w2.heap.size w2 w3 := by first | exact hb | exact bl_tr (bl_al (bl0 _) _) hb | exact bl_tr (bl_dr (bl_al (bl0 _) _)) hb | exact bl_tr (bl_al (bl_al (bl0 _) _) _) hb | exact bl_tr (bl_dr (bl_al (bl_al (bl0 _) _) _)) hb | exact bl_tr (bl_al (bl_al (bl_al (bl0 _) _) _) _) hb | exact bl_tr (bl_dr (bl_al (bl_al (bl_al (bl0 _) _) _) _)) hb | exact bl_tr (bl_al (bl_al (bl_al (bl_al (bl0 _) _) _) _) _) hb | exact bl_tr (bl_dr (bl_al (bl_al (bl_al (bl_al (bl0 _) _) _) _) _)) hb | exact bl_tr (bl_al (bl_al (bl_al (bl_al (bl_al (bl0 _) _) _) _) _) _) hb | exact bl_tr (bl_dr (bl_al (bl_al (bl_al (bl_al (bl_al (bl0 _) _) _) _) _) _)) hb | exact bl_tr (bl_al (bl_al (bl_al (bl_al (bl_al (bl_al (bl0 _) _) _) _) _) _) _) hb | exact bl_tr (bl_dr (bl_al (bl_al (bl_al (bl_al (bl_al (bl_al (bl0 _) _) _) _) _) _) _)) hb | exact bl_tr (bl_dr (bl0 _)) hb
        replace hA := bl_tr hA hk
        replace f0 := cell_later hk f0
        replace f1 := cell_later hk f1
        replace f2 := cell_later hk f2
        replace g0 := cell_later hk g0
        replace g1 := cell_later hk g1
        replace g2 := cell_later hk g2
        replace g3 := cell_later hk g3
        replace h0 := cell_later hk h0
        replace h1 := cell_later hk h1
        clear hb hk
        have zf0 := blk_lt f0
        have zf1 := blk_lt f1
        have zf2 := blk_lt f2
        have zg0 := blk_lt g0
        have zg1 := blk_lt g1
        have zg2 := blk_lt g2
        have zg3 := blk_lt g3
        have zh0 := blk_lt h0
        have zh1 := blk_lt h1
        rw [hh2]
        have hcut := fun W (h : RowH W a zs) => cut_any A B a cap zs (X, Y, U, V) W hmay HN.out hf h
        have hnum := fun W => number_any A B a zs.length cap c W hon
        have hr3 := hr.below hA
        have hs3 := hst.below hA
        have hD := bl_dr (bl0 w3)
        have hlen := cutL_len A (X, Y, U, V) zs
        go_wp2
        refine (wpIn_wide (n := 11)).1 ?_
        refine ordS_begin (S := (fun w' : World => w'.cell? ⟨w.heap.size, 0, none⟩ = some (.int .i64 A) ∧ w'.cell? ⟨w.heap.size, 1, none⟩ = some (.int .i64 B) ∧ w'.cell? ⟨w.heap.size, 2, none⟩ = some (.slice a zs.length cap) ∧ w'.cell? ⟨w.heap.size + 1, 0, none⟩ = some (.int .i64 X) ∧ w'.cell? ⟨w.heap.size + 1, 1, none⟩ = some (.int .i64 Y) ∧ w'.cell? ⟨w.heap.size + 1, 2, none⟩ = some (.int .i64 U) ∧ w'.cell? ⟨w.heap.size + 1, 3, none⟩ = some (.int .i64 V) ∧ w'.cell? ⟨w.heap.size + 1 + 1, 0, none⟩ = some (.int .i64 c.1) ∧ w'.cell? ⟨w.heap.size + 1 + 1, 1, none⟩ = some (.int .i64 c.2))) (by kernel_rfl) ⟨cell_later hD f0, cell_later hD f1, cell_later hD f2, cell_later hD g0, cell_later hD g1, cell_later hD g2, cell_later hD g3, cell_later hD h0, cell_later hD h1⟩ (fun hH => ?_)
        first
          | (refine' ordS_take (i := 0) (oi := { dst := some 25, op := Op.load 26 (Operand.tmp 3), type := 26, pos := _, after := #[], guard := none }) (v := _) rfl (by kernel_rfl) (by kernel_rfl) (by kernel_rfl) (by kernel_rfl) (fun _ _ _ h => h) (by assumption) (Or.inl ⟨by rfl, ?hy1⟩) (fun _ => rfl) ?rest1
             case hy1 => (intro w hSw; (try dsimp only at hSw); go_simp; try with_reducible rfl))
          | (refine ordS_take (i := 0) (oi := { dst := some 25, op := Op.load 26 (Operand.tmp 3), type := 26, pos := _, after := #[], guard := none }) (v := undef) rfl (by kernel_rfl) (by kernel_rfl) (by kernel_rfl) (by kernel_rfl) (fun _ _ _ h => h) (by assumption) (Or.inr ⟨by rfl, rfl⟩) (fun _ => rfl) ?_)
        try simp only [Act.put, List.setIfInBounds_toArray, List.set_cons_zero, List.set_cons_succ]
        first
          | (refine' ordS_take (i := 1) (oi := { dst := some 26, op := Op.load 28 (Operand.tmp 4), type := 28, pos := _, after := #[], guard := none }) (v := _) rfl (by kernel_rfl) (by kernel_rfl) (by kernel_rfl) (by kernel_rfl) (fun _ _ _ h => h) (by assumption) (Or.inl ⟨by rfl, ?hy2⟩) (fun _ => rfl) ?rest2
             case hy2 => (intro w hSw; (try dsimp only at hSw); go_simp; try with_reducible rfl))
          | (refine ordS_take (i := 1) (oi := { dst := some 26, op := Op.load 28 (Operand.tmp 4), type := 28, pos := _, after := #[], guard := none }) (v := undef) rfl (by kernel_rfl) (by kernel_rfl) (by kernel_rfl) (by kernel_rfl) (fun _ _ _ h => h) (by assumption) (Or.inr ⟨by rfl, rfl⟩) (fun _ => rfl) ?_)
        try simp only [Act.put, List.setIfInBounds_toArray, List.set_cons_zero, List.set_cons_succ]
        first
          | (refine' ordS_take (i := 3) (oi := { dst := some 28, op := Op.load 26 (Operand.tmp 3), type := 26, pos := _, after := #[], guard := none }) (v := _) rfl (by kernel_rfl) (by kernel_rfl) (by kernel_rfl) (by kernel_rfl) (fun _ _ _ h => h) (by assumption) (Or.inl ⟨by rfl, ?hy3⟩) (fun _ => rfl) ?rest3
             case hy3 => (intro w hSw; (try dsimp only at hSw); go_simp; try with_reducible rfl))
          | (refine ordS_take (i := 3) (oi := { dst := some 28, op := Op.load 26 (Operand.tmp 3), type := 26, pos := _, after := #[], guard := none }) (v := undef) rfl (by kernel_rfl) (by kernel_rfl) (by kernel_rfl) (by kernel_rfl) (fun _ _ _ h => h) (by assumption) (Or.inr ⟨by rfl, rfl⟩) (fun _ => rfl) ?_)
        try simp only [Act.put, List.setIfInBounds_toArray, List.set_cons_zero, List.set_cons_succ]
        first
          | (refine' ordS_take (i := 4) (oi := { dst := some 29, op := Op.load 30 (Operand.tmp 5), type := 30, pos := _, after := #[], guard := none }) (v := _) rfl (by kernel_rfl) (by kernel_rfl) (by kernel_rfl) (by kernel_rfl) (fun _ _ _ h => h) (by assumption) (Or.inl ⟨by rfl, ?hy4⟩) (fun _ => rfl) ?rest4
             case hy4 => (intro w hSw; (try dsimp only at hSw); go_simp; try with_reducible rfl))
          | (refine ordS_take (i := 4) (oi := { dst := some 29, op := Op.load 30 (Operand.tmp 5), type := 30, pos := _, after := #[], guard := none }) (v := undef) rfl (by kernel_rfl) (by kernel_rfl) (by kernel_rfl) (by kernel_rfl) (fun _ _ _ h => h) (by assumption) (Or.inr ⟨by rfl, rfl⟩) (fun _ => rfl) ?_)
        try simp only [Act.put, List.setIfInBounds_toArray, List.set_cons_zero, List.set_cons_succ]
        refine ordS_one (i := 2) (o := { dst := some 27, op := Op.call { callee := Callee.value (Operand.func 43), args := #[Operand.tmp 25, Operand.tmp 26], argTypes := #[26, 28] }, type := 26, pos := _, after := #[{ on := 0, ground := Ground.data }, { on := 1, ground := Ground.data }], guard := none }) (by kernel_rfl) rfl (by rfl) (fun K hK => ?_)
        go_simp
        refine ⟨trivial, ?_⟩
        with_reducible refine (callsIn_wide.2 (hcut _ (hr3.below hD))).mono ?_
        rintro e W4 ⟨g, rfl, hrow, hb4⟩
        replace hD := bl_tr hD hb4
        refine hK _ _ ⟨cell_later hD f0, cell_later hD f1, cell_later hD f2, cell_later hD g0, cell_later hD g1, cell_later hD g2, cell_later hD g3, cell_later hD h0, cell_later hD h1⟩ ?_
        clear hK K hb4
        try simp only [Act.put, List.setIfInBounds_toArray, List.set_cons_zero, List.set_cons_succ]
        refine ordS_one (i := 5) (o := { dst := some 30, op := Op.call { callee := Callee.value (Operand.func 44), args := #[Operand.tmp 28, Operand.tmp 29], argTypes := #[26, 30] }, type := 3, pos := _, after := #[{ on := 3, ground := Ground.data }, { on := 4, ground := Ground.data }, { on := 2, ground := Ground.chain }], guard := none }) (by kernel_rfl) rfl (by rfl) (fun K hK => ?_)
        go_simp
        refine ⟨trivial, ?_⟩
        with_reducible refine (callsIn_wide.2 (hnum _)).mono ?_
        rintro e W5 ⟨rfl, hb5⟩
        replace hD := bl_tr hD hb5
        replace hrow := hrow.below hb5
        refine hK _ _ ⟨cell_later hD f0, cell_later hD f1, cell_later hD f2, cell_later hD g0, cell_later hD g1, cell_later hD g2, cell_later hD g3, cell_later hD h0, cell_later hD h1⟩ ?_
        clear hK K hb5
        try simp only [Act.put, List.setIfInBounds_toArray, List.set_cons_zero, List.set_cons_succ]
        have hspr := spread_any A B (some ⟨g, 0, none⟩) zs.length (cutL A (X, Y, U, V) zs) (numN A c) W5 hmay (by rw [hlen]; exact HN.out) (cutL_in hz) hrow (hs3.below hD) (by rw [hlen]; exact hnl)
        rw [hlen] at hspr
        refine ordS_one (i := 6) (o := { dst := some 31, op := Op.call { callee := Callee.value (Operand.func 42), args := #[Operand.tmp 27, Operand.tmp 30], argTypes := #[26, 3] }, type := 33, pos := _, after := #[{ on := 2, ground := Ground.data }, { on := 5, ground := Ground.data }, { on := 5, ground := Ground.chain }], guard := none }) (by kernel_rfl) rfl (by rfl) (fun K hK => ?_)
        go_simp
        refine ⟨trivial, ?_⟩
        with_reducible refine (callsIn_wide.2 hspr).mono ?_
        rintro e W6 ⟨gd, ds, rfl, hdl, hru, hfar, hb6⟩
        replace hD := bl_tr hD hb6
        have hS6 : W6.cell? ⟨w.heap.size, 0, none⟩ = some (.int .i64 A) ∧ W6.cell? ⟨w.heap.size, 1, none⟩ = some (.int .i64 B) ∧ W6.cell? ⟨w.heap.size, 2, none⟩ = some (.slice a zs.length cap) ∧ W6.cell? ⟨w.heap.size + 1, 0, none⟩ = some (.int .i64 X) ∧ W6.cell? ⟨w.heap.size + 1, 1, none⟩ = some (.int .i64 Y) ∧ W6.cell? ⟨w.heap.size + 1, 2, none⟩ = some (.int .i64 U) ∧ W6.cell? ⟨w.heap.size + 1, 3, none⟩ = some (.int .i64 V) ∧ W6.cell? ⟨w.heap.size + 1 + 1, 0, none⟩ = some (.int .i64 c.1) ∧ W6.cell? ⟨w.heap.size + 1 + 1, 1, none⟩ = some (.int .i64 c.2) := ⟨cell_later hD f0, cell_later hD f1, cell_later hD f2, cell_later hD g0, cell_later hD g1, cell_later hD g2, cell_later hD g3, cell_later hD h0, cell_later hD h1⟩
        refine hK _ _ hS6 ?_
        clear hK K hb6
        try simp only [Act.put, List.setIfInBounds_toArray, List.set_cons_zero, List.set_cons_succ]
        first
          | (refine' ordS_take (i := 7) (oi := { dst := some 6, op := Op.assign (Operand.tmp 31), type := 33, pos := _, after := #[{ on := 6, ground := Ground.data }, { on := 6, ground := Ground.chain }, { on := 0, ground := Ground.phase }, { on := 1, ground := Ground.phase }, { on := 2, ground := Ground.phase }, { on := 3, ground := Ground.phase }, { on := 4, ground := Ground.phase }, { on := 5, ground := Ground.phase }, { on := 6, ground := Ground.phase }], guard := none }) (v := _) rfl (by kernel_rfl) (by kernel_rfl) (by kernel_rfl) (by kernel_rfl) (fun _ _ _ h => h) (by assumption) (Or.inl ⟨by rfl, ?hy5⟩) (fun _ => rfl) ?rest5
             case hy5 => (intro w hSw; (try dsimp only at hSw); go_simp; try with_reducible rfl))
          | (refine ordS_take (i := 7) (oi := { dst := some 6, op := Op.assign (Operand.tmp 31), type := 33, pos := _, after := #[{ on := 6, ground := Ground.data }, { on := 6, ground := Ground.chain }, { on := 0, ground := Ground.phase }, { on := 1, ground := Ground.phase }, { on := 2, ground := Ground.phase }, { on := 3, ground := Ground.phase }, { on := 4, ground := Ground.phase }, { on := 5, ground := Ground.phase }, { on := 6, ground := Ground.phase }], guard := none }) (v := undef) rfl (by kernel_rfl) (by kernel_rfl) (by kernel_rfl) (by kernel_rfl) (fun _ _ _ h => h) (by assumption) (Or.inr ⟨by rfl, rfl⟩) (fun _ => rfl) ?_)
        try simp only [Act.put, List.setIfInBounds_toArray, List.set_cons_zero, List.set_cons_succ]
        first
          | (refine' ordS_take (i := 8) (oi := { dst := some 7, op := Op.assign (Operand.const (Value.int IntKind.i64 0)), type := 34, pos := _, after := #[{ on := 7, ground := Ground.chain }, { on := 0, ground := Ground.phase }, { on := 1, ground := Ground.phase }, { on := 2, ground := Ground.phase }, { on := 3, ground := Ground.phase }, { on := 4, ground := Ground.phase }, { on := 5, ground := Ground.phase }, { on := 6, ground := Ground.phase }, { on := 7, ground := Ground.phase }], guard := none }) (v := _) rfl (by kernel_rfl) (by kernel_rfl) (by kernel_rfl) (by kernel_rfl) (fun _ _ _ h => h) (by assumption) (Or.inl ⟨by rfl, ?hy6⟩) (fun _ => rfl) ?rest6
             case hy6 => (intro w hSw; (try dsimp only at hSw); go_simp; try with_reducible rfl))
          | (refine ordS_take (i := 8) (oi := { dst := some 7, op := Op.assign (Operand.const (Value.int IntKind.i64 0)), type := 34, pos := _, after := #[{ on := 7, ground := Ground.chain }, { on := 0, ground := Ground.phase }, { on := 1, ground := Ground.phase }, { on := 2, ground := Ground.phase }, { on := 3, ground := Ground.phase }, { on := 4, ground := Ground.phase }, { on := 5, ground := Ground.phase }, { on := 6, ground := Ground.phase }, { on := 7, ground := Ground.phase }], guard := none }) (v := undef) rfl (by kernel_rfl) (by kernel_rfl) (by kernel_rfl) (by kernel_rfl) (fun _ _ _ h => h) (by assumption) (Or.inr ⟨by rfl, rfl⟩) (fun _ => rfl) ?_)
        try simp only [Act.put, List.setIfInBounds_toArray, List.set_cons_zero, List.set_cons_succ]
        refine ordS_done (by kernel_rfl) ?_
        have HD := Lib.hid (bl_tr hA hD)
        have HRU := Lib.hid hru
        have HDL := Lib.hid hdl
        clear hD hru hlen hdl
        go_wp2
        go_ret2
        exact ⟨⟨some ⟨gd, 0, none⟩, zs.length, ds, by rw [HDL.out]; rfl, HRU.out, fun h => absurd rfl h, fun _ => ⟨HDL.out, hfar⟩⟩, HD.out⟩
      · rw [if_neg (fun h => hh h.2)] at hE
        subst hE
        have hh2 : hasB X Y U V c.1 c.2 = false := by
          have : ¬ hasB X Y U V c.1 c.2 = true := hh
          simpa using this
        go_enter Tryd.func16, Tryd.ntmps16
        go_wp2_with fail
        refine (check_any _ _ _ _ _ _).mono ?_
        rintro e w1 ⟨rfl, hb⟩
        have hk : Below w.heap.size w w1 := by first | exact hb | exact bl_tr (bl_al (bl0 _) _) hb | exact bl_tr (bl_dr (bl_al (bl0 _) _)) hb | exact bl_tr (bl_al (bl_al (bl0 _) _) _) hb | exact bl_tr (bl_dr (bl_al (bl_al (bl0 _) _) _)) hb | exact bl_tr (bl_al (bl_al (bl_al (bl0 _) _) _) _) hb | exact bl_tr (bl_dr (bl_al (bl_al (bl_al (bl0 _) _) _) _)) hb | exact bl_tr (bl_al (bl_al (bl_al (bl_al (bl0 _) _) _) _) _) hb | exact bl_tr (bl_dr (bl_al (bl_al (bl_al (bl_al (bl0 _) _) _) _) _)) hb | exact bl_tr (bl_al (bl_al (bl_al (bl_al (bl_al (bl0 _) _) _) _) _) _) hb | exact bl_tr (bl_dr (bl_al (bl_al (bl_al (bl_al (bl_al (bl0 _) _) _) _) _) _)) hb | exact bl_tr (bl_al (bl_al (bl_al (bl_al (bl_al (bl_al (bl0 _) _) _) _) _) _) _) hb | exact bl_tr (bl_dr (bl_al (bl_al (bl_al (bl_al (bl_al (bl_al (bl0 _) _) _) _) _) _) _)) hb | exact bl_tr (bl_dr (bl0 _)) hb
        replace hA := bl_tr hA hk
        have f0 := cell_later hb (v := .int .i64 A) (a := ⟨w.heap.size, 0, none⟩) (by simp [go_sem])
        have f1 := cell_later hb (v := .int .i64 B) (a := ⟨w.heap.size, 1, none⟩) (by simp [go_sem])
        have f2 := cell_later hb (v := .slice a zs.length cap) (a := ⟨w.heap.size, 2, none⟩) (by simp [go_sem])
        have g0 := cell_later hb (v := .int .i64 X) (a := ⟨w.heap.size + 1, 0, none⟩) (by simp [go_sem])
        have g1 := cell_later hb (v := .int .i64 Y) (a := ⟨w.heap.size + 1, 1, none⟩) (by simp [go_sem])
        have g2 := cell_later hb (v := .int .i64 U) (a := ⟨w.heap.size + 1, 2, none⟩) (by simp [go_sem])
        have g3 := cell_later hb (v := .int .i64 V) (a := ⟨w.heap.size + 1, 3, none⟩) (by simp [go_sem])
        have h0 := cell_later hb (v := .int .i64 c.1) (a := ⟨w.heap.size + 1 + 1, 0, none⟩) (by simp [go_sem])
        have h1 := cell_later hb (v := .int .i64 c.2) (a := ⟨w.heap.size + 1 + 1, 1, none⟩) (by simp [go_sem])
        clear hb hk
        have zf0 := blk_lt f0
        have zf1 := blk_lt f1
        have zf2 := blk_lt f2
        have zg0 := blk_lt g0
        have zg1 := blk_lt g1
        have zg2 := blk_lt g2
        have zg3 := blk_lt g3
        have zh0 := blk_lt h0
        have zh1 := blk_lt h1
        rw [HC.out]
        go_wp2_with fail
        refine (fits_any _ _ _ _ _ _ _).mono ?_
        rintro e w2 ⟨rfl, hb⟩
        have hk : Below w1.heap.size w1 w2 := by first | exact hb | exact bl_tr (bl_al (bl0 _) _) hb | exact bl_tr (bl_dr (bl_al (bl0 _) _)) hb | exact bl_tr (bl_al (bl_al (bl0 _) _) _) hb | exact bl_tr (bl_dr (bl_al (bl_al (bl0 _) _) _)) hb | exact bl_tr (bl_al (bl_al (bl_al (bl0 _) _) _) _) hb | exact bl_tr (bl_dr (bl_al (bl_al (bl_al (bl0 _) _) _) _)) hb | exact bl_tr (bl_al (bl_al (bl_al (bl_al (bl0 _) _) _) _) _) hb | exact bl_tr (bl_dr (bl_al (bl_al (bl_al (bl_al (bl0 _) _) _) _) _)) hb | exact bl_tr (bl_al (bl_al (bl_al (bl_al (bl_al (bl0 _) _) _) _) _) _) hb | exact bl_tr (bl_dr (bl_al (bl_al (bl_al (bl_al (bl_al (bl0 _) _) _) _) _) _)) hb | exact bl_tr (bl_al (bl_al (bl_al (bl_al (bl_al (bl_al (bl0 _) _) _) _) _) _) _) hb | exact bl_tr (bl_dr (bl_al (bl_al (bl_al (bl_al (bl_al (bl_al (bl0 _) _) _) _) _) _) _)) hb | exact bl_tr (bl_dr (bl0 _)) hb
        replace hA := bl_tr hA hk
        replace f0 := cell_later hk f0
        replace f1 := cell_later hk f1
        replace f2 := cell_later hk f2
        replace g0 := cell_later hk g0
        replace g1 := cell_later hk g1
        replace g2 := cell_later hk g2
        replace g3 := cell_later hk g3
        replace h0 := cell_later hk h0
        replace h1 := cell_later hk h1
        clear hb hk
        have zf0 := blk_lt f0
        have zf1 := blk_lt f1
        have zf2 := blk_lt f2
        have zg0 := blk_lt g0
        have zg1 := blk_lt g1
        have zg2 := blk_lt g2
        have zg3 := blk_lt g3
        have zh0 := blk_lt h0
        have zh1 := blk_lt h1
        rw [hf]
        go_wp2_with fail
        refine (has_any _ _ _ _ _ _ _).mono ?_
        rintro e w3 ⟨rfl, hb⟩
        have hk : Below w2.heap.size w2 w3 := by first | exact hb | exact bl_tr (bl_al (bl0 _) _) hb | exact bl_tr (bl_dr (bl_al (bl0 _) _)) hb | exact bl_tr (bl_al (bl_al (bl0 _) _) _) hb | exact bl_tr (bl_dr (bl_al (bl_al (bl0 _) _) _)) hb | exact bl_tr (bl_al (bl_al (bl_al (bl0 _) _) _) _) hb | exact bl_tr (bl_dr (bl_al (bl_al (bl_al (bl0 _) _) _) _)) hb | exact bl_tr (bl_al (bl_al (bl_al (bl_al (bl0 _) _) _) _) _) hb | exact bl_tr (bl_dr (bl_al (bl_al (bl_al (bl_al (bl0 _) _) _) _) _)) hb | exact bl_tr (bl_al (bl_al (bl_al (bl_al (bl_al (bl0 _) _) _) _) _) _) hb | exact bl_tr (bl_dr (bl_al (bl_al (bl_al (bl_al (bl_al (bl0 _) _) _) _) _) _)) hb | exact bl_tr (bl_al (bl_al (bl_al (bl_al (bl_al (bl_al (bl0 _) _) _) _) _) _) _) hb | exact bl_tr (bl_dr (bl_al (bl_al (bl_al (bl_al (bl_al (bl_al (bl0 _) _) _) _) _) _) _)) hb | exact bl_tr (bl_dr (bl0 _)) hb
        replace hA := bl_tr hA hk
        replace f0 := cell_later hk f0
        replace f1 := cell_later hk f1
        replace f2 := cell_later hk f2
        replace g0 := cell_later hk g0
        replace g1 := cell_later hk g1
        replace g2 := cell_later hk g2
        replace g3 := cell_later hk g3
        replace h0 := cell_later hk h0
        replace h1 := cell_later hk h1
        clear hb hk
        have zf0 := blk_lt f0
        have zf1 := blk_lt f1
        have zf2 := blk_lt f2
        have zg0 := blk_lt g0
        have zg1 := blk_lt g1
        have zg2 := blk_lt g2
        have zg3 := blk_lt g3
        have zh0 := blk_lt h0
        have zh1 := blk_lt h1
        rw [hh2]
        go_wp2
        go_ret2
        exact ⟨⟨none, 0, [], rfl, .inl rfl, fun _ => rfl, fun h => by cases h⟩, hA⟩
    · have hf2 : fitsB A B X Y U V = false := by simpa using hf
      rw [if_neg (fun h => hf h.1)] at hE
      subst hE
      clear hf
      go_enter Tryd.func16, Tryd.ntmps16
      go_wp2_with fail
      refine (check_any _ _ _ _ _ _).mono ?_
      rintro e w1 ⟨rfl, hb⟩
      have hk : Below w.heap.size w w1 := by first | exact hb | exact bl_tr (bl_al (bl0 _) _) hb | exact bl_tr (bl_dr (bl_al (bl0 _) _)) hb | exact bl_tr (bl_al (bl_al (bl0 _) _) _) hb | exact bl_tr (bl_dr (bl_al (bl_al (bl0 _) _) _)) hb | exact bl_tr (bl_al (bl_al (bl_al (bl0 _) _) _) _) hb | exact bl_tr (bl_dr (bl_al (bl_al (bl_al (bl0 _) _) _) _)) hb | exact bl_tr (bl_al (bl_al (bl_al (bl_al (bl0 _) _) _) _) _) hb | exact bl_tr (bl_dr (bl_al (bl_al (bl_al (bl_al (bl0 _) _) _) _) _)) hb | exact bl_tr (bl_al (bl_al (bl_al (bl_al (bl_al (bl0 _) _) _) _) _) _) hb | exact bl_tr (bl_dr (bl_al (bl_al (bl_al (bl_al (bl_al (bl0 _) _) _) _) _) _)) hb | exact bl_tr (bl_al (bl_al (bl_al (bl_al (bl_al (bl_al (bl0 _) _) _) _) _) _) _) hb | exact bl_tr (bl_dr (bl_al (bl_al (bl_al (bl_al (bl_al (bl_al (bl0 _) _) _) _) _) _) _)) hb | exact bl_tr (bl_dr (bl0 _)) hb
      replace hA := bl_tr hA hk
      have f0 := cell_later hb (v := .int .i64 A) (a := ⟨w.heap.size, 0, none⟩) (by simp [go_sem])
      have f1 := cell_later hb (v := .int .i64 B) (a := ⟨w.heap.size, 1, none⟩) (by simp [go_sem])
      have f2 := cell_later hb (v := .slice a zs.length cap) (a := ⟨w.heap.size, 2, none⟩) (by simp [go_sem])
      have g0 := cell_later hb (v := .int .i64 X) (a := ⟨w.heap.size + 1, 0, none⟩) (by simp [go_sem])
      have g1 := cell_later hb (v := .int .i64 Y) (a := ⟨w.heap.size + 1, 1, none⟩) (by simp [go_sem])
      have g2 := cell_later hb (v := .int .i64 U) (a := ⟨w.heap.size + 1, 2, none⟩) (by simp [go_sem])
      have g3 := cell_later hb (v := .int .i64 V) (a := ⟨w.heap.size + 1, 3, none⟩) (by simp [go_sem])
      have h0 := cell_later hb (v := .int .i64 c.1) (a := ⟨w.heap.size + 1 + 1, 0, none⟩) (by simp [go_sem])
      have h1 := cell_later hb (v := .int .i64 c.2) (a := ⟨w.heap.size + 1 + 1, 1, none⟩) (by simp [go_sem])
      clear hb hk
      have zf0 := blk_lt f0
      have zf1 := blk_lt f1
      have zf2 := blk_lt f2
      have zg0 := blk_lt g0
      have zg1 := blk_lt g1
      have zg2 := blk_lt g2
      have zg3 := blk_lt g3
      have zh0 := blk_lt h0
      have zh1 := blk_lt h1
      rw [HC.out]
      go_wp2_with fail
      refine (fits_any _ _ _ _ _ _ _).mono ?_
      rintro e w2 ⟨rfl, hb⟩
      have hk : Below w1.heap.size w1 w2 := by first | exact hb | exact bl_tr (bl_al (bl0 _) _) hb | exact bl_tr (bl_dr (bl_al (bl0 _) _)) hb | exact bl_tr (bl_al (bl_al (bl0 _) _) _) hb | exact bl_tr (bl_dr (bl_al (bl_al (bl0 _) _) _)) hb | exact bl_tr (bl_al (bl_al (bl_al (bl0 _) _) _) _) hb | exact bl_tr (bl_dr (bl_al (bl_al (bl_al (bl0 _) _) _) _)) hb | exact bl_tr (bl_al (bl_al (bl_al (bl_al (bl0 _) _) _) _) _) hb | exact bl_tr (bl_dr (bl_al (bl_al (bl_al (bl_al (bl0 _) _) _) _) _)) hb | exact bl_tr (bl_al (bl_al (bl_al (bl_al (bl_al (bl0 _) _) _) _) _) _) hb | exact bl_tr (bl_dr (bl_al (bl_al (bl_al (bl_al (bl_al (bl0 _) _) _) _) _) _)) hb | exact bl_tr (bl_al (bl_al (bl_al (bl_al (bl_al (bl_al (bl0 _) _) _) _) _) _) _) hb | exact bl_tr (bl_dr (bl_al (bl_al (bl_al (bl_al (bl_al (bl_al (bl0 _) _) _) _) _) _) _)) hb | exact bl_tr (bl_dr (bl0 _)) hb
      replace hA := bl_tr hA hk
      replace f0 := cell_later hk f0
      replace f1 := cell_later hk f1
      replace f2 := cell_later hk f2
      replace g0 := cell_later hk g0
      replace g1 := cell_later hk g1
      replace g2 := cell_later hk g2
      replace g3 := cell_later hk g3
      replace h0 := cell_later hk h0
      replace h1 := cell_later hk h1
      clear hb hk
      have zf0 := blk_lt f0
      have zf1 := blk_lt f1
      have zf2 := blk_lt f2
      have zg0 := blk_lt g0
      have zg1 := blk_lt g1
      have zg2 := blk_lt g2
      have zg3 := blk_lt g3
      have zh0 := blk_lt h0
      have zh1 := blk_lt h1
      rw [hf2]
      go_wp2
      go_ret2
      exact ⟨⟨none, 0, [], rfl, .inl rfl, fun _ => rfl, fun h => by cases h⟩, hA⟩
  · rw [if_neg h0] at hE
    subst hE
    have h1 : (chk != 0) = true := by rw [bne_iff_ne]; exact h0
    have H0 := Lib.hid h0
    clear hchk h0
    go_enter Tryd.func16, Tryd.ntmps16
    go_wp2_with fail
    refine (check_any _ _ _ _ _ _).mono ?_
    rintro e w1 ⟨rfl, hb⟩
    have hk : Below w.heap.size w w1 := by first | exact hb | exact bl_tr (bl_al (bl0 _) _) hb | exact bl_tr (bl_dr (bl_al (bl0 _) _)) hb | exact bl_tr (bl_al (bl_al (bl0 _) _) _) hb | exact bl_tr (bl_dr (bl_al (bl_al (bl0 _) _) _)) hb | exact bl_tr (bl_al (bl_al (bl_al (bl0 _) _) _) _) hb | exact bl_tr (bl_dr (bl_al (bl_al (bl_al (bl0 _) _) _) _)) hb | exact bl_tr (bl_al (bl_al (bl_al (bl_al (bl0 _) _) _) _) _) hb | exact bl_tr (bl_dr (bl_al (bl_al (bl_al (bl_al (bl0 _) _) _) _) _)) hb | exact bl_tr (bl_al (bl_al (bl_al (bl_al (bl_al (bl0 _) _) _) _) _) _) hb | exact bl_tr (bl_dr (bl_al (bl_al (bl_al (bl_al (bl_al (bl0 _) _) _) _) _) _)) hb | exact bl_tr (bl_al (bl_al (bl_al (bl_al (bl_al (bl_al (bl0 _) _) _) _) _) _) _) hb | exact bl_tr (bl_dr (bl_al (bl_al (bl_al (bl_al (bl_al (bl_al (bl0 _) _) _) _) _) _) _)) hb | exact bl_tr (bl_dr (bl0 _)) hb
    replace hA := bl_tr hA hk
    clear hb hk
    rw [HC.out]
    go_wp2
    go_ret2
    exact ⟨⟨none, 0, [], rfl, .inl rfl, fun _ => rfl, fun h => absurd h H0.out⟩, hA⟩

set_option maxRecDepth 100000 in
set_option maxHeartbeats 4000000 in
theorem from_any (A B : Int) (a : Option Addr) (cap : Nat) (zs : List Int) (c : IC) (w : World) (hz : AllH zs) (hr : RowH w a zs) (hst : Stp w) :
    Calls Tryd.prog 20 #[.agg #[.int .i64 A, .int .i64 B, .slice a zs.length cap], .agg #[.int .i64 c.1, .int .i64 c.2]] w fun e w' => WinR A B zs (0, 0, A, B) c e w' ∧ Below w.heap.size w w' := by
  have hA := bl0 w
  have hcall := fun W (h1 : RowH W a zs) (h2 : Stp W) => within_any A B a cap zs (0, 0, A, B) c W hz h1 h2
  have HC := Lib.hid hcall
  clear hcall
  go_enter Tryd.func20, Tryd.ntmps20
  go_wp2_with fail
  have hA1 := bl_al (bl_al hA (.cells #[.int .i64 A, .int .i64 B, .slice a zs.length cap] 26)) (.cells #[.int .i64 c.1, .int .i64 c.2] 30)
  refine (HC.out _ (hr.below hA1) (hst.below hA1)).mono ?_
  rintro e w1 ⟨⟨b, cap2, ds, rfl, h2, h3, h4⟩, hb⟩
  have hA2 := bl_tr hA1 hb
  obtain ⟨E, hE⟩ : ∃ E, errW A B zs.length (0, 0, A, B) c = E := ⟨_, rfl⟩
  rw [hE] at h3 h4 ⊢
  have HE := Lib.hid hE
  have H2 := Lib.hid h2
  have H3 := Lib.hid h3
  have H4 := Lib.hid h4
  clear h2 h3 h4 hA1 hb hE
  go_wp2
  go_ret2
  refine ⟨?_, hA2⟩
  unfold WinR
  rw [HE.out]
  exact ⟨b, cap2, ds, rfl, H2.out, H3.out, H4.out⟩
end Go.Proofs.YtjkecdghlpeigaaDoor
