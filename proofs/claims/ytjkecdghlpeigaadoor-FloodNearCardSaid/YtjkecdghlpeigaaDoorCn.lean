/- Least costs: Path. -/
import Derived.Test.YtjkecdghlpeigaaDoorCm
namespace Go.Proofs.YtjkecdghlpeigaaDoor
open Go.RowKit

/-- What Path tells. -/
def PathR (A B : Int) (zs : List Int) (b : BX) (c t : IC) (e : Ending) (W : World) : Prop :=
  ∃ (a : Option Addr) (cap : Nat) (l : List IC) (cost er : Int), e = .returned (.tuple #[.slice a l.length cap, .int .u64 cost, .int .i64 er]) ∧ RowC W a l ∧ l.length ≤ 65536 ∧
    (errW A B zs.length b c ≠ 0 → er = errW A B zs.length b c ∧ l = [] ∧ cost = 0) ∧
    (errW A B zs.length b c = 0 → (inBx b t = false → er = 10 ∧ l = [] ∧ cost = 0) ∧
      (inBx b t = true → ∀ ds : List Int, ds.length = zs.length → Far (gphB A B b zs) (numN A c) (atD ds) →
        (atD ds (numN A t) = 18446744073709551615 → er = 22 ∧ l = [] ∧ cost = 0) ∧ (atD ds (numN A t) ≠ 18446744073709551615 → er = 0 ∧ cost = atD ds (numN A t) ∧ l = pathL A B zs ds (numN A t))))
/-- What is told of all is one list. -/
theorem far_same {A B : Int} {zs ds ds' : List Int} {b : BX} {s : Nat} (hG : (gphB A B b zs).Ok) (h : Far (gphB A B b zs) s (atD ds)) (h' : Far (gphB A B b zs) s (atD ds')) (hl : ds.length = ds'.length) : ds = ds' := by
  refine List.ext_getElem hl fun i h1 h2 => ?_
  rw [atD_get h1, atD_get h2]
  exact h.one hG h' i

set_option maxRecDepth 100000 in
set_option maxHeartbeats 4000000 in
theorem path_any (A B : Int) (a : Option Addr) (cap : Nat) (zs : List Int) (b : BX) (c t : IC) (w : World) (hz : AllH zs) (hr : RowH w a zs) (hst : Stp w) :
    Calls Tryd.prog 21 #[.agg #[.int .i64 A, .int .i64 B, .slice a zs.length cap], .agg #[.int .i64 b.1, .int .i64 b.2.1, .int .i64 b.2.2.1, .int .i64 b.2.2.2], .agg #[.int .i64 c.1, .int .i64 c.2], .agg #[.int .i64 t.1, .int .i64 t.2]] w fun e w' => PathR A B zs b c t e w' ∧ Below w.heap.size w w' := by
  have hA0 := bl_al (bl_al (bl_al (bl_al (bl0 w) (.cells #[.int .i64 A, .int .i64 B, .slice a zs.length cap] 26)) (.cells #[.int .i64 b.1, .int .i64 b.2.1, .int .i64 b.2.2.1, .int .i64 b.2.2.2] 28)) (.cells #[.int .i64 c.1, .int .i64 c.2] 30)) (.cells #[.int .i64 t.1, .int .i64 t.2] 30)
  have hcall := within_any A B a cap zs b c _ hz (hr.below hA0) (hst.below hA0)
  obtain ⟨X, Y, U, V⟩ := b
  dsimp only at hcall hA0 ⊢
  obtain ⟨E, hE⟩ : ∃ E, errW A B zs.length (X, Y, U, V) c = E := ⟨_, rfl⟩
  have HE := Lib.hid hE
  unfold WinR at hcall
  rw [hE] at hcall
  unfold PathR
  rw [hE]
  by_cases h0 : E = 0
  case neg =>
    have h1 : (E != 0) = true := by rw [bne_iff_ne]; exact h0
    have H0 := Lib.hid h0
    clear hE h0 hr hst
    go_enter Tryd.func21, Tryd.ntmps21
    go_wp2_with fail
    refine hcall.mono ?_
    rintro e w1 ⟨⟨b1, cap1, ds, rfl, -, h3, -⟩, hb⟩
    have hds := h3 H0.out
    subst hds
    have hA1 := bl_tr hA0 hb
    clear hcall hA0 hb h3
    go_wp2
    refine bodyPost_ret (v := .tuple #[.slice none 0 0, .int .u64 0, .int .i64 E]) (by simp [results, Tryd.results21, go_sem]) rfl ?_
    exact ⟨⟨none, 0, [], 0, E, rfl, .inl rfl, Nat.zero_le _, fun _ => ⟨rfl, rfl, rfl⟩, fun h => absurd h H0.out⟩, hA1⟩
  case pos =>
    subst h0
    obtain ⟨hchk, hf, hin⟩ := errW_ok hE
    obtain ⟨hmay, hn⟩ := chkF_may hchk
    have HN := Lib.hid hn
    have HG := Lib.hid (gphB_ok (b := (X, Y, U, V)) hmay hn hz)
    have hru0 := hr.below hA0
    clear hE hchk hn
    have c0 : ∀ w1, Below _ _ w1 → _ := fun w1 (hb : Below ((((w.alloc (.cells #[.int .i64 A, .int .i64 B, .slice a zs.length cap] 26)).alloc (.cells #[.int .i64 X, .int .i64 Y, .int .i64 U, .int .i64 V] 28)).alloc (.cells #[.int .i64 c.1, .int .i64 c.2] 30)).alloc (.cells #[.int .i64 t.1, .int .i64 t.2] 30)).heap.size ((((w.alloc (.cells #[.int .i64 A, .int .i64 B, .slice a zs.length cap] 26)).alloc (.cells #[.int .i64 X, .int .i64 Y, .int .i64 U, .int .i64 V] 28)).alloc (.cells #[.int .i64 c.1, .int .i64 c.2] 30)).alloc (.cells #[.int .i64 t.1, .int .i64 t.2] 30)) w1) =>
      (⟨cell_later hb (v := .int .i64 A) (a := ⟨w.heap.size, 0, none⟩) (by simp [go_sem]), cell_later hb (v := .int .i64 B) (a := ⟨w.heap.size, 1, none⟩) (by simp [go_sem]), cell_later hb (v := .slice a zs.length cap) (a := ⟨w.heap.size, 2, none⟩) (by simp [go_sem]), cell_later hb (v := .int .i64 X) (a := ⟨w.heap.size + 1, 0, none⟩) (by simp [go_sem]), cell_later hb (v := .int .i64 Y) (a := ⟨w.heap.size + 1, 1, none⟩) (by simp [go_sem]), cell_later hb (v := .int .i64 U) (a := ⟨w.heap.size + 1, 2, none⟩) (by simp [go_sem]), cell_later hb (v := .int .i64 V) (a := ⟨w.heap.size + 1, 3, none⟩) (by simp [go_sem]), cell_later hb (v := .int .i64 t.1) (a := ⟨w.heap.size + 1 + 1 + 1, 0, none⟩) (by simp [go_sem]), cell_later hb (v := .int .i64 t.2) (a := ⟨w.heap.size + 1 + 1 + 1, 1, none⟩) (by simp [go_sem])⟩ : w1.cell? ⟨w.heap.size, 0, none⟩ = some (.int .i64 A) ∧ w1.cell? ⟨w.heap.size, 1, none⟩ = some (.int .i64 B) ∧ w1.cell? ⟨w.heap.size, 2, none⟩ = some (.slice a zs.length cap) ∧ w1.cell? ⟨w.heap.size + 1, 0, none⟩ = some (.int .i64 X) ∧ w1.cell? ⟨w.heap.size + 1, 1, none⟩ = some (.int .i64 Y) ∧ w1.cell? ⟨w.heap.size + 1, 2, none⟩ = some (.int .i64 U) ∧ w1.cell? ⟨w.heap.size + 1, 3, none⟩ = some (.int .i64 V) ∧ w1.cell? ⟨w.heap.size + 1 + 1 + 1, 0, none⟩ = some (.int .i64 t.1) ∧ w1.cell? ⟨w.heap.size + 1 + 1 + 1, 1, none⟩ = some (.int .i64 t.2))
    have HC0 := Lib.hid c0
    clear c0
    go_enter Tryd.func21, Tryd.ntmps21
    go_wp2_with fail
    refine hcall.mono ?_
    rintro e w1 ⟨⟨b1, cap1, ds, rfl, hru, -, h4⟩, hb⟩
    obtain ⟨hdl, hfar⟩ := h4 (by first | rfl | trivial)
    rw [hdl]
    obtain ⟨f0, f1, f2, g0, g1, g2, g3, t0, t1⟩ := HC0.out _ hb
    have zf := blk_lt f0
    have zt := blk_lt t0
    have hA1 := bl_tr hA0 hb
    have HFAR := Lib.hid hfar
    have HDL := Lib.hid hdl
    clear hcall hb h4 hA0 hru0 hfar hdl HC0
    go_wp2_with fail
    refine (has_any _ _ _ _ _ _ _).mono ?_
    rintro e w2 ⟨rfl, hb2⟩
    replace f0 := cell_later hb2 f0; replace f1 := cell_later hb2 f1; replace f2 := cell_later hb2 f2; replace t0 := cell_later hb2 t0; replace t1 := cell_later hb2 t1
    have zf2 := blk_lt f0
    have zt2 := blk_lt t0
    have hA2 := bl_tr hA1 hb2
    replace hru := hru.below hb2
    clear hb2 hA1 g0 g1 g2 g3 zf zt
    obtain ⟨hh, hhe⟩ : ∃ hh, hasB X Y U V t.1 t.2 = hh := ⟨_, rfl⟩
    have HH := Lib.hid (show inBx (X, Y, U, V) t = hh from hhe)
    rw [hhe]
    cases hh
    · clear hhe
      go_wp2
      refine bodyPost_ret (v := .tuple #[.slice none 0 0, .int .u64 0, .int .i64 10]) (by simp [results, Tryd.results21, go_sem]) rfl ?_
      exact ⟨⟨none, 0, [], 0, 10, rfl, .inl rfl, Nat.zero_le _, fun h => absurd rfl h, fun _ => ⟨fun _ => ⟨rfl, rfl, rfl⟩, fun h => by rw [HH.out] at h; cases h⟩⟩, hA2⟩
    · have hon := box_on (b := (X, Y, U, V)) hf hhe
      have htl := numN_at hon HN.out
      have hnum := fun w => number_any A B a zs.length cap t w hon
      obtain ⟨i, hti⟩ : ∃ i, numN A t = i := ⟨_, rfl⟩
      have HTI := Lib.hid hti
      rw [hti] at hnum htl
      clear hti
      clear hhe
      go_wp2_with fail
      refine (hnum _).mono ?_
      rintro e w3 ⟨rfl, hb3⟩
      replace f0 := cell_later hb3 f0; replace f1 := cell_later hb3 f1; replace f2 := cell_later hb3 f2
      have hA3 := bl_tr hA2 hb3
      have hru3 := hru.below hb3
      have zf3 := blk_lt f0
      obtain ⟨gd, gq, e, q⟩ := hru3.cell (show i < ds.length by rw [HDL.out]; exact htl)
      subst e
      have hi0 : (0 : Int) ≤ (i : Int) := by omega
      have hi1 : (i : Int) < (zs.length : Int) := by omega
      clear hb3 hA2 hru hnum zf2 zt2 t0 t1
      by_cases hd : atD ds i = 18446744073709551615
      · rw [hd] at q
        have HD := Lib.hid hd
        clear hd
        go_wp2
        refine bodyPost_ret (v := .tuple #[.slice none 0 0, .int .u64 0, .int .i64 22]) (by simp [results, Tryd.results21, go_sem]) rfl ?_
        refine ⟨⟨none, 0, [], 0, 22, rfl, .inl rfl, Nat.zero_le _, fun h => absurd rfl h, fun _ => ⟨fun h => (by rw [HH.out] at h; cases h), fun _ ds' h1 h2 => ?_⟩⟩, hA3⟩
        have e := far_same HG.out h2 HFAR.out (by rw [h1, HDL.out])
        subst e
        rw [HTI.out]
        exact ⟨fun _ => ⟨rfl, rfl, rfl⟩, fun h => absurd HD.out h⟩
      · have hd2 : (atD ds i == 18446744073709551615) = false := by rw [beq_eq_false_iff_ne]; exact hd
        have hway := fun W h1 h2 h3 => way_any A B a (some ⟨gd, gq, none⟩) cap cap1 zs ds (X, Y, U, V) (numN A c) i W hmay HN.out hz HFAR.out HDL.out h1 h2 h3 hd
        have hpl : (pathL A B zs ds i).length ≤ 65536 := by
          have h1 := wayL_len hmay HN.out hz HFAR.out hd
          have := area_bd hmay
          have := HN.out
          unfold pathL
          simp
          omega
        obtain ⟨l, hl⟩ : ∃ l, pathL A B zs ds i = l := ⟨_, rfl⟩
        rw [hl] at hway hpl
        have HL := Lib.hid hl
        have HDI := Lib.hid hd
        obtain ⟨d, hdd⟩ : ∃ d, atD ds i = d := ⟨_, rfl⟩
        rw [hdd] at q hd2
        have HDD := Lib.hid hdd
        have hr3 := hr.below hA3
        have hst3 := hst.below hA3
        clear hl hd hdd
        have hD := bl_dr (bl0 w3)
        have hS : w3.drew.cell? ⟨w.heap.size, 0, none⟩ = some (.int .i64 A) ∧ w3.drew.cell? ⟨w.heap.size, 1, none⟩ = some (.int .i64 B) ∧ w3.drew.cell? ⟨w.heap.size, 2, none⟩ = some (.slice a zs.length cap) ∧ w3.drew.cell? ⟨gd, gq + i, none⟩ = some (.int .u64 d) := ⟨cell_later hD f0, cell_later hD f1, cell_later hD f2, cell_later hD q⟩
        go_wp2
        refine (wpIn_wide (n := 11)).1 ?_
        refine ordS_begin (S := (fun w' : World => w'.cell? ⟨w.heap.size, 0, none⟩ = some (.int .i64 A) ∧ w'.cell? ⟨w.heap.size, 1, none⟩ = some (.int .i64 B) ∧ w'.cell? ⟨w.heap.size, 2, none⟩ = some (.slice a zs.length cap) ∧ w'.cell? ⟨gd, gq + i, none⟩ = some (.int .u64 d))) (by kernel_rfl) hS (fun hH => ?_)
        first
          | (refine' ordS_take (i := 0) (oi := { dst := some 36, op := Op.load 26 (Operand.tmp 4), type := 26, pos := _, after := #[], guard := none }) (v := _) rfl (by kernel_rfl) (by kernel_rfl) (by kernel_rfl) (by kernel_rfl) (fun _ _ _ h => h) (by assumption) (Or.inl ⟨by rfl, ?hy1⟩) (fun _ => rfl) ?rest1
             case hy1 => (intro w hSw; (try dsimp only at hSw); go_simp; try with_reducible rfl))
          | (refine ordS_take (i := 0) (oi := { dst := some 36, op := Op.load 26 (Operand.tmp 4), type := 26, pos := _, after := #[], guard := none }) (v := undef) rfl (by kernel_rfl) (by kernel_rfl) (by kernel_rfl) (by kernel_rfl) (fun _ _ _ h => h) (by assumption) (Or.inr ⟨by rfl, rfl⟩) (fun _ => rfl) ?_)
        try simp only [Act.put, List.setIfInBounds_toArray, List.set_cons_zero, List.set_cons_succ]
        first
          | (refine' ordS_take (i := 1) (oi := { dst := some 37, op := Op.move (Operand.tmp 11), type := 33, pos := _, after := #[], guard := none }) (v := _) rfl (by kernel_rfl) (by kernel_rfl) (by kernel_rfl) (by kernel_rfl) (fun _ _ _ h => h) (by assumption) (Or.inl ⟨by rfl, ?hy2⟩) (fun _ => rfl) ?rest2
             case hy2 => (intro w hSw; (try dsimp only at hSw); go_simp; try with_reducible rfl))
          | (refine ordS_take (i := 1) (oi := { dst := some 37, op := Op.move (Operand.tmp 11), type := 33, pos := _, after := #[], guard := none }) (v := undef) rfl (by kernel_rfl) (by kernel_rfl) (by kernel_rfl) (by kernel_rfl) (fun _ _ _ h => h) (by assumption) (Or.inr ⟨by rfl, rfl⟩) (fun _ => rfl) ?_)
        try simp only [Act.put, List.setIfInBounds_toArray, List.set_cons_zero, List.set_cons_succ]
        first
          | (refine' ordS_take (i := 2) (oi := { dst := some 38, op := Op.move (Operand.tmp 13), type := 3, pos := _, after := #[], guard := none }) (v := _) rfl (by kernel_rfl) (by kernel_rfl) (by kernel_rfl) (by kernel_rfl) (fun _ _ _ h => h) (by assumption) (Or.inl ⟨by rfl, ?hy3⟩) (fun _ => rfl) ?rest3
             case hy3 => (intro w hSw; (try dsimp only at hSw); go_simp; try with_reducible rfl))
          | (refine ordS_take (i := 2) (oi := { dst := some 38, op := Op.move (Operand.tmp 13), type := 3, pos := _, after := #[], guard := none }) (v := undef) rfl (by kernel_rfl) (by kernel_rfl) (by kernel_rfl) (by kernel_rfl) (fun _ _ _ h => h) (by assumption) (Or.inr ⟨by rfl, rfl⟩) (fun _ => rfl) ?_)
        try simp only [Act.put, List.setIfInBounds_toArray, List.set_cons_zero, List.set_cons_succ]
        first
          | (refine' ordS_take (i := 4) (oi := { dst := some 40, op := Op.move (Operand.tmp 11), type := 33, pos := _, after := #[{ on := 8, ground := Ground.gcOnly Departure.lateStores }], guard := none }) (v := _) rfl (by kernel_rfl) (by kernel_rfl) (by kernel_rfl) (by kernel_rfl) (fun _ _ _ h => h) (by assumption) (Or.inl ⟨by rfl, ?hy4⟩) (fun _ => rfl) ?rest4
             case hy4 => (intro w hSw; (try dsimp only at hSw); go_simp; try with_reducible rfl))
          | (refine ordS_take (i := 4) (oi := { dst := some 40, op := Op.move (Operand.tmp 11), type := 33, pos := _, after := #[{ on := 8, ground := Ground.gcOnly Departure.lateStores }], guard := none }) (v := undef) rfl (by kernel_rfl) (by kernel_rfl) (by kernel_rfl) (by kernel_rfl) (fun _ _ _ h => h) (by assumption) (Or.inr ⟨by rfl, rfl⟩) (fun _ => rfl) ?_)
        try simp only [Act.put, List.setIfInBounds_toArray, List.set_cons_zero, List.set_cons_succ]
        first
          | (refine' ordS_take (i := 5) (oi := { dst := some 41, op := Op.move (Operand.tmp 13), type := 3, pos := _, after := #[{ on := 8, ground := Ground.gcOnly Departure.lateStores }], guard := none }) (v := _) rfl (by kernel_rfl) (by kernel_rfl) (by kernel_rfl) (by kernel_rfl) (fun _ _ _ h => h) (by assumption) (Or.inl ⟨by rfl, ?hy5⟩) (fun _ => rfl) ?rest5
             case hy5 => (intro w hSw; (try dsimp only at hSw); go_simp; try with_reducible rfl))
          | (refine ordS_take (i := 5) (oi := { dst := some 41, op := Op.move (Operand.tmp 13), type := 3, pos := _, after := #[{ on := 8, ground := Ground.gcOnly Departure.lateStores }], guard := none }) (v := undef) rfl (by kernel_rfl) (by kernel_rfl) (by kernel_rfl) (by kernel_rfl) (fun _ _ _ h => h) (by assumption) (Or.inr ⟨by rfl, rfl⟩) (fun _ => rfl) ?_)
        try simp only [Act.put, List.setIfInBounds_toArray, List.set_cons_zero, List.set_cons_succ]
        first
          | (refine' ordS_take (i := 6) (oi := { dst := some 42, op := Op.indexAddr 33 (Operand.tmp 40) (Operand.tmp 41), type := 0, pos := _, after := #[{ on := 4, ground := Ground.data }, { on := 5, ground := Ground.data }, { on := 8, ground := Ground.gcOnly Departure.lateStores }], guard := none }) (v := _) rfl (by kernel_rfl) (by kernel_rfl) (by kernel_rfl) (by kernel_rfl) (fun _ _ _ h => h) (by assumption) (Or.inl ⟨by rfl, ?hy6⟩) (fun _ => rfl) ?rest6
             case hy6 => (intro w hSw; (try dsimp only at hSw); go_simp; try with_reducible rfl))
          | (refine ordS_take (i := 6) (oi := { dst := some 42, op := Op.indexAddr 33 (Operand.tmp 40) (Operand.tmp 41), type := 0, pos := _, after := #[{ on := 4, ground := Ground.data }, { on := 5, ground := Ground.data }, { on := 8, ground := Ground.gcOnly Departure.lateStores }], guard := none }) (v := undef) rfl (by kernel_rfl) (by kernel_rfl) (by kernel_rfl) (by kernel_rfl) (fun _ _ _ h => h) (by assumption) (Or.inr ⟨by rfl, rfl⟩) (fun _ => rfl) ?_)
        try simp only [Act.put, List.setIfInBounds_toArray, List.set_cons_zero, List.set_cons_succ]
        first
          | (refine' ordS_take (i := 7) (oi := { dst := some 43, op := Op.load 45 (Operand.tmp 42), type := 45, pos := _, after := #[{ on := 6, ground := Ground.data }, { on := 8, ground := Ground.gcOnly Departure.lateStores }], guard := none }) (v := _) rfl (by kernel_rfl) (by kernel_rfl) (by kernel_rfl) (by kernel_rfl) (fun _ _ _ h => h) (by assumption) (Or.inl ⟨by rfl, ?hy7⟩) (fun _ => rfl) ?rest7
             case hy7 => (intro w hSw; (try dsimp only at hSw); go_simp; try with_reducible rfl))
          | (refine ordS_take (i := 7) (oi := { dst := some 43, op := Op.load 45 (Operand.tmp 42), type := 45, pos := _, after := #[{ on := 6, ground := Ground.data }, { on := 8, ground := Ground.gcOnly Departure.lateStores }], guard := none }) (v := undef) rfl (by kernel_rfl) (by kernel_rfl) (by kernel_rfl) (by kernel_rfl) (fun _ _ _ h => h) (by assumption) (Or.inr ⟨by rfl, rfl⟩) (fun _ => rfl) ?_)
        try simp only [Act.put, List.setIfInBounds_toArray, List.set_cons_zero, List.set_cons_succ]
        refine ordS_one (i := 3) (o := { dst := some 39, op := Op.call { callee := Callee.value (Operand.func 47), args := #[Operand.tmp 36, Operand.tmp 37, Operand.tmp 38], argTypes := #[26, 33, 3] }, type := 44, pos := _, after := #[{ on := 0, ground := Ground.data }, { on := 1, ground := Ground.data }, { on := 2, ground := Ground.data }], guard := none }) (by kernel_rfl) rfl (by rfl) (fun K hK => ?_)
        go_simp
        refine ⟨trivial, ?_⟩
        with_reducible refine (callsIn_wide.2 (hway _ (hr3.below hD) (hru3.below hD) (hst3.below hD))).mono ?_
        rintro e W4 ⟨ga, cap4, rfl, hrc, hb4⟩
        replace hD := bl_tr hD hb4
        have hS4 : W4.cell? ⟨w.heap.size, 0, none⟩ = some (.int .i64 A) ∧ W4.cell? ⟨w.heap.size, 1, none⟩ = some (.int .i64 B) ∧ W4.cell? ⟨w.heap.size, 2, none⟩ = some (.slice a zs.length cap) ∧ W4.cell? ⟨gd, gq + i, none⟩ = some (.int .u64 d) := ⟨cell_later hD f0, cell_later hD f1, cell_later hD f2, cell_later hD q⟩
        refine hK _ _ hS4 ?_
        clear hK K hb4
        try simp only [Act.put, List.setIfInBounds_toArray, List.set_cons_zero, List.set_cons_succ]
        first
          | (refine' ordS_take (i := 8) (oi := { dst := some 8, op := Op.assign (Operand.tmp 39), type := 44, pos := _, after := #[{ on := 3, ground := Ground.data }, { on := 3, ground := Ground.chain }, { on := 0, ground := Ground.phase }, { on := 1, ground := Ground.phase }, { on := 2, ground := Ground.phase }, { on := 3, ground := Ground.phase }, { on := 4, ground := Ground.textOnly Departure.lateStores }, { on := 5, ground := Ground.textOnly Departure.lateStores }, { on := 6, ground := Ground.textOnly Departure.lateStores }, { on := 7, ground := Ground.textOnly Departure.lateStores }], guard := none }) (v := _) rfl (by kernel_rfl) (by kernel_rfl) (by kernel_rfl) (by kernel_rfl) (fun _ _ _ h => h) (by assumption) (Or.inl ⟨by rfl, ?hy8⟩) (fun _ => rfl) ?rest8
             case hy8 => (intro w hSw; (try dsimp only at hSw); go_simp; try with_reducible rfl))
          | (refine ordS_take (i := 8) (oi := { dst := some 8, op := Op.assign (Operand.tmp 39), type := 44, pos := _, after := #[{ on := 3, ground := Ground.data }, { on := 3, ground := Ground.chain }, { on := 0, ground := Ground.phase }, { on := 1, ground := Ground.phase }, { on := 2, ground := Ground.phase }, { on := 3, ground := Ground.phase }, { on := 4, ground := Ground.textOnly Departure.lateStores }, { on := 5, ground := Ground.textOnly Departure.lateStores }, { on := 6, ground := Ground.textOnly Departure.lateStores }, { on := 7, ground := Ground.textOnly Departure.lateStores }], guard := none }) (v := undef) rfl (by kernel_rfl) (by kernel_rfl) (by kernel_rfl) (by kernel_rfl) (fun _ _ _ h => h) (by assumption) (Or.inr ⟨by rfl, rfl⟩) (fun _ => rfl) ?_)
        try simp only [Act.put, List.setIfInBounds_toArray, List.set_cons_zero, List.set_cons_succ]
        first
          | (refine' ordS_take (i := 9) (oi := { dst := some 9, op := Op.assign (Operand.tmp 43), type := 45, pos := _, after := #[{ on := 7, ground := Ground.data }, { on := 8, ground := Ground.chain }, { on := 0, ground := Ground.phase }, { on := 1, ground := Ground.phase }, { on := 2, ground := Ground.phase }, { on := 3, ground := Ground.phase }, { on := 4, ground := Ground.phase }, { on := 5, ground := Ground.phase }, { on := 6, ground := Ground.phase }, { on := 7, ground := Ground.phase }, { on := 8, ground := Ground.phase }], guard := none }) (v := _) rfl (by kernel_rfl) (by kernel_rfl) (by kernel_rfl) (by kernel_rfl) (fun _ _ _ h => h) (by assumption) (Or.inl ⟨by rfl, ?hy9⟩) (fun _ => rfl) ?rest9
             case hy9 => (intro w hSw; (try dsimp only at hSw); go_simp; try with_reducible rfl))
          | (refine ordS_take (i := 9) (oi := { dst := some 9, op := Op.assign (Operand.tmp 43), type := 45, pos := _, after := #[{ on := 7, ground := Ground.data }, { on := 8, ground := Ground.chain }, { on := 0, ground := Ground.phase }, { on := 1, ground := Ground.phase }, { on := 2, ground := Ground.phase }, { on := 3, ground := Ground.phase }, { on := 4, ground := Ground.phase }, { on := 5, ground := Ground.phase }, { on := 6, ground := Ground.phase }, { on := 7, ground := Ground.phase }, { on := 8, ground := Ground.phase }], guard := none }) (v := undef) rfl (by kernel_rfl) (by kernel_rfl) (by kernel_rfl) (by kernel_rfl) (fun _ _ _ h => h) (by assumption) (Or.inr ⟨by rfl, rfl⟩) (fun _ => rfl) ?_)
        try simp only [Act.put, List.setIfInBounds_toArray, List.set_cons_zero, List.set_cons_succ]
        first
          | (refine' ordS_take (i := 10) (oi := { dst := some 10, op := Op.assign (Operand.const (Value.int IntKind.i64 0)), type := 34, pos := _, after := #[{ on := 9, ground := Ground.chain }, { on := 0, ground := Ground.phase }, { on := 1, ground := Ground.phase }, { on := 2, ground := Ground.phase }, { on := 3, ground := Ground.phase }, { on := 4, ground := Ground.phase }, { on := 5, ground := Ground.phase }, { on := 6, ground := Ground.phase }, { on := 7, ground := Ground.phase }, { on := 8, ground := Ground.phase }, { on := 9, ground := Ground.phase }], guard := none }) (v := _) rfl (by kernel_rfl) (by kernel_rfl) (by kernel_rfl) (by kernel_rfl) (fun _ _ _ h => h) (by assumption) (Or.inl ⟨by rfl, ?hy10⟩) (fun _ => rfl) ?rest10
             case hy10 => (intro w hSw; (try dsimp only at hSw); go_simp; try with_reducible rfl))
          | (refine ordS_take (i := 10) (oi := { dst := some 10, op := Op.assign (Operand.const (Value.int IntKind.i64 0)), type := 34, pos := _, after := #[{ on := 9, ground := Ground.chain }, { on := 0, ground := Ground.phase }, { on := 1, ground := Ground.phase }, { on := 2, ground := Ground.phase }, { on := 3, ground := Ground.phase }, { on := 4, ground := Ground.phase }, { on := 5, ground := Ground.phase }, { on := 6, ground := Ground.phase }, { on := 7, ground := Ground.phase }, { on := 8, ground := Ground.phase }, { on := 9, ground := Ground.phase }], guard := none }) (v := undef) rfl (by kernel_rfl) (by kernel_rfl) (by kernel_rfl) (by kernel_rfl) (fun _ _ _ h => h) (by assumption) (Or.inr ⟨by rfl, rfl⟩) (fun _ => rfl) ?_)
        try simp only [Act.put, List.setIfInBounds_toArray, List.set_cons_zero, List.set_cons_succ]
        refine ordS_done (by kernel_rfl) ?_
        have HB := Lib.hid (bl_tr hA3 hD)
        have HRC := Lib.hid hrc
        have HPL := Lib.hid hpl
        clear hD hrc hpl hS hS4 hH hway
        go_wp2
        refine bodyPost_ret (v := .tuple #[.slice ga l.length cap4, .int .u64 d, .int .i64 0]) (by simp [results, Tryd.results21, go_sem]) rfl ?_
        refine ⟨⟨ga, cap4, l, d, 0, rfl, HRC.out, HPL.out, fun h => absurd rfl h, fun _ => ⟨fun h => (by rw [HH.out] at h; cases h), fun _ ds' h1 h2 => ?_⟩⟩, HB.out⟩
        have e := far_same HG.out h2 HFAR.out (by rw [h1, HDL.out])
        subst e
        rw [HTI.out]
        exact ⟨fun h => absurd h HDI.out, fun _ => ⟨rfl, HDD.out.symm, HL.out.symm⟩⟩
end Go.Proofs.YtjkecdghlpeigaaDoor
