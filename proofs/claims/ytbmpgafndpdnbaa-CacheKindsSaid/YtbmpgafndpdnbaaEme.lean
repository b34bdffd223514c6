/- Cache of names: Put (gen_eme.py): one more; Put whole. -/
import Derived.Test.YtbmpgafndpdnbaaEmd
namespace Go.Proofs.Ytbmpgafndpdnbaa
open Go.RowKit Go.Maps

set_option maxRecDepth 100000 in
set_option maxHeartbeats 4000000 in
theorem put_more2 (k x : Int) (p : Nat) (r : Int) (L : List (Nat × IT)) (v : Value) (S : Nat → Prop) (w : World) (h1 : CAt Try.c2 w p v L r) (h3 : ∀ k, S k ↔ CB p v L k) (hm : L.length ≤ 1000) (e : findI k (L.map Prod.snd) = none) (hr : (L.length : Int) ≠ r) :
    Calls Try.prog 31 #[.pointer (some ⟨p, 0, none⟩), nmV k, pairV x] w fun e w' => e = .returned (.tuple #[zN, .bool false]) ∧ Turned S w w' (CO Try.c2 p r ((k, x) :: L.map Prod.snd)) := by
  obtain ⟨V, hV⟩ : ∃ V, W4 w k x = V := ⟨_, rfl⟩
  have hB : Beg4 w V k x 0 ⟨#[]⟩ := by rw [← hV]; exact beg4 w k x
  have hbV : Below w.heap.size w V := by rw [← hV]; exact beg4b w k x
  have HBV := Lib.hid hbV
  have h1V := h1.below hbV
  have HP := Lib.hid (place_c2 k p v L r V h1V hm)
  rw [e] at HP
  have HBG := Lib.hid hB
  unfold W4 at hV
  have k0 := hB.k0
  have k1 := hB.k1
  have zk := blk_lt k0
  have HSL := Lib.hid (fun q (hq : S q) => h1.lt ((h3 q).1 hq))
  have HOLD := Lib.hid (fun q (hq : CB p v L q) => h1.lt hq)
  obtain ⟨a, cap, rfl, hcap, _⟩ := h1.any
  have HC := Lib.hid h1V
  have H3 := Lib.hid h3
  have hre : ((L.length : Int) == r) = false := beq_eq_false_iff_ne.2 hr
  clear e h1 h3 hr h1V hB hbV
  go_enter Try.func31, Try.ntmps31
  go_wp2_with fail
  refine HP.out.mono ?_
  rintro e w2 ⟨rfl, hb⟩
  have h2 := HC.out.below hb
  have c0 := h2.c0
  have c1 := h2.c1
  have zc := blk_lt c1
  have H2 := Lib.hid h2
  have HBG2 := Lib.hid (HBG.out.later hb)
  have HB2 := Lib.hid (bl_tr HBV.out hb)
  have hD := bl_dr (bl0 w2)
  clear hb HP h2 k0 k1 zk
  try dsimp only [idxV, Option.isSome] at *
  go_upto_region 5 with fail
  refine (wpIn_wide (n := 11)).1 ?_
  refine ordS_begin (S := (fun w' : World => w'.cell? ⟨p, 0, none⟩ = some (.int .i64 r) ∧ w'.cell? ⟨p, 1, none⟩ = some (.slice a L.length cap))) (by kernel_rfl) ⟨cell_later hD c0, cell_later hD c1⟩ (fun hH => ?_)
  refine' ordS_take (i := 0) (oi := { dst := some 21, op := Op.move (Operand.tmp 10), type := 4, pos := _, after := #[], guard := none }) (v := _) rfl (by kernel_rfl) (by kernel_rfl) (by kernel_rfl) (by kernel_rfl) (fun _ _ _ h => h) (by assumption) (Or.inl ⟨by rfl, ?hy1⟩) (fun _ => rfl) ?rest1
  case hy1 => (intro w hSw; (try dsimp only at hSw); go_simp; try with_reducible rfl)
  try simp only [Act.put, List.setIfInBounds_toArray, List.set_cons_zero, List.set_cons_succ]
  refine' ordS_take (i := 1) (oi := { dst := some 22, op := Op.unOp UnOp.not 4 (Operand.tmp 21), type := 4, pos := _, after := #[{ on := 0, ground := Ground.data }], guard := none }) (v := _) rfl (by kernel_rfl) (by kernel_rfl) (by kernel_rfl) (by kernel_rfl) (fun _ _ _ h => h) (by assumption) (Or.inl ⟨by rfl, ?hy2⟩) (fun _ => rfl) ?rest2
  case hy2 => (intro w hSw; (try dsimp only at hSw); go_simp; try with_reducible rfl)
  try simp only [Act.put, List.setIfInBounds_toArray, List.set_cons_zero, List.set_cons_succ]
  refine' ordS_take (i := 2) (oi := { dst := some 23, op := Op.move (Operand.tmp 22), type := 4, pos := _, after := #[{ on := 1, ground := Ground.data }], guard := none }) (v := _) rfl (by kernel_rfl) (by kernel_rfl) (by kernel_rfl) (by kernel_rfl) (fun _ _ _ h => h) (by assumption) (Or.inl ⟨by rfl, ?hy3⟩) (fun _ => rfl) ?rest3
  case hy3 => (intro w hSw; (try dsimp only at hSw); go_simp; try with_reducible rfl)
  try simp only [Act.put, List.setIfInBounds_toArray, List.set_cons_zero, List.set_cons_succ]
  refine' ordS_take (i := 3) (oi := { dst := some 24, op := Op.move (Operand.tmp 0), type := 52, pos := _, after := #[{ on := 2, ground := Ground.guard }], guard := some (2, true) }) (v := _) rfl (by kernel_rfl) (by kernel_rfl) (by kernel_rfl) (by kernel_rfl) (fun _ _ _ h => h) (by assumption) (Or.inl ⟨by rfl, ?hy4⟩) (fun _ => rfl) ?rest4
  case hy4 => (intro w hSw; (try dsimp only at hSw); go_simp; try with_reducible rfl)
  try simp only [Act.put, List.setIfInBounds_toArray, List.set_cons_zero, List.set_cons_succ]
  refine' ordS_take (i := 4) (oi := { dst := some 25, op := Op.nilCheck (Operand.tmp 24), type := 0, pos := _, after := #[{ on := 3, ground := Ground.data }, { on := 2, ground := Ground.guard }], guard := some (2, true) }) (v := _) rfl (by kernel_rfl) (by kernel_rfl) (by kernel_rfl) (by kernel_rfl) (fun _ _ _ h => h) (by assumption) (Or.inl ⟨by rfl, ?hy5⟩) (fun _ => rfl) ?rest5
  case hy5 => (intro w hSw; (try dsimp only at hSw); go_simp; try with_reducible rfl)
  try simp only [Act.put, List.setIfInBounds_toArray, List.set_cons_zero, List.set_cons_succ]
  refine' ordS_take (i := 5) (oi := { dst := some 26, op := Op.fieldAddr 85 (Operand.tmp 25) 1, type := 0, pos := _, after := #[{ on := 4, ground := Ground.data }, { on := 2, ground := Ground.guard }], guard := some (2, true) }) (v := _) rfl (by kernel_rfl) (by kernel_rfl) (by kernel_rfl) (by kernel_rfl) (fun _ _ _ h => h) (by assumption) (Or.inl ⟨by rfl, ?hy6⟩) (fun _ => rfl) ?rest6
  case hy6 => (intro w hSw; (try dsimp only at hSw); go_simp; try with_reducible rfl)
  try simp only [Act.put, List.setIfInBounds_toArray, List.set_cons_zero, List.set_cons_succ]
  refine' ordS_take (i := 6) (oi := { dst := some 27, op := Op.load 83 (Operand.tmp 26), type := 83, pos := _, after := #[{ on := 5, ground := Ground.data }, { on := 2, ground := Ground.guard }], guard := some (2, true) }) (v := _) rfl (by kernel_rfl) (by kernel_rfl) (by kernel_rfl) (by kernel_rfl) (fun _ _ _ h => h) (by assumption) (Or.inl ⟨by rfl, ?hy7⟩) (fun _ => rfl) ?rest7
  case hy7 => (intro w hSw; (try dsimp only at hSw); go_simp; try with_reducible rfl)
  try simp only [Act.put, List.setIfInBounds_toArray, List.set_cons_zero, List.set_cons_succ]
  refine' ordS_take (i := 7) (oi := { dst := some 28, op := Op.call { callee := Callee.builtin Builtin.len, args := #[Operand.tmp 27], argTypes := #[83] }, type := 3, pos := _, after := #[{ on := 6, ground := Ground.data }, { on := 2, ground := Ground.guard }], guard := some (2, true) }) (v := _) rfl (by kernel_rfl) (by kernel_rfl) (by kernel_rfl) (by kernel_rfl) (fun _ _ _ h => h) (by assumption) (Or.inl ⟨by rfl, ?hy8⟩) (fun _ => rfl) ?rest8
  case hy8 => (intro w hSw; (try dsimp only at hSw); go_simp; try with_reducible rfl)
  try simp only [Act.put, List.setIfInBounds_toArray, List.set_cons_zero, List.set_cons_succ]
  refine' ordS_take (i := 8) (oi := { dst := some 29, op := Op.move (Operand.tmp 0), type := 52, pos := _, after := #[{ on := 2, ground := Ground.guard }], guard := some (2, true) }) (v := _) rfl (by kernel_rfl) (by kernel_rfl) (by kernel_rfl) (by kernel_rfl) (fun _ _ _ h => h) (by assumption) (Or.inl ⟨by rfl, ?hy9⟩) (fun _ => rfl) ?rest9
  case hy9 => (intro w hSw; (try dsimp only at hSw); go_simp; try with_reducible rfl)
  try simp only [Act.put, List.setIfInBounds_toArray, List.set_cons_zero, List.set_cons_succ]
  refine' ordS_take (i := 9) (oi := { dst := some 30, op := Op.nilCheck (Operand.tmp 29), type := 0, pos := _, after := #[{ on := 8, ground := Ground.data }, { on := 2, ground := Ground.guard }], guard := some (2, true) }) (v := _) rfl (by kernel_rfl) (by kernel_rfl) (by kernel_rfl) (by kernel_rfl) (fun _ _ _ h => h) (by assumption) (Or.inl ⟨by rfl, ?hy10⟩) (fun _ => rfl) ?rest10
  case hy10 => (intro w hSw; (try dsimp only at hSw); go_simp; try with_reducible rfl)
  try simp only [Act.put, List.setIfInBounds_toArray, List.set_cons_zero, List.set_cons_succ]
  refine' ordS_take (i := 10) (oi := { dst := some 31, op := Op.fieldAddr 85 (Operand.tmp 30) 0, type := 0, pos := _, after := #[{ on := 9, ground := Ground.data }, { on := 2, ground := Ground.guard }], guard := some (2, true) }) (v := _) rfl (by kernel_rfl) (by kernel_rfl) (by kernel_rfl) (by kernel_rfl) (fun _ _ _ h => h) (by assumption) (Or.inl ⟨by rfl, ?hy11⟩) (fun _ => rfl) ?rest11
  case hy11 => (intro w hSw; (try dsimp only at hSw); go_simp; try with_reducible rfl)
  try simp only [Act.put, List.setIfInBounds_toArray, List.set_cons_zero, List.set_cons_succ]
  refine' ordS_take (i := 11) (oi := { dst := some 32, op := Op.load 3 (Operand.tmp 31), type := 3, pos := _, after := #[{ on := 10, ground := Ground.data }, { on := 2, ground := Ground.guard }], guard := some (2, true) }) (v := _) rfl (by kernel_rfl) (by kernel_rfl) (by kernel_rfl) (by kernel_rfl) (fun _ _ _ h => h) (by assumption) (Or.inl ⟨by rfl, ?hy12⟩) (fun _ => rfl) ?rest12
  case hy12 => (intro w hSw; (try dsimp only at hSw); go_simp; try with_reducible rfl)
  try simp only [Act.put, List.setIfInBounds_toArray, List.set_cons_zero, List.set_cons_succ]
  refine' ordS_take (i := 12) (oi := { dst := some 33, op := Op.binOp BinOp.eql 3 (Operand.tmp 28) (Operand.tmp 32) 3, type := 4, pos := _, after := #[{ on := 7, ground := Ground.data }, { on := 11, ground := Ground.data }, { on := 2, ground := Ground.guard }], guard := some (2, true) }) (v := _) rfl (by kernel_rfl) (by kernel_rfl) (by kernel_rfl) (by kernel_rfl) (fun _ _ _ h => h) (by assumption) (Or.inl ⟨by rfl, ?hy13⟩) (fun _ => rfl) ?rest13
  case hy13 => (intro w hSw; (try dsimp only at hSw); go_simp; try with_reducible rfl)
  try simp only [Act.put, List.setIfInBounds_toArray, List.set_cons_zero, List.set_cons_succ]
  refine' ordS_take (i := 13) (oi := { dst := some 34, op := Op.pick (Operand.tmp 23) (Operand.tmp 33) (Operand.const (Value.bool false)), type := 4, pos := _, after := #[{ on := 2, ground := Ground.data }, { on := 12, ground := Ground.data }], guard := none }) (v := _) rfl (by kernel_rfl) (by kernel_rfl) (by kernel_rfl) (by kernel_rfl) (fun _ _ _ h => h) (by assumption) (Or.inl ⟨by rfl, ?hy14⟩) (fun _ => rfl) ?rest14
  case hy14 => (intro w hSw; (try dsimp only at hSw); go_simp; try with_reducible rfl)
  try simp only [Act.put, List.setIfInBounds_toArray, List.set_cons_zero, List.set_cons_succ]
  refine' ordS_take (i := 14) (oi := { dst := some 11, op := Op.assign (Operand.tmp 34), type := 4, pos := _, after := #[{ on := 13, ground := Ground.data }, { on := 2, ground := Ground.chain }, { on := 0, ground := Ground.phase }, { on := 1, ground := Ground.phase }, { on := 2, ground := Ground.phase }, { on := 3, ground := Ground.phase }, { on := 4, ground := Ground.phase }, { on := 5, ground := Ground.phase }, { on := 6, ground := Ground.phase }, { on := 7, ground := Ground.phase }, { on := 8, ground := Ground.phase }, { on := 9, ground := Ground.phase }, { on := 10, ground := Ground.phase }, { on := 11, ground := Ground.phase }, { on := 12, ground := Ground.phase }, { on := 13, ground := Ground.phase }], guard := none }) (v := _) rfl (by kernel_rfl) (by kernel_rfl) (by kernel_rfl) (by kernel_rfl) (fun _ _ _ h => h) (by assumption) (Or.inl ⟨by rfl, ?hy15⟩) (fun _ => rfl) ?rest15
  case hy15 => (intro w hSw; (try dsimp only at hSw); go_simp; try with_reducible rfl)
  try simp only [Act.put, List.setIfInBounds_toArray, List.set_cons_zero, List.set_cons_succ]
  refine ordS_done (by kernel_rfl) ?_
  clear hH
  obtain ⟨W0, hW⟩ : ∃ W, w2.drew = W := ⟨_, rfl⟩
  rw [hW] at hD ⊢
  replace c1 := cell_later hD c1
  have H4 := Lib.hid (H2.out.below hD)
  have B4 := Lib.hid (HBG2.out.later hD)
  have HB4 := Lib.hid (bl_tr HB2.out hD)
  have zp := blk_lt c1
  have hbn := bl_al (bl0 W0) (.cells #[.pointer none] 87)
  have h5 := H4.out.below hbn
  have c1' := cell_later hbn c1
  have zp' := blk_lt c1'
  clear hW hD H2 HBG2 HB2 c0 zc
  go_upto_region 11 with fail
  go_wp2_with (at_builtin; refine append_nil2 h5 (by omega) _ _ rfl rfl (by rfl) (by rfl) ?_)
  intro v' w' q1 q2 q4
  obtain ⟨g, cap2, rfl⟩ : ∃ g cap2, v' = .slice (some ⟨g, 0, none⟩) (L.length + 1) cap2 := by
    rcases q1.2 with ⟨_, e⟩ | ⟨g', cap', cur, e, _⟩
    · omega
    · exact ⟨g', cap', e⟩
  obtain ⟨hM, hK5, y0, y1⟩ := co_grown h5 q1 q2 (by rw [World.size_alloc]; exact q4)
  have hbx : w.heap.size + 1 + 1 + 1 < W0.heap.size := blk_lt B4.out.g0
  have hgb : g < w.heap.size ∨ w.heap.size + 1 + 1 + 1 < g := by
    rcases q4 with e | e
    · exact .inl (HOLD.out g (.inr (.inl (by rw [← e]; rfl))))
    · simp only [Value.ownBlock, Option.some.injEq] at e
      exact .inr (by omega)
  have hown : ∀ q, (Value.slice (some (⟨g, 0, none⟩ : Addr)) (L.length + 1) cap2).ownBlock = some q → S q ∨ w.heap.size ≤ q := by
    intro q hq
    rcases q4 with e | e
    · rw [e] at hq; exact .inl ((H3.out q).2 (.inr (.inl hq)))
    · rw [e] at hq
      have := Option.some.inj hq
      have h9 := (bl_tr HB4.out hbn).size
      rw [World.size_alloc] at h9
      exact .inr (by omega)
  have hkw : KeptS S w (w'.setCell ⟨p, 1, none⟩ (.slice (some ⟨g, 0, none⟩) (L.length + 1) cap2)) := (KeptS.of_below (bl_tr HB4.out hbn)).trans hK5 (fun q _ hq => (H3.out q).2 hq)
  have hb5 := (B4.out.later hbn).kept hK5 (fun q hq => HOLD.out q hq)
  have zy := blk_lt y0
  have HOWN := Lib.hid hown
  have HKW := Lib.hid hkw
  have HM := Lib.hid hM
  have HB5 := Lib.hid hb5
  have HGB := Lib.hid hgb
  obtain ⟨W, hW⟩ : ∃ W, w'.setCell ⟨p, 1, none⟩ (.slice (some ⟨g, 0, none⟩) (L.length + 1) cap2) = W := ⟨_, rfl⟩
  rw [hW] at HM HKW HB5
  clear q1 q2 q4 hM hK5 hown hkw hbn h5 c1' zp' hb5 hgb
  obtain ⟨W1, hW1⟩ : ∃ W1, W.alloc (.cells #[.int .i64 k, .string keyT, .int .i64 x, .int .i64 x] 90) = W1 := ⟨_, rfl⟩
  have hx : W1.heap[W.heap.size]? = some (.cells #[.int .i64 k, .string keyT, .int .i64 x, .int .i64 x] 90 (0, 0)) := by rw [← hW1]; exact heap_alloc_new _ _
  have hb1 : Below W.heap.size W W1 := by rw [← hW1]; exact bl_al (bl0 _) _
  have hM := HM.out
  have hgp : g ≠ p := fun e => hM.gp (by rw [e]; rfl)
  have hlw := (hM.row.lt g rfl).2
  have hc1 : W1.cell? ⟨p, 1, none⟩ = some (.slice (some ⟨g, 0, none⟩) (L.length + 1) cap2) := cell_later hb1 (by simp [World.cell?, hM.hp])
  have HL := Lib.hid (lead_c2 p g (L.length + 1) cap2 L.length W.heap.size _ W1 hc1 hgp (own_later hM.row hb1) (by omega) (by omega) (fun u hu => by
    rcases List.mem_append.1 hu with hu | hu
    · exact ptrs_one u hu
    · rw [List.mem_singleton.1 hu]; rfl))
  have HM2 := Lib.hid hM
  have HX := Lib.hid hx
  have HB1 := Lib.hid hb1
  have HLW := Lib.hid hlw
  have HS1 := Lib.hid (show W1.heap.size = W.heap.size + 1 by rw [← hW1]; simp)
  have hw1 : ((L.length + 1 : Nat) : Int) = (L.length : Int) + 1 := by omega
  have k0 := HB5.out.k0
  have k1 := HB5.out.k1
  have x0 := HB5.out.x0
  have x1 := HB5.out.x1
  have zk := blk_lt k0
  have zx := blk_lt x0
  clear hM hx hb1 hgp hlw hc1 HM
  go_upto_region 12 with fail
  go_wp2_with fail
  refine HL.out.mono ?_
  rintro e w3 ⟨rfl, ho, hk⟩
  have hx3 : w3.heap[W.heap.size]? = some (.cells (Try.c2.cf (k, x)).toArray 90 (0, 0)) := (hk.2 W.heap.size (by rw [HS1.out]; omega) (fun e => by have := HLW.out; omega)).trans HX.out
  have h6 := co_more (x := (k, x)) HM2.out (Nat.le_refl _) hx3 ho ((KeptS.of_below HB1.out).trans hk (fun _ _ h => h))
  have hsz : w.heap.size + 1 + 1 + 1 < W.heap.size := blk_lt HB5.out.g0
  have hws : w.heap.size ≤ W.heap.size := HKW.out.1.size
  have hb9 := HB5.out.later HB1.out
  have hn2 : ¬ (w.heap.size + 1 + 1 = g) := by have := HGB.out; omega
  have hn3 : ¬ (w.heap.size + 1 + 1 + 1 = g) := by have := HGB.out; omega
  have r0 := hk.cell hb9.r0 hn2
  have r1 := hk.cell hb9.r1 hn2
  have f0 := hk.frozen hb9.r0 hb9.f0 hn2
  have f1 := hk.frozen hb9.r1 hb9.f1 hn2
  have zr := blk_lt r0
  have q0 := hk.cell hb9.g0 hn3
  have q1 := hk.cell hb9.g1 hn3
  have zq := blk_lt q0
  have hkf : KeptS (fun q => S q ∨ w.heap.size ≤ q) w w3 := (HKW.out.wide (fun q h => .inl h)).trans ((KeptS.of_below HB1.out).trans hk (fun _ _ h => h)) (fun q _ e => HOWN.out q (by rw [e]; rfl))
  have hK : KeptS S w w3 := ⟨hkf.1, fun q hq hn => hkf.2 q hq (fun h => by rcases h with h | h; exact hn h; omega)⟩
  have hsub : ∀ q, CB p (.slice (some ⟨g, 0, none⟩) (L.length + 1) cap2) ((W.heap.size, (k, x)) :: L) q → S q ∨ w.heap.size ≤ q := by
    rintro q (hq | hq | ⟨z, hz, hq⟩)
    · exact .inl ((H3.out q).2 (.inl hq))
    · exact HOWN.out q hq
    · rcases List.mem_cons.1 hz with rfl | hz
      · exact .inr (by omega)
      · exact .inl ((H3.out q).2 (.inr (.inr ⟨z, hz, hq⟩)))
  have hnq : ¬ CB p (.slice (some ⟨g, 0, none⟩) (L.length + 1) cap2) ((W.heap.size, (k, x)) :: L) (w.heap.size + 1 + 1) := by
    rintro (hq | hq | ⟨z, hz, hq⟩)
    · have := HOLD.out p (.inl rfl); omega
    · simp only [Value.ownBlock, Option.some.injEq] at hq; omega
    · rcases List.mem_cons.1 hz with rfl | hz
      · simp only at hq; omega
      · have := HOLD.out z.1 (.inr (.inr ⟨z, hz, rfl⟩)); omega
  have hP : (CO Try.c2 p r ((k, x) :: L.map Prod.snd)).P w3 (CB p (.slice (some ⟨g, 0, none⟩) (L.length + 1) cap2) ((W.heap.size, (k, x)) :: L)) := ⟨_, _, h6, rfl, fun _ => Iff.rfl⟩
  have HT : ∀ a b, Hid (Turned S w ((w3.setCell ⟨w.heap.size + 1 + 1, 0, none⟩ a).setCell ⟨w.heap.size + 1 + 1, 1, none⟩ b) (CO Try.c2 p r ((k, x) :: L.map Prod.snd))) := fun a b => by
    obtain ⟨a1, a2⟩ := scratch hK hP (by omega) hnq 0 a
    obtain ⟨b1, b2⟩ := scratch a1 a2 (by omega) hnq 1 b
    exact ⟨b1, _, b2, hsub⟩
  have HTT := Lib.hid HT
  clear ho hk hx3 h6 HL HX HLW hsz hws hb9 hn2 hn3 hsub hnq hK hkf hP HT k0 k1 x0 x1 zk zx
  go_wp2
  refine bodyPost_ret (v := .tuple #[zN, .bool false]) (by simp [results, Try.results31, go_sem, r0, r1]) rfl ⟨rfl, ?_⟩
  exact (HTT.out _ _).out

/-- The key that is gone, as it is told. -/
def goneN (r k : Int) (m : List IT) : Value := if fullB r k m then nmV (goneK r k m) else zN
theorem put_c2 (k x : Int) (p : Nat) (r : Int) (m : List IT) (S : Nat → Prop) (w : World) (h : (CO Try.c2 p r m).P w S) (hm : m.length ≤ 1000) (hr : 1 ≤ r) :
    Calls Try.prog 31 #[.pointer (some ⟨p, 0, none⟩), nmV k, pairV x] w fun e w' => e = .returned (.tuple #[goneN r k m, .bool (fullB r k m)]) ∧ Turned S w w' (CO Try.c2 p r (putM r k x m)) := by
  obtain ⟨v, L, h1, rfl, h3⟩ := h
  have hl : (L.map Prod.snd).length = L.length := List.length_map _
  rw [hl] at hm
  cases e : findI k (L.map Prod.snd) with
  | some i =>
    have e1 : fullB r k (L.map Prod.snd) = false := by simp [fullB, e]
    have e2 : goneN r k (L.map Prod.snd) = zN := by simp [goneN, e1]
    have e3 : putM r k x (L.map Prod.snd) = leadL i (k, x) (L.map Prod.snd) := by simp [putM, placeI, e]
    rw [e1, e2, e3]
    exact put_in2 k x p r L v S w h1 h3 hm i e
  | none =>
    by_cases hf : (L.length : Int) = r
    · obtain ⟨i, hi⟩ : ∃ i, L.length = i + 1 := ⟨L.length - 1, by omega⟩
      obtain ⟨y, hy⟩ : ∃ y, L[i]? = some y := ⟨_, List.getElem?_eq_getElem (by omega)⟩
      have e1 : fullB r k (L.map Prod.snd) = true := by simp [fullB, e, hf]
      have e2 : goneN r k (L.map Prod.snd) = nmV y.2.1 := by
        unfold goneN goneK
        rw [if_pos e1, if_pos e1, hl, hi, Nat.add_sub_cancel, atI_of (by rw [List.getElem?_map, hy]; rfl)]
      have e3 : putM r k x (L.map Prod.snd) = leadL i (k, x) (L.map Prod.snd) := by
        unfold putM placeI
        rw [e]
        dsimp only
        rw [hl, if_pos hf, hi, Nat.add_sub_cancel]
      rw [e1, e2, e3]
      exact put_full2 k x p r L v S w h1 h3 hm e y i hi hf hy
    · have e1 : fullB r k (L.map Prod.snd) = false := by simp [fullB, e, hf]
      have e2 : goneN r k (L.map Prod.snd) = zN := by simp [goneN, e1]
      have e3 : putM r k x (L.map Prod.snd) = (k, x) :: L.map Prod.snd := by
        unfold putM placeI leadL
        rw [e]
        dsimp only
        rw [hl, if_neg hf, List.eraseIdx_of_length_le (by rw [hl]; exact Nat.le_refl _)]
      rw [e1, e2, e3]
      exact put_more2 k x p r L v S w h1 h3 hm e hf
end Go.Proofs.Ytbmpgafndpdnbaa
