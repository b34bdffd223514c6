/- Cache of names: Put (gen_emc.py): the last one goes. -/
import Derived.Test.YtbmpgafndpdnbaaEmc
namespace Go.Proofs.Ytbmpgafndpdnbaa
open Go.RowKit Go.Maps

set_option maxRecDepth 100000 in
set_option maxHeartbeats 4000000 in
theorem put_full2 (k x : Int) (p : Nat) (r : Int) (L : List (Nat × IT)) (v : Value) (S : Nat → Prop) (w : World) (h1 : CAt Try.c2 w p v L r) (h3 : ∀ k, S k ↔ CB p v L k) (hm : L.length ≤ 1000) (e : findI k (L.map Prod.snd) = none) (y : Nat × IT) (i : Nat) (hi1 : L.length = i + 1) (hr : (L.length : Int) = r) (hy : L[i]? = some y) :
    Calls Try.prog 31 #[.pointer (some ⟨p, 0, none⟩), nmV k, pairV x] w fun e w' => e = .returned (.tuple #[nmV y.2.1, .bool true]) ∧ Turned S w w' (CO Try.c2 p r (leadL i (k, x) (L.map Prod.snd))) := by
  obtain ⟨V, hV⟩ : ∃ V, W4 w k x = V := ⟨_, rfl⟩
  have hB : Beg4 w V k x 0 ⟨#[]⟩ := by rw [← hV]; exact beg4 w k x
  have hbV : Below w.heap.size w V := by rw [← hV]; exact beg4b w k x
  have HBV := Lib.hid hbV
  have h1V := h1.below hbV
  have HP := Lib.hid (place_c2 k p v L r V h1V hm)
  rw [e] at HP
  have HBG := Lib.hid hB
  unfold W4 at hV
  have k0 := hB.k0
  have k1 := hB.k1
  have zk := blk_lt k0
  have HSL := Lib.hid (fun q (hq : S q) => h1.lt ((h3 q).1 hq))
  have HOLD := Lib.hid (fun q (hq : CB p v L q) => h1.lt hq)
  obtain ⟨g, cap, rfl, hcap⟩ := h1.slice (by omega)
  have HC := Lib.hid h1V
  have H3 := Lib.hid h3
  have HI := Lib.hid (show i < L.length by omega)
  have HY := Lib.hid hy
  have hre : ((L.length : Int) == r) = true := by rw [hr]; exact beq_self_eq_true r
  have hw1 : IntKind.i64.wrap ((L.length : Int) - 1) = (i : Int) := by rw [show (L.length : Int) - 1 = i by omega]; exact IntWalk.i64_in _ (by omega)
  have hi0 : (0 : Int) ≤ (i : Int) := by omega
  have hi2 : (i : Int) < (L.length : Int) := by omega
  clear e h1 h3 hi1 hr hy h1V hB hbV
  go_enter Try.func31, Try.ntmps31
  go_wp2_with fail
  refine HP.out.mono ?_
  rintro e w2 ⟨rfl, hb⟩
  have h2 := HC.out.below hb
  have c0 := h2.c0
  have c1 := h2.c1
  have zc := blk_lt c1
  have H2 := Lib.hid h2
  have HBG2 := Lib.hid (HBG.out.later hb)
  have HB2 := Lib.hid (bl_tr HBV.out hb)
  have hD := bl_dr (bl0 w2)
  clear hb HP h2 k0 k1 zk
  try dsimp only [idxV, Option.isSome] at *
  go_upto_region 5 with fail
  refine (wpIn_wide (n := 11)).1 ?_
  refine ordS_begin (S := (fun w' : World => w'.cell? ⟨p, 0, none⟩ = some (.int .i64 r) ∧ w'.cell? ⟨p, 1, none⟩ = some (.slice (some ⟨g, 0, none⟩) L.length cap))) (by kernel_rfl) ⟨cell_later hD c0, cell_later hD c1⟩ (fun hH => ?_)
  refine' ordS_take (i := 0) (oi := { dst := some 21, op := Op.move (Operand.tmp 10), type := 4, pos := _, after := #[], guard := none }) (v := _) rfl (by kernel_rfl) (by kernel_rfl) (by kernel_rfl) (by kernel_rfl) (fun _ _ _ h => h) (by assumption) (Or.inl ⟨by rfl, ?hy1⟩) (fun _ => rfl) ?rest1
  case hy1 => (intro w hSw; (try dsimp only at hSw); go_simp; try with_reducible rfl)
  try simp only [Act.put, List.setIfInBounds_toArray, List.set_cons_zero, List.set_cons_succ]
  refine' ordS_take (i := 1) (oi := { dst := some 22, op := Op.unOp UnOp.not 4 (Operand.tmp 21), type := 4, pos := _, after := #[{ on := 0, ground := Ground.data }], guard := none }) (v := _) rfl (by kernel_rfl) (by kernel_rfl) (by kernel_rfl) (by kernel_rfl) (fun _ _ _ h => h) (by assumption) (Or.inl ⟨by rfl, ?hy2⟩) (fun _ => rfl) ?rest2
  case hy2 => (intro w hSw; (try dsimp only at hSw); go_simp; try with_reducible rfl)
  try simp only [Act.put, List.setIfInBounds_toArray, List.set_cons_zero, List.set_cons_succ]
  refine' ordS_take (i := 2) (oi := { dst := some 23, op := Op.move (Operand.tmp 22), type := 4, pos := _, after := #[{ on := 1, ground := Ground.data }], guard := none }) (v := _) rfl (by kernel_rfl) (by kernel_rfl) (by kernel_rfl) (by kernel_rfl) (fun _ _ _ h => h) (by assumption) (Or.inl ⟨by rfl, ?hy3⟩) (fun _ => rfl) ?rest3
  case hy3 => (intro w hSw; (try dsimp only at hSw); go_simp; try with_reducible rfl)
  try simp only [Act.put, List.setIfInBounds_toArray, List.set_cons_zero, List.set_cons_succ]
  refine' ordS_take (i := 3) (oi := { dst := some 24, op := Op.move (Operand.tmp 0), type := 52, pos := _, after := #[{ on := 2, ground := Ground.guard }], guard := some (2, true) }) (v := _) rfl (by kernel_rfl) (by kernel_rfl) (by kernel_rfl) (by kernel_rfl) (fun _ _ _ h => h) (by assumption) (Or.inl ⟨by rfl, ?hy4⟩) (fun _ => rfl) ?rest4
  case hy4 => (intro w hSw; (try dsimp only at hSw); go_simp; try with_reducible rfl)
  try simp only [Act.put, List.setIfInBounds_toArray, List.set_cons_zero, List.set_cons_succ]
  refine' ordS_take (i := 4) (oi := { dst := some 25, op := Op.nilCheck (Operand.tmp 24), type := 0, pos := _, after := #[{ on := 3, ground := Ground.data }, { on := 2, ground := Ground.guard }], guard := some (2, true) }) (v := _) rfl (by kernel_rfl) (by kernel_rfl) (by kernel_rfl) (by kernel_rfl) (fun _ _ _ h => h) (by assumption) (Or.inl ⟨by rfl, ?hy5⟩) (fun _ => rfl) ?rest5
  case hy5 => (intro w hSw; (try dsimp only at hSw); go_simp; try with_reducible rfl)
  try simp only [Act.put, List.setIfInBounds_toArray, List.set_cons_zero, List.set_cons_succ]
  refine' ordS_take (i := 5) (oi := { dst := some 26, op := Op.fieldAddr 85 (Operand.tmp 25) 1, type := 0, pos := _, after := #[{ on := 4, ground := Ground.data }, { on := 2, ground := Ground.guard }], guard := some (2, true) }) (v := _) rfl (by kernel_rfl) (by kernel_rfl) (by kernel_rfl) (by kernel_rfl) (fun _ _ _ h => h) (by assumption) (Or.inl ⟨by rfl, ?hy6⟩) (fun _ => rfl) ?rest6
  case hy6 => (intro w hSw; (try dsimp only at hSw); go_simp; try with_reducible rfl)
  try simp only [Act.put, List.setIfInBounds_toArray, List.set_cons_zero, List.set_cons_succ]
  refine' ordS_take (i := 6) (oi := { dst := some 27, op := Op.load 83 (Operand.tmp 26), type := 83, pos := _, after := #[{ on := 5, ground := Ground.data }, { on := 2, ground := Ground.guard }], guard := some (2, true) }) (v := _) rfl (by kernel_rfl) (by kernel_rfl) (by kernel_rfl) (by kernel_rfl) (fun _ _ _ h => h) (by assumption) (Or.inl ⟨by rfl, ?hy7⟩) (fun _ => rfl) ?rest7
  case hy7 => (intro w hSw; (try dsimp only at hSw); go_simp; try with_reducible rfl)
  try simp only [Act.put, List.setIfInBounds_toArray, List.set_cons_zero, List.set_cons_succ]
  refine' ordS_take (i := 7) (oi := { dst := some 28, op := Op.call { callee := Callee.builtin Builtin.len, args := #[Operand.tmp 27], argTypes := #[83] }, type := 3, pos := _, after := #[{ on := 6, ground := Ground.data }, { on := 2, ground := Ground.guard }], guard := some (2, true) }) (v := _) rfl (by kernel_rfl) (by kernel_rfl) (by kernel_rfl) (by kernel_rfl) (fun _ _ _ h => h) (by assumption) (Or.inl ⟨by rfl, ?hy8⟩) (fun _ => rfl) ?rest8
  case hy8 => (intro w hSw; (try dsimp only at hSw); go_simp; try with_reducible rfl)
  try simp only [Act.put, List.setIfInBounds_toArray, List.set_cons_zero, List.set_cons_succ]
  refine' ordS_take (i := 8) (oi := { dst := some 29, op := Op.move (Operand.tmp 0), type := 52, pos := _, after := #[{ on := 2, ground := Ground.guard }], guard := some (2, true) }) (v := _) rfl (by kernel_rfl) (by kernel_rfl) (by kernel_rfl) (by kernel_rfl) (fun _ _ _ h => h) (by assumption) (Or.inl ⟨by rfl, ?hy9⟩) (fun _ => rfl) ?rest9
  case hy9 => (intro w hSw; (try dsimp only at hSw); go_simp; try with_reducible rfl)
  try simp only [Act.put, List.setIfInBounds_toArray, List.set_cons_zero, List.set_cons_succ]
  refine' ordS_take (i := 9) (oi := { dst := some 30, op := Op.nilCheck (Operand.tmp 29), type := 0, pos := _, after := #[{ on := 8, ground := Ground.data }, { on := 2, ground := Ground.guard }], guard := some (2, true) }) (v := _) rfl (by kernel_rfl) (by kernel_rfl) (by kernel_rfl) (by kernel_rfl) (fun _ _ _ h => h) (by assumption) (Or.inl ⟨by rfl, ?hy10⟩) (fun _ => rfl) ?rest10
  case hy10 => (intro w hSw; (try dsimp only at hSw); go_simp; try with_reducible rfl)
  try simp only [Act.put, List.setIfInBounds_toArray, List.set_cons_zero, List.set_cons_succ]
  refine' ordS_take (i := 10) (oi := { dst := some 31, op := Op.fieldAddr 85 (Operand.tmp 30) 0, type := 0, pos := _, after := #[{ on := 9, ground := Ground.data }, { on := 2, ground := Ground.guard }], guard := some (2, true) }) (v := _) rfl (by kernel_rfl) (by kernel_rfl) (by kernel_rfl) (by kernel_rfl) (fun _ _ _ h => h) (by assumption) (Or.inl ⟨by rfl, ?hy11⟩) (fun _ => rfl) ?rest11
  case hy11 => (intro w hSw; (try dsimp only at hSw); go_simp; try with_reducible rfl)
  try simp only [Act.put, List.setIfInBounds_toArray, List.set_cons_zero, List.set_cons_succ]
  refine' ordS_take (i := 11) (oi := { dst := some 32, op := Op.load 3 (Operand.tmp 31), type := 3, pos := _, after := #[{ on := 10, ground := Ground.data }, { on := 2, ground := Ground.guard }], guard := some (2, true) }) (v := _) rfl (by kernel_rfl) (by kernel_rfl) (by kernel_rfl) (by kernel_rfl) (fun _ _ _ h => h) (by assumption) (Or.inl ⟨by rfl, ?hy12⟩) (fun _ => rfl) ?rest12
  case hy12 => (intro w hSw; (try dsimp only at hSw); go_simp; try with_reducible rfl)
  try simp only [Act.put, List.setIfInBounds_toArray, List.set_cons_zero, List.set_cons_succ]
  refine' ordS_take (i := 12) (oi := { dst := some 33, op := Op.binOp BinOp.eql 3 (Operand.tmp 28) (Operand.tmp 32) 3, type := 4, pos := _, after := #[{ on := 7, ground := Ground.data }, { on := 11, ground := Ground.data }, { on := 2, ground := Ground.guard }], guard := some (2, true) }) (v := _) rfl (by kernel_rfl) (by kernel_rfl) (by kernel_rfl) (by kernel_rfl) (fun _ _ _ h => h) (by assumption) (Or.inl ⟨by rfl, ?hy13⟩) (fun _ => rfl) ?rest13
  case hy13 => (intro w hSw; (try dsimp only at hSw); go_simp; try with_reducible rfl)
  try simp only [Act.put, List.setIfInBounds_toArray, List.set_cons_zero, List.set_cons_succ]
  refine' ordS_take (i := 13) (oi := { dst := some 34, op := Op.pick (Operand.tmp 23) (Operand.tmp 33) (Operand.const (Value.bool false)), type := 4, pos := _, after := #[{ on := 2, ground := Ground.data }, { on := 12, ground := Ground.data }], guard := none }) (v := _) rfl (by kernel_rfl) (by kernel_rfl) (by kernel_rfl) (by kernel_rfl) (fun _ _ _ h => h) (by assumption) (Or.inl ⟨by rfl, ?hy14⟩) (fun _ => rfl) ?rest14
  case hy14 => (intro w hSw; (try dsimp only at hSw); go_simp; try with_reducible rfl)
  try simp only [Act.put, List.setIfInBounds_toArray, List.set_cons_zero, List.set_cons_succ]
  refine' ordS_take (i := 14) (oi := { dst := some 11, op := Op.assign (Operand.tmp 34), type := 4, pos := _, after := #[{ on := 13, ground := Ground.data }, { on := 2, ground := Ground.chain }, { on := 0, ground := Ground.phase }, { on := 1, ground := Ground.phase }, { on := 2, ground := Ground.phase }, { on := 3, ground := Ground.phase }, { on := 4, ground := Ground.phase }, { on := 5, ground := Ground.phase }, { on := 6, ground := Ground.phase }, { on := 7, ground := Ground.phase }, { on := 8, ground := Ground.phase }, { on := 9, ground := Ground.phase }, { on := 10, ground := Ground.phase }, { on := 11, ground := Ground.phase }, { on := 12, ground := Ground.phase }, { on := 13, ground := Ground.phase }], guard := none }) (v := _) rfl (by kernel_rfl) (by kernel_rfl) (by kernel_rfl) (by kernel_rfl) (fun _ _ _ h => h) (by assumption) (Or.inl ⟨by rfl, ?hy15⟩) (fun _ => rfl) ?rest15
  case hy15 => (intro w hSw; (try dsimp only at hSw); go_simp; try with_reducible rfl)
  try simp only [Act.put, List.setIfInBounds_toArray, List.set_cons_zero, List.set_cons_succ]
  refine ordS_done (by kernel_rfl) ?_
  clear hH
  obtain ⟨W0, hW⟩ : ∃ W0, w2.drew = W0 := ⟨_, rfl⟩
  rw [hW] at hD ⊢
  replace c1 := cell_later hD c1
  have h4 := H2.out.below hD
  have b4 := HBG2.out.later hD
  have d0 := h4.ptr rfl HY.out
  have d1 := h4.cell (List.mem_of_getElem? HY.out) (j := 0) rfl
  have d2 := h4.cell (List.mem_of_getElem? HY.out) (j := 1) rfl
  have zp := blk_lt c1
  have zd := blk_lt d0
  have ze := blk_lt d1
  have s0 := b4.g0
  have s1 := b4.g1
  have t0 := b4.h0
  have t1 := b4.h1
  have zs := blk_lt s0
  obtain ⟨W, hWW⟩ : ∃ W, (W0.setCell ⟨w.heap.size + 1 + 1 + 1, 0, none⟩ (.int .i64 y.2.1)).setCell ⟨w.heap.size + 1 + 1 + 1, 1, none⟩ (.string keyT) = W := ⟨_, rfl⟩
  have hK0 : KeptS S w W0 := .of_below (bl_tr HB2.out hD)
  have hoth : ∀ q, q ≠ w.heap.size + 1 + 1 + 1 → W.heap[q]? = W0.heap[q]? := fun q hq => by
    rw [← hWW]
    exact (Below.heap_setCell _ _ _ q hq).trans (Below.heap_setCell _ _ _ q hq)
  have hkw0 : KeptS (fun q => q = w.heap.size + 1 + 1 + 1) W0 W := by
    rw [← hWW]
    exact keptS_st (S := fun q => q = w.heap.size + 1 + 1 + 1) (keptS_st (S := fun q => q = w.heap.size + 1 + 1 + 1) (KeptS.refl _ _) rfl _) rfl _
  have HKW : Hid (KeptS S w W) := Lib.hid ⟨hK0.1.trans hkw0.1, fun q hq hn => (hkw0.2 q (by have := hK0.1.size; omega) (by omega)).trans (hK0.2 q hq hn)⟩
  have H4 : Hid (CAt Try.c2 W p (.slice (some ⟨g, 0, none⟩) L.length cap) L r) := Lib.hid (h4.keep (fun q hq => hoth q (fun e => by have := HOLD.out q hq; omega)))
  have B4 : Hid (Beg4 w W k x y.2.1 keyT) := Lib.hid (by
    have m0 : w.heap.size ≠ w.heap.size + 1 + 1 + 1 := by omega
    have m1 : w.heap.size + 1 ≠ w.heap.size + 1 + 1 + 1 := by omega
    have m2 : w.heap.size + 1 + 1 ≠ w.heap.size + 1 + 1 + 1 := by omega
    refine ⟨hkw0.cell b4.k0 m0, hkw0.cell b4.k1 m0, hkw0.cell b4.x0 m1, hkw0.cell b4.x1 m1, hkw0.cell b4.r0 m2, hkw0.cell b4.r1 m2, hkw0.frozen b4.r0 b4.f0 m2, hkw0.frozen b4.r1 b4.f1 m2, ?_, ?_, ?_, ?_⟩
    · rw [← hWW]; simp [go_sem, s0]
    · rw [← hWW]; simp [go_sem, s1]
    · rw [← hWW]; simp [go_sem, t0]
    · rw [← hWW]; simp [go_sem, t1])
  go_upto_region 12 with fail
  replace c1 := H4.out.c1
  clear hWW hW hD H2 HBG2 c0 zc h4 b4 d0 d1 d2 zp zd ze s0 s1 t0 t1 zs hK0 hoth hkw0
  -- the world W: c1, H4 (the cache), B4 (the boxes); the thing's block is the next one
  obtain ⟨W1, hW1⟩ : ∃ W1, W.alloc (.cells #[.int .i64 k, .string keyT, .int .i64 x, .int .i64 x] 90) = W1 := ⟨_, rfl⟩
  have hx : W1.heap[W.heap.size]? = some (.cells #[.int .i64 k, .string keyT, .int .i64 x, .int .i64 x] 90 (0, 0)) := by rw [← hW1]; exact heap_alloc_new _ _
  have hb1 : Below W.heap.size W W1 := by rw [← hW1]; exact bl_al (bl0 _) _
  have h5 := H4.out.below hb1
  have hgp : g ≠ p := fun e => h5.gp (by rw [e]; rfl)
  have hlw := H4.out.rowlt (g := g) rfl
  have HL := Lib.hid (lead_c2 p g L.length cap i W.heap.size _ W1 (cell_later hb1 c1) hgp h5.row HI.out (Nat.le_succ_of_le hm) ptrs_one)
  have HX := Lib.hid hx
  have HB1 := Lib.hid hb1
  have HLW := Lib.hid hlw
  have HS1 := Lib.hid (show W1.heap.size = W.heap.size + 1 by rw [← hW1]; simp)
  have k0 := B4.out.k0
  have k1 := B4.out.k1
  have x0 := B4.out.x0
  have x1 := B4.out.x1
  have zk := blk_lt k0
  have zx := blk_lt x0
  clear hx hb1 h5 hgp hlw
  go_wp2_with fail
  refine HL.out.mono ?_
  rintro e w3 ⟨rfl, ho, hk⟩
  have hx3 : w3.heap[W.heap.size]? = some (.cells (Try.c2.cf (k, x)).toArray 90 (0, 0)) := (hk.2 W.heap.size (by rw [HS1.out]; omega) (fun e => by have := HLW.out; omega)).trans HX.out
  have h6 := co_puts (x := (k, x)) H4.out HI.out (Nat.le_refl _) hx3 ho ((KeptS.of_below HB1.out).trans hk (fun _ _ h => h))
  have hgl : g < w.heap.size := HOLD.out g (.inr (.inl rfl))
  have hsz : w.heap.size + 1 + 1 + 1 < W.heap.size := blk_lt B4.out.g0
  have hb9 := B4.out.later HB1.out
  have hn2 : ¬ (w.heap.size + 1 + 1 = g) := by omega
  have hn3 : ¬ (w.heap.size + 1 + 1 + 1 = g) := by omega
  have r0 := hk.cell hb9.r0 hn2
  have r1 := hk.cell hb9.r1 hn2
  have f0 := hk.frozen hb9.r0 hb9.f0 hn2
  have f1 := hk.frozen hb9.r1 hb9.f1 hn2
  have zr := blk_lt r0
  have hsub : ∀ q, CB p (.slice (some ⟨g, 0, none⟩) L.length cap) (leadL i (W.heap.size, (k, x)) L) q → S q ∨ W.heap.size ≤ q := by
    rintro q (e | e | ⟨y, hy, e⟩)
    · exact .inl ((H3.out q).2 (.inl e))
    · exact .inl ((H3.out q).2 (.inr (.inl e)))
    · unfold leadL at hy
      rcases List.mem_cons.1 hy with rfl | hy
      · exact .inr (by rw [← e]; exact Nat.le_refl _)
      · exact .inl ((H3.out q).2 (.inr (.inr ⟨y, List.mem_of_mem_eraseIdx hy, e⟩)))
  have hnq : ¬ CB p (.slice (some ⟨g, 0, none⟩) L.length cap) (leadL i (W.heap.size, (k, x)) L) (w.heap.size + 1 + 1) := fun hc => by
    rcases hsub _ hc with e | e
    · have := HSL.out _ e; omega
    · omega
  have hK : KeptS S w w3 := (HKW.out.below HB1.out).trans hk (fun q _ e => (H3.out q).2 (.inr (.inl (by rw [e]; rfl))))
  have hP : (CO Try.c2 p r (leadL i (k, x) (L.map Prod.snd))).P w3 (CB p (.slice (some ⟨g, 0, none⟩) L.length cap) (leadL i (W.heap.size, (k, x)) L)) := ⟨_, _, h6, leadL_map Prod.snd i _ L, fun _ => Iff.rfl⟩
  have HT : ∀ a b, Hid (Turned S w ((w3.setCell ⟨w.heap.size + 1 + 1, 0, none⟩ a).setCell ⟨w.heap.size + 1 + 1, 1, none⟩ b) (CO Try.c2 p r (leadL i (k, x) (L.map Prod.snd)))) := fun a b => by
    obtain ⟨a1, a2⟩ := scratch hK hP (by omega) hnq 0 a
    obtain ⟨b1, b2⟩ := scratch a1 a2 (by omega) hnq 1 b
    exact ⟨b1, _, b2, fun q hq => by
      rcases hsub q hq with e | e
      · exact .inl e
      · exact .inr (by omega)⟩
  have HTT := Lib.hid HT
  have q0 := hk.cell hb9.g0 hn3
  have q1 := hk.cell hb9.g1 hn3
  have zq := blk_lt q0
  clear ho hk hx3 h6 HL HX HLW hgl hsz hb9 hn2 hn3 hsub hnq hK hP HT k0 k1 x0 x1 zk zx
  go_wp2
  refine bodyPost_ret (v := .tuple #[nmV y.2.1, .bool true]) (by simp [results, Try.results31, go_sem, r0, r1]) rfl ⟨rfl, ?_⟩
  exact (HTT.out _ _).out
end Go.Proofs.Ytbmpgafndpdnbaa
