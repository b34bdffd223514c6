/- Cache of names: Put (gen_emc.py). -/
import Derived.Test.YtbmpgafndpdnbaaEmb
namespace Go.Proofs.Ytbmpgafndpdnbaa
open Go.RowKit Go.Maps

theorem Try.infoP2 : (Try.prog.info? 87).map (fun i => (i.zero, i.size, i.bytes)) = some (some (.pointer none), 1, 8) := by kernel_rfl
/-- A pointer to nothing is appended. -/
theorem append_nil2 {W : World} {ops : Array Oper} {rest : List Oper} {o : Oper} {ac : Act} {Q : Exit → Act → World → Prop} {p cap : Nat} {a : Option Addr} {L : List (Nat × IT)} {r : Int}
    (h5 : CAt Try.c2 (W.alloc (.cells #[.pointer none] 87)) p (.slice a L.length cap) L r) (hl : L.length ≤ 1000) (s x : Operand) (hgd : o.guard = none)
    (ho : o.op = .call { callee := .builtin .append, args := #[s, x], argTypes := #[83, 83] }) (hs : ac.eval s = .slice a L.length cap) (hx : ac.eval x = .slice (some ⟨W.heap.size, 0, none⟩) 1 1)
    (h : ∀ v' w', w'.ownsRow 0 87 1 v' (L.length + 1) (L.map (fun y => ptrV y.1) ++ [.pointer none]) → (W.alloc (.cells #[.pointer none] 87)).grownBy w' (Value.slice a L.length cap).ownBlock → (v'.ownBlock = (Value.slice a L.length cap).ownBlock ∨ v'.ownBlock = some (W.alloc (.cells #[.pointer none] 87)).heap.size) → wpList Try.prog ops Q rest (ac.put o.dst v') w') :
    wpList Try.prog ops Q (o :: rest) ac (W.alloc (.cells #[.pointer none] 87)) := by
  obtain ⟨i0, hi, hz0, hz1, hz2⟩ := info_parts Try.infoP2
  refine wpList_append_own_at _ hgd s x 83 ho 0 87 i0 (.pointer none) 1 8 Try.underlying83 hi hz0 hz1 hz2 rfl (by decide) _ _ _ hs h5.row ⟨W.heap.size, 0, none⟩ 1 1 [.pointer none] hx rfl (cell_one_new W _ _) (fun u hu => by rw [List.mem_singleton.1 hu]; rfl) (by unfold maxLen; omega) (by omega) (Nat.zero_le _) (fun v' w' q1 q2 _ q4 => h v' w' q1 q2 q4)

abbrev zN : Value := .agg #[.int .i64 0, .string ⟨#[]⟩]
/-- The world as Put begins: the key and the thing in boxes, two boxes for the key that is gone. -/
structure Beg4 (w W : World) (k x gk : Int) (gt : ByteArray) : Prop where
  k0 : W.cell? ⟨w.heap.size, 0, none⟩ = some (.int .i64 k)
  k1 : W.cell? ⟨w.heap.size, 1, none⟩ = some (.string keyT)
  x0 : W.cell? ⟨w.heap.size + 1, 0, none⟩ = some (.int .i64 x)
  x1 : W.cell? ⟨w.heap.size + 1, 1, none⟩ = some (.int .i64 x)
  r0 : W.cell? ⟨w.heap.size + 1 + 1, 0, none⟩ = some (.int .i64 0)
  r1 : W.cell? ⟨w.heap.size + 1 + 1, 1, none⟩ = some (.string ⟨#[]⟩)
  f0 : W.frozen? ⟨w.heap.size + 1 + 1, 0, none⟩ = false
  f1 : W.frozen? ⟨w.heap.size + 1 + 1, 1, none⟩ = false
  g0 : W.cell? ⟨w.heap.size + 1 + 1 + 1, 0, none⟩ = some (.int .i64 gk)
  g1 : W.cell? ⟨w.heap.size + 1 + 1 + 1, 1, none⟩ = some (.string gt)
  h0 : W.frozen? ⟨w.heap.size + 1 + 1 + 1, 0, none⟩ = false
  h1 : W.frozen? ⟨w.heap.size + 1 + 1 + 1, 1, none⟩ = false
abbrev W4 (w : World) (k x : Int) : World := (((w.alloc (.cells #[.int .i64 k, .string keyT] 56)).alloc (.cells #[.int .i64 x, .int .i64 x] 57)).alloc (.cells #[.int .i64 0, .string ⟨#[]⟩] 56)).alloc (.cells #[.int .i64 0, .string ⟨#[]⟩] 56)
theorem beg4b (w : World) (k x : Int) : Below w.heap.size w (W4 w k x) := bl_al (bl_al (bl_al (bl_al (bl0 w) _) _) _) _
theorem beg4 (w : World) (k x : Int) : Beg4 w (W4 w k x) k x 0 ⟨#[]⟩ :=
  ⟨by simp [go_sem], by simp [go_sem], by simp [go_sem], by simp [go_sem], by simp [go_sem], by simp [go_sem], by simp [go_sem], by simp [go_sem], by simp [go_sem], by simp [go_sem], by simp [go_sem], by simp [go_sem]⟩
theorem Beg4.kept {w W W2 : World} {k x gk : Int} {gt : ByteArray} {T : Nat → Prop} (h : Beg4 w W k x gk gt) (hk : KeptS T W W2) (hT : ∀ q, T q → q < w.heap.size) : Beg4 w W2 k x gk gt := by
  have n0 : ¬ T w.heap.size := fun e => by have := hT _ e; omega
  have n1 : ¬ T (w.heap.size + 1) := fun e => by have := hT _ e; omega
  have n2 : ¬ T (w.heap.size + 1 + 1) := fun e => by have := hT _ e; omega
  have n3 : ¬ T (w.heap.size + 1 + 1 + 1) := fun e => by have := hT _ e; omega
  exact ⟨hk.cell h.k0 n0, hk.cell h.k1 n0, hk.cell h.x0 n1, hk.cell h.x1 n1, hk.cell h.r0 n2, hk.cell h.r1 n2, hk.frozen h.r0 h.f0 n2, hk.frozen h.r1 h.f1 n2, hk.cell h.g0 n3, hk.cell h.g1 n3, hk.frozen h.g0 h.h0 n3, hk.frozen h.g1 h.h1 n3⟩
theorem Beg4.later {w W W2 : World} {k x gk : Int} {gt : ByteArray} (h : Beg4 w W k x gk gt) (hb : Below W.heap.size W W2) : Beg4 w W2 k x gk gt :=
  ⟨cell_later hb h.k0, cell_later hb h.k1, cell_later hb h.x0, cell_later hb h.x1, cell_later hb h.r0, cell_later hb h.r1, frozen_later hb h.r0 h.f0, frozen_later hb h.r1 h.f1, cell_later hb h.g0, cell_later hb h.g1, frozen_later hb h.g0 h.h0, frozen_later hb h.g1 h.h1⟩
set_option maxRecDepth 100000 in
set_option maxHeartbeats 1000000 in
theorem put_n2 (k x : Int) (w : World) :
    Calls Try.prog 31 #[.pointer none, nmV k, pairV x] w fun e w' => e = .returned (.tuple #[zN, .bool false]) ∧ Below w.heap.size w w' := by
  have HB := Lib.hid (beg4b w k x)
  go_enter Try.func31, Try.ntmps31
  go_wp2
  refine bodyPost_ret (v := .tuple #[zN, .bool false]) (by simp [results, Try.results31, go_sem]) rfl ⟨rfl, HB.out⟩
set_option maxRecDepth 100000 in
set_option maxHeartbeats 4000000 in
theorem put_in2 (k x : Int) (p : Nat) (r : Int) (L : List (Nat × IT)) (v : Value) (S : Nat → Prop) (w : World) (h1 : CAt Try.c2 w p v L r) (h3 : ∀ k, S k ↔ CB p v L k) (hm : L.length ≤ 1000) (i : Nat) (e : findI k (L.map Prod.snd) = some i) :
    Calls Try.prog 31 #[.pointer (some ⟨p, 0, none⟩), nmV k, pairV x] w fun e w' => e = .returned (.tuple #[zN, .bool false]) ∧ Turned S w w' (CO Try.c2 p r (leadL i (k, x) (L.map Prod.snd))) := by
  obtain ⟨V, hV⟩ : ∃ V, W4 w k x = V := ⟨_, rfl⟩
  have hB : Beg4 w V k x 0 ⟨#[]⟩ := by rw [← hV]; exact beg4 w k x
  have hbV : Below w.heap.size w V := by rw [← hV]; exact beg4b w k x
  have HBV := Lib.hid hbV
  have h1V := h1.below hbV
  have HP := Lib.hid (place_c2 k p v L r V h1V hm)
  rw [e] at HP
  have HBG := Lib.hid hB
  unfold W4 at hV
  have k0 := hB.k0
  have k1 := hB.k1
  have zk := blk_lt k0
  have HSL := Lib.hid (fun q (hq : S q) => h1.lt ((h3 q).1 hq))
  have HOLD := Lib.hid (fun q (hq : CB p v L q) => h1.lt hq)
  obtain ⟨hi, hk, _⟩ := findI_some e
  rw [List.length_map] at hi
  obtain ⟨g, cap, rfl, hcap⟩ := h1.slice (by omega)
  have HC := Lib.hid h1V
  have H3 := Lib.hid h3
  have HI := Lib.hid hi
  clear e hk h1 h3 hi h1V hB hbV
  go_enter Try.func31, Try.ntmps31
  go_wp2_with fail
  refine HP.out.mono ?_
  rintro e w2 ⟨rfl, hb⟩
  have h2 := HC.out.below hb
  have c0 := h2.c0
  have c1 := h2.c1
  have zc := blk_lt c1
  have H2 := Lib.hid h2
  have HBG2 := Lib.hid (HBG.out.later hb)
  have HB2 := Lib.hid (bl_tr HBV.out hb)
  have hD := bl_dr (bl0 w2)
  clear hb HP h2 k0 k1 zk
  try dsimp only [idxV, Option.isSome] at *
  go_upto_region 5 with fail
  refine (wpIn_wide (n := 11)).1 ?_
  refine ordS_begin (S := (fun w' : World => w'.cell? ⟨p, 0, none⟩ = some (.int .i64 r) ∧ w'.cell? ⟨p, 1, none⟩ = some (.slice (some ⟨g, 0, none⟩) L.length cap))) (by kernel_rfl) ⟨cell_later hD c0, cell_later hD c1⟩ (fun hH => ?_)
  refine' ordS_take (i := 0) (oi := { dst := some 21, op := Op.move (Operand.tmp 10), type := 4, pos := _, after := #[], guard := none }) (v := _) rfl (by kernel_rfl) (by kernel_rfl) (by kernel_rfl) (by kernel_rfl) (fun _ _ _ h => h) (by assumption) (Or.inl ⟨by rfl, ?hy1⟩) (fun _ => rfl) ?rest1
  case hy1 => (intro w hSw; (try dsimp only at hSw); go_simp; try with_reducible rfl)
  try simp only [Act.put, List.setIfInBounds_toArray, List.set_cons_zero, List.set_cons_succ]
  refine' ordS_take (i := 1) (oi := { dst := some 22, op := Op.unOp UnOp.not 4 (Operand.tmp 21), type := 4, pos := _, after := #[{ on := 0, ground := Ground.data }], guard := none }) (v := _) rfl (by kernel_rfl) (by kernel_rfl) (by kernel_rfl) (by kernel_rfl) (fun _ _ _ h => h) (by assumption) (Or.inl ⟨by rfl, ?hy2⟩) (fun _ => rfl) ?rest2
  case hy2 => (intro w hSw; (try dsimp only at hSw); go_simp; try with_reducible rfl)
  try simp only [Act.put, List.setIfInBounds_toArray, List.set_cons_zero, List.set_cons_succ]
  refine' ordS_take (i := 2) (oi := { dst := some 23, op := Op.move (Operand.tmp 22), type := 4, pos := _, after := #[{ on := 1, ground := Ground.data }], guard := none }) (v := _) rfl (by kernel_rfl) (by kernel_rfl) (by kernel_rfl) (by kernel_rfl) (fun _ _ _ h => h) (by assumption) (Or.inl ⟨by rfl, ?hy3⟩) (fun _ => rfl) ?rest3
  case hy3 => (intro w hSw; (try dsimp only at hSw); go_simp; try with_reducible rfl)
  try simp only [Act.put, List.setIfInBounds_toArray, List.set_cons_zero, List.set_cons_succ]
  refine ordS_take (i := 3) (oi := { dst := some 24, op := Op.move (Operand.tmp 0), type := 52, pos := _, after := #[{ on := 2, ground := Ground.guard }], guard := some (2, true) }) (v := undef) rfl (by kernel_rfl) (by kernel_rfl) (by kernel_rfl) (by kernel_rfl) (fun _ _ _ h => h) (by assumption) (Or.inr ⟨by rfl, rfl⟩) (fun _ => rfl) ?_
  try simp only [Act.put, List.setIfInBounds_toArray, List.set_cons_zero, List.set_cons_succ]
  refine ordS_take (i := 4) (oi := { dst := some 25, op := Op.nilCheck (Operand.tmp 24), type := 0, pos := _, after := #[{ on := 3, ground := Ground.data }, { on := 2, ground := Ground.guard }], guard := some (2, true) }) (v := undef) rfl (by kernel_rfl) (by kernel_rfl) (by kernel_rfl) (by kernel_rfl) (fun _ _ _ h => h) (by assumption) (Or.inr ⟨by rfl, rfl⟩) (fun _ => rfl) ?_
  try simp only [Act.put, List.setIfInBounds_toArray, List.set_cons_zero, List.set_cons_succ]
  refine ordS_take (i := 5) (oi := { dst := some 26, op := Op.fieldAddr 85 (Operand.tmp 25) 1, type := 0, pos := _, after := #[{ on := 4, ground := Ground.data }, { on := 2, ground := Ground.guard }], guard := some (2, true) }) (v := undef) rfl (by kernel_rfl) (by kernel_rfl) (by kernel_rfl) (by kernel_rfl) (fun _ _ _ h => h) (by assumption) (Or.inr ⟨by rfl, rfl⟩) (fun _ => rfl) ?_
  try simp only [Act.put, List.setIfInBounds_toArray, List.set_cons_zero, List.set_cons_succ]
  refine ordS_take (i := 6) (oi := { dst := some 27, op := Op.load 83 (Operand.tmp 26), type := 83, pos := _, after := #[{ on := 5, ground := Ground.data }, { on := 2, ground := Ground.guard }], guard := some (2, true) }) (v := undef) rfl (by kernel_rfl) (by kernel_rfl) (by kernel_rfl) (by kernel_rfl) (fun _ _ _ h => h) (by assumption) (Or.inr ⟨by rfl, rfl⟩) (fun _ => rfl) ?_
  try simp only [Act.put, List.setIfInBounds_toArray, List.set_cons_zero, List.set_cons_succ]
  refine ordS_take (i := 7) (oi := { dst := some 28, op := Op.call { callee := Callee.builtin Builtin.len, args := #[Operand.tmp 27], argTypes := #[83] }, type := 3, pos := _, after := #[{ on := 6, ground := Ground.data }, { on := 2, ground := Ground.guard }], guard := some (2, true) }) (v := undef) rfl (by kernel_rfl) (by kernel_rfl) (by kernel_rfl) (by kernel_rfl) (fun _ _ _ h => h) (by assumption) (Or.inr ⟨by rfl, rfl⟩) (fun _ => rfl) ?_
  try simp only [Act.put, List.setIfInBounds_toArray, List.set_cons_zero, List.set_cons_succ]
  refine ordS_take (i := 8) (oi := { dst := some 29, op := Op.move (Operand.tmp 0), type := 52, pos := _, after := #[{ on := 2, ground := Ground.guard }], guard := some (2, true) }) (v := undef) rfl (by kernel_rfl) (by kernel_rfl) (by kernel_rfl) (by kernel_rfl) (fun _ _ _ h => h) (by assumption) (Or.inr ⟨by rfl, rfl⟩) (fun _ => rfl) ?_
  try simp only [Act.put, List.setIfInBounds_toArray, List.set_cons_zero, List.set_cons_succ]
  refine ordS_take (i := 9) (oi := { dst := some 30, op := Op.nilCheck (Operand.tmp 29), type := 0, pos := _, after := #[{ on := 8, ground := Ground.data }, { on := 2, ground := Ground.guard }], guard := some (2, true) }) (v := undef) rfl (by kernel_rfl) (by kernel_rfl) (by kernel_rfl) (by kernel_rfl) (fun _ _ _ h => h) (by assumption) (Or.inr ⟨by rfl, rfl⟩) (fun _ => rfl) ?_
  try simp only [Act.put, List.setIfInBounds_toArray, List.set_cons_zero, List.set_cons_succ]
  refine ordS_take (i := 10) (oi := { dst := some 31, op := Op.fieldAddr 85 (Operand.tmp 30) 0, type := 0, pos := _, after := #[{ on := 9, ground := Ground.data }, { on := 2, ground := Ground.guard }], guard := some (2, true) }) (v := undef) rfl (by kernel_rfl) (by kernel_rfl) (by kernel_rfl) (by kernel_rfl) (fun _ _ _ h => h) (by assumption) (Or.inr ⟨by rfl, rfl⟩) (fun _ => rfl) ?_
  try simp only [Act.put, List.setIfInBounds_toArray, List.set_cons_zero, List.set_cons_succ]
  refine ordS_take (i := 11) (oi := { dst := some 32, op := Op.load 3 (Operand.tmp 31), type := 3, pos := _, after := #[{ on := 10, ground := Ground.data }, { on := 2, ground := Ground.guard }], guard := some (2, true) }) (v := undef) rfl (by kernel_rfl) (by kernel_rfl) (by kernel_rfl) (by kernel_rfl) (fun _ _ _ h => h) (by assumption) (Or.inr ⟨by rfl, rfl⟩) (fun _ => rfl) ?_
  try simp only [Act.put, List.setIfInBounds_toArray, List.set_cons_zero, List.set_cons_succ]
  refine ordS_take (i := 12) (oi := { dst := some 33, op := Op.binOp BinOp.eql 3 (Operand.tmp 28) (Operand.tmp 32) 3, type := 4, pos := _, after := #[{ on := 7, ground := Ground.data }, { on := 11, ground := Ground.data }, { on := 2, ground := Ground.guard }], guard := some (2, true) }) (v := undef) rfl (by kernel_rfl) (by kernel_rfl) (by kernel_rfl) (by kernel_rfl) (fun _ _ _ h => h) (by assumption) (Or.inr ⟨by rfl, rfl⟩) (fun _ => rfl) ?_
  try simp only [Act.put, List.setIfInBounds_toArray, List.set_cons_zero, List.set_cons_succ]
  refine' ordS_take (i := 13) (oi := { dst := some 34, op := Op.pick (Operand.tmp 23) (Operand.tmp 33) (Operand.const (Value.bool false)), type := 4, pos := _, after := #[{ on := 2, ground := Ground.data }, { on := 12, ground := Ground.data }], guard := none }) (v := _) rfl (by kernel_rfl) (by kernel_rfl) (by kernel_rfl) (by kernel_rfl) (fun _ _ _ h => h) (by assumption) (Or.inl ⟨by rfl, ?hy14⟩) (fun _ => rfl) ?rest14
  case hy14 => (intro w hSw; (try dsimp only at hSw); go_simp; try with_reducible rfl)
  try simp only [Act.put, List.setIfInBounds_toArray, List.set_cons_zero, List.set_cons_succ]
  refine' ordS_take (i := 14) (oi := { dst := some 11, op := Op.assign (Operand.tmp 34), type := 4, pos := _, after := #[{ on := 13, ground := Ground.data }, { on := 2, ground := Ground.chain }, { on := 0, ground := Ground.phase }, { on := 1, ground := Ground.phase }, { on := 2, ground := Ground.phase }, { on := 3, ground := Ground.phase }, { on := 4, ground := Ground.phase }, { on := 5, ground := Ground.phase }, { on := 6, ground := Ground.phase }, { on := 7, ground := Ground.phase }, { on := 8, ground := Ground.phase }, { on := 9, ground := Ground.phase }, { on := 10, ground := Ground.phase }, { on := 11, ground := Ground.phase }, { on := 12, ground := Ground.phase }, { on := 13, ground := Ground.phase }], guard := none }) (v := _) rfl (by kernel_rfl) (by kernel_rfl) (by kernel_rfl) (by kernel_rfl) (fun _ _ _ h => h) (by assumption) (Or.inl ⟨by rfl, ?hy15⟩) (fun _ => rfl) ?rest15
  case hy15 => (intro w hSw; (try dsimp only at hSw); go_simp; try with_reducible rfl)
  try simp only [Act.put, List.setIfInBounds_toArray, List.set_cons_zero, List.set_cons_succ]
  refine ordS_done (by kernel_rfl) ?_
  clear hH
  obtain ⟨W, hW⟩ : ∃ W, w2.drew = W := ⟨_, rfl⟩
  rw [hW] at hD ⊢
  replace c1 := cell_later hD c1
  have H4 := Lib.hid (H2.out.below hD)
  have B4 := Lib.hid (HBG2.out.later hD)
  have HKW : Hid (KeptS S w W) := Lib.hid (.of_below (bl_tr HB2.out hD))
  clear hW hD H2 HBG2 c0 zc
  -- the world W: c1, H4 (the cache), B4 (the boxes); the thing's block is the next one
  obtain ⟨W1, hW1⟩ : ∃ W1, W.alloc (.cells #[.int .i64 k, .string keyT, .int .i64 x, .int .i64 x] 90) = W1 := ⟨_, rfl⟩
  have hx : W1.heap[W.heap.size]? = some (.cells #[.int .i64 k, .string keyT, .int .i64 x, .int .i64 x] 90 (0, 0)) := by rw [← hW1]; exact heap_alloc_new _ _
  have hb1 : Below W.heap.size W W1 := by rw [← hW1]; exact bl_al (bl0 _) _
  have h5 := H4.out.below hb1
  have hgp : g ≠ p := fun e => h5.gp (by rw [e]; rfl)
  have hlw := H4.out.rowlt (g := g) rfl
  have HL := Lib.hid (lead_c2 p g L.length cap i W.heap.size _ W1 (cell_later hb1 c1) hgp h5.row HI.out (Nat.le_succ_of_le hm) ptrs_one)
  have HX := Lib.hid hx
  have HB1 := Lib.hid hb1
  have HLW := Lib.hid hlw
  have HS1 := Lib.hid (show W1.heap.size = W.heap.size + 1 by rw [← hW1]; simp)
  have k0 := B4.out.k0
  have k1 := B4.out.k1
  have x0 := B4.out.x0
  have x1 := B4.out.x1
  have zk := blk_lt k0
  have zx := blk_lt x0
  clear hx hb1 h5 hgp hlw
  go_upto_region 12 with fail
  go_wp2_with fail
  refine HL.out.mono ?_
  rintro e w3 ⟨rfl, ho, hk⟩
  have hx3 : w3.heap[W.heap.size]? = some (.cells (Try.c2.cf (k, x)).toArray 90 (0, 0)) := (hk.2 W.heap.size (by rw [HS1.out]; omega) (fun e => by have := HLW.out; omega)).trans HX.out
  have h6 := co_puts (x := (k, x)) H4.out HI.out (Nat.le_refl _) hx3 ho ((KeptS.of_below HB1.out).trans hk (fun _ _ h => h))
  have hgl : g < w.heap.size := HOLD.out g (.inr (.inl rfl))
  have hsz : w.heap.size + 1 + 1 + 1 < W.heap.size := blk_lt B4.out.g0
  have hb9 := B4.out.later HB1.out
  have hn2 : ¬ (w.heap.size + 1 + 1 = g) := by omega
  have hn3 : ¬ (w.heap.size + 1 + 1 + 1 = g) := by omega
  have r0 := hk.cell hb9.r0 hn2
  have r1 := hk.cell hb9.r1 hn2
  have f0 := hk.frozen hb9.r0 hb9.f0 hn2
  have f1 := hk.frozen hb9.r1 hb9.f1 hn2
  have zr := blk_lt r0
  have hsub : ∀ q, CB p (.slice (some ⟨g, 0, none⟩) L.length cap) (leadL i (W.heap.size, (k, x)) L) q → S q ∨ W.heap.size ≤ q := by
    rintro q (e | e | ⟨y, hy, e⟩)
    · exact .inl ((H3.out q).2 (.inl e))
    · exact .inl ((H3.out q).2 (.inr (.inl e)))
    · unfold leadL at hy
      rcases List.mem_cons.1 hy with rfl | hy
      · exact .inr (by rw [← e]; exact Nat.le_refl _)
      · exact .inl ((H3.out q).2 (.inr (.inr ⟨y, List.mem_of_mem_eraseIdx hy, e⟩)))
  have hnq : ¬ CB p (.slice (some ⟨g, 0, none⟩) L.length cap) (leadL i (W.heap.size, (k, x)) L) (w.heap.size + 1 + 1) := fun hc => by
    rcases hsub _ hc with e | e
    · have := HSL.out _ e; omega
    · omega
  have hK : KeptS S w w3 := (HKW.out.below HB1.out).trans hk (fun q _ e => (H3.out q).2 (.inr (.inl (by rw [e]; rfl))))
  have hP : (CO Try.c2 p r (leadL i (k, x) (L.map Prod.snd))).P w3 (CB p (.slice (some ⟨g, 0, none⟩) L.length cap) (leadL i (W.heap.size, (k, x)) L)) := ⟨_, _, h6, leadL_map Prod.snd i _ L, fun _ => Iff.rfl⟩
  have HT : ∀ a b, Hid (Turned S w ((w3.setCell ⟨w.heap.size + 1 + 1, 0, none⟩ a).setCell ⟨w.heap.size + 1 + 1, 1, none⟩ b) (CO Try.c2 p r (leadL i (k, x) (L.map Prod.snd)))) := fun a b => by
    obtain ⟨a1, a2⟩ := scratch hK hP (by omega) hnq 0 a
    obtain ⟨b1, b2⟩ := scratch a1 a2 (by omega) hnq 1 b
    exact ⟨b1, _, b2, fun q hq => by
      rcases hsub q hq with e | e
      · exact .inl e
      · exact .inr (by omega)⟩
  have HTT := Lib.hid HT
  have q0 := hk.cell hb9.g0 hn3
  have q1 := hk.cell hb9.g1 hn3
  have zq := blk_lt q0
  clear ho hk hx3 h6 HL HX HLW hgl hsz hb9 hn2 hn3 hsub hnq hK hP HT k0 k1 x0 x1 zk zx
  go_wp2
  refine bodyPost_ret (v := .tuple #[zN, .bool false]) (by simp [results, Try.results31, go_sem, r0, r1]) rfl ⟨rfl, ?_⟩
  exact (HTT.out _ _).out
end Go.Proofs.Ytbmpgafndpdnbaa
