/- Cache: Put, walked. -/
import Derived.Test.YtbmpgafndpdnbaaEh
import Derived.Maps.AppendAt
namespace Go.Proofs.Ytbmpgafndpdnbaa
open Go.RowKit Go.Maps

theorem Try.infoP1 : (Try.prog.info? 73).map (fun i => (i.zero, i.size, i.bytes)) = some (some (.pointer none), 1, 8) := by kernel_rfl
theorem put_sub {S : Nat → Prop} {p g cap n i b : Nat} {L : List (Nat × IT)} {w : World} {x : IT} (h3 : ∀ k, S k ↔ CB p (.slice (some ⟨g, 0, none⟩) n cap) L k) (hb : w.heap.size ≤ b) :
    ∀ k, CB p (.slice (some ⟨g, 0, none⟩) n cap) (leadL i (b, x) L) k → S k ∨ w.heap.size ≤ k := by
  rintro k (q | q | ⟨z, hz, q⟩)
  · exact .inl ((h3 k).2 (.inl q))
  · exact .inl ((h3 k).2 (.inr (.inl q)))
  · unfold leadL at hz
    rcases List.mem_cons.1 hz with rfl | hz
    · exact .inr (by omega)
    · exact .inl ((h3 k).2 (.inr (.inr ⟨z, List.mem_of_mem_eraseIdx hz, q⟩)))
/-- A pointer to nothing is appended. -/
theorem append_nil1 {W : World} {ops : Array Oper} {rest : List Oper} {o : Oper} {ac : Act} {Q : Exit → Act → World → Prop} {p cap : Nat} {a : Option Addr} {L : List (Nat × IT)} {r : Int}
    (h5 : CAt Try.c1 (W.alloc (.cells #[.pointer none] 73)) p (.slice a L.length cap) L r) (hl : L.length ≤ 1000) (s x : Operand) (hgd : o.guard = none)
    (ho : o.op = .call { callee := .builtin .append, args := #[s, x], argTypes := #[70, 70] }) (hs : ac.eval s = .slice a L.length cap) (hx : ac.eval x = .slice (some ⟨W.heap.size, 0, none⟩) 1 1)
    (h : ∀ v' w', w'.ownsRow 0 73 1 v' (L.length + 1) (L.map (fun y => ptrV y.1) ++ [.pointer none]) → (W.alloc (.cells #[.pointer none] 73)).grownBy w' (Value.slice a L.length cap).ownBlock → (v'.ownBlock = (Value.slice a L.length cap).ownBlock ∨ v'.ownBlock = some (W.alloc (.cells #[.pointer none] 73)).heap.size) → wpList Try.prog ops Q rest (ac.put o.dst v') w') :
    wpList Try.prog ops Q (o :: rest) ac (W.alloc (.cells #[.pointer none] 73)) := by
  obtain ⟨i0, hi, hz0, hz1, hz2⟩ := info_parts Try.infoP1
  refine wpList_append_own_at _ hgd s x 70 ho 0 73 i0 (.pointer none) 1 8 Try.underlying70 hi hz0 hz1 hz2 rfl (by decide) _ _ _ hs h5.row ⟨W.heap.size, 0, none⟩ 1 1 [.pointer none] hx rfl (cell_one_new W _ _) (fun u hu => by rw [List.mem_singleton.1 hu]; rfl) (by unfold maxLen; omega) (by omega) (Nat.zero_le _) (fun v' w' q1 q2 _ q4 => h v' w' q1 q2 q4)
set_option maxRecDepth 100000 in
set_option maxHeartbeats 1000000 in
theorem put_n1 (k x : Int) (w : World) :
    Calls Try.prog 20 #[.pointer none, .int .i64 k, .int .i64 x] w fun e w' => e = .returned (.tuple #[.int .i64 0, .bool false]) ∧ Below w.heap.size w w' := by
  have HB := Lib.hid (bl0 w)
  go_enter Try.func20, Try.ntmps20
  go_wp2
  go_ret2
  exact ⟨rfl, HB.out⟩
set_option maxRecDepth 100000 in
set_option maxHeartbeats 4000000 in
/-- A key that has a thing. -/
theorem put_in1 (k x : Int) (p : Nat) (r : Int) (L : List (Nat × IT)) (v : Value) (S : Nat → Prop) (w : World) (h1 : CAt Try.c1 w p v L r) (h3 : ∀ k, S k ↔ CB p v L k) (hm : L.length ≤ 1000) (i : Nat) (e : findI k (L.map Prod.snd) = some i) :
    Calls Try.prog 20 #[.pointer (some ⟨p, 0, none⟩), .int .i64 k, .int .i64 x] w fun e w' => e = .returned (.tuple #[.int .i64 0, .bool false]) ∧ Turned S w w' (CO Try.c1 p r (leadL i (k, x) (L.map Prod.snd))) := by
  have HP := Lib.hid (place_c1 k p v L r w h1 hm)
  rw [e] at HP
  obtain ⟨hi, hk, _⟩ := findI_some e
  rw [List.length_map] at hi
  obtain ⟨g, cap, rfl, hcap⟩ := h1.slice (by omega)
  have HC := Lib.hid h1
  have H3 := Lib.hid h3
  have HI := Lib.hid hi
  clear e hk h1 h3 hi
  go_enter Try.func20, Try.ntmps20
  go_wp2_with fail
  refine HP.out.mono ?_
  rintro e w2 ⟨rfl, hb⟩
  have HB := Lib.hid hb
  have h2 := HC.out.below hb
  have c0 := h2.c0
  have c1 := h2.c1
  have zc := blk_lt c1
  have H2 := Lib.hid h2
  have hD := bl_dr (bl0 w2)
  clear hb HP h2
  try dsimp only [idxV, Option.isSome] at *
  go_upto_region 5 with fail
  refine (wpIn_wide (n := 11)).1 ?_
  refine ordS_begin (S := (fun w' : World => w'.cell? ⟨p, 0, none⟩ = some (.int .i64 r) ∧ w'.cell? ⟨p, 1, none⟩ = some (.slice (some ⟨g, 0, none⟩) L.length cap))) (by kernel_rfl) ⟨cell_later hD c0, cell_later hD c1⟩ (fun hH => ?_)
  refine' ordS_take (i := 0) (oi := { dst := some 21, op := Op.move (Operand.tmp 10), type := 4, pos := _, after := #[], guard := none }) (v := _) rfl (by kernel_rfl) (by kernel_rfl) (by kernel_rfl) (by kernel_rfl) (fun _ _ _ h => h) (by assumption) (Or.inl ⟨by rfl, ?hy1⟩) (fun _ => rfl) ?rest1
  case hy1 => (intro w hSw; (try dsimp only at hSw); go_simp; try with_reducible rfl)
  try simp only [Act.put, List.setIfInBounds_toArray, List.set_cons_zero, List.set_cons_succ]
  refine' ordS_take (i := 1) (oi := { dst := some 22, op := Op.unOp UnOp.not 4 (Operand.tmp 21), type := 4, pos := _, after := #[{ on := 0, ground := Ground.data }], guard := none }) (v := _) rfl (by kernel_rfl) (by kernel_rfl) (by kernel_rfl) (by kernel_rfl) (fun _ _ _ h => h) (by assumption) (Or.inl ⟨by rfl, ?hy2⟩) (fun _ => rfl) ?rest2
  case hy2 => (intro w hSw; (try dsimp only at hSw); go_simp; try with_reducible rfl)
  try simp only [Act.put, List.setIfInBounds_toArray, List.set_cons_zero, List.set_cons_succ]
  refine' ordS_take (i := 2) (oi := { dst := some 23, op := Op.move (Operand.tmp 22), type := 4, pos := _, after := #[{ on := 1, ground := Ground.data }], guard := none }) (v := _) rfl (by kernel_rfl) (by kernel_rfl) (by kernel_rfl) (by kernel_rfl) (fun _ _ _ h => h) (by assumption) (Or.inl ⟨by rfl, ?hy3⟩) (fun _ => rfl) ?rest3
  case hy3 => (intro w hSw; (try dsimp only at hSw); go_simp; try with_reducible rfl)
  try simp only [Act.put, List.setIfInBounds_toArray, List.set_cons_zero, List.set_cons_succ]
  refine ordS_take (i := 3) (oi := { dst := some 24, op := Op.move (Operand.tmp 0), type := 23, pos := _, after := #[{ on := 2, ground := Ground.guard }], guard := some (2, true) }) (v := undef) rfl (by kernel_rfl) (by kernel_rfl) (by kernel_rfl) (by kernel_rfl) (fun _ _ _ h => h) (by assumption) (Or.inr ⟨by rfl, rfl⟩) (fun _ => rfl) ?_
  try simp only [Act.put, List.setIfInBounds_toArray, List.set_cons_zero, List.set_cons_succ]
  refine ordS_take (i := 4) (oi := { dst := some 25, op := Op.nilCheck (Operand.tmp 24), type := 0, pos := _, after := #[{ on := 3, ground := Ground.data }, { on := 2, ground := Ground.guard }], guard := some (2, true) }) (v := undef) rfl (by kernel_rfl) (by kernel_rfl) (by kernel_rfl) (by kernel_rfl) (fun _ _ _ h => h) (by assumption) (Or.inr ⟨by rfl, rfl⟩) (fun _ => rfl) ?_
  try simp only [Act.put, List.setIfInBounds_toArray, List.set_cons_zero, List.set_cons_succ]
  refine ordS_take (i := 5) (oi := { dst := some 26, op := Op.fieldAddr 72 (Operand.tmp 25) 1, type := 0, pos := _, after := #[{ on := 4, ground := Ground.data }, { on := 2, ground := Ground.guard }], guard := some (2, true) }) (v := undef) rfl (by kernel_rfl) (by kernel_rfl) (by kernel_rfl) (by kernel_rfl) (fun _ _ _ h => h) (by assumption) (Or.inr ⟨by rfl, rfl⟩) (fun _ => rfl) ?_
  try simp only [Act.put, List.setIfInBounds_toArray, List.set_cons_zero, List.set_cons_succ]
  refine ordS_take (i := 6) (oi := { dst := some 27, op := Op.load 70 (Operand.tmp 26), type := 70, pos := _, after := #[{ on := 5, ground := Ground.data }, { on := 2, ground := Ground.guard }], guard := some (2, true) }) (v := undef) rfl (by kernel_rfl) (by kernel_rfl) (by kernel_rfl) (by kernel_rfl) (fun _ _ _ h => h) (by assumption) (Or.inr ⟨by rfl, rfl⟩) (fun _ => rfl) ?_
  try simp only [Act.put, List.setIfInBounds_toArray, List.set_cons_zero, List.set_cons_succ]
  refine ordS_take (i := 7) (oi := { dst := some 28, op := Op.call { callee := Callee.builtin Builtin.len, args := #[Operand.tmp 27], argTypes := #[70] }, type := 3, pos := _, after := #[{ on := 6, ground := Ground.data }, { on := 2, ground := Ground.guard }], guard := some (2, true) }) (v := undef) rfl (by kernel_rfl) (by kernel_rfl) (by kernel_rfl) (by kernel_rfl) (fun _ _ _ h => h) (by assumption) (Or.inr ⟨by rfl, rfl⟩) (fun _ => rfl) ?_
  try simp only [Act.put, List.setIfInBounds_toArray, List.set_cons_zero, List.set_cons_succ]
  refine ordS_take (i := 8) (oi := { dst := some 29, op := Op.move (Operand.tmp 0), type := 23, pos := _, after := #[{ on := 2, ground := Ground.guard }], guard := some (2, true) }) (v := undef) rfl (by kernel_rfl) (by kernel_rfl) (by kernel_rfl) (by kernel_rfl) (fun _ _ _ h => h) (by assumption) (Or.inr ⟨by rfl, rfl⟩) (fun _ => rfl) ?_
  try simp only [Act.put, List.setIfInBounds_toArray, List.set_cons_zero, List.set_cons_succ]
  refine ordS_take (i := 9) (oi := { dst := some 30, op := Op.nilCheck (Operand.tmp 29), type := 0, pos := _, after := #[{ on := 8, ground := Ground.data }, { on := 2, ground := Ground.guard }], guard := some (2, true) }) (v := undef) rfl (by kernel_rfl) (by kernel_rfl) (by kernel_rfl) (by kernel_rfl) (fun _ _ _ h => h) (by assumption) (Or.inr ⟨by rfl, rfl⟩) (fun _ => rfl) ?_
  try simp only [Act.put, List.setIfInBounds_toArray, List.set_cons_zero, List.set_cons_succ]
  refine ordS_take (i := 10) (oi := { dst := some 31, op := Op.fieldAddr 72 (Operand.tmp 30) 0, type := 0, pos := _, after := #[{ on := 9, ground := Ground.data }, { on := 2, ground := Ground.guard }], guard := some (2, true) }) (v := undef) rfl (by kernel_rfl) (by kernel_rfl) (by kernel_rfl) (by kernel_rfl) (fun _ _ _ h => h) (by assumption) (Or.inr ⟨by rfl, rfl⟩) (fun _ => rfl) ?_
  try simp only [Act.put, List.setIfInBounds_toArray, List.set_cons_zero, List.set_cons_succ]
  refine ordS_take (i := 11) (oi := { dst := some 32, op := Op.load 3 (Operand.tmp 31), type := 3, pos := _, after := #[{ on := 10, ground := Ground.data }, { on := 2, ground := Ground.guard }], guard := some (2, true) }) (v := undef) rfl (by kernel_rfl) (by kernel_rfl) (by kernel_rfl) (by kernel_rfl) (fun _ _ _ h => h) (by assumption) (Or.inr ⟨by rfl, rfl⟩) (fun _ => rfl) ?_
  try simp only [Act.put, List.setIfInBounds_toArray, List.set_cons_zero, List.set_cons_succ]
  refine ordS_take (i := 12) (oi := { dst := some 33, op := Op.binOp BinOp.eql 3 (Operand.tmp 28) (Operand.tmp 32) 3, type := 4, pos := _, after := #[{ on := 7, ground := Ground.data }, { on := 11, ground := Ground.data }, { on := 2, ground := Ground.guard }], guard := some (2, true) }) (v := undef) rfl (by kernel_rfl) (by kernel_rfl) (by kernel_rfl) (by kernel_rfl) (fun _ _ _ h => h) (by assumption) (Or.inr ⟨by rfl, rfl⟩) (fun _ => rfl) ?_
  try simp only [Act.put, List.setIfInBounds_toArray, List.set_cons_zero, List.set_cons_succ]
  refine' ordS_take (i := 13) (oi := { dst := some 34, op := Op.pick (Operand.tmp 23) (Operand.tmp 33) (Operand.const (Value.bool false)), type := 4, pos := _, after := #[{ on := 2, ground := Ground.data }, { on := 12, ground := Ground.data }], guard := none }) (v := _) rfl (by kernel_rfl) (by kernel_rfl) (by kernel_rfl) (by kernel_rfl) (fun _ _ _ h => h) (by assumption) (Or.inl ⟨by rfl, ?hy14⟩) (fun _ => rfl) ?rest14
  case hy14 => (intro w hSw; (try dsimp only at hSw); go_simp; try with_reducible rfl)
  try simp only [Act.put, List.setIfInBounds_toArray, List.set_cons_zero, List.set_cons_succ]
  refine' ordS_take (i := 14) (oi := { dst := some 11, op := Op.assign (Operand.tmp 34), type := 4, pos := _, after := #[{ on := 13, ground := Ground.data }, { on := 2, ground := Ground.chain }, { on := 0, ground := Ground.phase }, { on := 1, ground := Ground.phase }, { on := 2, ground := Ground.phase }, { on := 3, ground := Ground.phase }, { on := 4, ground := Ground.phase }, { on := 5, ground := Ground.phase }, { on := 6, ground := Ground.phase }, { on := 7, ground := Ground.phase }, { on := 8, ground := Ground.phase }, { on := 9, ground := Ground.phase }, { on := 10, ground := Ground.phase }, { on := 11, ground := Ground.phase }, { on := 12, ground := Ground.phase }, { on := 13, ground := Ground.phase }], guard := none }) (v := _) rfl (by kernel_rfl) (by kernel_rfl) (by kernel_rfl) (by kernel_rfl) (fun _ _ _ h => h) (by assumption) (Or.inl ⟨by rfl, ?hy15⟩) (fun _ => rfl) ?rest15
  case hy15 => (intro w hSw; (try dsimp only at hSw); go_simp; try with_reducible rfl)
  try simp only [Act.put, List.setIfInBounds_toArray, List.set_cons_zero, List.set_cons_succ]
  refine ordS_done (by kernel_rfl) ?_
  clear hH
  obtain ⟨W, hW⟩ : ∃ W, w2.drew = W := ⟨_, rfl⟩
  rw [hW] at hD ⊢
  replace c1 := cell_later hD c1
  have H4 := Lib.hid (H2.out.below hD)
  have HB4 := Lib.hid (bl_tr HB.out hD)
  clear hW hD H2 HB c0 zc
  -- the world W: c1 stands there, H4 (the cache), HB4, HI, hm
  obtain ⟨W1, hW1⟩ : ∃ W1, W.alloc (.cells #[.int .i64 k, .int .i64 x] 76) = W1 := ⟨_, rfl⟩
  have hx : W1.heap[W.heap.size]? = some (.cells #[.int .i64 k, .int .i64 x] 76 (0, 0)) := by rw [← hW1]; exact heap_alloc_new _ _
  have hb1 : Below W.heap.size W W1 := by rw [← hW1]; exact bl_al (bl0 _) _
  have h5 := H4.out.below hb1
  have hgp : g ≠ p := fun e => h5.gp (by rw [e]; rfl)
  have hlw := H4.out.rowlt (g := g) rfl
  have HL := Lib.hid (lead_c1 p g L.length cap i W.heap.size _ W1 (cell_later hb1 c1) hgp h5.row HI.out (Nat.le_succ_of_le hm) ptrs_one)
  have HX := Lib.hid hx
  have HB1 := Lib.hid hb1
  have HLW := Lib.hid hlw
  have HS1 := Lib.hid (show W1.heap.size = W.heap.size + 1 by rw [← hW1]; simp)
  clear hx hb1 h5 hgp hlw
  go_upto_region 12 with fail
  go_wp2_with fail
  refine HL.out.mono ?_
  rintro e w3 ⟨rfl, ho, hk⟩
  have hx3 : w3.heap[W.heap.size]? = some (.cells (Try.c1.cf (k, x)).toArray 76 (0, 0)) := (hk.2 W.heap.size (by rw [HS1.out]; omega) (fun e => by have := HLW.out; omega)).trans HX.out
  have h6 := co_puts (x := (k, x)) H4.out HI.out (Nat.le_refl _) hx3 ho ((KeptS.of_below HB1.out).trans hk (fun _ _ h => h))
  have HT : Hid (Turned S w w3 (CO Try.c1 p r (leadL i (k, x) (L.map Prod.snd)))) :=
    ⟨(KeptS.of_below (bl_tr HB4.out HB1.out)).trans hk (fun k _ e => (H3.out k).2 (.inr (.inl (by rw [e]; rfl)))), CB p (.slice (some ⟨g, 0, none⟩) L.length cap) (leadL i (W.heap.size, (k, x)) L), ⟨_, _, h6, leadL_map Prod.snd i _ L, fun _ => Iff.rfl⟩, put_sub H3.out HB4.out.size⟩
  clear ho hk hx3 h6 HL HX HLW
  go_wp2
  go_ret2
  exact ⟨rfl, HT.out⟩
set_option maxRecDepth 100000 in
set_option maxHeartbeats 4000000 in
theorem put_full1 (k x : Int) (p : Nat) (r : Int) (L : List (Nat × IT)) (v : Value) (S : Nat → Prop) (w : World) (h1 : CAt Try.c1 w p v L r) (h3 : ∀ k, S k ↔ CB p v L k) (hm : L.length ≤ 1000) (e : findI k (L.map Prod.snd) = none) (y : Nat × IT) (i : Nat) (hi1 : L.length = i + 1) (hr : (L.length : Int) = r) (hy : L[i]? = some y) :
    Calls Try.prog 20 #[.pointer (some ⟨p, 0, none⟩), .int .i64 k, .int .i64 x] w fun e w' => e = .returned (.tuple #[.int .i64 y.2.1, .bool true]) ∧ Turned S w w' (CO Try.c1 p r (leadL i (k, x) (L.map Prod.snd))) := by
  have HP := Lib.hid (place_c1 k p v L r w h1 hm)
  rw [e] at HP
  obtain ⟨g, cap, rfl, hcap⟩ := h1.slice (by omega)
  have HC := Lib.hid h1
  have H3 := Lib.hid h3
  have HI := Lib.hid (show i < L.length by omega)
  have HY := Lib.hid hy
  have hre : ((L.length : Int) == r) = true := by rw [hr]; exact beq_self_eq_true r
  have hw1 : IntKind.i64.wrap ((L.length : Int) - 1) = (i : Int) := by rw [show (L.length : Int) - 1 = i by omega]; exact IntWalk.i64_in _ (by omega)
  have hi0 : (0 : Int) ≤ (i : Int) := by omega
  have hi2 : (i : Int) < (L.length : Int) := by omega
  clear e h1 h3 hi1 hr hy
  go_enter Try.func20, Try.ntmps20
  go_wp2_with fail
  refine HP.out.mono ?_
  rintro e w2 ⟨rfl, hb⟩
  have HB := Lib.hid hb
  have h2 := HC.out.below hb
  have c0 := h2.c0
  have c1 := h2.c1
  have zc := blk_lt c1
  have H2 := Lib.hid h2
  have hD := bl_dr (bl0 w2)
  clear hb HP h2
  try dsimp only [idxV, Option.isSome] at *
  go_upto_region 5 with fail
  refine (wpIn_wide (n := 11)).1 ?_
  refine ordS_begin (S := (fun w' : World => w'.cell? ⟨p, 0, none⟩ = some (.int .i64 r) ∧ w'.cell? ⟨p, 1, none⟩ = some (.slice (some ⟨g, 0, none⟩) L.length cap))) (by kernel_rfl) ⟨cell_later hD c0, cell_later hD c1⟩ (fun hH => ?_)
  refine' ordS_take (i := 0) (oi := { dst := some 21, op := Op.move (Operand.tmp 10), type := 4, pos := _, after := #[], guard := none }) (v := _) rfl (by kernel_rfl) (by kernel_rfl) (by kernel_rfl) (by kernel_rfl) (fun _ _ _ h => h) (by assumption) (Or.inl ⟨by rfl, ?hy16⟩) (fun _ => rfl) ?rest16
  case hy16 => (intro w hSw; (try dsimp only at hSw); go_simp; try with_reducible rfl)
  try simp only [Act.put, List.setIfInBounds_toArray, List.set_cons_zero, List.set_cons_succ]
  refine' ordS_take (i := 1) (oi := { dst := some 22, op := Op.unOp UnOp.not 4 (Operand.tmp 21), type := 4, pos := _, after := #[{ on := 0, ground := Ground.data }], guard := none }) (v := _) rfl (by kernel_rfl) (by kernel_rfl) (by kernel_rfl) (by kernel_rfl) (fun _ _ _ h => h) (by assumption) (Or.inl ⟨by rfl, ?hy17⟩) (fun _ => rfl) ?rest17
  case hy17 => (intro w hSw; (try dsimp only at hSw); go_simp; try with_reducible rfl)
  try simp only [Act.put, List.setIfInBounds_toArray, List.set_cons_zero, List.set_cons_succ]
  refine' ordS_take (i := 2) (oi := { dst := some 23, op := Op.move (Operand.tmp 22), type := 4, pos := _, after := #[{ on := 1, ground := Ground.data }], guard := none }) (v := _) rfl (by kernel_rfl) (by kernel_rfl) (by kernel_rfl) (by kernel_rfl) (fun _ _ _ h => h) (by assumption) (Or.inl ⟨by rfl, ?hy18⟩) (fun _ => rfl) ?rest18
  case hy18 => (intro w hSw; (try dsimp only at hSw); go_simp; try with_reducible rfl)
  try simp only [Act.put, List.setIfInBounds_toArray, List.set_cons_zero, List.set_cons_succ]
  refine' ordS_take (i := 3) (oi := { dst := some 24, op := Op.move (Operand.tmp 0), type := 23, pos := _, after := #[{ on := 2, ground := Ground.guard }], guard := some (2, true) }) (v := _) rfl (by kernel_rfl) (by kernel_rfl) (by kernel_rfl) (by kernel_rfl) (fun _ _ _ h => h) (by assumption) (Or.inl ⟨by rfl, ?hy19⟩) (fun _ => rfl) ?rest19
  case hy19 => (intro w hSw; (try dsimp only at hSw); go_simp; try with_reducible rfl)
  try simp only [Act.put, List.setIfInBounds_toArray, List.set_cons_zero, List.set_cons_succ]
  refine' ordS_take (i := 4) (oi := { dst := some 25, op := Op.nilCheck (Operand.tmp 24), type := 0, pos := _, after := #[{ on := 3, ground := Ground.data }, { on := 2, ground := Ground.guard }], guard := some (2, true) }) (v := _) rfl (by kernel_rfl) (by kernel_rfl) (by kernel_rfl) (by kernel_rfl) (fun _ _ _ h => h) (by assumption) (Or.inl ⟨by rfl, ?hy20⟩) (fun _ => rfl) ?rest20
  case hy20 => (intro w hSw; (try dsimp only at hSw); go_simp; try with_reducible rfl)
  try simp only [Act.put, List.setIfInBounds_toArray, List.set_cons_zero, List.set_cons_succ]
  refine' ordS_take (i := 5) (oi := { dst := some 26, op := Op.fieldAddr 72 (Operand.tmp 25) 1, type := 0, pos := _, after := #[{ on := 4, ground := Ground.data }, { on := 2, ground := Ground.guard }], guard := some (2, true) }) (v := _) rfl (by kernel_rfl) (by kernel_rfl) (by kernel_rfl) (by kernel_rfl) (fun _ _ _ h => h) (by assumption) (Or.inl ⟨by rfl, ?hy21⟩) (fun _ => rfl) ?rest21
  case hy21 => (intro w hSw; (try dsimp only at hSw); go_simp; try with_reducible rfl)
  try simp only [Act.put, List.setIfInBounds_toArray, List.set_cons_zero, List.set_cons_succ]
  refine' ordS_take (i := 6) (oi := { dst := some 27, op := Op.load 70 (Operand.tmp 26), type := 70, pos := _, after := #[{ on := 5, ground := Ground.data }, { on := 2, ground := Ground.guard }], guard := some (2, true) }) (v := _) rfl (by kernel_rfl) (by kernel_rfl) (by kernel_rfl) (by kernel_rfl) (fun _ _ _ h => h) (by assumption) (Or.inl ⟨by rfl, ?hy22⟩) (fun _ => rfl) ?rest22
  case hy22 => (intro w hSw; (try dsimp only at hSw); go_simp; try with_reducible rfl)
  try simp only [Act.put, List.setIfInBounds_toArray, List.set_cons_zero, List.set_cons_succ]
  refine' ordS_take (i := 7) (oi := { dst := some 28, op := Op.call { callee := Callee.builtin Builtin.len, args := #[Operand.tmp 27], argTypes := #[70] }, type := 3, pos := _, after := #[{ on := 6, ground := Ground.data }, { on := 2, ground := Ground.guard }], guard := some (2, true) }) (v := _) rfl (by kernel_rfl) (by kernel_rfl) (by kernel_rfl) (by kernel_rfl) (fun _ _ _ h => h) (by assumption) (Or.inl ⟨by rfl, ?hy23⟩) (fun _ => rfl) ?rest23
  case hy23 => (intro w hSw; (try dsimp only at hSw); go_simp; try with_reducible rfl)
  try simp only [Act.put, List.setIfInBounds_toArray, List.set_cons_zero, List.set_cons_succ]
  refine' ordS_take (i := 8) (oi := { dst := some 29, op := Op.move (Operand.tmp 0), type := 23, pos := _, after := #[{ on := 2, ground := Ground.guard }], guard := some (2, true) }) (v := _) rfl (by kernel_rfl) (by kernel_rfl) (by kernel_rfl) (by kernel_rfl) (fun _ _ _ h => h) (by assumption) (Or.inl ⟨by rfl, ?hy24⟩) (fun _ => rfl) ?rest24
  case hy24 => (intro w hSw; (try dsimp only at hSw); go_simp; try with_reducible rfl)
  try simp only [Act.put, List.setIfInBounds_toArray, List.set_cons_zero, List.set_cons_succ]
  refine' ordS_take (i := 9) (oi := { dst := some 30, op := Op.nilCheck (Operand.tmp 29), type := 0, pos := _, after := #[{ on := 8, ground := Ground.data }, { on := 2, ground := Ground.guard }], guard := some (2, true) }) (v := _) rfl (by kernel_rfl) (by kernel_rfl) (by kernel_rfl) (by kernel_rfl) (fun _ _ _ h => h) (by assumption) (Or.inl ⟨by rfl, ?hy25⟩) (fun _ => rfl) ?rest25
  case hy25 => (intro w hSw; (try dsimp only at hSw); go_simp; try with_reducible rfl)
  try simp only [Act.put, List.setIfInBounds_toArray, List.set_cons_zero, List.set_cons_succ]
  refine' ordS_take (i := 10) (oi := { dst := some 31, op := Op.fieldAddr 72 (Operand.tmp 30) 0, type := 0, pos := _, after := #[{ on := 9, ground := Ground.data }, { on := 2, ground := Ground.guard }], guard := some (2, true) }) (v := _) rfl (by kernel_rfl) (by kernel_rfl) (by kernel_rfl) (by kernel_rfl) (fun _ _ _ h => h) (by assumption) (Or.inl ⟨by rfl, ?hy26⟩) (fun _ => rfl) ?rest26
  case hy26 => (intro w hSw; (try dsimp only at hSw); go_simp; try with_reducible rfl)
  try simp only [Act.put, List.setIfInBounds_toArray, List.set_cons_zero, List.set_cons_succ]
  refine' ordS_take (i := 11) (oi := { dst := some 32, op := Op.load 3 (Operand.tmp 31), type := 3, pos := _, after := #[{ on := 10, ground := Ground.data }, { on := 2, ground := Ground.guard }], guard := some (2, true) }) (v := _) rfl (by kernel_rfl) (by kernel_rfl) (by kernel_rfl) (by kernel_rfl) (fun _ _ _ h => h) (by assumption) (Or.inl ⟨by rfl, ?hy27⟩) (fun _ => rfl) ?rest27
  case hy27 => (intro w hSw; (try dsimp only at hSw); go_simp; try with_reducible rfl)
  try simp only [Act.put, List.setIfInBounds_toArray, List.set_cons_zero, List.set_cons_succ]
  refine' ordS_take (i := 12) (oi := { dst := some 33, op := Op.binOp BinOp.eql 3 (Operand.tmp 28) (Operand.tmp 32) 3, type := 4, pos := _, after := #[{ on := 7, ground := Ground.data }, { on := 11, ground := Ground.data }, { on := 2, ground := Ground.guard }], guard := some (2, true) }) (v := _) rfl (by kernel_rfl) (by kernel_rfl) (by kernel_rfl) (by kernel_rfl) (fun _ _ _ h => h) (by assumption) (Or.inl ⟨by rfl, ?hy28⟩) (fun _ => rfl) ?rest28
  case hy28 => (intro w hSw; (try dsimp only at hSw); go_simp; try with_reducible rfl)
  try simp only [Act.put, List.setIfInBounds_toArray, List.set_cons_zero, List.set_cons_succ]
  refine' ordS_take (i := 13) (oi := { dst := some 34, op := Op.pick (Operand.tmp 23) (Operand.tmp 33) (Operand.const (Value.bool false)), type := 4, pos := _, after := #[{ on := 2, ground := Ground.data }, { on := 12, ground := Ground.data }], guard := none }) (v := _) rfl (by kernel_rfl) (by kernel_rfl) (by kernel_rfl) (by kernel_rfl) (fun _ _ _ h => h) (by assumption) (Or.inl ⟨by rfl, ?hy29⟩) (fun _ => rfl) ?rest29
  case hy29 => (intro w hSw; (try dsimp only at hSw); go_simp; try with_reducible rfl)
  try simp only [Act.put, List.setIfInBounds_toArray, List.set_cons_zero, List.set_cons_succ]
  refine' ordS_take (i := 14) (oi := { dst := some 11, op := Op.assign (Operand.tmp 34), type := 4, pos := _, after := #[{ on := 13, ground := Ground.data }, { on := 2, ground := Ground.chain }, { on := 0, ground := Ground.phase }, { on := 1, ground := Ground.phase }, { on := 2, ground := Ground.phase }, { on := 3, ground := Ground.phase }, { on := 4, ground := Ground.phase }, { on := 5, ground := Ground.phase }, { on := 6, ground := Ground.phase }, { on := 7, ground := Ground.phase }, { on := 8, ground := Ground.phase }, { on := 9, ground := Ground.phase }, { on := 10, ground := Ground.phase }, { on := 11, ground := Ground.phase }, { on := 12, ground := Ground.phase }, { on := 13, ground := Ground.phase }], guard := none }) (v := _) rfl (by kernel_rfl) (by kernel_rfl) (by kernel_rfl) (by kernel_rfl) (fun _ _ _ h => h) (by assumption) (Or.inl ⟨by rfl, ?hy30⟩) (fun _ => rfl) ?rest30
  case hy30 => (intro w hSw; (try dsimp only at hSw); go_simp; try with_reducible rfl)
  try simp only [Act.put, List.setIfInBounds_toArray, List.set_cons_zero, List.set_cons_succ]
  refine ordS_done (by kernel_rfl) ?_
  clear hH
  obtain ⟨W, hW⟩ : ∃ W, w2.drew = W := ⟨_, rfl⟩
  rw [hW] at hD ⊢
  replace c1 := cell_later hD c1
  have h4 := H2.out.below hD
  have d0 := h4.ptr rfl HY.out
  have d1 := h4.cell (List.mem_of_getElem? HY.out) (j := 0) rfl
  have zp := blk_lt c1
  have zd := blk_lt d0
  have ze := blk_lt d1
  have H4 := Lib.hid h4
  have HB4 := Lib.hid (bl_tr HB.out hD)
  clear hW hD H2 HB c0 zc h4
  -- the world W: c1 stands there, H4 (the cache), HB4, HI, hm
  obtain ⟨W1, hW1⟩ : ∃ W1, W.alloc (.cells #[.int .i64 k, .int .i64 x] 76) = W1 := ⟨_, rfl⟩
  have hx : W1.heap[W.heap.size]? = some (.cells #[.int .i64 k, .int .i64 x] 76 (0, 0)) := by rw [← hW1]; exact heap_alloc_new _ _
  have hb1 : Below W.heap.size W W1 := by rw [← hW1]; exact bl_al (bl0 _) _
  have h5 := H4.out.below hb1
  have hgp : g ≠ p := fun e => h5.gp (by rw [e]; rfl)
  have hlw := H4.out.rowlt (g := g) rfl
  have HL := Lib.hid (lead_c1 p g L.length cap i W.heap.size _ W1 (cell_later hb1 c1) hgp h5.row HI.out (Nat.le_succ_of_le hm) ptrs_one)
  have HX := Lib.hid hx
  have HB1 := Lib.hid hb1
  have HLW := Lib.hid hlw
  have HS1 := Lib.hid (show W1.heap.size = W.heap.size + 1 by rw [← hW1]; simp)
  clear hx hb1 h5 hgp hlw
  go_upto_region 12 with fail
  go_wp2_with fail
  refine HL.out.mono ?_
  rintro e w3 ⟨rfl, ho, hk⟩
  have hx3 : w3.heap[W.heap.size]? = some (.cells (Try.c1.cf (k, x)).toArray 76 (0, 0)) := (hk.2 W.heap.size (by rw [HS1.out]; omega) (fun e => by have := HLW.out; omega)).trans HX.out
  have h6 := co_puts (x := (k, x)) H4.out HI.out (Nat.le_refl _) hx3 ho ((KeptS.of_below HB1.out).trans hk (fun _ _ h => h))
  have HT : Hid (Turned S w w3 (CO Try.c1 p r (leadL i (k, x) (L.map Prod.snd)))) :=
    ⟨(KeptS.of_below (bl_tr HB4.out HB1.out)).trans hk (fun k _ e => (H3.out k).2 (.inr (.inl (by rw [e]; rfl)))), CB p (.slice (some ⟨g, 0, none⟩) L.length cap) (leadL i (W.heap.size, (k, x)) L), ⟨_, _, h6, leadL_map Prod.snd i _ L, fun _ => Iff.rfl⟩, put_sub H3.out HB4.out.size⟩
  clear ho hk hx3 h6 HL HX HLW
  go_wp2
  go_ret2
  exact ⟨rfl, HT.out⟩
set_option maxRecDepth 100000 in
set_option maxHeartbeats 4000000 in
theorem put_more1 (k x : Int) (p : Nat) (r : Int) (L : List (Nat × IT)) (v : Value) (S : Nat → Prop) (w : World) (h1 : CAt Try.c1 w p v L r) (h3 : ∀ k, S k ↔ CB p v L k) (hm : L.length ≤ 1000) (e : findI k (L.map Prod.snd) = none) (hr : (L.length : Int) ≠ r) :
    Calls Try.prog 20 #[.pointer (some ⟨p, 0, none⟩), .int .i64 k, .int .i64 x] w fun e w' => e = .returned (.tuple #[.int .i64 0, .bool false]) ∧ Turned S w w' (CO Try.c1 p r ((k, x) :: L.map Prod.snd)) := by
  have HP := Lib.hid (place_c1 k p v L r w h1 hm)
  rw [e] at HP
  obtain ⟨a, cap, rfl, hcap, _⟩ := h1.any
  have HC := Lib.hid h1
  have H3 := Lib.hid h3
  have hre : ((L.length : Int) == r) = false := beq_eq_false_iff_ne.2 hr
  obtain ⟨i0, hi, hz0, hz1, hz2⟩ := info_parts Try.infoP1
  clear e h1 h3 hr
  go_enter Try.func20, Try.ntmps20
  go_wp2_with fail
  refine HP.out.mono ?_
  rintro e w2 ⟨rfl, hb⟩
  have HB := Lib.hid hb
  have h2 := HC.out.below hb
  have c0 := h2.c0
  have c1 := h2.c1
  have zc := blk_lt c1
  have H2 := Lib.hid h2
  have hD := bl_dr (bl0 w2)
  clear hb HP h2
  try dsimp only [idxV, Option.isSome] at *
  go_upto_region 5 with fail
  refine (wpIn_wide (n := 11)).1 ?_
  refine ordS_begin (S := (fun w' : World => w'.cell? ⟨p, 0, none⟩ = some (.int .i64 r) ∧ w'.cell? ⟨p, 1, none⟩ = some (.slice a L.length cap))) (by kernel_rfl) ⟨cell_later hD c0, cell_later hD c1⟩ (fun hH => ?_)
  refine' ordS_take (i := 0) (oi := { dst := some 21, op := Op.move (Operand.tmp 10), type := 4, pos := _, after := #[], guard := none }) (v := _) rfl (by kernel_rfl) (by kernel_rfl) (by kernel_rfl) (by kernel_rfl) (fun _ _ _ h => h) (by assumption) (Or.inl ⟨by rfl, ?hy31⟩) (fun _ => rfl) ?rest31
  case hy31 => (intro w hSw; (try dsimp only at hSw); go_simp; try with_reducible rfl)
  try simp only [Act.put, List.setIfInBounds_toArray, List.set_cons_zero, List.set_cons_succ]
  refine' ordS_take (i := 1) (oi := { dst := some 22, op := Op.unOp UnOp.not 4 (Operand.tmp 21), type := 4, pos := _, after := #[{ on := 0, ground := Ground.data }], guard := none }) (v := _) rfl (by kernel_rfl) (by kernel_rfl) (by kernel_rfl) (by kernel_rfl) (fun _ _ _ h => h) (by assumption) (Or.inl ⟨by rfl, ?hy32⟩) (fun _ => rfl) ?rest32
  case hy32 => (intro w hSw; (try dsimp only at hSw); go_simp; try with_reducible rfl)
  try simp only [Act.put, List.setIfInBounds_toArray, List.set_cons_zero, List.set_cons_succ]
  refine' ordS_take (i := 2) (oi := { dst := some 23, op := Op.move (Operand.tmp 22), type := 4, pos := _, after := #[{ on := 1, ground := Ground.data }], guard := none }) (v := _) rfl (by kernel_rfl) (by kernel_rfl) (by kernel_rfl) (by kernel_rfl) (fun _ _ _ h => h) (by assumption) (Or.inl ⟨by rfl, ?hy33⟩) (fun _ => rfl) ?rest33
  case hy33 => (intro w hSw; (try dsimp only at hSw); go_simp; try with_reducible rfl)
  try simp only [Act.put, List.setIfInBounds_toArray, List.set_cons_zero, List.set_cons_succ]
  refine' ordS_take (i := 3) (oi := { dst := some 24, op := Op.move (Operand.tmp 0), type := 23, pos := _, after := #[{ on := 2, ground := Ground.guard }], guard := some (2, true) }) (v := _) rfl (by kernel_rfl) (by kernel_rfl) (by kernel_rfl) (by kernel_rfl) (fun _ _ _ h => h) (by assumption) (Or.inl ⟨by rfl, ?hy34⟩) (fun _ => rfl) ?rest34
  case hy34 => (intro w hSw; (try dsimp only at hSw); go_simp; try with_reducible rfl)
  try simp only [Act.put, List.setIfInBounds_toArray, List.set_cons_zero, List.set_cons_succ]
  refine' ordS_take (i := 4) (oi := { dst := some 25, op := Op.nilCheck (Operand.tmp 24), type := 0, pos := _, after := #[{ on := 3, ground := Ground.data }, { on := 2, ground := Ground.guard }], guard := some (2, true) }) (v := _) rfl (by kernel_rfl) (by kernel_rfl) (by kernel_rfl) (by kernel_rfl) (fun _ _ _ h => h) (by assumption) (Or.inl ⟨by rfl, ?hy35⟩) (fun _ => rfl) ?rest35
  case hy35 => (intro w hSw; (try dsimp only at hSw); go_simp; try with_reducible rfl)
  try simp only [Act.put, List.setIfInBounds_toArray, List.set_cons_zero, List.set_cons_succ]
  refine' ordS_take (i := 5) (oi := { dst := some 26, op := Op.fieldAddr 72 (Operand.tmp 25) 1, type := 0, pos := _, after := #[{ on := 4, ground := Ground.data }, { on := 2, ground := Ground.guard }], guard := some (2, true) }) (v := _) rfl (by kernel_rfl) (by kernel_rfl) (by kernel_rfl) (by kernel_rfl) (fun _ _ _ h => h) (by assumption) (Or.inl ⟨by rfl, ?hy36⟩) (fun _ => rfl) ?rest36
  case hy36 => (intro w hSw; (try dsimp only at hSw); go_simp; try with_reducible rfl)
  try simp only [Act.put, List.setIfInBounds_toArray, List.set_cons_zero, List.set_cons_succ]
  refine' ordS_take (i := 6) (oi := { dst := some 27, op := Op.load 70 (Operand.tmp 26), type := 70, pos := _, after := #[{ on := 5, ground := Ground.data }, { on := 2, ground := Ground.guard }], guard := some (2, true) }) (v := _) rfl (by kernel_rfl) (by kernel_rfl) (by kernel_rfl) (by kernel_rfl) (fun _ _ _ h => h) (by assumption) (Or.inl ⟨by rfl, ?hy37⟩) (fun _ => rfl) ?rest37
  case hy37 => (intro w hSw; (try dsimp only at hSw); go_simp; try with_reducible rfl)
  try simp only [Act.put, List.setIfInBounds_toArray, List.set_cons_zero, List.set_cons_succ]
  refine' ordS_take (i := 7) (oi := { dst := some 28, op := Op.call { callee := Callee.builtin Builtin.len, args := #[Operand.tmp 27], argTypes := #[70] }, type := 3, pos := _, after := #[{ on := 6, ground := Ground.data }, { on := 2, ground := Ground.guard }], guard := some (2, true) }) (v := _) rfl (by kernel_rfl) (by kernel_rfl) (by kernel_rfl) (by kernel_rfl) (fun _ _ _ h => h) (by assumption) (Or.inl ⟨by rfl, ?hy38⟩) (fun _ => rfl) ?rest38
  case hy38 => (intro w hSw; (try dsimp only at hSw); go_simp; try with_reducible rfl)
  try simp only [Act.put, List.setIfInBounds_toArray, List.set_cons_zero, List.set_cons_succ]
  refine' ordS_take (i := 8) (oi := { dst := some 29, op := Op.move (Operand.tmp 0), type := 23, pos := _, after := #[{ on := 2, ground := Ground.guard }], guard := some (2, true) }) (v := _) rfl (by kernel_rfl) (by kernel_rfl) (by kernel_rfl) (by kernel_rfl) (fun _ _ _ h => h) (by assumption) (Or.inl ⟨by rfl, ?hy39⟩) (fun _ => rfl) ?rest39
  case hy39 => (intro w hSw; (try dsimp only at hSw); go_simp; try with_reducible rfl)
  try simp only [Act.put, List.setIfInBounds_toArray, List.set_cons_zero, List.set_cons_succ]
  refine' ordS_take (i := 9) (oi := { dst := some 30, op := Op.nilCheck (Operand.tmp 29), type := 0, pos := _, after := #[{ on := 8, ground := Ground.data }, { on := 2, ground := Ground.guard }], guard := some (2, true) }) (v := _) rfl (by kernel_rfl) (by kernel_rfl) (by kernel_rfl) (by kernel_rfl) (fun _ _ _ h => h) (by assumption) (Or.inl ⟨by rfl, ?hy40⟩) (fun _ => rfl) ?rest40
  case hy40 => (intro w hSw; (try dsimp only at hSw); go_simp; try with_reducible rfl)
  try simp only [Act.put, List.setIfInBounds_toArray, List.set_cons_zero, List.set_cons_succ]
  refine' ordS_take (i := 10) (oi := { dst := some 31, op := Op.fieldAddr 72 (Operand.tmp 30) 0, type := 0, pos := _, after := #[{ on := 9, ground := Ground.data }, { on := 2, ground := Ground.guard }], guard := some (2, true) }) (v := _) rfl (by kernel_rfl) (by kernel_rfl) (by kernel_rfl) (by kernel_rfl) (fun _ _ _ h => h) (by assumption) (Or.inl ⟨by rfl, ?hy41⟩) (fun _ => rfl) ?rest41
  case hy41 => (intro w hSw; (try dsimp only at hSw); go_simp; try with_reducible rfl)
  try simp only [Act.put, List.setIfInBounds_toArray, List.set_cons_zero, List.set_cons_succ]
  refine' ordS_take (i := 11) (oi := { dst := some 32, op := Op.load 3 (Operand.tmp 31), type := 3, pos := _, after := #[{ on := 10, ground := Ground.data }, { on := 2, ground := Ground.guard }], guard := some (2, true) }) (v := _) rfl (by kernel_rfl) (by kernel_rfl) (by kernel_rfl) (by kernel_rfl) (fun _ _ _ h => h) (by assumption) (Or.inl ⟨by rfl, ?hy42⟩) (fun _ => rfl) ?rest42
  case hy42 => (intro w hSw; (try dsimp only at hSw); go_simp; try with_reducible rfl)
  try simp only [Act.put, List.setIfInBounds_toArray, List.set_cons_zero, List.set_cons_succ]
  refine' ordS_take (i := 12) (oi := { dst := some 33, op := Op.binOp BinOp.eql 3 (Operand.tmp 28) (Operand.tmp 32) 3, type := 4, pos := _, after := #[{ on := 7, ground := Ground.data }, { on := 11, ground := Ground.data }, { on := 2, ground := Ground.guard }], guard := some (2, true) }) (v := _) rfl (by kernel_rfl) (by kernel_rfl) (by kernel_rfl) (by kernel_rfl) (fun _ _ _ h => h) (by assumption) (Or.inl ⟨by rfl, ?hy43⟩) (fun _ => rfl) ?rest43
  case hy43 => (intro w hSw; (try dsimp only at hSw); go_simp; try with_reducible rfl)
  try simp only [Act.put, List.setIfInBounds_toArray, List.set_cons_zero, List.set_cons_succ]
  refine' ordS_take (i := 13) (oi := { dst := some 34, op := Op.pick (Operand.tmp 23) (Operand.tmp 33) (Operand.const (Value.bool false)), type := 4, pos := _, after := #[{ on := 2, ground := Ground.data }, { on := 12, ground := Ground.data }], guard := none }) (v := _) rfl (by kernel_rfl) (by kernel_rfl) (by kernel_rfl) (by kernel_rfl) (fun _ _ _ h => h) (by assumption) (Or.inl ⟨by rfl, ?hy44⟩) (fun _ => rfl) ?rest44
  case hy44 => (intro w hSw; (try dsimp only at hSw); go_simp; try with_reducible rfl)
  try simp only [Act.put, List.setIfInBounds_toArray, List.set_cons_zero, List.set_cons_succ]
  refine' ordS_take (i := 14) (oi := { dst := some 11, op := Op.assign (Operand.tmp 34), type := 4, pos := _, after := #[{ on := 13, ground := Ground.data }, { on := 2, ground := Ground.chain }, { on := 0, ground := Ground.phase }, { on := 1, ground := Ground.phase }, { on := 2, ground := Ground.phase }, { on := 3, ground := Ground.phase }, { on := 4, ground := Ground.phase }, { on := 5, ground := Ground.phase }, { on := 6, ground := Ground.phase }, { on := 7, ground := Ground.phase }, { on := 8, ground := Ground.phase }, { on := 9, ground := Ground.phase }, { on := 10, ground := Ground.phase }, { on := 11, ground := Ground.phase }, { on := 12, ground := Ground.phase }, { on := 13, ground := Ground.phase }], guard := none }) (v := _) rfl (by kernel_rfl) (by kernel_rfl) (by kernel_rfl) (by kernel_rfl) (fun _ _ _ h => h) (by assumption) (Or.inl ⟨by rfl, ?hy45⟩) (fun _ => rfl) ?rest45
  case hy45 => (intro w hSw; (try dsimp only at hSw); go_simp; try with_reducible rfl)
  try simp only [Act.put, List.setIfInBounds_toArray, List.set_cons_zero, List.set_cons_succ]
  refine ordS_done (by kernel_rfl) ?_
  clear hH
  obtain ⟨W0, hW⟩ : ∃ W, w2.drew = W := ⟨_, rfl⟩
  rw [hW] at hD ⊢
  replace c1 := cell_later hD c1
  have H4 := Lib.hid (H2.out.below hD)
  have HB4 := Lib.hid (bl_tr HB.out hD)
  have zp := blk_lt c1
  have hbn := bl_al (bl0 W0) (.cells #[.pointer none] 73)
  have h5 := H4.out.below hbn
  have c1' := cell_later hbn c1
  have zp' := blk_lt c1'
  clear hW hD H2 HB c0 zc
  go_upto_region 11 with fail
  go_wp2_with (at_builtin; refine append_nil1 h5 (by omega) _ _ rfl rfl (by rfl) (by rfl) ?_)
  intro v' w' q1 q2 q4
  obtain ⟨g, cap2, rfl⟩ : ∃ g cap2, v' = .slice (some ⟨g, 0, none⟩) (L.length + 1) cap2 := by
    rcases q1.2 with ⟨_, e⟩ | ⟨g', cap', cur, e, _⟩
    · omega
    · exact ⟨g', cap', e⟩
  obtain ⟨hM, hK5, y0, y1⟩ := co_grown h5 q1 q2 (by rw [World.size_alloc]; exact q4)
  have hown : ∀ q, (Value.slice (some (⟨g, 0, none⟩ : Addr)) (L.length + 1) cap2).ownBlock = some q → S q ∨ w.heap.size ≤ q := by
    intro q hq
    rcases q4 with e | e
    · rw [e] at hq; exact .inl ((H3.out q).2 (.inr (.inl hq)))
    · rw [e] at hq
      have := Option.some.inj hq
      have h9 := (bl_tr HB4.out hbn).size
      rw [World.size_alloc] at h9
      exact .inr (by omega)
  have hkw : KeptS S w (w'.setCell ⟨p, 1, none⟩ (.slice (some ⟨g, 0, none⟩) (L.length + 1) cap2)) := (KeptS.of_below (bl_tr HB4.out hbn)).trans hK5 (fun q _ hq => (H3.out q).2 hq)
  have zy := blk_lt y0
  have HOWN := Lib.hid hown
  have HKW := Lib.hid hkw
  have HM := Lib.hid hM
  obtain ⟨W, hW⟩ : ∃ W, w'.setCell ⟨p, 1, none⟩ (.slice (some ⟨g, 0, none⟩) (L.length + 1) cap2) = W := ⟨_, rfl⟩
  rw [hW] at HM HKW
  clear q1 q2 q4 hM hK5 hown hkw hbn h5 c1' zp'
  obtain ⟨W1, hW1⟩ : ∃ W1, W.alloc (.cells #[.int .i64 k, .int .i64 x] 76) = W1 := ⟨_, rfl⟩
  have hx : W1.heap[W.heap.size]? = some (.cells #[.int .i64 k, .int .i64 x] 76 (0, 0)) := by rw [← hW1]; exact heap_alloc_new _ _
  have hb1 : Below W.heap.size W W1 := by rw [← hW1]; exact bl_al (bl0 _) _
  have hM := HM.out
  have hgp : g ≠ p := fun e => hM.gp (by rw [e]; rfl)
  have hlw := (hM.row.lt g rfl).2
  have hc1 : W1.cell? ⟨p, 1, none⟩ = some (.slice (some ⟨g, 0, none⟩) (L.length + 1) cap2) := cell_later hb1 (by simp [World.cell?, hM.hp])
  have HL := Lib.hid (lead_c1 p g (L.length + 1) cap2 L.length W.heap.size _ W1 hc1 hgp (own_later hM.row hb1) (by omega) (by omega) (fun u hu => by
    rcases List.mem_append.1 hu with hu | hu
    · exact ptrs_one u hu
    · rw [List.mem_singleton.1 hu]; rfl))
  have HM2 := Lib.hid hM
  have HX := Lib.hid hx
  have HB1 := Lib.hid hb1
  have HLW := Lib.hid hlw
  have HS1 := Lib.hid (show W1.heap.size = W.heap.size + 1 by rw [← hW1]; simp)
  have hw1 : ((L.length + 1 : Nat) : Int) = (L.length : Int) + 1 := by omega
  clear hM hx hb1 hgp hlw hc1 HM
  go_upto_region 12 with fail
  go_wp2_with fail
  refine HL.out.mono ?_
  rintro e w3 ⟨rfl, ho, hk⟩
  have hx3 : w3.heap[W.heap.size]? = some (.cells (Try.c1.cf (k, x)).toArray 76 (0, 0)) := (hk.2 W.heap.size (by rw [HS1.out]; omega) (fun e => by have := HLW.out; omega)).trans HX.out
  have h6 := co_more (x := (k, x)) HM2.out (Nat.le_refl _) hx3 ho ((KeptS.of_below HB1.out).trans hk (fun _ _ h => h))
  have HT : Hid (Turned S w w3 (CO Try.c1 p r ((k, x) :: L.map Prod.snd))) := by
    have hws : w.heap.size ≤ W.heap.size := HKW.out.1.size
    have hkf : KeptS (fun q => S q ∨ w.heap.size ≤ q) w w3 := (HKW.out.wide (fun q h => .inl h)).trans ((KeptS.of_below HB1.out).trans hk (fun _ _ h => h)) (fun q _ e => HOWN.out q (by rw [e]; rfl))
    refine ⟨⟨hkf.1, fun q hq hn => hkf.2 q hq (fun h => by rcases h with h | h; exact hn h; omega)⟩, CB p (.slice (some ⟨g, 0, none⟩) (L.length + 1) cap2) ((W.heap.size, (k, x)) :: L), ⟨_, _, h6, rfl, fun _ => Iff.rfl⟩, ?_⟩
    rintro q (hq | hq | ⟨z, hz, hq⟩)
    · exact .inl ((H3.out q).2 (.inl hq))
    · exact HOWN.out q hq
    · rcases List.mem_cons.1 hz with rfl | hz
      · exact .inr (by omega)
      · exact .inl ((H3.out q).2 (.inr (.inr ⟨z, hz, hq⟩)))
  clear ho hk hx3 h6 HL HX HLW
  go_wp2
  go_ret2
  exact ⟨rfl, HT.out⟩

/-- Put. -/
theorem put_c1 (k x : Int) (p : Nat) (r : Int) (m : List IT) (S : Nat → Prop) (w : World) (h : (CO Try.c1 p r m).P w S) (hm : m.length ≤ 1000) (hr : 1 ≤ r) :
    Calls Try.prog 20 #[.pointer (some ⟨p, 0, none⟩), .int .i64 k, .int .i64 x] w fun e w' => e = .returned (.tuple #[.int .i64 (goneK r k m), .bool (fullB r k m)]) ∧ Turned S w w' (CO Try.c1 p r (putM r k x m)) := by
  obtain ⟨v, L, h1, rfl, h3⟩ := h
  have hl : (L.map Prod.snd).length = L.length := List.length_map _
  rw [hl] at hm
  cases e : findI k (L.map Prod.snd) with
  | some i =>
    have e1 : fullB r k (L.map Prod.snd) = false := by simp [fullB, e]
    have e2 : goneK r k (L.map Prod.snd) = 0 := by simp [goneK, e1]
    have e3 : putM r k x (L.map Prod.snd) = leadL i (k, x) (L.map Prod.snd) := by simp [putM, placeI, e]
    rw [e1, e2, e3]
    exact put_in1 k x p r L v S w h1 h3 hm i e
  | none =>
    by_cases hf : (L.length : Int) = r
    · obtain ⟨i, hi⟩ : ∃ i, L.length = i + 1 := ⟨L.length - 1, by omega⟩
      obtain ⟨y, hy⟩ : ∃ y, L[i]? = some y := ⟨_, List.getElem?_eq_getElem (by omega)⟩
      have e1 : fullB r k (L.map Prod.snd) = true := by simp [fullB, e, hf]
      have e2 : goneK r k (L.map Prod.snd) = y.2.1 := by
        unfold goneK
        rw [if_pos e1, hl, hi, Nat.add_sub_cancel, atI_of (by rw [List.getElem?_map, hy]; rfl)]
      have e3 : putM r k x (L.map Prod.snd) = leadL i (k, x) (L.map Prod.snd) := by
        unfold putM placeI
        rw [e]
        dsimp only
        rw [hl, if_pos hf, hi, Nat.add_sub_cancel]
      rw [e1, e2, e3]
      exact put_full1 k x p r L v S w h1 h3 hm e y i hi hf hy
    · have e1 : fullB r k (L.map Prod.snd) = false := by simp [fullB, e, hf]
      have e2 : goneK r k (L.map Prod.snd) = 0 := by simp [goneK, e1]
      have e3 : putM r k x (L.map Prod.snd) = (k, x) :: L.map Prod.snd := by
        unfold putM placeI leadL
        rw [e]
        dsimp only
        rw [hl, if_neg hf]
        rw [List.eraseIdx_of_length_le (by rw [hl]; exact Nat.le_refl _)]
      rw [e1, e2, e3]
      exact put_more1 k x p r L v S w h1 h3 hm e hf
end Go.Proofs.Ytbmpgafndpdnbaa
