/- Cache: Clone. -/
import Derived.Test.YtbmpgafndpdnbaaEl
namespace Go.Proofs.Ytbmpgafndpdnbaa
open Go.RowKit Go.Maps

theorem make_ptr1 (n : Nat) (hn : n ≤ 1048576) (w : World) : (Instr.makeSlice 70 (.int .i64 (n : Int)) (.int .i64 (n : Int))).run Try.prog w = .ok (.slice (some ⟨w.heap.size, 0, none⟩) n n) (w.alloc (.cells (Array.replicate n (Value.pointer none)) 73)) := by
  have := run_make_row' (P := Try.prog) 70 73 (.pointer none) 8 Try.underlying70 Try.infoP1 rfl .i64 .i64 n (by omega) (by omega) w
  rw [made_eq] at this
  exact this
theorem made_ptr (w : World) (e : TypeId) (n : Nat) (hn : n ≤ 1048576) : (w.alloc (.cells (Array.replicate n (Value.pointer none)) e)).ownsRow w.heap.size e 1 (.slice (some ⟨w.heap.size, 0, none⟩) n n) n (List.replicate n (.pointer none)) := by
  have h := World.ownsRow_lit (base := w.heap.size) (e := e) (size := 1) w (Array.replicate n (Value.pointer none)) n (Nat.le_refl _) (by unfold maxLen; omega) (by simp)
  simpa using h
/-- A clone while it is made: the things of L are there. -/
structure ClI (c : CTy) (W : World) (N n : Nat) (r : Int) (L : List (Nat × IT)) : Prop where
  hp : W.heap[N + 1]? = some (.cells #[.int .i64 r, .slice (some ⟨N, 0, none⟩) n n] c.T (0, 0))
  row : W.ownsRow N c.pT 1 (.slice (some ⟨N, 0, none⟩) n n) n (L.map (fun y => ptrV y.1) ++ List.replicate (n - L.length) (.pointer none))
  th : ∀ y ∈ L, W.heap[y.1]? = some (.cells (c.cf y.2).toArray c.hT (0, 0))
  nd : (L.map Prod.fst).Nodup
  ge : ∀ y ∈ L, N + 2 ≤ y.1
  sz : N + 2 ≤ W.heap.size
theorem ClI.step {c : CTy} {W : World} {N n : Nat} {r : Int} {L : List (Nat × IT)} (h : ClI c W N n r L) (x : IT) (hl : L.length < n) :
    ClI c ((W.drew.alloc (.cells (c.cf x).toArray c.hT)).setCell ⟨N, L.length, none⟩ (ptrV W.heap.size)) N n r (L ++ [(W.heap.size, x)]) := by
  have hb := bl_al (bl_dr (bl0 W)) (.cells (c.cf x).toArray c.hT)
  have hlt : ∀ y ∈ L, y.1 < W.heap.size := fun y hy => (Array.getElem?_eq_some_iff.1 (h.th y hy)).1
  have hsz := h.sz
  have hst : ∀ (k : Nat) (o : Obj), k ≠ N → (W.drew.alloc (.cells (c.cf x).toArray c.hT)).heap[k]? = some o → ((W.drew.alloc (.cells (c.cf x).toArray c.hT)).setCell ⟨N, L.length, none⟩ (ptrV W.heap.size)).heap[k]? = some o := fun k o hk e => (Below.heap_setCell _ _ _ k hk).trans e
  refine ⟨?_, ?_, ?_, ?_, ?_, ?_⟩
  · exact hst _ _ (by omega) ((hb.block _ (by omega)).trans h.hp)
  · have h2 := ((own_later h.row hb).stored L.length (ptrV W.heap.size)).1
    have e : (L.map (fun y : Nat × IT => ptrV y.1) ++ List.replicate (n - L.length) (Value.pointer none)).set L.length (ptrV W.heap.size) = (L ++ [(W.heap.size, x)]).map (fun y : Nat × IT => ptrV y.1) ++ List.replicate (n - (L ++ [(W.heap.size, x)]).length) (Value.pointer none) := by
      rw [List.set_append_right _ _ (by rw [List.length_map]; exact Nat.le_refl _), List.length_map, Nat.sub_self, show n - L.length = (n - (L ++ [(W.heap.size, x)]).length) + 1 by rw [List.length_append, List.length_singleton]; omega, List.replicate_succ]
      simp
    rw [e] at h2
    exact h2
  · intro y hy
    rcases List.mem_append.1 hy with hy | hy
    · have := h.ge y hy
      exact hst _ _ (by omega) ((hb.block _ (hlt y hy)).trans (h.th y hy))
    · rw [List.mem_singleton] at hy
      subst hy
      exact hst _ _ (by simp only; omega) (heap_alloc_new W.drew _)
  · rw [List.map_append, List.map_singleton, List.nodup_append]
    refine ⟨h.nd, by simp, fun a ha b hb => ?_⟩
    rw [List.mem_singleton] at hb
    obtain ⟨y, hy, rfl⟩ := List.mem_map.1 ha
    have := hlt y hy
    rw [hb]
    omega
  · intro y hy
    rcases List.mem_append.1 hy with hy | hy
    · exact h.ge y hy
    · rw [List.mem_singleton] at hy
      subst hy
      exact hsz
  · simp; omega
theorem ClI.done {c : CTy} {w W : World} {n : Nat} {r : Int} {L : List (Nat × IT)} (h : ClI c W w.heap.size n r L) (hl : L.length = n) (hb : Below w.heap.size w W) : Turned (fun _ => False) w W (CO c (w.heap.size + 1) r (L.map Prod.snd)) := by
  subst hl
  refine ⟨.of_below hb, CB (w.heap.size + 1) (.slice (some ⟨w.heap.size, 0, none⟩) L.length L.length) L, ⟨_, L, ⟨h.hp, ?_, h.th, h.nd, fun y hy => by have := h.ge y hy; omega, ?_, ?_⟩, rfl, fun _ => Iff.rfl⟩, ?_⟩
  · have := h.row
    rw [Nat.sub_self, List.replicate_zero, List.append_nil] at this
    exact hown_base this (Nat.zero_le _)
  · intro e
    simp only [Value.ownBlock, Option.some.injEq] at e
    omega
  · intro y hy e
    simp only [Value.ownBlock, Option.some.injEq] at e
    have := h.ge y hy
    omega
  · rintro k (rfl | e | ⟨y, hy, rfl⟩)
    · exact .inr (by omega)
    · simp only [Value.ownBlock, Option.some.injEq] at e
      exact .inr (by omega)
    · have := h.ge y hy
      exact .inr (by omega)
set_option maxRecDepth 100000 in
set_option maxHeartbeats 4000000 in
theorem clone_c1 (p : Nat) (r : Int) (m : List IT) (S : Nat → Prop) (w : World) (h : (CO Try.c1 p r m).P w S) (hm : m.length ≤ 1000) :
    Calls Try.prog 35 #[.pointer (some ⟨p, 0, none⟩)] w fun e w' => e = .returned (.pointer (some ⟨w.heap.size + 1, 0, none⟩)) ∧ Turned (fun _ => False) w w' (CO Try.c1 (w.heap.size + 1) r m) := by
  obtain ⟨v, L, h1, rfl, _⟩ := h
  rw [List.length_map] at hm
  obtain ⟨a, cap, rfl, hcap, _⟩ := h1.any
  have hmk := fun w => make_ptr1 L.length (by omega) w
  have hD := bl_dr (bl0 w)
  have h1d := h1.below hD
  have c0 := h1d.c0
  have c1 := h1d.c1
  have HC := Lib.hid h1
  have hD2 := bl_al hD (.cells (Array.replicate L.length (Value.pointer none)) 73)
  have hSd : ∀ W', Below w.heap.size w W' → W'.cell? ⟨p, 0, none⟩ = some (.int .i64 r) ∧ W'.cell? ⟨p, 1, none⟩ = some (.slice a L.length cap) := fun W' hb => ⟨cell_later hb h1.c0, cell_later hb h1.c1⟩
  have HS := Lib.hid hSd
  clear h1 hSd
  go_enter Try.func35, Try.ntmps35
  go_upto_region 3 with fail
  refine (wpIn_wide (n := 11)).1 ?_
  refine ordS_begin (S := (fun w' : World => w'.cell? ⟨p, 0, none⟩ = some (.int .i64 r) ∧ w'.cell? ⟨p, 1, none⟩ = some (.slice a L.length cap))) (by kernel_rfl) ⟨c0, c1⟩ (fun hH => ?_)
  refine' ordS_take (i := 0) (oi := { dst := some 8, op := Op.move (Operand.tmp 0), type := 23, pos := _, after := #[], guard := none }) (v := _) rfl (by kernel_rfl) (by kernel_rfl) (by kernel_rfl) (by kernel_rfl) (fun _ _ _ h => h) (by assumption) (Or.inl ⟨by rfl, ?hy1⟩) (fun _ => rfl) ?rest1
  case hy1 => (intro w hSw; (try dsimp only at hSw); go_simp; try with_reducible rfl)
  try simp only [Act.put, List.setIfInBounds_toArray, List.set_cons_zero, List.set_cons_succ]
  refine' ordS_take (i := 1) (oi := { dst := some 9, op := Op.nilCheck (Operand.tmp 8), type := 0, pos := _, after := #[{ on := 0, ground := Ground.data }], guard := none }) (v := _) rfl (by kernel_rfl) (by kernel_rfl) (by kernel_rfl) (by kernel_rfl) (fun _ _ _ h => h) (by assumption) (Or.inl ⟨by rfl, ?hy2⟩) (fun _ => rfl) ?rest2
  case hy2 => (intro w hSw; (try dsimp only at hSw); go_simp; try with_reducible rfl)
  try simp only [Act.put, List.setIfInBounds_toArray, List.set_cons_zero, List.set_cons_succ]
  refine' ordS_take (i := 2) (oi := { dst := some 10, op := Op.fieldAddr 72 (Operand.tmp 9) 0, type := 0, pos := _, after := #[{ on := 1, ground := Ground.data }], guard := none }) (v := _) rfl (by kernel_rfl) (by kernel_rfl) (by kernel_rfl) (by kernel_rfl) (fun _ _ _ h => h) (by assumption) (Or.inl ⟨by rfl, ?hy3⟩) (fun _ => rfl) ?rest3
  case hy3 => (intro w hSw; (try dsimp only at hSw); go_simp; try with_reducible rfl)
  try simp only [Act.put, List.setIfInBounds_toArray, List.set_cons_zero, List.set_cons_succ]
  refine' ordS_take (i := 3) (oi := { dst := some 11, op := Op.load 3 (Operand.tmp 10), type := 3, pos := _, after := #[{ on := 2, ground := Ground.data }], guard := none }) (v := _) rfl (by kernel_rfl) (by kernel_rfl) (by kernel_rfl) (by kernel_rfl) (fun _ _ _ h => h) (by assumption) (Or.inl ⟨by rfl, ?hy4⟩) (fun _ => rfl) ?rest4
  case hy4 => (intro w hSw; (try dsimp only at hSw); go_simp; try with_reducible rfl)
  try simp only [Act.put, List.setIfInBounds_toArray, List.set_cons_zero, List.set_cons_succ]
  refine' ordS_take (i := 4) (oi := { dst := some 12, op := Op.move (Operand.tmp 0), type := 23, pos := _, after := #[], guard := none }) (v := _) rfl (by kernel_rfl) (by kernel_rfl) (by kernel_rfl) (by kernel_rfl) (fun _ _ _ h => h) (by assumption) (Or.inl ⟨by rfl, ?hy5⟩) (fun _ => rfl) ?rest5
  case hy5 => (intro w hSw; (try dsimp only at hSw); go_simp; try with_reducible rfl)
  try simp only [Act.put, List.setIfInBounds_toArray, List.set_cons_zero, List.set_cons_succ]
  refine' ordS_take (i := 5) (oi := { dst := some 13, op := Op.nilCheck (Operand.tmp 12), type := 0, pos := _, after := #[{ on := 4, ground := Ground.data }], guard := none }) (v := _) rfl (by kernel_rfl) (by kernel_rfl) (by kernel_rfl) (by kernel_rfl) (fun _ _ _ h => h) (by assumption) (Or.inl ⟨by rfl, ?hy6⟩) (fun _ => rfl) ?rest6
  case hy6 => (intro w hSw; (try dsimp only at hSw); go_simp; try with_reducible rfl)
  try simp only [Act.put, List.setIfInBounds_toArray, List.set_cons_zero, List.set_cons_succ]
  refine' ordS_take (i := 6) (oi := { dst := some 14, op := Op.fieldAddr 72 (Operand.tmp 13) 1, type := 0, pos := _, after := #[{ on := 5, ground := Ground.data }], guard := none }) (v := _) rfl (by kernel_rfl) (by kernel_rfl) (by kernel_rfl) (by kernel_rfl) (fun _ _ _ h => h) (by assumption) (Or.inl ⟨by rfl, ?hy7⟩) (fun _ => rfl) ?rest7
  case hy7 => (intro w hSw; (try dsimp only at hSw); go_simp; try with_reducible rfl)
  try simp only [Act.put, List.setIfInBounds_toArray, List.set_cons_zero, List.set_cons_succ]
  refine' ordS_take (i := 7) (oi := { dst := some 15, op := Op.load 70 (Operand.tmp 14), type := 70, pos := _, after := #[{ on := 6, ground := Ground.data }], guard := none }) (v := _) rfl (by kernel_rfl) (by kernel_rfl) (by kernel_rfl) (by kernel_rfl) (fun _ _ _ h => h) (by assumption) (Or.inl ⟨by rfl, ?hy8⟩) (fun _ => rfl) ?rest8
  case hy8 => (intro w hSw; (try dsimp only at hSw); go_simp; try with_reducible rfl)
  try simp only [Act.put, List.setIfInBounds_toArray, List.set_cons_zero, List.set_cons_succ]
  refine' ordS_take (i := 8) (oi := { dst := some 16, op := Op.call { callee := Callee.builtin Builtin.len, args := #[Operand.tmp 15], argTypes := #[70] }, type := 3, pos := _, after := #[{ on := 7, ground := Ground.data }], guard := none }) (v := _) rfl (by kernel_rfl) (by kernel_rfl) (by kernel_rfl) (by kernel_rfl) (fun _ _ _ h => h) (by assumption) (Or.inl ⟨by rfl, ?hy9⟩) (fun _ => rfl) ?rest9
  case hy9 => (intro w hSw; (try dsimp only at hSw); go_simp; try with_reducible rfl)
  try simp only [Act.put, List.setIfInBounds_toArray, List.set_cons_zero, List.set_cons_succ]
  refine ordS_one (i := 9) (o := { dst := some 17, op := Op.makeSlice 70 (Operand.tmp 16) (Operand.tmp 16), type := 70, pos := _, after := #[{ on := 8, ground := Ground.data }, { on := 8, ground := Ground.data }], guard := none }) (by kernel_rfl) rfl (by rfl) (fun K hK => ?_)
  go_simp
  refine hK _ _ (HS.out _ hD2) ?_
  clear hK K hH hmk
  try simp only [Act.put, List.setIfInBounds_toArray, List.set_cons_zero, List.set_cons_succ]
  have hH := HS.out _ hD2
  refine' ordS_take (i := 10) (oi := { dst := some 18, op := Op.build 72 #[(0, Operand.tmp 11), (1, Operand.tmp 17)], type := 72, pos := _, after := #[{ on := 3, ground := Ground.data }, { on := 9, ground := Ground.data }], guard := none }) (v := _) rfl (by kernel_rfl) (by kernel_rfl) (by kernel_rfl) (by kernel_rfl) (fun _ _ _ h => h) (by assumption) (Or.inl ⟨by rfl, ?hy10⟩) (fun _ => rfl) ?rest10
  case hy10 => (intro w hSw; (try dsimp only at hSw); go_simp; try with_reducible rfl)
  try simp only [Act.put, List.setIfInBounds_toArray, List.set_cons_zero, List.set_cons_succ]
  refine ordS_one (i := 11) (o := { dst := some 19, op := Op.box 72 (Operand.tmp 18), type := 23, pos := _, after := #[{ on := 10, ground := Ground.data }], guard := none }) (by kernel_rfl) rfl (by rfl) (fun K hK => ?_)
  go_simp
  have hD3 := bl_al hD2 (.cells #[.int .i64 r, .slice (some ⟨w.heap.size, 0, none⟩) L.length L.length] 72)
  refine hK _ _ (HS.out _ hD3) ?_
  clear hK K hH
  try simp only [Act.put, List.setIfInBounds_toArray, List.set_cons_zero, List.set_cons_succ]
  have hH := HS.out _ hD3
  refine' ordS_take (i := 12) (oi := { dst := some 3, op := Op.assign (Operand.tmp 19), type := 23, pos := _, after := #[{ on := 11, ground := Ground.data }, { on := 0, ground := Ground.phase }, { on := 1, ground := Ground.phase }, { on := 2, ground := Ground.phase }, { on := 3, ground := Ground.phase }, { on := 4, ground := Ground.phase }, { on := 5, ground := Ground.phase }, { on := 6, ground := Ground.phase }, { on := 7, ground := Ground.phase }, { on := 8, ground := Ground.phase }, { on := 9, ground := Ground.phase }, { on := 10, ground := Ground.phase }, { on := 11, ground := Ground.phase }], guard := none }) (v := _) rfl (by kernel_rfl) (by kernel_rfl) (by kernel_rfl) (by kernel_rfl) (fun _ _ _ h => h) (by assumption) (Or.inl ⟨by rfl, ?hy11⟩) (fun _ => rfl) ?rest11
  case hy11 => (intro w hSw; (try dsimp only at hSw); go_simp; try with_reducible rfl)
  try simp only [Act.put, List.setIfInBounds_toArray, List.set_cons_zero, List.set_cons_succ]
  refine ordS_done (by kernel_rfl) ?_
  clear hH c0 c1 h1d
  obtain ⟨W1, hW0⟩ : ∃ W1, ((w.alloc (.cells (Array.replicate L.length (Value.pointer none)) 73)).alloc (.cells #[.int .i64 r, .slice (some ⟨w.heap.size, 0, none⟩) L.length L.length] 72)).drew = W1 := ⟨_, rfl⟩
  have hW1 : (w.drew.alloc (.cells (Array.replicate L.length (Value.pointer none)) 73)).alloc (.cells #[.int .i64 r, .slice (some ⟨w.heap.size, 0, none⟩) L.length L.length] 72) = W1 := hW0
  have HI0 : Hid (ClI Try.c1 W1 w.heap.size L.length r []) := Lib.hid (by
    have hq := heap_alloc_new (w.drew.alloc (.cells (Array.replicate L.length (Value.pointer none)) 73)) (.cells #[.int .i64 r, .slice (some ⟨w.heap.size, 0, none⟩) L.length L.length] 72)
    rw [World.size_alloc] at hq
    rw [← hW1]
    refine ⟨hq, ?_, (fun y h => by cases h), List.nodup_nil, (fun y h => by cases h), by simp⟩
    have := made_ptr w.drew 73 L.length (by omega)
    exact own_later this (bl_al (bl0 _) _))
  have HB1 : Hid (Below w.heap.size w W1) := Lib.hid (by rw [← hW1]; exact hD3)
  rw [hW0]
  clear hW1 hW0 hD hD2 hD3
  have c1 := (HS.out _ HB1.out).2
  have zc := blk_lt c1
  go_wp2_with fail
  go_loopw [4, 5, 25] (fun _ _ i wr => ∃ (k : Nat) (L2 : List (Nat × IT)), k ≤ L.length ∧ i = .int .i64 k ∧ L2.length = k ∧ Hid (ClI Try.c1 wr w.heap.size L.length r L2) ∧ Hid (L2.map Prod.snd = (L.map Prod.snd).take k) ∧ Hid (Below w.heap.size w wr)) (fun _ _ i _ => L.length - (intOf i).toNat)
  case atStart => exact ⟨0, [], Nat.zero_le _, rfl, rfl, HI0, Lib.hid (by simp), HB1⟩
  case round =>
    obtain ⟨k, L2, hk, rfl, hk2, HI, HM, HB⟩ := hrel
    have hk0 : (0 : Int) ≤ (k : Int) := by omega
    by_cases hlt : k < L.length
    · have hlt2 : (k : Int) < (L.length : Int) := by omega
      obtain ⟨y, hy⟩ : ∃ y, L[k]? = some y := ⟨_, List.getElem?_eq_getElem hlt⟩
      have h2 := HC.out.below HB.out
      obtain ⟨g, cap2, hs, _⟩ := HC.out.slice (by omega)
      obtain ⟨rfl, rfl⟩ : a = some ⟨g, 0, none⟩ ∧ cap = cap2 := by injection hs with q1 q2 q3; exact ⟨q1, q3⟩
      have d0 := h2.ptr rfl hy
      have zd := blk_lt d0
      have hym := List.mem_of_getElem? hy
      have e0 := h2.cell hym (j := 0) rfl
      have e1 := h2.cell hym (j := 1) rfl
      have q1 : wr.cell? ⟨w.heap.size + 1, 1, none⟩ = some (.slice (some ⟨w.heap.size, 0, none⟩) L.length L.length) := by simp [World.cell?, HI.out.hp]
      have hr0 : wr.cell? ⟨w.heap.size, k, none⟩ = some (.pointer none) := by
        have := HI.out.row.cells (g := w.heap.size) rfl k (.pointer none) (by rw [List.getElem?_append_right (by rw [List.length_map]; omega), List.length_map, hk2, Nat.sub_self, List.getElem?_replicate, if_pos (by omega)])
        rwa [hadd] at this
      have hfr := HI.out.row.frozenAt k
      have hbd := bl_dr (bl0 wr)
      have HN := Lib.hid (HI.out.step y.2 (by omega))
      have HM2 : Hid ((L2 ++ [(wr.heap.size, y.2)]).map Prod.snd = (L.map Prod.snd).take (k + 1)) := Lib.hid (by
        rw [List.map_append, HM.out, List.map_singleton, List.take_succ_eq_append_getElem (by rw [List.length_map]; exact hlt), List.getElem_map, (List.getElem?_eq_some_iff.1 hy).2])
      have HZY := Lib.hid (blk_lt e0)
      have hb3 := bl_al hbd (.cells #[.int .i64 y.2.1, .int .i64 y.2.2] 76)
      have HBN := Lib.hid (bl_st (bl_tr HB.out hb3) (Nat.le_refl _) (o := k) (ptrV wr.heap.size))
      have hweq : (wr.drew.alloc (.cells #[.int .i64 y.2.1, .int .i64 y.2.2] 76)).setCell ⟨w.heap.size, k, none⟩ (.pointer (some ⟨wr.heap.size, 0, none⟩)) = ((wr.setCell ⟨w.heap.size, k, none⟩ (.pointer (some ⟨wr.heap.size, 0, none⟩))).alloc (.cells #[.int .i64 y.2.1, .int .i64 y.2.2] 76)).drew := by
        have := blk_lt hr0
        simp [go_sem, this]
      have HWE := Lib.hid hweq
      have HRR := Lib.hid (And.intro hr0 hfr)
      have hSd : ∀ W', Below wr.heap.size wr W' → W'.cell? ⟨w.heap.size + 1, 1, none⟩ = some (.slice (some ⟨w.heap.size, 0, none⟩) L.length L.length) ∧ W'.cell? ⟨y.1, 0, none⟩ = some (.int .i64 y.2.1) ∧ W'.cell? ⟨y.1, 1, none⟩ = some (.int .i64 y.2.2) := fun W' hb => ⟨cell_later hb q1, cell_later hb e0, cell_later hb e1⟩
      have HSD := Lib.hid hSd
      rw [hk2] at HN
      clear HI h2 hy hs hym hr0 hfr HM hSd e0 e1 q1 hweq
      go_upto_region 7 with fail
      refine (wpIn_wide (n := 11)).1 ?_
      refine ordZ_begin (z := 16) (S := (fun w' : World => w'.cell? ⟨w.heap.size + 1, 1, none⟩ = some (.slice (some ⟨w.heap.size, 0, none⟩) L.length L.length) ∧ w'.cell? ⟨y.1, 0, none⟩ = some (.int .i64 y.2.1) ∧ w'.cell? ⟨y.1, 1, none⟩ = some (.int .i64 y.2.2))) (by kernel_rfl) (HSD.out _ hbd) (fun hH => ?_)
      first
        | (refine' ordZ_take (i := 0) (oi := { dst := some 30, op := Op.move (Operand.tmp 3), type := 23, pos := _, after := #[], guard := none }) (v := _) rfl (by kernel_rfl) (by kernel_rfl) (by kernel_rfl) (by kernel_rfl) (fun _ _ _ h => h) (by assumption) (by kernel_rfl) (by decide) (by rfl) (Or.inl ⟨by rfl, ?hy12⟩) (fun _ => rfl) ?rest12
           case hy12 => (intro w hSw; (try dsimp only at hSw); go_simp; try with_reducible rfl))
        | (refine ordZ_take (i := 0) (oi := { dst := some 30, op := Op.move (Operand.tmp 3), type := 23, pos := _, after := #[], guard := none }) (v := undef) rfl (by kernel_rfl) (by kernel_rfl) (by kernel_rfl) (by kernel_rfl) (fun _ _ _ h => h) (by assumption) (by kernel_rfl) (by decide) (by rfl) (Or.inr ⟨by rfl, rfl⟩) (fun _ => rfl) ?_)
      try simp only [Act.put, List.setIfInBounds_toArray, List.set_cons_zero, List.set_cons_succ]
      first
        | (refine' ordZ_take (i := 1) (oi := { dst := some 31, op := Op.nilCheck (Operand.tmp 30), type := 0, pos := _, after := #[{ on := 0, ground := Ground.data }], guard := none }) (v := _) rfl (by kernel_rfl) (by kernel_rfl) (by kernel_rfl) (by kernel_rfl) (fun _ _ _ h => h) (by assumption) (by kernel_rfl) (by decide) (by rfl) (Or.inl ⟨by rfl, ?hy13⟩) (fun _ => rfl) ?rest13
           case hy13 => (intro w hSw; (try dsimp only at hSw); go_simp; try with_reducible rfl))
        | (refine ordZ_take (i := 1) (oi := { dst := some 31, op := Op.nilCheck (Operand.tmp 30), type := 0, pos := _, after := #[{ on := 0, ground := Ground.data }], guard := none }) (v := undef) rfl (by kernel_rfl) (by kernel_rfl) (by kernel_rfl) (by kernel_rfl) (fun _ _ _ h => h) (by assumption) (by kernel_rfl) (by decide) (by rfl) (Or.inr ⟨by rfl, rfl⟩) (fun _ => rfl) ?_)
      try simp only [Act.put, List.setIfInBounds_toArray, List.set_cons_zero, List.set_cons_succ]
      first
        | (refine' ordZ_take (i := 2) (oi := { dst := some 32, op := Op.fieldAddr 72 (Operand.tmp 31) 1, type := 0, pos := _, after := #[{ on := 1, ground := Ground.data }], guard := none }) (v := _) rfl (by kernel_rfl) (by kernel_rfl) (by kernel_rfl) (by kernel_rfl) (fun _ _ _ h => h) (by assumption) (by kernel_rfl) (by decide) (by rfl) (Or.inl ⟨by rfl, ?hy14⟩) (fun _ => rfl) ?rest14
           case hy14 => (intro w hSw; (try dsimp only at hSw); go_simp; try with_reducible rfl))
        | (refine ordZ_take (i := 2) (oi := { dst := some 32, op := Op.fieldAddr 72 (Operand.tmp 31) 1, type := 0, pos := _, after := #[{ on := 1, ground := Ground.data }], guard := none }) (v := undef) rfl (by kernel_rfl) (by kernel_rfl) (by kernel_rfl) (by kernel_rfl) (fun _ _ _ h => h) (by assumption) (by kernel_rfl) (by decide) (by rfl) (Or.inr ⟨by rfl, rfl⟩) (fun _ => rfl) ?_)
      try simp only [Act.put, List.setIfInBounds_toArray, List.set_cons_zero, List.set_cons_succ]
      first
        | (refine' ordZ_take (i := 3) (oi := { dst := some 33, op := Op.load 70 (Operand.tmp 32), type := 70, pos := _, after := #[{ on := 2, ground := Ground.data }], guard := none }) (v := _) rfl (by kernel_rfl) (by kernel_rfl) (by kernel_rfl) (by kernel_rfl) (fun _ _ _ h => h) (by assumption) (by kernel_rfl) (by decide) (by rfl) (Or.inl ⟨by rfl, ?hy15⟩) (fun _ => rfl) ?rest15
           case hy15 => (intro w hSw; (try dsimp only at hSw); go_simp; try with_reducible rfl))
        | (refine ordZ_take (i := 3) (oi := { dst := some 33, op := Op.load 70 (Operand.tmp 32), type := 70, pos := _, after := #[{ on := 2, ground := Ground.data }], guard := none }) (v := undef) rfl (by kernel_rfl) (by kernel_rfl) (by kernel_rfl) (by kernel_rfl) (fun _ _ _ h => h) (by assumption) (by kernel_rfl) (by decide) (by rfl) (Or.inr ⟨by rfl, rfl⟩) (fun _ => rfl) ?_)
      try simp only [Act.put, List.setIfInBounds_toArray, List.set_cons_zero, List.set_cons_succ]
      first
        | (refine' ordZ_take (i := 4) (oi := { dst := some 34, op := Op.move (Operand.tmp 4), type := 3, pos := _, after := #[], guard := none }) (v := _) rfl (by kernel_rfl) (by kernel_rfl) (by kernel_rfl) (by kernel_rfl) (fun _ _ _ h => h) (by assumption) (by kernel_rfl) (by decide) (by rfl) (Or.inl ⟨by rfl, ?hy16⟩) (fun _ => rfl) ?rest16
           case hy16 => (intro w hSw; (try dsimp only at hSw); go_simp; try with_reducible rfl))
        | (refine ordZ_take (i := 4) (oi := { dst := some 34, op := Op.move (Operand.tmp 4), type := 3, pos := _, after := #[], guard := none }) (v := undef) rfl (by kernel_rfl) (by kernel_rfl) (by kernel_rfl) (by kernel_rfl) (fun _ _ _ h => h) (by assumption) (by kernel_rfl) (by decide) (by rfl) (Or.inr ⟨by rfl, rfl⟩) (fun _ => rfl) ?_)
      try simp only [Act.put, List.setIfInBounds_toArray, List.set_cons_zero, List.set_cons_succ]
      first
        | (refine' ordZ_take (i := 5) (oi := { dst := some 35, op := Op.move (Operand.tmp 5), type := 73, pos := _, after := #[], guard := none }) (v := _) rfl (by kernel_rfl) (by kernel_rfl) (by kernel_rfl) (by kernel_rfl) (fun _ _ _ h => h) (by assumption) (by kernel_rfl) (by decide) (by rfl) (Or.inl ⟨by rfl, ?hy17⟩) (fun _ => rfl) ?rest17
           case hy17 => (intro w hSw; (try dsimp only at hSw); go_simp; try with_reducible rfl))
        | (refine ordZ_take (i := 5) (oi := { dst := some 35, op := Op.move (Operand.tmp 5), type := 73, pos := _, after := #[], guard := none }) (v := undef) rfl (by kernel_rfl) (by kernel_rfl) (by kernel_rfl) (by kernel_rfl) (fun _ _ _ h => h) (by assumption) (by kernel_rfl) (by decide) (by rfl) (Or.inr ⟨by rfl, rfl⟩) (fun _ => rfl) ?_)
      try simp only [Act.put, List.setIfInBounds_toArray, List.set_cons_zero, List.set_cons_succ]
      first
        | (refine' ordZ_take (i := 6) (oi := { dst := some 36, op := Op.nilCheck (Operand.tmp 35), type := 0, pos := _, after := #[{ on := 5, ground := Ground.data }], guard := none }) (v := _) rfl (by kernel_rfl) (by kernel_rfl) (by kernel_rfl) (by kernel_rfl) (fun _ _ _ h => h) (by assumption) (by kernel_rfl) (by decide) (by rfl) (Or.inl ⟨by rfl, ?hy18⟩) (fun _ => rfl) ?rest18
           case hy18 => (intro w hSw; (try dsimp only at hSw); go_simp; try with_reducible rfl))
        | (refine ordZ_take (i := 6) (oi := { dst := some 36, op := Op.nilCheck (Operand.tmp 35), type := 0, pos := _, after := #[{ on := 5, ground := Ground.data }], guard := none }) (v := undef) rfl (by kernel_rfl) (by kernel_rfl) (by kernel_rfl) (by kernel_rfl) (fun _ _ _ h => h) (by assumption) (by kernel_rfl) (by decide) (by rfl) (Or.inr ⟨by rfl, rfl⟩) (fun _ => rfl) ?_)
      try simp only [Act.put, List.setIfInBounds_toArray, List.set_cons_zero, List.set_cons_succ]
      first
        | (refine' ordZ_take (i := 7) (oi := { dst := some 37, op := Op.fieldAddr 76 (Operand.tmp 36) 0, type := 0, pos := _, after := #[{ on := 6, ground := Ground.data }], guard := none }) (v := _) rfl (by kernel_rfl) (by kernel_rfl) (by kernel_rfl) (by kernel_rfl) (fun _ _ _ h => h) (by assumption) (by kernel_rfl) (by decide) (by rfl) (Or.inl ⟨by rfl, ?hy19⟩) (fun _ => rfl) ?rest19
           case hy19 => (intro w hSw; (try dsimp only at hSw); go_simp; try with_reducible rfl))
        | (refine ordZ_take (i := 7) (oi := { dst := some 37, op := Op.fieldAddr 76 (Operand.tmp 36) 0, type := 0, pos := _, after := #[{ on := 6, ground := Ground.data }], guard := none }) (v := undef) rfl (by kernel_rfl) (by kernel_rfl) (by kernel_rfl) (by kernel_rfl) (fun _ _ _ h => h) (by assumption) (by kernel_rfl) (by decide) (by rfl) (Or.inr ⟨by rfl, rfl⟩) (fun _ => rfl) ?_)
      try simp only [Act.put, List.setIfInBounds_toArray, List.set_cons_zero, List.set_cons_succ]
      first
        | (refine' ordZ_take (i := 8) (oi := { dst := some 38, op := Op.load 3 (Operand.tmp 37), type := 3, pos := _, after := #[{ on := 7, ground := Ground.data }], guard := none }) (v := _) rfl (by kernel_rfl) (by kernel_rfl) (by kernel_rfl) (by kernel_rfl) (fun _ _ _ h => h) (by assumption) (by kernel_rfl) (by decide) (by rfl) (Or.inl ⟨by rfl, ?hy20⟩) (fun _ => rfl) ?rest20
           case hy20 => (intro w hSw; (try dsimp only at hSw); go_simp; try with_reducible rfl))
        | (refine ordZ_take (i := 8) (oi := { dst := some 38, op := Op.load 3 (Operand.tmp 37), type := 3, pos := _, after := #[{ on := 7, ground := Ground.data }], guard := none }) (v := undef) rfl (by kernel_rfl) (by kernel_rfl) (by kernel_rfl) (by kernel_rfl) (fun _ _ _ h => h) (by assumption) (by kernel_rfl) (by decide) (by rfl) (Or.inr ⟨by rfl, rfl⟩) (fun _ => rfl) ?_)
      try simp only [Act.put, List.setIfInBounds_toArray, List.set_cons_zero, List.set_cons_succ]
      first
        | (refine' ordZ_take (i := 9) (oi := { dst := some 39, op := Op.move (Operand.tmp 5), type := 73, pos := _, after := #[], guard := none }) (v := _) rfl (by kernel_rfl) (by kernel_rfl) (by kernel_rfl) (by kernel_rfl) (fun _ _ _ h => h) (by assumption) (by kernel_rfl) (by decide) (by rfl) (Or.inl ⟨by rfl, ?hy21⟩) (fun _ => rfl) ?rest21
           case hy21 => (intro w hSw; (try dsimp only at hSw); go_simp; try with_reducible rfl))
        | (refine ordZ_take (i := 9) (oi := { dst := some 39, op := Op.move (Operand.tmp 5), type := 73, pos := _, after := #[], guard := none }) (v := undef) rfl (by kernel_rfl) (by kernel_rfl) (by kernel_rfl) (by kernel_rfl) (fun _ _ _ h => h) (by assumption) (by kernel_rfl) (by decide) (by rfl) (Or.inr ⟨by rfl, rfl⟩) (fun _ => rfl) ?_)
      try simp only [Act.put, List.setIfInBounds_toArray, List.set_cons_zero, List.set_cons_succ]
      first
        | (refine' ordZ_take (i := 10) (oi := { dst := some 40, op := Op.nilCheck (Operand.tmp 39), type := 0, pos := _, after := #[{ on := 9, ground := Ground.data }], guard := none }) (v := _) rfl (by kernel_rfl) (by kernel_rfl) (by kernel_rfl) (by kernel_rfl) (fun _ _ _ h => h) (by assumption) (by kernel_rfl) (by decide) (by rfl) (Or.inl ⟨by rfl, ?hy22⟩) (fun _ => rfl) ?rest22
           case hy22 => (intro w hSw; (try dsimp only at hSw); go_simp; try with_reducible rfl))
        | (refine ordZ_take (i := 10) (oi := { dst := some 40, op := Op.nilCheck (Operand.tmp 39), type := 0, pos := _, after := #[{ on := 9, ground := Ground.data }], guard := none }) (v := undef) rfl (by kernel_rfl) (by kernel_rfl) (by kernel_rfl) (by kernel_rfl) (fun _ _ _ h => h) (by assumption) (by kernel_rfl) (by decide) (by rfl) (Or.inr ⟨by rfl, rfl⟩) (fun _ => rfl) ?_)
      try simp only [Act.put, List.setIfInBounds_toArray, List.set_cons_zero, List.set_cons_succ]
      first
        | (refine' ordZ_take (i := 11) (oi := { dst := some 41, op := Op.fieldAddr 76 (Operand.tmp 40) 1, type := 0, pos := _, after := #[{ on := 10, ground := Ground.data }], guard := none }) (v := _) rfl (by kernel_rfl) (by kernel_rfl) (by kernel_rfl) (by kernel_rfl) (fun _ _ _ h => h) (by assumption) (by kernel_rfl) (by decide) (by rfl) (Or.inl ⟨by rfl, ?hy23⟩) (fun _ => rfl) ?rest23
           case hy23 => (intro w hSw; (try dsimp only at hSw); go_simp; try with_reducible rfl))
        | (refine ordZ_take (i := 11) (oi := { dst := some 41, op := Op.fieldAddr 76 (Operand.tmp 40) 1, type := 0, pos := _, after := #[{ on := 10, ground := Ground.data }], guard := none }) (v := undef) rfl (by kernel_rfl) (by kernel_rfl) (by kernel_rfl) (by kernel_rfl) (fun _ _ _ h => h) (by assumption) (by kernel_rfl) (by decide) (by rfl) (Or.inr ⟨by rfl, rfl⟩) (fun _ => rfl) ?_)
      try simp only [Act.put, List.setIfInBounds_toArray, List.set_cons_zero, List.set_cons_succ]
      first
        | (refine' ordZ_take (i := 12) (oi := { dst := some 42, op := Op.load 3 (Operand.tmp 41), type := 3, pos := _, after := #[{ on := 11, ground := Ground.data }], guard := none }) (v := _) rfl (by kernel_rfl) (by kernel_rfl) (by kernel_rfl) (by kernel_rfl) (fun _ _ _ h => h) (by assumption) (by kernel_rfl) (by decide) (by rfl) (Or.inl ⟨by rfl, ?hy24⟩) (fun _ => rfl) ?rest24
           case hy24 => (intro w hSw; (try dsimp only at hSw); go_simp; try with_reducible rfl))
        | (refine ordZ_take (i := 12) (oi := { dst := some 42, op := Op.load 3 (Operand.tmp 41), type := 3, pos := _, after := #[{ on := 11, ground := Ground.data }], guard := none }) (v := undef) rfl (by kernel_rfl) (by kernel_rfl) (by kernel_rfl) (by kernel_rfl) (fun _ _ _ h => h) (by assumption) (by kernel_rfl) (by decide) (by rfl) (Or.inr ⟨by rfl, rfl⟩) (fun _ => rfl) ?_)
      try simp only [Act.put, List.setIfInBounds_toArray, List.set_cons_zero, List.set_cons_succ]
      first
        | (refine' ordZ_take (i := 13) (oi := { dst := some 43, op := Op.build 76 #[(0, Operand.tmp 38), (1, Operand.tmp 42)], type := 76, pos := _, after := #[{ on := 8, ground := Ground.data }, { on := 12, ground := Ground.data }], guard := none }) (v := _) rfl (by kernel_rfl) (by kernel_rfl) (by kernel_rfl) (by kernel_rfl) (fun _ _ _ h => h) (by assumption) (by kernel_rfl) (by decide) (by rfl) (Or.inl ⟨by rfl, ?hy25⟩) (fun _ => rfl) ?rest25
           case hy25 => (intro w hSw; (try dsimp only at hSw); go_simp; try with_reducible rfl))
        | (refine ordZ_take (i := 13) (oi := { dst := some 43, op := Op.build 76 #[(0, Operand.tmp 38), (1, Operand.tmp 42)], type := 76, pos := _, after := #[{ on := 8, ground := Ground.data }, { on := 12, ground := Ground.data }], guard := none }) (v := undef) rfl (by kernel_rfl) (by kernel_rfl) (by kernel_rfl) (by kernel_rfl) (fun _ _ _ h => h) (by assumption) (by kernel_rfl) (by decide) (by rfl) (Or.inr ⟨by rfl, rfl⟩) (fun _ => rfl) ?_)
      try simp only [Act.put, List.setIfInBounds_toArray, List.set_cons_zero, List.set_cons_succ]
      refine ordZ_one (i := 14) (o := { dst := some 44, op := Op.box 76 (Operand.tmp 43), type := 73, pos := _, after := #[{ on := 13, ground := Ground.data }], guard := none }) (by kernel_rfl) rfl (by rfl) (fun K hK => ?_)
      go_simp
      refine hK _ _ (fun _ => HSD.out _ hb3) ?_
      clear hK K hH
      try simp only [Act.put, List.setIfInBounds_toArray, List.set_cons_zero, List.set_cons_succ]
      have hH := HSD.out _ hb3
      first
        | (refine' ordZ_take (i := 15) (oi := { dst := some 45, op := Op.indexAddr 70 (Operand.tmp 33) (Operand.tmp 34), type := 0, pos := _, after := #[{ on := 3, ground := Ground.data }, { on := 4, ground := Ground.data }, { on := 0, ground := Ground.phase }, { on := 1, ground := Ground.phase }, { on := 2, ground := Ground.phase }, { on := 3, ground := Ground.phase }, { on := 4, ground := Ground.phase }, { on := 5, ground := Ground.phase }, { on := 6, ground := Ground.phase }, { on := 7, ground := Ground.phase }, { on := 8, ground := Ground.phase }, { on := 9, ground := Ground.phase }, { on := 10, ground := Ground.phase }, { on := 11, ground := Ground.phase }, { on := 12, ground := Ground.phase }, { on := 13, ground := Ground.phase }, { on := 14, ground := Ground.phase }], guard := none }) (v := _) rfl (by kernel_rfl) (by kernel_rfl) (by kernel_rfl) (by kernel_rfl) (fun _ _ _ h => h) (by assumption) (by kernel_rfl) (by decide) (by rfl) (Or.inl ⟨by rfl, ?hy26⟩) (fun _ => rfl) ?rest26
           case hy26 => (intro w hSw; (try dsimp only at hSw); go_simp; try with_reducible rfl))
        | (refine ordZ_take (i := 15) (oi := { dst := some 45, op := Op.indexAddr 70 (Operand.tmp 33) (Operand.tmp 34), type := 0, pos := _, after := #[{ on := 3, ground := Ground.data }, { on := 4, ground := Ground.data }, { on := 0, ground := Ground.phase }, { on := 1, ground := Ground.phase }, { on := 2, ground := Ground.phase }, { on := 3, ground := Ground.phase }, { on := 4, ground := Ground.phase }, { on := 5, ground := Ground.phase }, { on := 6, ground := Ground.phase }, { on := 7, ground := Ground.phase }, { on := 8, ground := Ground.phase }, { on := 9, ground := Ground.phase }, { on := 10, ground := Ground.phase }, { on := 11, ground := Ground.phase }, { on := 12, ground := Ground.phase }, { on := 13, ground := Ground.phase }, { on := 14, ground := Ground.phase }], guard := none }) (v := undef) rfl (by kernel_rfl) (by kernel_rfl) (by kernel_rfl) (by kernel_rfl) (fun _ _ _ h => h) (by assumption) (by kernel_rfl) (by decide) (by rfl) (Or.inr ⟨by rfl, rfl⟩) (fun _ => rfl) ?_)
      try simp only [Act.put, List.setIfInBounds_toArray, List.set_cons_zero, List.set_cons_succ]
      obtain ⟨hr1, hf1⟩ := HRR.out
      have zr := blk_lt hr1
      refine ordZ_one (i := 16) (o := { dst := none, op := Op.store 73 (Operand.tmp 45) (Operand.tmp 44), type := 0, pos := _, after := #[{ on := 15, ground := Ground.data }, { on := 14, ground := Ground.data }, { on := 0, ground := Ground.phase }, { on := 1, ground := Ground.phase }, { on := 2, ground := Ground.phase }, { on := 3, ground := Ground.phase }, { on := 4, ground := Ground.phase }, { on := 5, ground := Ground.phase }, { on := 6, ground := Ground.phase }, { on := 7, ground := Ground.phase }, { on := 8, ground := Ground.phase }, { on := 9, ground := Ground.phase }, { on := 10, ground := Ground.phase }, { on := 11, ground := Ground.phase }, { on := 12, ground := Ground.phase }, { on := 13, ground := Ground.phase }, { on := 14, ground := Ground.phase }], guard := none }) (by kernel_rfl) rfl (by rfl) (fun K hK => ?_)
      go_simp
      refine hK _ _ (fun h => by cases h) ?_
      clear hK K hH hr1 hf1
      try simp only [Act.put, List.setIfInBounds_toArray, List.set_cons_zero, List.set_cons_succ]
      refine ordZ_done (by kernel_rfl) ?_
      go_wp2
      go_roundw
      case rel => exact ⟨k + 1, L2 ++ [(wr.heap.size, y.2)], by omega, by go_num, by rw [List.length_append, hk2]; rfl, Lib.hid (HWE.out ▸ HN.out), HM2, Lib.hid (HWE.out ▸ HBN.out)⟩
      case measure => simp [intOf]; omega
    · obtain rfl : k = L.length := by omega
      have hge : ¬ (L.length : Int) < (L.length : Int) := by omega
      have HF : Hid (Turned (fun _ => False) w wr (CO Try.c1 (w.heap.size + 1) r (L.map Prod.snd))) := Lib.hid (by
        have := HI.out.done hk2 HB.out
        have e := HM.out
        rw [List.take_of_length_le (by rw [List.length_map]; exact Nat.le_refl _)] at e
        rw [e] at this
        exact this)
      go_wp2
      go_ret
      exact ⟨rfl, HF.out⟩
end Go.Proofs.Ytbmpgafndpdnbaa
