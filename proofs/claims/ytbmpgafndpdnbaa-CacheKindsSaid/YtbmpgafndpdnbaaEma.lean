/- Cache of names: equal, the place of a key, one leads, New (made out of the texts of numbers' caches by gen2.py). -/
import Derived.Test.YtbmpgafndpdnbaaEl
namespace Go.Proofs.Ytbmpgafndpdnbaa
open Go.RowKit Go.Maps

def keyT : ByteArray := ⟨#[107, 101, 121]⟩
/-- A name: a number, and one text. -/
abbrev nmV (k : Int) : Value := .agg #[.int .i64 k, .string keyT]
/-- The caches of names. -/
abbrev Try.c2 : CTy := ⟨85, 87, 90, fun x => [.int .i64 x.1, .string keyT, .int .i64 x.2, .int .i64 x.2]⟩
set_option maxRecDepth 100000 in
set_option maxHeartbeats 1600000 in
theorem eql_nmI (a b : Int) (w : World) : (Op.equalIn 10000 56 (nmV a) (nmV b)).run Try.prog w = .ok (decide (a = b)) w := by
  have u0 := Try.underlying56
  have u1 := Try.underlying3
  have u2 := Try.underlying9
  obtain ⟨r, hr⟩ : ∃ r, decide (a = b) = r := ⟨_, rfl⟩
  rw [hr]
  by_cases h0 : a = b
  · have n0 : (a == b) = true := by rw [beq_iff_eq]; exact h0
    have e : r = true := by rw [← hr]; simp [h0]
    subst e
    clear h0 hr
    go_simp
  · have n0 : (a == b) = false := by rw [beq_eq_false_iff_ne]; exact h0
    have e : r = false := by rw [← hr]; simp [h0]
    subst e
    clear h0 hr
    go_simp
theorem eql_nm (a b : Int) (w : World) : (binOp .eql 56 (nmV a) (nmV b)).run Try.prog w = .ok (.bool (decide (a = b))) w := by
  rw [run_eql_struct, eql_nmI]
  rfl
theorem eq_idle2 (p : Addr) (w : World) :
    CallsD Try.prog 55 #[.pointer (some p)] .returning w fun e u' w' => e = .returned (.tuple #[]) ∧ u' = .returning ∧ w' = w := by
  refine callsD_of_wpS Try.func55 rfl fun c₀ cs hu => ?_
  apply wpS_seq
  apply wpS_region
  simp [wpOpsS, go_sem, recoverD, hu, Try.ntmps55, Exit.thenS]
  refine wpS_cond (t := false) (by simp [Act.eval, Array.replicate]) ?_
  simp only [Bool.false_eq_true, if_false]
  refine wpS_of_wp (wp_skip ?_)
  cases c₀
  simp_all [bodyPostS, results, Try.results55]

set_option maxRecDepth 100000 in
theorem equal2_any (a b : Int) (w : World) :
    Calls Try.prog 53 #[nmV a, nmV b] w fun e w' => e = .returned (.bool (decide (a = b))) ∧ Below w.heap.size w w' := by
  have hmf : ∀ (fn : Fn) (first cap : Array Value) (w : World), (Instr.makeFunc fn first cap).run Try.prog w = .ok (.func fn first cap) w := fun _ _ _ _ => rfl
  obtain ⟨t, ht⟩ : ∃ t, decide (a = b) = t := ⟨_, rfl⟩
  have h1 : ∀ w, (binOp .eql 56 (.agg #[.int .i64 a, .string keyT]) (.agg #[.int .i64 b, .string keyT])).run Try.prog w = .ok (.bool t) w := fun w => by rw [eql_nm, ht]
  have hA : ∀ u, Below w.heap.size w (((w.alloc (.cells #[.int .i64 a, .string keyT] 56)).alloc (.cells #[.int .i64 b, .string keyT] 56)).alloc (.cells #[.bool u] 4)) := fun u => bl_al (bl_al (bl_al (bl0 w) _) _) _
  rw [ht]
  clear ht
  go_enter_defers Try.func53, Try.ntmps53
  go_wp2
  refine leaves_cons (f := 55) (args := #[.pointer (some ⟨w.heap.size + 2, 0, none⟩)]) (by simp) (by simp [go_sem]) ?_
  refine (eq_idle2 ⟨w.heap.size + 2, 0, none⟩ _).mono ?_
  rintro e u' w'' ⟨rfl, rfl, rfl⟩
  simp [Leaves, settle, results, Try.results53, go_sem]
  exact hA _
set_option maxRecDepth 100000 in
set_option maxHeartbeats 4000000 in
theorem place2_any (k : Int) (b q : Nat) (x : IT) (w : World) (hb : ∀ j u, (Try.c2.cf x)[j]? = some u → w.cell? ⟨b, j, none⟩ = some u) (hq : w.cell? ⟨q, 0, none⟩ = some (.int .i64 k)) (hq2 : w.cell? ⟨q, 1, none⟩ = some (.string keyT)) :
    Calls Try.prog 52 #[ptrV b, .pointer (some ⟨q, 0, none⟩)] w fun e w' => e = .returned (.bool (decide (x.1 = k))) ∧ Below w.heap.size w w' := by
  have c0 := hb 0 (.int .i64 x.1) rfl
  have c5 := hb 1 (.string keyT) rfl
  have hbd := bl_dr (bl0 w)
  go_enter Try.func52, Try.ntmps52
  go_upto_region 1 with fail
  refine (wpIn_wide (n := 11)).1 ?_
  refine ordS_begin (S := (fun W : World => W.cell? ⟨b, 0, none⟩ = some (.int .i64 x.1) ∧ W.cell? ⟨b, 1, none⟩ = some (.string keyT) ∧ W.cell? ⟨q, 0, none⟩ = some (.int .i64 k) ∧ W.cell? ⟨q, 1, none⟩ = some (.string keyT))) (by kernel_rfl) ⟨cell_later hbd c0, cell_later hbd c5, cell_later hbd hq, cell_later hbd hq2⟩ (fun hH => ?_)
  refine' ordS_take (i := 0) (oi := { dst := some 4, op := Op.move (Operand.tmp 0), type := 87, pos := _, after := #[], guard := none }) (v := _) rfl (by kernel_rfl) (by kernel_rfl) (by kernel_rfl) (by kernel_rfl) (fun _ _ _ h => h) (by assumption) (Or.inl ⟨by rfl, ?hy1⟩) (fun _ => rfl) ?rest1
  case hy1 => (intro w hSw; (try dsimp only at hSw); go_simp; try with_reducible rfl)
  try simp only [Act.put, List.setIfInBounds_toArray, List.set_cons_zero, List.set_cons_succ]
  refine' ordS_take (i := 1) (oi := { dst := some 5, op := Op.nilCheck (Operand.tmp 4), type := 0, pos := _, after := #[{ on := 0, ground := Ground.data }], guard := none }) (v := _) rfl (by kernel_rfl) (by kernel_rfl) (by kernel_rfl) (by kernel_rfl) (fun _ _ _ h => h) (by assumption) (Or.inl ⟨by rfl, ?hy2⟩) (fun _ => rfl) ?rest2
  case hy2 => (intro w hSw; (try dsimp only at hSw); go_simp; try with_reducible rfl)
  try simp only [Act.put, List.setIfInBounds_toArray, List.set_cons_zero, List.set_cons_succ]
  refine' ordS_take (i := 2) (oi := { dst := some 6, op := Op.fieldAddr 90 (Operand.tmp 5) 0, type := 0, pos := _, after := #[{ on := 1, ground := Ground.data }], guard := none }) (v := _) rfl (by kernel_rfl) (by kernel_rfl) (by kernel_rfl) (by kernel_rfl) (fun _ _ _ h => h) (by assumption) (Or.inl ⟨by rfl, ?hy3⟩) (fun _ => rfl) ?rest3
  case hy3 => (intro w hSw; (try dsimp only at hSw); go_simp; try with_reducible rfl)
  try simp only [Act.put, List.setIfInBounds_toArray, List.set_cons_zero, List.set_cons_succ]
  refine' ordS_take (i := 3) (oi := { dst := some 7, op := Op.load 56 (Operand.tmp 6), type := 56, pos := _, after := #[{ on := 2, ground := Ground.data }], guard := none }) (v := _) rfl (by kernel_rfl) (by kernel_rfl) (by kernel_rfl) (by kernel_rfl) (fun _ _ _ h => h) (by assumption) (Or.inl ⟨by rfl, ?hy4⟩) (fun _ => rfl) ?rest4
  case hy4 => (intro w hSw; (try dsimp only at hSw); go_simp; try with_reducible rfl)
  try simp only [Act.put, List.setIfInBounds_toArray, List.set_cons_zero, List.set_cons_succ]
  refine' ordS_take (i := 4) (oi := { dst := some 8, op := Op.load 56 (Operand.tmp 1), type := 56, pos := _, after := #[], guard := none }) (v := _) rfl (by kernel_rfl) (by kernel_rfl) (by kernel_rfl) (by kernel_rfl) (fun _ _ _ h => h) (by assumption) (Or.inl ⟨by rfl, ?hy5⟩) (fun _ => rfl) ?rest5
  case hy5 => (intro w hSw; (try dsimp only at hSw); go_simp; try with_reducible rfl)
  try simp only [Act.put, List.setIfInBounds_toArray, List.set_cons_zero, List.set_cons_succ]
  refine ordS_one (i := 5) (o := { dst := some 9, op := Op.call { callee := Callee.value (Operand.func 53), args := #[Operand.tmp 7, Operand.tmp 8], argTypes := #[56, 56] }, type := 4, pos := _, after := #[{ on := 3, ground := Ground.data }, { on := 4, ground := Ground.data }], guard := none }) (by kernel_rfl) rfl (by rfl) (fun K hK => ?_)
  go_simp
  refine ⟨trivial, ?_⟩
  refine callsIn_wide.2 ((equal2_any x.1 k _).mono ?_)
  rintro e W1 ⟨rfl, hb2⟩
  have HB2 := Lib.hid (bl_tr hbd hb2)
  have hS2 : W1.cell? ⟨b, 0, none⟩ = some (.int .i64 x.1) ∧ W1.cell? ⟨b, 1, none⟩ = some (.string keyT) ∧ W1.cell? ⟨q, 0, none⟩ = some (.int .i64 k) ∧ W1.cell? ⟨q, 1, none⟩ = some (.string keyT) := ⟨cell_later (bl_tr hbd hb2) c0, cell_later (bl_tr hbd hb2) c5, cell_later (bl_tr hbd hb2) hq, cell_later (bl_tr hbd hb2) hq2⟩
  refine hK _ _ hS2 ?_
  clear hK K hH c0 c5 hq hq2 hb2
  try simp only [Act.put, List.setIfInBounds_toArray, List.set_cons_zero, List.set_cons_succ]
  refine ordS_one (i := 6) (o := { dst := some 3, op := Op.assign (Operand.tmp 9), type := 4, pos := _, after := #[{ on := 5, ground := Ground.data }, { on := 5, ground := Ground.chain }, { on := 0, ground := Ground.phase }, { on := 1, ground := Ground.phase }, { on := 2, ground := Ground.phase }, { on := 3, ground := Ground.phase }, { on := 4, ground := Ground.phase }, { on := 5, ground := Ground.phase }], guard := none }) (by kernel_rfl) rfl (by rfl) (fun K hK => ?_)
  go_simp
  refine hK _ _ hS2 ?_
  clear hK K hS2
  try simp only [Act.put, List.setIfInBounds_toArray, List.set_cons_zero, List.set_cons_succ]
  refine ordS_done (by kernel_rfl) ?_
  go_wp2
  go_ret
  exact ⟨rfl, HB2.out⟩
set_option maxRecDepth 100000 in
set_option maxHeartbeats 4000000 in
theorem index_p2 (cv : Value) (pr : (Nat × IT) → Bool) (a : Option Addr) (cap : Nat) (L : List (Nat × IT)) (w : World) (hl : L.length ≤ 1000) (hr : RowP w a L)
    (hF : ∀ y ∈ L, ∀ W', Below w.heap.size w W' → Calls Try.prog 52 #[ptrV y.1, cv] W' fun e w' => e = .returned (.bool (pr y)) ∧ Below W'.heap.size W' w') :
    Calls Try.prog 51 #[.slice a L.length cap, .func (.func 52) #[] #[cv]] w fun e w' => e = .returned (.int .i64 (idxV (L.findIdx? pr))) ∧ Below w.heap.size w w' := by
  obtain ⟨n, hn⟩ : ∃ n, L.length = n := ⟨_, rfl⟩
  rw [hn] at hl ⊢
  have HN := Lib.hid hn
  have HR := Lib.hid hr
  have HF := Lib.hid hF
  clear hr hn hF
  go_enter Try.func51, Try.ntmps51
  go_wp2_with fail
  go_loopw [5, 8] (fun _ i wr => ∃ k : Nat, k ≤ n ∧ i = .int .i64 k ∧ Hid (∀ z ∈ L.take k, pr z = false) ∧ Below w.heap.size w wr) (fun _ i _ => n - (intOf i).toNat)
  case atStart => exact ⟨0, Nat.zero_le _, rfl, (fun z hz => by simp at hz), bl0 _⟩
  case round =>
    obtain ⟨k, hk, rfl, hall, hA⟩ := hrel
    have hk0 : (0 : Int) ≤ (k : Int) := by omega
    have HA := Lib.hid hA
    clear hA
    by_cases hlt : k < n
    · have hlt2 : (k : Int) < (n : Int) := by omega
      have hkl : k < L.length := by rw [HN.out]; exact hlt
      have hy : L[k]? = some L[k] := List.getElem?_eq_getElem hkl
      have hm : L[k] ∈ L := List.getElem_mem hkl
      obtain ⟨y, hyy⟩ : ∃ y, L[k] = y := ⟨_, rfl⟩
      rw [hyy] at hy hm
      obtain ⟨g, rfl, c0⟩ : ∃ g, a = some ⟨g, 0, none⟩ ∧ wr.cell? ⟨g, k, none⟩ = some (ptrV y.1) := by
        rcases HR.out with e | ⟨g, e, h⟩
        · rw [e] at hy; simp at hy
        · exact ⟨g, e, cell_later HA.out (h k y hy)⟩
      have HY := Lib.hid hy
      have HM := Lib.hid hm
      have zc := blk_lt c0
      clear hy hyy hkl hm
      go_wp2_with fail
      refine (HF.out y HM.out _ HA.out).mono ?_
      rintro e w2 ⟨rfl, hb⟩
      have HB := Lib.hid (bl_tr HA.out hb)
      clear hb c0 zc
      cases he : pr y
      · have HE := Lib.hid (show ∀ z ∈ L.take (k + 1), pr z = false from fun z hz => by
          have hkl := (List.getElem?_eq_some_iff.1 HY.out).1
          have h2 := (List.getElem?_eq_some_iff.1 HY.out).2
          rw [List.take_succ_eq_append_getElem hkl, h2, List.mem_append, List.mem_singleton] at hz
          rcases hz with hz | rfl
          · exact hall.out z hz
          · exact he)
        clear he
        go_wp2
        go_roundw
        case rel => exact ⟨k + 1, by omega, by go_num, HE, HB.out⟩
        case measure => simp [intOf]; omega
      · have HX := Lib.hid (show idxV (L.findIdx? pr) = k by rw [findIdx_step hall.out HY.out he]; rfl)
        clear he
        go_wp2
        go_ret
        exact ⟨ret_int HX.out.symm, HB.out⟩
    · obtain rfl : k = n := by omega
      have hge : ¬ (k : Int) < (k : Int) := by omega
      have HX := Lib.hid (show idxV (L.findIdx? pr) = -1 by rw [findIdx_end (fun z hz => hall.out z (by rw [← HN.out, List.take_length]; exact hz))]; rfl)
      go_wp2
      go_ret
      exact ⟨ret_int HX.out.symm, HA.out⟩
set_option maxRecDepth 100000 in
set_option maxHeartbeats 4000000 in
theorem place_c2 (k : Int) (p : Nat) (v : Value) (L : List (Nat × IT)) (r : Int) (w : World) (h : CAt Try.c2 w p v L r) (hl : L.length ≤ 1000) :
    Calls Try.prog 45 #[.pointer (some ⟨p, 0, none⟩), nmV k] w fun e w' => e = .returned (.tuple #[.int .i64 (idxV (findI k (L.map Prod.snd))), .bool (findI k (L.map Prod.snd)).isSome]) ∧ Below w.heap.size w w' := by
  have hmf : ∀ (fn : Fn) (first cap : Array Value) (w : World), (Instr.makeFunc fn first cap).run Try.prog w = .ok (.func fn first cap) w := fun _ _ _ _ => rfl
  obtain ⟨W, hW⟩ : ∃ W, w.alloc (.cells #[.int .i64 k, .string keyT] 56) = W := ⟨_, rfl⟩
  have hbw : Below w.heap.size w W := by rw [← hW]; exact bl_al (bl0 w) _
  have hk0 : W.cell? ⟨w.heap.size, 0, none⟩ = some (.int .i64 k) := by rw [← hW]; simp [go_sem]
  have hk1 : W.cell? ⟨w.heap.size, 1, none⟩ = some (.string keyT) := by rw [← hW]; simp [go_sem]
  have h' := h.below hbw
  obtain ⟨a, cap, rfl, hc1, hc2⟩ := h.any
  have HI := Lib.hid (index_p2 (.pointer (some ⟨w.heap.size, 0, none⟩)) (fun y => decide (y.2.1 = k)) a cap L W hl h'.rowP (fun y hy W' hb => (place2_any k y.1 w.heap.size y.2 W' (fun j u hu => (h'.below hb).cell hy hu) (cell_later hb hk0) (cell_later hb hk1)).mono fun _ _ h => h))
  rw [findI_L] at HI
  have hge := idxV_ge (findI k (L.map Prod.snd))
  generalize findI k (L.map Prod.snd) = o at *
  generalize idxV o = z at *
  have c1 := h'.c1
  have zc := blk_lt c1
  have HB := Lib.hid hbw
  clear h h' hbw hk0 hk1
  go_enter Try.func45, Try.ntmps45
  go_wp2_with fail
  refine HI.out.mono ?_
  rintro e w2 ⟨rfl, hb⟩
  have HB2 := Lib.hid (bl_tr HB.out hb)
  have HG := Lib.hid hge
  clear hb HI HB hW c1 zc hge
  go_wp2
  go_ret2
  exact ⟨by rw [← HG.out]; rfl, HB2.out⟩
set_option maxRecDepth 100000 in
set_option maxHeartbeats 4000000 in
theorem lead_c2 (p g n cap i b : Nat) (xs : List Value) (w : World) (hc : w.cell? ⟨p, 1, none⟩ = some (.slice (some ⟨g, 0, none⟩) n cap)) (hgp : g ≠ p)
    (h : w.ownsRow 0 87 1 (.slice (some ⟨g, 0, none⟩) n cap) n xs) (hi : i < n) (hn : n ≤ 1001) (hx : ∀ u ∈ xs, u.oneCell' = true) :
    Calls Try.prog 46 #[.pointer (some ⟨p, 0, none⟩), .int .i64 i, ptrV b] w fun e w' => e = .returned (.tuple #[]) ∧ w'.ownsRow 0 87 1 (.slice (some ⟨g, 0, none⟩) n cap) n (leadL i (ptrV b) xs) ∧ KeptS (fun k => k = g) w w' := by
  have hbd := bl_dr (bl0 w)
  have hcap : n ≤ cap := own_capR h
  obtain ⟨cur, hg, hs1, hs0, hs2, hO⟩ := ownsRow_leads (t := ptrV b) (own_later h hbd) hi
  obtain ⟨W2, hcp, hW2, hK2⟩ := copy_lead (P := Try.prog) (T := 83) (cap := cap) (c := cap - 1) Try.underlying83 (by kernel_rfl) hg hs1 hs2 hi hx (if cap = 1 then some ⟨g, 0, none⟩ else some ⟨g, 1, none⟩) (fun h0 => by rw [if_neg (by omega)])
  have c1 := hK2.cell (cell_later hbd hc) (fun e => hgp e.symm)
  have HO := Lib.hid (hO W2 hW2)
  have HK := Lib.hid (show KeptS (fun k => k = g) w (W2.setCell ⟨g, 0, none⟩ (ptrV b)) from ((KeptS.of_below hbd).trans hK2 (fun _ _ h => h)).trans (KeptS.of_grown (S := fun k => k = g) (hgrown_set W2 g 0 _) (fun k e _ => by cases e; rfl)) (fun _ _ h => h))
  have hf0 : W2.frozen? ⟨g, 0, none⟩ = false := by simp [World.frozen?, hW2]
  have zg : g < W2.heap.size := (Array.getElem?_eq_some_iff.1 hW2).1
  have hcell0 : ∃ u, W2.cell? ⟨g, 0, none⟩ = some u := by
    have : 0 < (cur.toList.take 1 ++ xs.take i ++ cur.toList.drop (1 + i)).length := by simp; omega
    exact ⟨_, by simp only [World.cell?, hW2]; simp; exact List.getElem?_eq_getElem (by simpa using this)⟩
  obtain ⟨u0, hc0⟩ := hcell0
  clear hg hs1 hs0 hs2 hO hK2 hW2 h hx
  have hw1 : IntKind.i64.wrap ((i : Int) + 1) = (i : Int) + 1 := IntWalk.i64_in _ (by omega)
  have hi0 : (0 : Int) ≤ (i : Int) := by omega
  have hi1 : (i : Int) ≤ 1001 := by omega
  have hi2 : (i : Int) < (n : Int) := by omega
  have hi3 : (i : Int) + 1 ≤ (n : Int) := by omega
  have hi4 : (n : Int) ≤ (cap : Int) := by omega
  have hj1 : (0 : Int) ≤ (i : Int) + 1 := by omega
  have hj2 : (i : Int) + 1 ≤ (cap : Int) := by omega
  have hj3 : (1 : Int) ≤ (i : Int) + 1 := by omega
  have hj4 : (i : Int) ≤ (cap : Int) := by omega
  go_enter Try.func46, Try.ntmps46
  go_upto_region 0 with fail
  refine (wpIn_wide (n := 11)).1 ?_
  refine ordS_begin (S := (fun W : World => W.cell? ⟨p, 1, none⟩ = some (.slice (some ⟨g, 0, none⟩) n cap))) (by kernel_rfl) (cell_later hbd hc) (fun hH => ?_)
  refine' ordS_take (i := 0) (oi := { dst := some 6, op := Op.move (Operand.tmp 0), type := 52, pos := _, after := #[], guard := none }) (v := _) rfl (by kernel_rfl) (by kernel_rfl) (by kernel_rfl) (by kernel_rfl) (fun _ _ _ h => h) (by assumption) (Or.inl ⟨by rfl, ?hy6⟩) (fun _ => rfl) ?rest6
  case hy6 => (intro w hSw; (try dsimp only at hSw); go_simp; try with_reducible rfl)
  try simp only [Act.put, List.setIfInBounds_toArray, List.set_cons_zero, List.set_cons_succ]
  refine' ordS_take (i := 1) (oi := { dst := some 7, op := Op.nilCheck (Operand.tmp 6), type := 0, pos := _, after := #[{ on := 0, ground := Ground.data }], guard := none }) (v := _) rfl (by kernel_rfl) (by kernel_rfl) (by kernel_rfl) (by kernel_rfl) (fun _ _ _ h => h) (by assumption) (Or.inl ⟨by rfl, ?hy7⟩) (fun _ => rfl) ?rest7
  case hy7 => (intro w hSw; (try dsimp only at hSw); go_simp; try with_reducible rfl)
  try simp only [Act.put, List.setIfInBounds_toArray, List.set_cons_zero, List.set_cons_succ]
  refine' ordS_take (i := 2) (oi := { dst := some 8, op := Op.fieldAddr 85 (Operand.tmp 7) 1, type := 0, pos := _, after := #[{ on := 1, ground := Ground.data }], guard := none }) (v := _) rfl (by kernel_rfl) (by kernel_rfl) (by kernel_rfl) (by kernel_rfl) (fun _ _ _ h => h) (by assumption) (Or.inl ⟨by rfl, ?hy8⟩) (fun _ => rfl) ?rest8
  case hy8 => (intro w hSw; (try dsimp only at hSw); go_simp; try with_reducible rfl)
  try simp only [Act.put, List.setIfInBounds_toArray, List.set_cons_zero, List.set_cons_succ]
  refine' ordS_take (i := 3) (oi := { dst := some 9, op := Op.load 83 (Operand.tmp 8), type := 83, pos := _, after := #[{ on := 2, ground := Ground.data }], guard := none }) (v := _) rfl (by kernel_rfl) (by kernel_rfl) (by kernel_rfl) (by kernel_rfl) (fun _ _ _ h => h) (by assumption) (Or.inl ⟨by rfl, ?hy9⟩) (fun _ => rfl) ?rest9
  case hy9 => (intro w hSw; (try dsimp only at hSw); go_simp; try with_reducible rfl)
  try simp only [Act.put, List.setIfInBounds_toArray, List.set_cons_zero, List.set_cons_succ]
  refine' ordS_take (i := 4) (oi := { dst := some 10, op := Op.move (Operand.tmp 1), type := 3, pos := _, after := #[], guard := none }) (v := _) rfl (by kernel_rfl) (by kernel_rfl) (by kernel_rfl) (by kernel_rfl) (fun _ _ _ h => h) (by assumption) (Or.inl ⟨by rfl, ?hy10⟩) (fun _ => rfl) ?rest10
  case hy10 => (intro w hSw; (try dsimp only at hSw); go_simp; try with_reducible rfl)
  try simp only [Act.put, List.setIfInBounds_toArray, List.set_cons_zero, List.set_cons_succ]
  refine' ordS_take (i := 5) (oi := { dst := some 11, op := Op.binOp BinOp.add 3 (Operand.tmp 10) (Operand.const (Value.int IntKind.i64 1)) 3, type := 3, pos := _, after := #[{ on := 4, ground := Ground.data }], guard := none }) (v := _) rfl (by kernel_rfl) (by kernel_rfl) (by kernel_rfl) (by kernel_rfl) (fun _ _ _ h => h) (by assumption) (Or.inl ⟨by rfl, ?hy11⟩) (fun _ => rfl) ?rest11
  case hy11 => (intro w hSw; (try dsimp only at hSw); go_simp; try with_reducible rfl)
  try simp only [Act.put, List.setIfInBounds_toArray, List.set_cons_zero, List.set_cons_succ]
  refine' ordS_take (i := 7) (oi := { dst := some 13, op := Op.move (Operand.tmp 0), type := 52, pos := _, after := #[], guard := none }) (v := _) rfl (by kernel_rfl) (by kernel_rfl) (by kernel_rfl) (by kernel_rfl) (fun _ _ _ h => h) (by assumption) (Or.inl ⟨by rfl, ?hy12⟩) (fun _ => rfl) ?rest12
  case hy12 => (intro w hSw; (try dsimp only at hSw); go_simp; try with_reducible rfl)
  try simp only [Act.put, List.setIfInBounds_toArray, List.set_cons_zero, List.set_cons_succ]
  refine' ordS_take (i := 8) (oi := { dst := some 14, op := Op.nilCheck (Operand.tmp 13), type := 0, pos := _, after := #[{ on := 7, ground := Ground.data }], guard := none }) (v := _) rfl (by kernel_rfl) (by kernel_rfl) (by kernel_rfl) (by kernel_rfl) (fun _ _ _ h => h) (by assumption) (Or.inl ⟨by rfl, ?hy13⟩) (fun _ => rfl) ?rest13
  case hy13 => (intro w hSw; (try dsimp only at hSw); go_simp; try with_reducible rfl)
  try simp only [Act.put, List.setIfInBounds_toArray, List.set_cons_zero, List.set_cons_succ]
  refine' ordS_take (i := 9) (oi := { dst := some 15, op := Op.fieldAddr 85 (Operand.tmp 14) 1, type := 0, pos := _, after := #[{ on := 8, ground := Ground.data }], guard := none }) (v := _) rfl (by kernel_rfl) (by kernel_rfl) (by kernel_rfl) (by kernel_rfl) (fun _ _ _ h => h) (by assumption) (Or.inl ⟨by rfl, ?hy14⟩) (fun _ => rfl) ?rest14
  case hy14 => (intro w hSw; (try dsimp only at hSw); go_simp; try with_reducible rfl)
  try simp only [Act.put, List.setIfInBounds_toArray, List.set_cons_zero, List.set_cons_succ]
  refine' ordS_take (i := 10) (oi := { dst := some 16, op := Op.load 83 (Operand.tmp 15), type := 83, pos := _, after := #[{ on := 9, ground := Ground.data }], guard := none }) (v := _) rfl (by kernel_rfl) (by kernel_rfl) (by kernel_rfl) (by kernel_rfl) (fun _ _ _ h => h) (by assumption) (Or.inl ⟨by rfl, ?hy15⟩) (fun _ => rfl) ?rest15
  case hy15 => (intro w hSw; (try dsimp only at hSw); go_simp; try with_reducible rfl)
  try simp only [Act.put, List.setIfInBounds_toArray, List.set_cons_zero, List.set_cons_succ]
  refine' ordS_take (i := 11) (oi := { dst := some 17, op := Op.move (Operand.tmp 1), type := 3, pos := _, after := #[], guard := none }) (v := _) rfl (by kernel_rfl) (by kernel_rfl) (by kernel_rfl) (by kernel_rfl) (fun _ _ _ h => h) (by assumption) (Or.inl ⟨by rfl, ?hy16⟩) (fun _ => rfl) ?rest16
  case hy16 => (intro w hSw; (try dsimp only at hSw); go_simp; try with_reducible rfl)
  try simp only [Act.put, List.setIfInBounds_toArray, List.set_cons_zero, List.set_cons_succ]
  refine' ordS_take (i := 6) (oi := { dst := some 12, op := Op.slice 83 (Operand.tmp 9) (some (Operand.const (Value.int IntKind.i64 1))) (some (Operand.tmp 11)) none, type := 83, pos := _, after := #[{ on := 3, ground := Ground.data }, { on := 5, ground := Ground.data }], guard := none }) (v := _) rfl (by kernel_rfl) (by kernel_rfl) (by kernel_rfl) (by kernel_rfl) (fun _ _ _ h => h) (by assumption) (Or.inl ⟨by rfl, ?hy17⟩) (fun _ => rfl) ?rest17
  case hy17 => (intro w hSw; (try dsimp only at hSw); go_simp; try with_reducible rfl)
  try simp only [Act.put, List.setIfInBounds_toArray, List.set_cons_zero, List.set_cons_succ]
  refine' ordS_take (i := 12) (oi := { dst := some 18, op := Op.slice 83 (Operand.tmp 16) none (some (Operand.tmp 17)) none, type := 83, pos := _, after := #[{ on := 10, ground := Ground.data }, { on := 11, ground := Ground.data }], guard := none }) (v := _) rfl (by kernel_rfl) (by kernel_rfl) (by kernel_rfl) (by kernel_rfl) (fun _ _ _ h => h) (by assumption) (Or.inl ⟨by rfl, ?hy18⟩) (fun _ => rfl) ?rest18
  case hy18 => (intro w hSw; (try dsimp only at hSw); go_simp; try with_reducible rfl)
  try simp only [Act.put, List.setIfInBounds_toArray, List.set_cons_zero, List.set_cons_succ]
  refine ordS_one (i := 13) (o := { dst := some 19, op := Op.call { callee := Callee.builtin Builtin.copy, args := #[Operand.tmp 12, Operand.tmp 18], argTypes := #[83, 83] }, type := 3, pos := _, after := #[{ on := 6, ground := Ground.data }, { on := 12, ground := Ground.data }], guard := none }) (by kernel_rfl) rfl (by rfl) (fun K hK => ?_)
  go_simp
  refine hK _ _ c1 ?_
  clear hK K hH hcp
  try simp only [Act.put, List.setIfInBounds_toArray, List.set_cons_zero, List.set_cons_succ]
  refine ordS_done (by kernel_rfl) ?_
  generalize (if cap = 1 then (some ⟨g, 0, none⟩ : Option Addr) else some ⟨g, 1, none⟩) = D
  go_wp2
  go_end0
  exact ⟨rfl, HO.out, HK.out⟩
set_option maxRecDepth 100000 in
theorem new_c2 (r : Int) (hr : 1 ≤ r ∧ r ≤ 16) (w : World) :
    Calls Try.prog 27 #[.int .i64 r] w fun e w' => e = .returned (.tuple #[.pointer (some ⟨w.heap.size, 0, none⟩), .int .i64 0]) ∧ Turned (fun _ => False) w w' (CO Try.c2 w.heap.size r []) := by
  have HT := Lib.hid (co_new (c := Try.c2) w r)
  have h1 : ¬ r < 1 := by omega
  have h2 : ¬ r > 16 := by omega
  have h3 : (1 : Int) ≤ r := by omega
  have h4 : r ≤ (16 : Int) := by omega
  clear hr
  go_enter Try.func27, Try.ntmps27
  go_wp2
  go_ret2
  exact ⟨rfl, HT.out⟩
set_option maxRecDepth 100000 in
theorem new_n2 (r : Int) (hr : ¬ (1 ≤ r ∧ r ≤ 16)) (w : World) :
    Calls Try.prog 27 #[.int .i64 r] w fun e w' => e = .returned (.tuple #[.pointer none, .int .i64 10]) ∧ Below w.heap.size w w' := by
  have HB := Lib.hid (bl0 w)
  by_cases h1 : r < 1
  · go_enter Try.func27, Try.ntmps27
    go_wp2
    go_ret2
    exact ⟨rfl, HB.out⟩
  · have h2 : (16 : Int) < r := by omega
    have h3 : ¬ r < (1 : Int) := h1
    clear hr
    go_enter Try.func27, Try.ntmps27
    go_wp2
    go_ret2
    exact ⟨rfl, HB.out⟩

set_option maxRecDepth 100000 in
theorem name_any (k : Int) (w : World) : Calls Try.prog 29 #[.int .i64 k] w fun e w' => e = .returned (nmV k) ∧ Below w.heap.size w w' := by
  have HB := Lib.hid (bl_al (bl0 w) (.cells #[.int .i64 k, .string keyT] 56))
  go_enter Try.func29, Try.ntmps29
  go_wp2
  refine bodyPost_ret (v := nmV k) (by simp [results, Try.results29, go_sem, keyT]) rfl ⟨rfl, HB.out⟩
end Go.Proofs.Ytbmpgafndpdnbaa
