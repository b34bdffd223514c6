/- Cache: the place of a key; one leads. -/
import Derived.Test.YtbmpgafndpdnbaaEd
namespace Go.Proofs.Ytbmpgafndpdnbaa
open Go.RowKit Go.Maps

theorem findI_L (k : Int) (L : List (Nat × IT)) : L.findIdx? (fun y => decide (y.2.1 = k)) = findI k (L.map Prod.snd) := by
  unfold findI
  rw [List.findIdx?_map]
  rfl
theorem idxV_ge (o : Option Nat) : decide (0 ≤ idxV o) = o.isSome := by
  cases o with
  | none => rfl
  | some i => simp [idxV]
set_option maxRecDepth 100000 in
set_option maxHeartbeats 4000000 in
theorem place_c1 (k : Int) (p : Nat) (v : Value) (L : List (Nat × IT)) (r : Int) (w : World) (h : CAt Try.c1 w p v L r) (hl : L.length ≤ 1000) :
    Calls Try.prog 37 #[.pointer (some ⟨p, 0, none⟩), .int .i64 k] w fun e w' => e = .returned (.tuple #[.int .i64 (idxV (findI k (L.map Prod.snd))), .bool (findI k (L.map Prod.snd)).isSome]) ∧ Below w.heap.size w w' := by
  have hmf : ∀ (fn : Fn) (first cap : Array Value) (w : World), (Instr.makeFunc fn first cap).run Try.prog w = .ok (.func fn first cap) w := fun _ _ _ _ => rfl
  obtain ⟨W, hW⟩ : ∃ W, w.alloc (.cells #[.int .i64 k] 3) = W := ⟨_, rfl⟩
  have hbw : Below w.heap.size w W := by rw [← hW]; exact bl_al (bl0 w) _
  have hk0 : W.cell? ⟨w.heap.size, 0, none⟩ = some (.int .i64 k) := by rw [← hW]; simp [go_sem]
  have h' := h.below hbw
  obtain ⟨a, cap, rfl, hc1, hc2⟩ := h.any
  have HI := Lib.hid (index_p1 (.pointer (some ⟨w.heap.size, 0, none⟩)) (fun y => decide (y.2.1 = k)) a cap L W hl h'.rowP (fun y hy W' hb => (place1_any k y.1 w.heap.size y.2 W' (fun j u hu => (h'.below hb).cell hy hu) (cell_later hb hk0)).mono fun _ _ h => h))
  rw [findI_L] at HI
  have hge := idxV_ge (findI k (L.map Prod.snd))
  generalize findI k (L.map Prod.snd) = o at *
  generalize idxV o = z at *
  have c1 := h'.c1
  have zc := blk_lt c1
  have HB := Lib.hid hbw
  clear h h' hbw hk0
  go_enter Try.func37, Try.ntmps37
  go_wp2_with fail
  refine HI.out.mono ?_
  rintro e w2 ⟨rfl, hb⟩
  have HB2 := Lib.hid (bl_tr HB.out hb)
  have HG := Lib.hid hge
  clear hb HI HB hW c1 zc hge
  go_wp2
  go_ret2
  exact ⟨by rw [← HG.out]; rfl, HB2.out⟩
set_option maxRecDepth 100000 in
theorem place_n1 (k : Int) (w : World) :
    Calls Try.prog 37 #[.pointer none, .int .i64 k] w fun e w' => e = .returned (.tuple #[.int .i64 0, .bool false]) ∧ Below w.heap.size w w' := by
  go_enter Try.func37, Try.ntmps37
  go_wp2
  go_ret2
  exact ⟨rfl, bl_al (bl0 w) _⟩

set_option maxRecDepth 100000 in
set_option maxHeartbeats 4000000 in
theorem lead_c1 (p g n cap i b : Nat) (xs : List Value) (w : World) (hc : w.cell? ⟨p, 1, none⟩ = some (.slice (some ⟨g, 0, none⟩) n cap)) (hgp : g ≠ p)
    (h : w.ownsRow 0 73 1 (.slice (some ⟨g, 0, none⟩) n cap) n xs) (hi : i < n) (hn : n ≤ 1001) (hx : ∀ u ∈ xs, u.oneCell' = true) :
    Calls Try.prog 38 #[.pointer (some ⟨p, 0, none⟩), .int .i64 i, ptrV b] w fun e w' => e = .returned (.tuple #[]) ∧ w'.ownsRow 0 73 1 (.slice (some ⟨g, 0, none⟩) n cap) n (leadL i (ptrV b) xs) ∧ KeptS (fun k => k = g) w w' := by
  have hbd := bl_dr (bl0 w)
  have hcap : n ≤ cap := own_capR h
  obtain ⟨cur, hg, hs1, hs0, hs2, hO⟩ := ownsRow_leads (t := ptrV b) (own_later h hbd) hi
  obtain ⟨W2, hcp, hW2, hK2⟩ := copy_lead (P := Try.prog) (T := 70) (cap := cap) (c := cap - 1) Try.underlying70 (by kernel_rfl) hg hs1 hs2 hi hx (if cap = 1 then some ⟨g, 0, none⟩ else some ⟨g, 1, none⟩) (fun h0 => by rw [if_neg (by omega)])
  have c1 := hK2.cell (cell_later hbd hc) (fun e => hgp e.symm)
  have HO := Lib.hid (hO W2 hW2)
  have HK := Lib.hid (show KeptS (fun k => k = g) w (W2.setCell ⟨g, 0, none⟩ (ptrV b)) from ((KeptS.of_below hbd).trans hK2 (fun _ _ h => h)).trans (KeptS.of_grown (S := fun k => k = g) (hgrown_set W2 g 0 _) (fun k e _ => by cases e; rfl)) (fun _ _ h => h))
  have hf0 : W2.frozen? ⟨g, 0, none⟩ = false := by simp [World.frozen?, hW2]
  have zg : g < W2.heap.size := (Array.getElem?_eq_some_iff.1 hW2).1
  have hcell0 : ∃ u, W2.cell? ⟨g, 0, none⟩ = some u := by
    have : 0 < (cur.toList.take 1 ++ xs.take i ++ cur.toList.drop (1 + i)).length := by simp; omega
    exact ⟨_, by simp only [World.cell?, hW2]; simp; exact List.getElem?_eq_getElem (by simpa using this)⟩
  obtain ⟨u0, hc0⟩ := hcell0
  clear hg hs1 hs0 hs2 hO hK2 hW2 h hx
  have hw1 : IntKind.i64.wrap ((i : Int) + 1) = (i : Int) + 1 := IntWalk.i64_in _ (by omega)
  have hi0 : (0 : Int) ≤ (i : Int) := by omega
  have hi1 : (i : Int) ≤ 1001 := by omega
  have hi2 : (i : Int) < (n : Int) := by omega
  have hi3 : (i : Int) + 1 ≤ (n : Int) := by omega
  have hi4 : (n : Int) ≤ (cap : Int) := by omega
  have hj1 : (0 : Int) ≤ (i : Int) + 1 := by omega
  have hj2 : (i : Int) + 1 ≤ (cap : Int) := by omega
  have hj3 : (1 : Int) ≤ (i : Int) + 1 := by omega
  have hj4 : (i : Int) ≤ (cap : Int) := by omega
  go_enter Try.func38, Try.ntmps38
  go_upto_region 0 with fail
  refine (wpIn_wide (n := 11)).1 ?_
  refine ordS_begin (S := (fun W : World => W.cell? ⟨p, 1, none⟩ = some (.slice (some ⟨g, 0, none⟩) n cap))) (by kernel_rfl) (cell_later hbd hc) (fun hH => ?_)
  refine' ordS_take (i := 0) (oi := { dst := some 6, op := Op.move (Operand.tmp 0), type := 23, pos := _, after := #[], guard := none }) (v := _) rfl (by kernel_rfl) (by kernel_rfl) (by kernel_rfl) (by kernel_rfl) (fun _ _ _ h => h) (by assumption) (Or.inl ⟨by rfl, ?hy1⟩) (fun _ => rfl) ?rest1
  case hy1 => (intro w hSw; (try dsimp only at hSw); go_simp; try with_reducible rfl)
  try simp only [Act.put, List.setIfInBounds_toArray, List.set_cons_zero, List.set_cons_succ]
  refine' ordS_take (i := 1) (oi := { dst := some 7, op := Op.nilCheck (Operand.tmp 6), type := 0, pos := _, after := #[{ on := 0, ground := Ground.data }], guard := none }) (v := _) rfl (by kernel_rfl) (by kernel_rfl) (by kernel_rfl) (by kernel_rfl) (fun _ _ _ h => h) (by assumption) (Or.inl ⟨by rfl, ?hy2⟩) (fun _ => rfl) ?rest2
  case hy2 => (intro w hSw; (try dsimp only at hSw); go_simp; try with_reducible rfl)
  try simp only [Act.put, List.setIfInBounds_toArray, List.set_cons_zero, List.set_cons_succ]
  refine' ordS_take (i := 2) (oi := { dst := some 8, op := Op.fieldAddr 72 (Operand.tmp 7) 1, type := 0, pos := _, after := #[{ on := 1, ground := Ground.data }], guard := none }) (v := _) rfl (by kernel_rfl) (by kernel_rfl) (by kernel_rfl) (by kernel_rfl) (fun _ _ _ h => h) (by assumption) (Or.inl ⟨by rfl, ?hy3⟩) (fun _ => rfl) ?rest3
  case hy3 => (intro w hSw; (try dsimp only at hSw); go_simp; try with_reducible rfl)
  try simp only [Act.put, List.setIfInBounds_toArray, List.set_cons_zero, List.set_cons_succ]
  refine' ordS_take (i := 3) (oi := { dst := some 9, op := Op.load 70 (Operand.tmp 8), type := 70, pos := _, after := #[{ on := 2, ground := Ground.data }], guard := none }) (v := _) rfl (by kernel_rfl) (by kernel_rfl) (by kernel_rfl) (by kernel_rfl) (fun _ _ _ h => h) (by assumption) (Or.inl ⟨by rfl, ?hy4⟩) (fun _ => rfl) ?rest4
  case hy4 => (intro w hSw; (try dsimp only at hSw); go_simp; try with_reducible rfl)
  try simp only [Act.put, List.setIfInBounds_toArray, List.set_cons_zero, List.set_cons_succ]
  refine' ordS_take (i := 4) (oi := { dst := some 10, op := Op.move (Operand.tmp 1), type := 3, pos := _, after := #[], guard := none }) (v := _) rfl (by kernel_rfl) (by kernel_rfl) (by kernel_rfl) (by kernel_rfl) (fun _ _ _ h => h) (by assumption) (Or.inl ⟨by rfl, ?hy5⟩) (fun _ => rfl) ?rest5
  case hy5 => (intro w hSw; (try dsimp only at hSw); go_simp; try with_reducible rfl)
  try simp only [Act.put, List.setIfInBounds_toArray, List.set_cons_zero, List.set_cons_succ]
  refine' ordS_take (i := 5) (oi := { dst := some 11, op := Op.binOp BinOp.add 3 (Operand.tmp 10) (Operand.const (Value.int IntKind.i64 1)) 3, type := 3, pos := _, after := #[{ on := 4, ground := Ground.data }], guard := none }) (v := _) rfl (by kernel_rfl) (by kernel_rfl) (by kernel_rfl) (by kernel_rfl) (fun _ _ _ h => h) (by assumption) (Or.inl ⟨by rfl, ?hy6⟩) (fun _ => rfl) ?rest6
  case hy6 => (intro w hSw; (try dsimp only at hSw); go_simp; try with_reducible rfl)
  try simp only [Act.put, List.setIfInBounds_toArray, List.set_cons_zero, List.set_cons_succ]
  refine' ordS_take (i := 7) (oi := { dst := some 13, op := Op.move (Operand.tmp 0), type := 23, pos := _, after := #[], guard := none }) (v := _) rfl (by kernel_rfl) (by kernel_rfl) (by kernel_rfl) (by kernel_rfl) (fun _ _ _ h => h) (by assumption) (Or.inl ⟨by rfl, ?hy7⟩) (fun _ => rfl) ?rest7
  case hy7 => (intro w hSw; (try dsimp only at hSw); go_simp; try with_reducible rfl)
  try simp only [Act.put, List.setIfInBounds_toArray, List.set_cons_zero, List.set_cons_succ]
  refine' ordS_take (i := 8) (oi := { dst := some 14, op := Op.nilCheck (Operand.tmp 13), type := 0, pos := _, after := #[{ on := 7, ground := Ground.data }], guard := none }) (v := _) rfl (by kernel_rfl) (by kernel_rfl) (by kernel_rfl) (by kernel_rfl) (fun _ _ _ h => h) (by assumption) (Or.inl ⟨by rfl, ?hy8⟩) (fun _ => rfl) ?rest8
  case hy8 => (intro w hSw; (try dsimp only at hSw); go_simp; try with_reducible rfl)
  try simp only [Act.put, List.setIfInBounds_toArray, List.set_cons_zero, List.set_cons_succ]
  refine' ordS_take (i := 9) (oi := { dst := some 15, op := Op.fieldAddr 72 (Operand.tmp 14) 1, type := 0, pos := _, after := #[{ on := 8, ground := Ground.data }], guard := none }) (v := _) rfl (by kernel_rfl) (by kernel_rfl) (by kernel_rfl) (by kernel_rfl) (fun _ _ _ h => h) (by assumption) (Or.inl ⟨by rfl, ?hy9⟩) (fun _ => rfl) ?rest9
  case hy9 => (intro w hSw; (try dsimp only at hSw); go_simp; try with_reducible rfl)
  try simp only [Act.put, List.setIfInBounds_toArray, List.set_cons_zero, List.set_cons_succ]
  refine' ordS_take (i := 10) (oi := { dst := some 16, op := Op.load 70 (Operand.tmp 15), type := 70, pos := _, after := #[{ on := 9, ground := Ground.data }], guard := none }) (v := _) rfl (by kernel_rfl) (by kernel_rfl) (by kernel_rfl) (by kernel_rfl) (fun _ _ _ h => h) (by assumption) (Or.inl ⟨by rfl, ?hy10⟩) (fun _ => rfl) ?rest10
  case hy10 => (intro w hSw; (try dsimp only at hSw); go_simp; try with_reducible rfl)
  try simp only [Act.put, List.setIfInBounds_toArray, List.set_cons_zero, List.set_cons_succ]
  refine' ordS_take (i := 11) (oi := { dst := some 17, op := Op.move (Operand.tmp 1), type := 3, pos := _, after := #[], guard := none }) (v := _) rfl (by kernel_rfl) (by kernel_rfl) (by kernel_rfl) (by kernel_rfl) (fun _ _ _ h => h) (by assumption) (Or.inl ⟨by rfl, ?hy11⟩) (fun _ => rfl) ?rest11
  case hy11 => (intro w hSw; (try dsimp only at hSw); go_simp; try with_reducible rfl)
  try simp only [Act.put, List.setIfInBounds_toArray, List.set_cons_zero, List.set_cons_succ]
  refine' ordS_take (i := 6) (oi := { dst := some 12, op := Op.slice 70 (Operand.tmp 9) (some (Operand.const (Value.int IntKind.i64 1))) (some (Operand.tmp 11)) none, type := 70, pos := _, after := #[{ on := 3, ground := Ground.data }, { on := 5, ground := Ground.data }], guard := none }) (v := _) rfl (by kernel_rfl) (by kernel_rfl) (by kernel_rfl) (by kernel_rfl) (fun _ _ _ h => h) (by assumption) (Or.inl ⟨by rfl, ?hy12⟩) (fun _ => rfl) ?rest12
  case hy12 => (intro w hSw; (try dsimp only at hSw); go_simp; try with_reducible rfl)
  try simp only [Act.put, List.setIfInBounds_toArray, List.set_cons_zero, List.set_cons_succ]
  refine' ordS_take (i := 12) (oi := { dst := some 18, op := Op.slice 70 (Operand.tmp 16) none (some (Operand.tmp 17)) none, type := 70, pos := _, after := #[{ on := 10, ground := Ground.data }, { on := 11, ground := Ground.data }], guard := none }) (v := _) rfl (by kernel_rfl) (by kernel_rfl) (by kernel_rfl) (by kernel_rfl) (fun _ _ _ h => h) (by assumption) (Or.inl ⟨by rfl, ?hy13⟩) (fun _ => rfl) ?rest13
  case hy13 => (intro w hSw; (try dsimp only at hSw); go_simp; try with_reducible rfl)
  try simp only [Act.put, List.setIfInBounds_toArray, List.set_cons_zero, List.set_cons_succ]
  refine ordS_one (i := 13) (o := { dst := some 19, op := Op.call { callee := Callee.builtin Builtin.copy, args := #[Operand.tmp 12, Operand.tmp 18], argTypes := #[70, 70] }, type := 3, pos := _, after := #[{ on := 6, ground := Ground.data }, { on := 12, ground := Ground.data }], guard := none }) (by kernel_rfl) rfl (by rfl) (fun K hK => ?_)
  go_simp
  refine hK _ _ c1 ?_
  clear hK K hH hcp
  try simp only [Act.put, List.setIfInBounds_toArray, List.set_cons_zero, List.set_cons_succ]
  refine ordS_done (by kernel_rfl) ?_
  generalize (if cap = 1 then (some ⟨g, 0, none⟩ : Option Addr) else some ⟨g, 1, none⟩) = D
  go_wp2
  go_end0
  exact ⟨rfl, HO.out, HK.out⟩
end Go.Proofs.Ytbmpgafndpdnbaa
