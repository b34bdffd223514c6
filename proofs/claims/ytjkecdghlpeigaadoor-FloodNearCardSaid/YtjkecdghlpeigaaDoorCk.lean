/- Least costs: from which cell one is reached. -/
import Derived.Test.YtjkecdghlpeigaaDoorCj
namespace Go.Proofs.YtjkecdghlpeigaaDoor
open Go.RowKit Go.Shelf
attribute [local go_sem] Oper.semAt_some

/-- Whether one is reached from another one at least cost. -/
def fromB (zs ds : List Int) (i j : Nat) : Bool := addC (atD ds j) (zs.getD i 0) == atD ds i
/-- The first one from which one is reached. -/
def aheadF (A B : Int) (zs ds : List Int) (i : Nat) : Option Nat := (nbO A B zs i).find? (fromB zs ds i)
theorem find_pre {p : Nat → Bool} {xs pre : List Nat} {x : Nat} (h : pre ++ [x] <+: xs) (hn : ∀ j ∈ pre, p j = false) (hx : p x = true) : xs.find? p = some x := by
  obtain ⟨t, rfl⟩ := h
  rw [List.append_assoc, List.find?_append]
  rw [show pre.find? p = none from List.find?_eq_none.2 (fun j hj => by rw [hn j hj]; decide)]
  simp [hx]

/-- Two blocks are turned. -/
def Two2 (a b : Nat) (A B : World) : Prop := (B.os = A.os ∧ B.tape = A.tape ∧ B.output = A.output ∧ A.heap.size ≤ B.heap.size) ∧ ∀ k, k < A.heap.size → k ≠ a → k ≠ b → B.heap[k]? = A.heap[k]?
theorem gq2_set (A : World) (a b : Nat) (u v : Value) : Two2 a b A ((A.setCell ⟨a, 0, none⟩ u).setCell ⟨b, 0, none⟩ v) := by
  have h1 := hgrown_set A a 0 u
  have h2 := hgrown_set (A.setCell ⟨a, 0, none⟩ u) b 0 v
  exact ⟨⟨h2.os.trans h1.os, h2.tape.trans h1.tape, h2.output.trans h1.output, Nat.le_trans h1.size h2.size⟩, fun k hk ha hb => (h2.block k (Nat.lt_of_lt_of_le hk h1.size) (fun e => hb (by cases e; rfl))).trans (h1.block k hk (fun e => ha (by cases e; rfl)))⟩
theorem Two2.kp {a b p c : Nat} {W A B : World} (h : Two2 a b A B) (hb : Below W.heap.size W A) (hp : (a < p ∧ b < p) ∧ p + c ≤ W.heap.size) : KP p c W B :=
  ⟨Nat.le_trans hb.size h.1.2.2.2, fun k h1 h2 => (h.2 k (Nat.lt_of_lt_of_le (by omega) hb.size) (by omega) (by omega)).trans (hb.block k (by omega))⟩
theorem Two2.bel {a b n : Nat} {A B : World} (h : Two2 a b A B) (hn : n ≤ A.heap.size) (hp : n ≤ a ∧ n ≤ b) : Below n A B :=
  ⟨h.1.1, h.1.2.1, h.1.2.2.1, h.1.2.2.2, fun k hk => h.2 k (by omega) (by omega) (by omega)⟩
/-- What the loop holds: all lies, and none was found. -/
def AhI (w0 : World) (zs ds : List Int) (i C : Nat) (pre : List Nat) (W : World) : Prop := Below w0.heap.size w0 W ∧ C < W.heap.size ∧ ∀ j ∈ pre, fromB zs ds i j = false
set_option maxRecDepth 100000 in
set_option maxHeartbeats 4000000 in
theorem fahead_any (A B : Int) (a b : Option Addr) (cap cap2 : Nat) (zs ds : List Int) (i : Nat) (w : World) (hm : mayB A B = true) (hn : (zs.length : Int) = A * B) (hz : AllH zs) (hdu : AllU ds) (hdl : ds.length = zs.length) (hr : RowH w a zs) (hru : RowU w b ds) (hst : Stp w) (hi : i < zs.length) :
    Calls Tryd.prog 67 #[.agg #[.int .i64 A, .int .i64 B, .slice a zs.length cap], .slice b zs.length cap2, .int .i64 (i : Int)] w fun e w' => e = .returned (.tuple #[.int .i64 (((aheadF A B zs ds i).getD 0 : Nat) : Int), .bool (aheadF A B zs ds i).isSome]) ∧ Below w.heap.size w w' := by
  have HN := Lib.hid hn
  have HDL := Lib.hid hdl
  obtain ⟨F, hF⟩ : ∃ F, aheadF A B zs ds i = F := ⟨_, rfl⟩
  have HF := Lib.hid hF
  rw [hF]
  clear hF hn hdl
  have hA0 := bl_al (bl_al (bl_al (bl_al (bl_al (bl0 w) (.cells #[.int .i64 A, .int .i64 B, .slice a zs.length cap] 26)) (.cells #[.slice b zs.length cap2] 33)) (.cells #[.int .i64 (i : Int)] 3)) (.cells #[.int .i64 0] 3)) (.cells #[.bool false] 4)
  refine (callsIn_wide (n := 11)).1 (callsIn_of_wp_marks Tryd.func67 rfl trivial ?_ rfl)
  simp only [Tryd.ntmps67, List.size_toArray, List.length_cons, List.length_nil, Nat.reduceAdd, Nat.reduceSub, Array.replicate_succ, Array.replicate_zero, List.push_toArray, List.append_toArray, List.nil_append, List.cons_append]
  refine wpIn_wide.2 ?_
  go_wp2_with fail
  obtain ⟨w0, hw0⟩ : ∃ w0, ((((w.alloc (.cells #[.int .i64 A, .int .i64 B, .slice a zs.length cap] 26)).alloc (.cells #[.slice b zs.length cap2] 33)).alloc (.cells #[.int .i64 (i : Int)] 3)).alloc (.cells #[.int .i64 0] 3)).alloc (.cells #[.bool false] 4) = w0 := ⟨_, rfl⟩
  have z0 : w0.heap.size = w.heap.size + 5 := by rw [← hw0]; simp
  have f2 : w0.cell? ⟨w.heap.size, 2, none⟩ = some (.slice a zs.length cap) := by rw [← hw0]; simp [go_sem]
  have r0 : w0.cell? ⟨w.heap.size + 1, 0, none⟩ = some (.slice b zs.length cap2) := by rw [← hw0]; simp [go_sem]
  have i0 : w0.cell? ⟨w.heap.size + 1 + 1, 0, none⟩ = some (.int .i64 (i : Int)) := by rw [← hw0]; simp [go_sem]
  have o1 : Boxed w0 (w.heap.size + 1 + 1 + 1) 3 (.int .i64 0) := by
    rw [← hw0]
    have h := Boxed.new (((w.alloc (.cells #[.int .i64 A, .int .i64 B, .slice a zs.length cap] 26)).alloc (.cells #[.slice b zs.length cap2] 33)).alloc (.cells #[.int .i64 (i : Int)] 3)) 3 (.int .i64 0)
    simp only [World.size_alloc] at h
    exact h.kept (grown_of_below (bl_al (bl0 _) _)) (fun e => by cases e)
  have o2 : Boxed w0 (w.heap.size + 1 + 1 + 1 + 1) 4 (.bool false) := by
    rw [← hw0]
    have h := Boxed.new ((((w.alloc (.cells #[.int .i64 A, .int .i64 B, .slice a zs.length cap] 26)).alloc (.cells #[.slice b zs.length cap2] 33)).alloc (.cells #[.int .i64 (i : Int)] 3)).alloc (.cells #[.int .i64 0] 3)) 4 (.bool false)
    simp only [World.size_alloc] at h
    exact h
  rw [hw0] at hA0 ⊢
  have Z0 : w.heap.size + 5 ≤ w0.heap.size := by omega
  clear hw0 z0
  refine (beside_mk _ _ _ _ _ _ _).mono ?_
  rintro e W3 ⟨rfl, hbes, hz3, hb3⟩
  obtain ⟨pI, hpI⟩ : ∃ pI, w0.heap.size = pI := ⟨_, rfl⟩
  rw [hpI] at hbes hz3 ⊢
  have hz4 : pI + 2 ≤ W3.heap.size := by omega
  have hpI2 : w.heap.size + 5 ≤ pI := by omega
  have HP := Lib.hid hpI
  clear hz3 hpI
  go_wp2_with fail
  have hb30 : Below w0.heap.size w0 W3 := hb3
  have hsz30 := hb30.size
  refine wpIn_wide.1 (range_s pI 2 81 #[.pointer (some ⟨pI, 0, none⟩), .pointer (some ⟨pI + 1, 0, none⟩)] (nbO A B zs i) (fun W => RowH W a zs ∧ Stp W) (iter_beside pI A B _ cap zs i hm HN.out hi W3 hbes) rfl (fun _ => rfl) hz4 (enters_of Tryd.func81 (by kernel_rfl) rfl)
    (fun C pre W => AhI w0 zs ds i C pre W)
    (fun C cc pre W => cc = .ret ∧ Below w.heap.size w W ∧ ∃ x : Nat, Boxed W (w.heap.size + 1 + 1 + 1) 3 (.int .i64 (x : Int)) ∧ Boxed W (w.heap.size + 1 + 1 + 1 + 1) 4 (.bool true) ∧ F = some x)
    ?hI ?hIx ?hIp ?hIR ?hIxR ?h0
    (fun x a' W => ∃ y0 y1 y2 y9 y10 y11 y12 y13 y14 y15 y16 y17 y18 y19 y20 y21 y22 y23 y24 y25 y26 y27 y28 y29 : Value, a' = { tmps := #[y0, y1, y2, .pointer (some ⟨w.heap.size, 0, none⟩), .pointer (some ⟨w.heap.size + 1, 0, none⟩), .pointer (some ⟨w.heap.size + 1 + 1, 0, none⟩), .pointer (some ⟨w.heap.size + 1 + 1 + 1, 0, none⟩), .pointer (some ⟨w.heap.size + 1 + 1 + 1 + 1, 0, none⟩), .int .i64 (x : Int), y9, y10, y11, y12, y13, y14, y15, y16, y17, y18, y19, y20, y21, y22, y23, y24, y25, y26, y27, y28, y29], defers := [] }) ?ax ?assign ?body ?done ?stop)
  case hI =>
    rintro C pre A' B' row ⟨h1, h2, h3⟩ hg hr
    exact ⟨h1.grown hg h1.size (fun r e => by have := hr r e; omega), Nat.lt_of_lt_of_le h2 hg.size, h3⟩
  case hIx =>
    rintro C cc pre A' B' row ⟨h1, h2, x, h3, h4, h5⟩ hg hr
    exact ⟨h1, h2.grown hg h2.size (fun r e => by have := hr r e; omega), x, h3.kept hg (fun e => by have := hr _ e.symm; omega), h4.kept hg (fun e => by have := hr _ e.symm; omega), h5⟩
  case hIp =>
    rintro C pre A' B' row ⟨h1, h2, h3⟩ hg hr
    exact ⟨h1.grown hg h1.size (fun r e => by have := hr r e; have := HP.out; omega), Nat.lt_of_lt_of_le h2 hg.size, h3⟩
  case hIR =>
    rintro C pre W ⟨h1, h2, h3⟩
    have h := bl_tr hA0 h1
    exact ⟨hr.below h, hst.below h⟩
  case hIxR =>
    rintro C cc pre W ⟨h1, h2, h3⟩
    exact ⟨hr.below h2, hst.below h2⟩
  case h0 =>
    intro W' C hb hC1 hC2
    exact ⟨bl_tr hb30 hb, hC2, fun j hj => by cases hj⟩
  case ax =>
    rintro x a' _ A' B' row ⟨y0, y1, y2, y9, y10, y11, y12, y13, y14, y15, y16, y17, y18, y19, y20, y21, y22, y23, y24, y25, y26, y27, y28, y29, h⟩ hg hr
    exact ⟨_, _, _, _, _, _, _, _, _, _, _, _, _, _, _, _, _, _, _, _, _, _, _, _, h⟩
  case assign =>
    rintro C pre x W K hC hI hK
    have HK := Lib.hid hK
    have HI := Lib.hid hI
    clear hK hI
    simp [encI]
    gi_wp2
    exact HK.out _ W (KP.refl _ _ _) (KP.refl _ _ _) (KP.refl _ _ _) HI.out ⟨_, _, _, _, _, _, _, _, _, _, _, _, _, _, _, _, _, _, _, _, _, _, _, _, rfl⟩
  case body =>
    rintro C pre x a' W hC ⟨lr, hlr⟩ hI ⟨y0, y1, y2, y9, y10, y11, y12, y13, y14, y15, y16, y17, y18, y19, y20, y21, y22, y23, y24, y25, y26, y27, y28, y29, rfl⟩ hpre
    have hxl : x < zs.length := by
      obtain ⟨_, h⟩ := (mem_nbO HN.out).1 (hpre.subset (List.mem_append_right _ (List.mem_singleton.2 rfl)))
      exact h.1
    obtain ⟨hI1, hI2, hI3⟩ := hI
    have hA := bl_tr hA0 hI1
    have hD := bl_dr (bl0 W)
    have hAD := bl_tr hA hD
    have hID := bl_tr hI1 hD
    have g2 := cell_later hID f2
    have q0 := cell_later hID r0
    have j0 := cell_later hID i0
    obtain ⟨gb, go, rfl, qz⟩ := (hr.below hAD).cell hi
    obtain ⟨gd, gq, rfl, qx⟩ := (hru.below hAD).cell (show x < ds.length by rw [HDL.out]; exact hxl)
    obtain ⟨gd', gq', e, qi⟩ := (hru.below hAD).cell (show i < ds.length by rw [HDL.out]; exact hi)
    cases e
    rw [getD_get hi] at qz
    have hx0 : (0 : Int) ≤ (x : Int) := by omega
    have hx1 : (x : Int) < (zs.length : Int) := by omega
    have hi0 : (0 : Int) ≤ (i : Int) := by omega
    have hi1 : (i : Int) < (zs.length : Int) := by omega
    have hzi := getD_in hz i
    have hux : inU (atD ds x) := by rw [← atD_get (show x < ds.length by rw [HDL.out]; exact hxl)]; exact hdu _ (List.getElem_mem _)
    obtain ⟨t, ht⟩ : ∃ t, fromB zs ds i x = t := ⟨_, rfl⟩
    have HFX := Lib.hid ht
    unfold fromB at ht
    obtain ⟨z, hzz⟩ : ∃ z, zs.getD i 0 = z := ⟨_, rfl⟩
    rw [hzz] at qz hzi ht
    obtain ⟨dx, hdx⟩ : ∃ dx, atD ds x = dx := ⟨_, rfl⟩
    rw [hdx] at qx hux ht
    obtain ⟨di, hdi⟩ : ∃ di, atD ds i = di := ⟨_, rfl⟩
    rw [hdi] at qi ht
    have hac := fun W => add_any dx z W hux ⟨hzi.1, by omega⟩
    have hwz : IntKind.u64.wrap z = z := IntWalk.u64_in _ (by omega)
    obtain ⟨sm, hsm⟩ : ∃ sm, addC dx z = sm := ⟨_, rfl⟩
    rw [hsm] at hac ht
    have HPRE := Lib.hid hpre
    have HI3 := Lib.hid hI3
    have HI1 := Lib.hid hI1
    have b1 := o1.kept (grown_of_below hID) (fun e => by cases e)
    have b2 := o2.kept (grown_of_below hID) (fun e => by cases e)
    have HB1 := Lib.hid b1
    have HB2 := Lib.hid b2
    have c1 := b1.cell
    have c2 := b2.cell
    have d1 := (o1.kept (grown_of_below hI1) (fun e => by cases e)).frozen
    have d2 := (o2.kept (grown_of_below hI1) (fun e => by cases e)).frozen
    have c3 := (o1.kept (grown_of_below hI1) (fun e => by cases e)).cell
    have c4 := (o2.kept (grown_of_below hI1) (fun e => by cases e)).cell
    have l1 := (o1.kept (grown_of_below hI1) (fun e => by cases e)).lt
    have l2 := (o2.kept (grown_of_below hI1) (fun e => by cases e)).lt
    clear b1 b2
    have HA := Lib.hid hA
    have hwz2 := hI1.size
    clear hzz hdx hdi hsm hpre hI3 hux hzi hA hlr hI1 hAD hID hr hru hbes
    gi_wp2
    have hS : W.drew.cell? ⟨w.heap.size, 2, none⟩ = some (.slice (some ⟨gb, go, none⟩) zs.length cap) ∧ W.drew.cell? ⟨w.heap.size + 1, 0, none⟩ = some (.slice (some ⟨gd, gq, none⟩) zs.length cap2) ∧ W.drew.cell? ⟨w.heap.size + 1 + 1, 0, none⟩ = some (.int .i64 (i : Int)) ∧ W.drew.cell? ⟨gb, go + i, none⟩ = some (.int .u16 z) ∧ W.drew.cell? ⟨gd, gq + x, none⟩ = some (.int .u64 dx) ∧ W.drew.cell? ⟨gd, gq + i, none⟩ = some (.int .u64 di) := ⟨g2, q0, j0, qz, qx, qi⟩
    refine ordS_begin (S := (fun w' : World => w'.cell? ⟨w.heap.size, 2, none⟩ = some (.slice (some ⟨gb, go, none⟩) zs.length cap) ∧ w'.cell? ⟨w.heap.size + 1, 0, none⟩ = some (.slice (some ⟨gd, gq, none⟩) zs.length cap2) ∧ w'.cell? ⟨w.heap.size + 1 + 1, 0, none⟩ = some (.int .i64 (i : Int)) ∧ w'.cell? ⟨gb, go + i, none⟩ = some (.int .u16 z) ∧ w'.cell? ⟨gd, gq + x, none⟩ = some (.int .u64 dx) ∧ w'.cell? ⟨gd, gq + i, none⟩ = some (.int .u64 di))) (by kernel_rfl) hS (fun hH => ?_)
    first
      | (refine' ordS_take (i := 0) (oi := { dst := some 13, op := Op.load 33 (Operand.tmp 4), type := 33, pos := _, after := #[], guard := none }) (v := _) rfl (by kernel_rfl) (by kernel_rfl) (by kernel_rfl) (by kernel_rfl) (fun _ _ _ h => h) (by assumption) (Or.inl ⟨by rfl, ?hy1⟩) (fun _ => rfl) ?rest1
         case hy1 => (intro w hSw; (try dsimp only at hSw); go_simp; try with_reducible rfl))
      | (refine ordS_take (i := 0) (oi := { dst := some 13, op := Op.load 33 (Operand.tmp 4), type := 33, pos := _, after := #[], guard := none }) (v := undef) rfl (by kernel_rfl) (by kernel_rfl) (by kernel_rfl) (by kernel_rfl) (fun _ _ _ h => h) (by assumption) (Or.inr ⟨by rfl, rfl⟩) (fun _ => rfl) ?_)
    try simp only [Act.put, List.setIfInBounds_toArray, List.set_cons_zero, List.set_cons_succ]
    first
      | (refine' ordS_take (i := 1) (oi := { dst := some 14, op := Op.move (Operand.tmp 8), type := 3, pos := _, after := #[], guard := none }) (v := _) rfl (by kernel_rfl) (by kernel_rfl) (by kernel_rfl) (by kernel_rfl) (fun _ _ _ h => h) (by assumption) (Or.inl ⟨by rfl, ?hy2⟩) (fun _ => rfl) ?rest2
         case hy2 => (intro w hSw; (try dsimp only at hSw); go_simp; try with_reducible rfl))
      | (refine ordS_take (i := 1) (oi := { dst := some 14, op := Op.move (Operand.tmp 8), type := 3, pos := _, after := #[], guard := none }) (v := undef) rfl (by kernel_rfl) (by kernel_rfl) (by kernel_rfl) (by kernel_rfl) (fun _ _ _ h => h) (by assumption) (Or.inr ⟨by rfl, rfl⟩) (fun _ => rfl) ?_)
    try simp only [Act.put, List.setIfInBounds_toArray, List.set_cons_zero, List.set_cons_succ]
    first
      | (refine' ordS_take (i := 2) (oi := { dst := some 15, op := Op.indexAddr 33 (Operand.tmp 13) (Operand.tmp 14), type := 0, pos := _, after := #[{ on := 0, ground := Ground.data }, { on := 1, ground := Ground.data }], guard := none }) (v := _) rfl (by kernel_rfl) (by kernel_rfl) (by kernel_rfl) (by kernel_rfl) (fun _ _ _ h => h) (by assumption) (Or.inl ⟨by rfl, ?hy3⟩) (fun _ => rfl) ?rest3
         case hy3 => (intro w hSw; (try dsimp only at hSw); go_simp; try with_reducible rfl))
      | (refine ordS_take (i := 2) (oi := { dst := some 15, op := Op.indexAddr 33 (Operand.tmp 13) (Operand.tmp 14), type := 0, pos := _, after := #[{ on := 0, ground := Ground.data }, { on := 1, ground := Ground.data }], guard := none }) (v := undef) rfl (by kernel_rfl) (by kernel_rfl) (by kernel_rfl) (by kernel_rfl) (fun _ _ _ h => h) (by assumption) (Or.inr ⟨by rfl, rfl⟩) (fun _ => rfl) ?_)
    try simp only [Act.put, List.setIfInBounds_toArray, List.set_cons_zero, List.set_cons_succ]
    first
      | (refine' ordS_take (i := 3) (oi := { dst := some 16, op := Op.load 45 (Operand.tmp 15), type := 45, pos := _, after := #[{ on := 2, ground := Ground.data }], guard := none }) (v := _) rfl (by kernel_rfl) (by kernel_rfl) (by kernel_rfl) (by kernel_rfl) (fun _ _ _ h => h) (by assumption) (Or.inl ⟨by rfl, ?hy4⟩) (fun _ => rfl) ?rest4
         case hy4 => (intro w hSw; (try dsimp only at hSw); go_simp; try with_reducible rfl))
      | (refine ordS_take (i := 3) (oi := { dst := some 16, op := Op.load 45 (Operand.tmp 15), type := 45, pos := _, after := #[{ on := 2, ground := Ground.data }], guard := none }) (v := undef) rfl (by kernel_rfl) (by kernel_rfl) (by kernel_rfl) (by kernel_rfl) (fun _ _ _ h => h) (by assumption) (Or.inr ⟨by rfl, rfl⟩) (fun _ => rfl) ?_)
    try simp only [Act.put, List.setIfInBounds_toArray, List.set_cons_zero, List.set_cons_succ]
    first
      | (refine' ordS_take (i := 4) (oi := { dst := some 17, op := Op.fieldAddr 26 (Operand.tmp 3) 1, type := 0, pos := _, after := #[], guard := none }) (v := _) rfl (by kernel_rfl) (by kernel_rfl) (by kernel_rfl) (by kernel_rfl) (fun _ _ _ h => h) (by assumption) (Or.inl ⟨by rfl, ?hy5⟩) (fun _ => rfl) ?rest5
         case hy5 => (intro w hSw; (try dsimp only at hSw); go_simp; try with_reducible rfl))
      | (refine ordS_take (i := 4) (oi := { dst := some 17, op := Op.fieldAddr 26 (Operand.tmp 3) 1, type := 0, pos := _, after := #[], guard := none }) (v := undef) rfl (by kernel_rfl) (by kernel_rfl) (by kernel_rfl) (by kernel_rfl) (fun _ _ _ h => h) (by assumption) (Or.inr ⟨by rfl, rfl⟩) (fun _ => rfl) ?_)
    try simp only [Act.put, List.setIfInBounds_toArray, List.set_cons_zero, List.set_cons_succ]
    first
      | (refine' ordS_take (i := 5) (oi := { dst := some 18, op := Op.load 24 (Operand.tmp 17), type := 24, pos := _, after := #[{ on := 4, ground := Ground.data }], guard := none }) (v := _) rfl (by kernel_rfl) (by kernel_rfl) (by kernel_rfl) (by kernel_rfl) (fun _ _ _ h => h) (by assumption) (Or.inl ⟨by rfl, ?hy6⟩) (fun _ => rfl) ?rest6
         case hy6 => (intro w hSw; (try dsimp only at hSw); go_simp; try with_reducible rfl))
      | (refine ordS_take (i := 5) (oi := { dst := some 18, op := Op.load 24 (Operand.tmp 17), type := 24, pos := _, after := #[{ on := 4, ground := Ground.data }], guard := none }) (v := undef) rfl (by kernel_rfl) (by kernel_rfl) (by kernel_rfl) (by kernel_rfl) (fun _ _ _ h => h) (by assumption) (Or.inr ⟨by rfl, rfl⟩) (fun _ => rfl) ?_)
    try simp only [Act.put, List.setIfInBounds_toArray, List.set_cons_zero, List.set_cons_succ]
    first
      | (refine' ordS_take (i := 6) (oi := { dst := some 19, op := Op.load 3 (Operand.tmp 5), type := 3, pos := _, after := #[], guard := none }) (v := _) rfl (by kernel_rfl) (by kernel_rfl) (by kernel_rfl) (by kernel_rfl) (fun _ _ _ h => h) (by assumption) (Or.inl ⟨by rfl, ?hy7⟩) (fun _ => rfl) ?rest7
         case hy7 => (intro w hSw; (try dsimp only at hSw); go_simp; try with_reducible rfl))
      | (refine ordS_take (i := 6) (oi := { dst := some 19, op := Op.load 3 (Operand.tmp 5), type := 3, pos := _, after := #[], guard := none }) (v := undef) rfl (by kernel_rfl) (by kernel_rfl) (by kernel_rfl) (by kernel_rfl) (fun _ _ _ h => h) (by assumption) (Or.inr ⟨by rfl, rfl⟩) (fun _ => rfl) ?_)
    try simp only [Act.put, List.setIfInBounds_toArray, List.set_cons_zero, List.set_cons_succ]
    first
      | (refine' ordS_take (i := 7) (oi := { dst := some 20, op := Op.indexAddr 24 (Operand.tmp 18) (Operand.tmp 19), type := 0, pos := _, after := #[{ on := 5, ground := Ground.data }, { on := 6, ground := Ground.data }], guard := none }) (v := _) rfl (by kernel_rfl) (by kernel_rfl) (by kernel_rfl) (by kernel_rfl) (fun _ _ _ h => h) (by assumption) (Or.inl ⟨by rfl, ?hy8⟩) (fun _ => rfl) ?rest8
         case hy8 => (intro w hSw; (try dsimp only at hSw); go_simp; try with_reducible rfl))
      | (refine ordS_take (i := 7) (oi := { dst := some 20, op := Op.indexAddr 24 (Operand.tmp 18) (Operand.tmp 19), type := 0, pos := _, after := #[{ on := 5, ground := Ground.data }, { on := 6, ground := Ground.data }], guard := none }) (v := undef) rfl (by kernel_rfl) (by kernel_rfl) (by kernel_rfl) (by kernel_rfl) (fun _ _ _ h => h) (by assumption) (Or.inr ⟨by rfl, rfl⟩) (fun _ => rfl) ?_)
    try simp only [Act.put, List.setIfInBounds_toArray, List.set_cons_zero, List.set_cons_succ]
    first
      | (refine' ordS_take (i := 8) (oi := { dst := some 21, op := Op.load 53 (Operand.tmp 20), type := 53, pos := _, after := #[{ on := 7, ground := Ground.data }], guard := none }) (v := _) rfl (by kernel_rfl) (by kernel_rfl) (by kernel_rfl) (by kernel_rfl) (fun _ _ _ h => h) (by assumption) (Or.inl ⟨by rfl, ?hy9⟩) (fun _ => rfl) ?rest9
         case hy9 => (intro w hSw; (try dsimp only at hSw); go_simp; try with_reducible rfl))
      | (refine ordS_take (i := 8) (oi := { dst := some 21, op := Op.load 53 (Operand.tmp 20), type := 53, pos := _, after := #[{ on := 7, ground := Ground.data }], guard := none }) (v := undef) rfl (by kernel_rfl) (by kernel_rfl) (by kernel_rfl) (by kernel_rfl) (fun _ _ _ h => h) (by assumption) (Or.inr ⟨by rfl, rfl⟩) (fun _ => rfl) ?_)
    try simp only [Act.put, List.setIfInBounds_toArray, List.set_cons_zero, List.set_cons_succ]
    first
      | (refine' ordS_take (i := 9) (oi := { dst := some 22, op := Op.convert 53 45 (Operand.tmp 21), type := 45, pos := _, after := #[{ on := 8, ground := Ground.data }], guard := none }) (v := _) rfl (by kernel_rfl) (by kernel_rfl) (by kernel_rfl) (by kernel_rfl) (fun _ _ _ h => h) (by assumption) (Or.inl ⟨by rfl, ?hy10⟩) (fun _ => rfl) ?rest10
         case hy10 => (intro w hSw; (try dsimp only at hSw); go_simp; try with_reducible rfl))
      | (refine ordS_take (i := 9) (oi := { dst := some 22, op := Op.convert 53 45 (Operand.tmp 21), type := 45, pos := _, after := #[{ on := 8, ground := Ground.data }], guard := none }) (v := undef) rfl (by kernel_rfl) (by kernel_rfl) (by kernel_rfl) (by kernel_rfl) (fun _ _ _ h => h) (by assumption) (Or.inr ⟨by rfl, rfl⟩) (fun _ => rfl) ?_)
    try simp only [Act.put, List.setIfInBounds_toArray, List.set_cons_zero, List.set_cons_succ]
    first
      | (refine' ordS_take (i := 11) (oi := { dst := some 24, op := Op.load 33 (Operand.tmp 4), type := 33, pos := _, after := #[], guard := none }) (v := _) rfl (by kernel_rfl) (by kernel_rfl) (by kernel_rfl) (by kernel_rfl) (fun _ _ _ h => h) (by assumption) (Or.inl ⟨by rfl, ?hy11⟩) (fun _ => rfl) ?rest11
         case hy11 => (intro w hSw; (try dsimp only at hSw); go_simp; try with_reducible rfl))
      | (refine ordS_take (i := 11) (oi := { dst := some 24, op := Op.load 33 (Operand.tmp 4), type := 33, pos := _, after := #[], guard := none }) (v := undef) rfl (by kernel_rfl) (by kernel_rfl) (by kernel_rfl) (by kernel_rfl) (fun _ _ _ h => h) (by assumption) (Or.inr ⟨by rfl, rfl⟩) (fun _ => rfl) ?_)
    try simp only [Act.put, List.setIfInBounds_toArray, List.set_cons_zero, List.set_cons_succ]
    first
      | (refine' ordS_take (i := 12) (oi := { dst := some 25, op := Op.load 3 (Operand.tmp 5), type := 3, pos := _, after := #[], guard := none }) (v := _) rfl (by kernel_rfl) (by kernel_rfl) (by kernel_rfl) (by kernel_rfl) (fun _ _ _ h => h) (by assumption) (Or.inl ⟨by rfl, ?hy12⟩) (fun _ => rfl) ?rest12
         case hy12 => (intro w hSw; (try dsimp only at hSw); go_simp; try with_reducible rfl))
      | (refine ordS_take (i := 12) (oi := { dst := some 25, op := Op.load 3 (Operand.tmp 5), type := 3, pos := _, after := #[], guard := none }) (v := undef) rfl (by kernel_rfl) (by kernel_rfl) (by kernel_rfl) (by kernel_rfl) (fun _ _ _ h => h) (by assumption) (Or.inr ⟨by rfl, rfl⟩) (fun _ => rfl) ?_)
    try simp only [Act.put, List.setIfInBounds_toArray, List.set_cons_zero, List.set_cons_succ]
    first
      | (refine' ordS_take (i := 13) (oi := { dst := some 26, op := Op.indexAddr 33 (Operand.tmp 24) (Operand.tmp 25), type := 0, pos := _, after := #[{ on := 11, ground := Ground.data }, { on := 12, ground := Ground.data }], guard := none }) (v := _) rfl (by kernel_rfl) (by kernel_rfl) (by kernel_rfl) (by kernel_rfl) (fun _ _ _ h => h) (by assumption) (Or.inl ⟨by rfl, ?hy13⟩) (fun _ => rfl) ?rest13
         case hy13 => (intro w hSw; (try dsimp only at hSw); go_simp; try with_reducible rfl))
      | (refine ordS_take (i := 13) (oi := { dst := some 26, op := Op.indexAddr 33 (Operand.tmp 24) (Operand.tmp 25), type := 0, pos := _, after := #[{ on := 11, ground := Ground.data }, { on := 12, ground := Ground.data }], guard := none }) (v := undef) rfl (by kernel_rfl) (by kernel_rfl) (by kernel_rfl) (by kernel_rfl) (fun _ _ _ h => h) (by assumption) (Or.inr ⟨by rfl, rfl⟩) (fun _ => rfl) ?_)
    try simp only [Act.put, List.setIfInBounds_toArray, List.set_cons_zero, List.set_cons_succ]
    first
      | (refine' ordS_take (i := 14) (oi := { dst := some 27, op := Op.load 45 (Operand.tmp 26), type := 45, pos := _, after := #[{ on := 13, ground := Ground.data }], guard := none }) (v := _) rfl (by kernel_rfl) (by kernel_rfl) (by kernel_rfl) (by kernel_rfl) (fun _ _ _ h => h) (by assumption) (Or.inl ⟨by rfl, ?hy14⟩) (fun _ => rfl) ?rest14
         case hy14 => (intro w hSw; (try dsimp only at hSw); go_simp; try with_reducible rfl))
      | (refine ordS_take (i := 14) (oi := { dst := some 27, op := Op.load 45 (Operand.tmp 26), type := 45, pos := _, after := #[{ on := 13, ground := Ground.data }], guard := none }) (v := undef) rfl (by kernel_rfl) (by kernel_rfl) (by kernel_rfl) (by kernel_rfl) (fun _ _ _ h => h) (by assumption) (Or.inr ⟨by rfl, rfl⟩) (fun _ => rfl) ?_)
    try simp only [Act.put, List.setIfInBounds_toArray, List.set_cons_zero, List.set_cons_succ]
    refine ordS_one (i := 10) (o := { dst := some 23, op := Op.call { callee := Callee.value (Operand.func 26), args := #[Operand.tmp 16, Operand.tmp 22], argTypes := #[45, 45] }, type := 45, pos := _, after := #[{ on := 3, ground := Ground.data }, { on := 9, ground := Ground.data }], guard := none }) (by kernel_rfl) rfl (by rfl) (fun K hK => ?_)
    go_simp
    refine ⟨trivial, ?_⟩
    with_reducible refine (CallsIn.inRound _ (callsIn_wide.2 (hac _))).mono ?_
    rintro e W6 ⟨rfl, rfl⟩
    refine hK _ _ hS ?_
    clear hK K
    try simp only [Act.put, List.setIfInBounds_toArray, List.set_cons_zero, List.set_cons_succ]
    first
      | (refine' ordS_take (i := 15) (oi := { dst := some 28, op := Op.binOp BinOp.eql 45 (Operand.tmp 23) (Operand.tmp 27) 45, type := 4, pos := _, after := #[{ on := 10, ground := Ground.data }, { on := 14, ground := Ground.data }], guard := none }) (v := _) rfl (by kernel_rfl) (by kernel_rfl) (by kernel_rfl) (by kernel_rfl) (fun _ _ _ h => h) (by assumption) (Or.inl ⟨by rfl, ?hy15⟩) (fun _ => rfl) ?rest15
         case hy15 => (intro w hSw; (try dsimp only at hSw); go_simp; try with_reducible rfl))
      | (refine ordS_take (i := 15) (oi := { dst := some 28, op := Op.binOp BinOp.eql 45 (Operand.tmp 23) (Operand.tmp 27) 45, type := 4, pos := _, after := #[{ on := 10, ground := Ground.data }, { on := 14, ground := Ground.data }], guard := none }) (v := undef) rfl (by kernel_rfl) (by kernel_rfl) (by kernel_rfl) (by kernel_rfl) (fun _ _ _ h => h) (by assumption) (Or.inr ⟨by rfl, rfl⟩) (fun _ => rfl) ?_)
    try simp only [Act.put, List.setIfInBounds_toArray, List.set_cons_zero, List.set_cons_succ]
    refine ordS_done (by kernel_rfl) ?_
    cases t
    · clear hS hH g2 q0 j0 qz qx qi hac
      gi_wp2
      exact ⟨.of_below hD (by omega), .of_below hD (by omega), .of_below hD (by omega), bl_tr HI1.out hD, Nat.lt_of_lt_of_le hI2 hD.size, fun j hj => by
        rcases List.mem_append.1 hj with h | h
        · exact HI3.out j h
        · rw [List.mem_singleton.1 h]; exact HFX.out⟩
    · clear hS hH g2 q0 j0 qz qx qi hac
      have HFF := Lib.hid (show F = some x by rw [← HF.out]; exact find_pre HPRE.out HI3.out HFX.out)
      gi_wp2
      have hg := gq2_set W.drew (w.heap.size + 1 + 1 + 1) (w.heap.size + 1 + 1 + 1 + 1) (.int .i64 (x : Int)) (.bool true)
      refine ⟨hg.kp hD (by omega), hg.kp hD (by omega), hg.kp hD (by omega), rfl, ?_, x, ?_, ?_, HFF.out⟩
      · exact (bl_tr HA.out hD).trans (hg.bel (by have := hD.size; have := HA.out.size; omega) (by omega))
      · exact (HB1.out.set _).kept (hgrown_set _ _ _ _) (fun e => by have := Option.some.inj e; omega)
      · exact (HB2.out.kept (hgrown_set _ _ _ _) (fun e => by have := Option.some.inj e; omega)).set _
  case done =>
    rintro C W ⟨hI1, hI2, hI3⟩ hdef
    have hFn : F = none := by
      rw [← HF.out]
      exact List.find?_eq_none.2 (fun j hj => by rw [hI3 j hj]; decide)
    have b1 := o1.kept (grown_of_below hI1) (fun e => by cases e)
    have b2 := o2.kept (grown_of_below hI1) (fun e => by cases e)
    have HB1 := Lib.hid b1
    have HB2 := Lib.hid b2
    have c1 := b1.cell
    have c2 := b2.cell
    have d1 := b1.frozen
    have d2 := b2.frozen
    have l1 := b1.lt
    have l2 := b2.lt
    have HA := Lib.hid (bl_tr hA0 hI1)
    have HDF := Lib.hid hdef
    subst hFn
    have hw3 := hI1.size
    clear b1 b2 hI1 hI2 hI3 hdef
    go_wp2
    have hg := gq2_set W (w.heap.size + 1 + 1 + 1) (w.heap.size + 1 + 1 + 1 + 1) (.int .i64 0) (.bool false)
    have x1 := (HB1.out.set (.int .i64 0)).kept (hgrown_set _ (w.heap.size + 1 + 1 + 1 + 1) 0 (.bool false)) (fun e => by have := Option.some.inj e; omega)
    have x2 := (HB2.out.kept (hgrown_set _ (w.heap.size + 1 + 1 + 1) 0 (.int .i64 0)) (fun e => by have := Option.some.inj e; omega)).set (.bool false)
    have hd9 := (hg.2 W3.heap.size (Array.getElem?_eq_some_iff.1 HDF.out).1 (by omega) (by omega)).trans HDF.out
    have hB9 := HA.out.trans (hg.bel (by omega) (by omega))
    refine ⟨by simp, .inl ⟨_, _, rfl, run_takeDeferred hd9, ?_⟩⟩
    have hg4 := grownBy_putObj' ((W.setCell ⟨w.heap.size + 1 + 1 + 1, 0, none⟩ (.int .i64 0)).setCell ⟨w.heap.size + 1 + 1 + 1 + 1, 0, none⟩ (.bool false)) W3.heap.size (.deferred none)
    have y1 := (x1.kept hg4 (fun e => by have := Option.some.inj e; omega)).cell
    have y2 := (x2.kept hg4 (fun e => by have := Option.some.inj e; omega)).cell
    have hBA : Below w.heap.size w _ := hB9.grown hg4 hB9.size (fun j e => by cases e; omega)
    exact ⟨.tuple #[.int .i64 0, .bool false], by simp [results, Tryd.results67, go_sem, y1, y2], rfl, hBA⟩
  case stop =>
    rintro C cc q W hq ⟨rfl, hB, x, hx1, hx2, hFx⟩ hdef
    have HB := Lib.hid hB
    have HX1 := Lib.hid hx1
    have HX2 := Lib.hid hx2
    have HDF := Lib.hid hdef
    subst hFx
    clear hB hx1 hx2 hdef
    refine wpIn_wide.2 ?_
    go_wp2
    refine ⟨by simp, .inl ⟨_, _, rfl, run_takeDeferred HDF.out, ?_⟩⟩
    have hg4 := grownBy_putObj' W W3.heap.size (.deferred none)
    have y1 := (HX1.out.kept hg4 (fun e => by have := Option.some.inj e; omega)).cell
    have y2 := (HX2.out.kept hg4 (fun e => by have := Option.some.inj e; omega)).cell
    have hBA : Below w.heap.size w _ := HB.out.grown hg4 HB.out.size (fun j e => by cases e; omega)
    exact ⟨.tuple #[.int .i64 (x : Int), .bool true], by simp [results, Tryd.results67, go_sem, y1, y2], rfl, hBA⟩
end Go.Proofs.YtjkecdghlpeigaaDoor
