/- Cells two by two, as an iterator: its contract. -/
import Derived.Test.YtldpajfendkhbaaDoorAa
import Derived.Test.YtldpajfendkhbaaDoorAc
namespace Go.Proofs.YtldpajfendkhbaaDoor
open Go.RowKit Go.Shelf
attribute [local go_sem] Oper.semAt_some

def encPP (x : IC × IC) : Array Value := #[.agg #[.int .i64 x.1.1, .int .i64 x.1.2], .agg #[.int .i64 x.2.1, .int .i64 x.2.2]]
theorem RowC.two {W : World} {a : Option Addr} {zs : List IC} (h : RowC W a zs) {k : Nat} (hk : k < zs.length) : ∃ b o, a = some ⟨b, o, none⟩ ∧ W.cell? ⟨b, o + k * 2, none⟩ = some (.int .i64 (cK zs k).1) ∧ W.cell? ⟨b, o + k * 2 + 1, none⟩ = some (.int .i64 (cK zs k).2) := by
  rcases h with rfl | ⟨b, o, h1, h2⟩
  · simp at hk
  · exact ⟨b, o, h1, h2 k _ (cK_at hk)⟩

set_option maxHeartbeats 1000000 in
theorem pairs_mk (a : Option Addr) (n cap : Nat) (w : World) :
    Calls Tryd.prog 29 #[.slice a n cap] w fun e w' => e = .returned (.func (.func 47) #[] #[.pointer (some ⟨w.heap.size, 0, none⟩)]) ∧
      w'.cell? ⟨w.heap.size, 0, none⟩ = some (.slice a n cap) ∧ w'.heap.size = w.heap.size + 1 ∧ Below w.heap.size w w' := by
  go_enter Tryd.func29, Tryd.ntmps29
  go_wp2
  go_ret
  refine ⟨rfl, ?_, by simp, bl_al (bl0 _) _⟩
  simp [go_sem]

set_option maxRecDepth 100000 in
set_option maxHeartbeats 2000000 in
theorem pairs1_in (l p : Nat) (a : Option Addr) (cap : Nat) (zs : List IC) (hn : zs.length ≤ 1048576) (J Jx : List (IC × IC) → World → Prop) (W : World) (hJ : AbP p 1 J) (hJR : ∀ pre W1, J pre W1 → RowC W1 a zs) (hJxR : ∀ pre W1, Jx pre W1 → RowC W1 a zs)
    (hY : ∀ pre x W1, J pre W1 → pre ++ [x] <+: pairsF zs → YieldAt Fence.wide 0 Tryd.prog l (encPP x) W1 fun e W' =>
      (e = .returned (.bool true) ∧ J (pre ++ [x]) W' ∧ KP p 1 W1 W') ∨ (e = .returned (.bool false) ∧ Jx (pre ++ [x]) W' ∧ KP p 1 W1 W'))
    (hs : W.cell? ⟨p, 0, none⟩ = some (.slice a zs.length cap)) (h0 : J [] W) :
    CallsIn Fence.wide 10 Tryd.prog 47 #[.func (.yield l) #[] #[], .pointer (some ⟨p, 0, none⟩)] W fun e W' => (∃ v, e = .returned v) ∧
      (J (pairsF zs) W' ∨ ∃ q, q <+: pairsF zs ∧ Jx q W') := by
  refine callsIn_of_wp Tryd.func47 rfl trivial ?_ rfl
  simp only [Tryd.ntmps47, List.size_toArray, List.length_cons, List.length_nil, Nat.reduceAdd, Nat.reduceSub, Array.replicate_succ, Array.replicate_zero, List.push_toArray, List.append_toArray, List.nil_append, List.cons_append]
  gi_wp2
  gi_loopw [3] (fun i wr => ∃ k : Nat, k ≤ zs.length - 1 ∧ i = .int .i64 ((k : Int) + 1) ∧ J ((pairsF zs).take k) wr ∧ wr.cell? ⟨p, 0, none⟩ = some (.slice a zs.length cap)) (fun i _ => zs.length + 1 - (intOf i).toNat)
  case atStart => exact ⟨0, Nat.zero_le _, rfl, h0, hs⟩
  case round =>
    obtain ⟨k, hk, rfl, hJr, s0⟩ := hrel
    clear hs
    by_cases hlt : k + 1 < zs.length
    · have hlt2 : (k : Int) + 1 < (zs.length : Int) := by omega
      have hlt3 : (k : Int) < (zs.length : Int) := by omega
      have hk0 : (0 : Int) ≤ (k : Int) := by omega
      have hk1 : (0 : Int) ≤ (k : Int) + 1 := by omega
      have e1 : IntKind.i64.wrap (k : Int) = (k : Int) := IntWalk.i64_in _ (by omega)
      have e2 : ((k : Int) + 1).toNat = k + 1 := by omega
      obtain ⟨gb, go, rfl, q0, q1⟩ := (hJR _ _ hJr).two (k := k) (by omega)
      obtain ⟨gb', go', hh, r0, r1⟩ := (hJR _ _ hJr).two hlt
      cases hh
      have hpre : (pairsF zs).take k ++ [(cK zs k, cK zs (k + 1))] <+: pairsF zs := by rw [← pairsF_snoc hlt]; exact List.take_prefix _ _
      have hyd := fun W1 h => hY ((pairsF zs).take k) (cK zs k, cK zs (k + 1)) W1 h hpre
      have hS : ∀ W1, RowC W1 (some ⟨gb, go, none⟩) zs → W1.cell? ⟨p, 0, none⟩ = some (.slice (some ⟨gb, go, none⟩) zs.length cap) → W1.cell? ⟨p, 0, none⟩ = some (.slice (some ⟨gb, go, none⟩) zs.length cap) ∧ W1.cell? ⟨gb, go + k * 2, none⟩ = some (.int .i64 (cK zs k).1) ∧ W1.cell? ⟨gb, go + k * 2 + 1, none⟩ = some (.int .i64 (cK zs k).2) ∧ W1.cell? ⟨gb, go + (k + 1) * 2, none⟩ = some (.int .i64 (cK zs (k + 1)).1) ∧ W1.cell? ⟨gb, go + (k + 1) * 2 + 1, none⟩ = some (.int .i64 (cK zs (k + 1)).2) := by
        intro W1 h1 h2
        obtain ⟨g1, o1, e1, x1, x2⟩ := h1.two (k := k) (by omega)
        cases e1
        obtain ⟨g1, o1, e1, x3, x4⟩ := h1.two hlt
        cases e1
        exact ⟨h2, x1, x2, x3, x4⟩
      have HS := Lib.hid hS
      clear hS
      have HT := Lib.hid (pairsF_snoc hlt)
      generalize cK zs k = c at *
      generalize cK zs (k + 1) = d at *
      gi_wp2
      have hB := bl_dr (bl0 wr)
      refine ordS_begin (S := (fun w' => w'.cell? ⟨p, 0, none⟩ = some (.slice (some ⟨gb, go, none⟩) zs.length cap) ∧ w'.cell? ⟨gb, go + k * 2, none⟩ = some (.int .i64 c.1) ∧ w'.cell? ⟨gb, go + k * 2 + 1, none⟩ = some (.int .i64 c.2) ∧ w'.cell? ⟨gb, go + (k + 1) * 2, none⟩ = some (.int .i64 d.1) ∧ w'.cell? ⟨gb, go + (k + 1) * 2 + 1, none⟩ = some (.int .i64 d.2))) (by kernel_rfl) ⟨s0, q0, q1, r0, r1⟩ (fun hH => ?_)
      first
        | (refine' ordS_take (i := 0) (oi := { dst := some 10, op := Op.move (Operand.tmp 0), type := 92, pos := _, after := #[], guard := none }) (v := _) rfl (by kernel_rfl) (by kernel_rfl) (by kernel_rfl) (by kernel_rfl) (fun _ _ _ h => h) (by assumption) (Or.inl ⟨by rfl, ?hy125⟩) (fun _ => rfl) ?rest125
           case hy125 => (intro w hSw; (try dsimp only at hSw); go_simp; try with_reducible rfl))
        | (refine ordS_take (i := 0) (oi := { dst := some 10, op := Op.move (Operand.tmp 0), type := 92, pos := _, after := #[], guard := none }) (v := undef) rfl (by kernel_rfl) (by kernel_rfl) (by kernel_rfl) (by kernel_rfl) (fun _ _ _ h => h) (by assumption) (Or.inr ⟨by rfl, rfl⟩) (fun _ => rfl) ?_)
      try simp only [Act.put, List.setIfInBounds_toArray, List.set_cons_zero, List.set_cons_succ]
      first
        | (refine' ordS_take (i := 1) (oi := { dst := some 11, op := Op.load 33 (Operand.tmp 1), type := 33, pos := _, after := #[], guard := none }) (v := _) rfl (by kernel_rfl) (by kernel_rfl) (by kernel_rfl) (by kernel_rfl) (fun _ _ _ h => h) (by assumption) (Or.inl ⟨by rfl, ?hy126⟩) (fun _ => rfl) ?rest126
           case hy126 => (intro w hSw; (try dsimp only at hSw); go_simp; try with_reducible rfl))
        | (refine ordS_take (i := 1) (oi := { dst := some 11, op := Op.load 33 (Operand.tmp 1), type := 33, pos := _, after := #[], guard := none }) (v := undef) rfl (by kernel_rfl) (by kernel_rfl) (by kernel_rfl) (by kernel_rfl) (fun _ _ _ h => h) (by assumption) (Or.inr ⟨by rfl, rfl⟩) (fun _ => rfl) ?_)
      try simp only [Act.put, List.setIfInBounds_toArray, List.set_cons_zero, List.set_cons_succ]
      first
        | (refine' ordS_take (i := 2) (oi := { dst := some 12, op := Op.move (Operand.tmp 3), type := 3, pos := _, after := #[], guard := none }) (v := _) rfl (by kernel_rfl) (by kernel_rfl) (by kernel_rfl) (by kernel_rfl) (fun _ _ _ h => h) (by assumption) (Or.inl ⟨by rfl, ?hy127⟩) (fun _ => rfl) ?rest127
           case hy127 => (intro w hSw; (try dsimp only at hSw); go_simp; try with_reducible rfl))
        | (refine ordS_take (i := 2) (oi := { dst := some 12, op := Op.move (Operand.tmp 3), type := 3, pos := _, after := #[], guard := none }) (v := undef) rfl (by kernel_rfl) (by kernel_rfl) (by kernel_rfl) (by kernel_rfl) (fun _ _ _ h => h) (by assumption) (Or.inr ⟨by rfl, rfl⟩) (fun _ => rfl) ?_)
      try simp only [Act.put, List.setIfInBounds_toArray, List.set_cons_zero, List.set_cons_succ]
      first
        | (refine' ordS_take (i := 3) (oi := { dst := some 13, op := Op.binOp BinOp.sub 3 (Operand.tmp 12) (Operand.const (Value.int IntKind.i64 1)) 3, type := 3, pos := _, after := #[{ on := 2, ground := Ground.data }], guard := none }) (v := _) rfl (by kernel_rfl) (by kernel_rfl) (by kernel_rfl) (by kernel_rfl) (fun _ _ _ h => h) (by assumption) (Or.inl ⟨by rfl, ?hy128⟩) (fun _ => rfl) ?rest128
           case hy128 => (intro w hSw; (try dsimp only at hSw); go_simp; try with_reducible rfl))
        | (refine ordS_take (i := 3) (oi := { dst := some 13, op := Op.binOp BinOp.sub 3 (Operand.tmp 12) (Operand.const (Value.int IntKind.i64 1)) 3, type := 3, pos := _, after := #[{ on := 2, ground := Ground.data }], guard := none }) (v := undef) rfl (by kernel_rfl) (by kernel_rfl) (by kernel_rfl) (by kernel_rfl) (fun _ _ _ h => h) (by assumption) (Or.inr ⟨by rfl, rfl⟩) (fun _ => rfl) ?_)
      try simp only [Act.put, List.setIfInBounds_toArray, List.set_cons_zero, List.set_cons_succ]
      first
        | (refine' ordS_take (i := 4) (oi := { dst := some 14, op := Op.indexAddr 33 (Operand.tmp 11) (Operand.tmp 13), type := 0, pos := _, after := #[{ on := 1, ground := Ground.data }, { on := 3, ground := Ground.data }], guard := none }) (v := _) rfl (by kernel_rfl) (by kernel_rfl) (by kernel_rfl) (by kernel_rfl) (fun _ _ _ h => h) (by assumption) (Or.inl ⟨by rfl, ?hy129⟩) (fun _ => rfl) ?rest129
           case hy129 => (intro w hSw; (try dsimp only at hSw); go_simp; try with_reducible rfl))
        | (refine ordS_take (i := 4) (oi := { dst := some 14, op := Op.indexAddr 33 (Operand.tmp 11) (Operand.tmp 13), type := 0, pos := _, after := #[{ on := 1, ground := Ground.data }, { on := 3, ground := Ground.data }], guard := none }) (v := undef) rfl (by kernel_rfl) (by kernel_rfl) (by kernel_rfl) (by kernel_rfl) (fun _ _ _ h => h) (by assumption) (Or.inr ⟨by rfl, rfl⟩) (fun _ => rfl) ?_)
      try simp only [Act.put, List.setIfInBounds_toArray, List.set_cons_zero, List.set_cons_succ]
      first
        | (refine' ordS_take (i := 5) (oi := { dst := some 15, op := Op.load 28 (Operand.tmp 14), type := 28, pos := _, after := #[{ on := 4, ground := Ground.data }], guard := none }) (v := _) rfl (by kernel_rfl) (by kernel_rfl) (by kernel_rfl) (by kernel_rfl) (fun _ _ _ h => h) (by assumption) (Or.inl ⟨by rfl, ?hy130⟩) (fun _ => rfl) ?rest130
           case hy130 => (intro w hSw; (try dsimp only at hSw); go_simp; try with_reducible rfl))
        | (refine ordS_take (i := 5) (oi := { dst := some 15, op := Op.load 28 (Operand.tmp 14), type := 28, pos := _, after := #[{ on := 4, ground := Ground.data }], guard := none }) (v := undef) rfl (by kernel_rfl) (by kernel_rfl) (by kernel_rfl) (by kernel_rfl) (fun _ _ _ h => h) (by assumption) (Or.inr ⟨by rfl, rfl⟩) (fun _ => rfl) ?_)
      try simp only [Act.put, List.setIfInBounds_toArray, List.set_cons_zero, List.set_cons_succ]
      first
        | (refine' ordS_take (i := 6) (oi := { dst := some 16, op := Op.load 33 (Operand.tmp 1), type := 33, pos := _, after := #[], guard := none }) (v := _) rfl (by kernel_rfl) (by kernel_rfl) (by kernel_rfl) (by kernel_rfl) (fun _ _ _ h => h) (by assumption) (Or.inl ⟨by rfl, ?hy131⟩) (fun _ => rfl) ?rest131
           case hy131 => (intro w hSw; (try dsimp only at hSw); go_simp; try with_reducible rfl))
        | (refine ordS_take (i := 6) (oi := { dst := some 16, op := Op.load 33 (Operand.tmp 1), type := 33, pos := _, after := #[], guard := none }) (v := undef) rfl (by kernel_rfl) (by kernel_rfl) (by kernel_rfl) (by kernel_rfl) (fun _ _ _ h => h) (by assumption) (Or.inr ⟨by rfl, rfl⟩) (fun _ => rfl) ?_)
      try simp only [Act.put, List.setIfInBounds_toArray, List.set_cons_zero, List.set_cons_succ]
      first
        | (refine' ordS_take (i := 7) (oi := { dst := some 17, op := Op.move (Operand.tmp 3), type := 3, pos := _, after := #[], guard := none }) (v := _) rfl (by kernel_rfl) (by kernel_rfl) (by kernel_rfl) (by kernel_rfl) (fun _ _ _ h => h) (by assumption) (Or.inl ⟨by rfl, ?hy132⟩) (fun _ => rfl) ?rest132
           case hy132 => (intro w hSw; (try dsimp only at hSw); go_simp; try with_reducible rfl))
        | (refine ordS_take (i := 7) (oi := { dst := some 17, op := Op.move (Operand.tmp 3), type := 3, pos := _, after := #[], guard := none }) (v := undef) rfl (by kernel_rfl) (by kernel_rfl) (by kernel_rfl) (by kernel_rfl) (fun _ _ _ h => h) (by assumption) (Or.inr ⟨by rfl, rfl⟩) (fun _ => rfl) ?_)
      try simp only [Act.put, List.setIfInBounds_toArray, List.set_cons_zero, List.set_cons_succ]
      first
        | (refine' ordS_take (i := 8) (oi := { dst := some 18, op := Op.indexAddr 33 (Operand.tmp 16) (Operand.tmp 17), type := 0, pos := _, after := #[{ on := 6, ground := Ground.data }, { on := 7, ground := Ground.data }], guard := none }) (v := _) rfl (by kernel_rfl) (by kernel_rfl) (by kernel_rfl) (by kernel_rfl) (fun _ _ _ h => h) (by assumption) (Or.inl ⟨by rfl, ?hy133⟩) (fun _ => rfl) ?rest133
           case hy133 => (intro w hSw; (try dsimp only at hSw); go_simp; try with_reducible rfl))
        | (refine ordS_take (i := 8) (oi := { dst := some 18, op := Op.indexAddr 33 (Operand.tmp 16) (Operand.tmp 17), type := 0, pos := _, after := #[{ on := 6, ground := Ground.data }, { on := 7, ground := Ground.data }], guard := none }) (v := undef) rfl (by kernel_rfl) (by kernel_rfl) (by kernel_rfl) (by kernel_rfl) (fun _ _ _ h => h) (by assumption) (Or.inr ⟨by rfl, rfl⟩) (fun _ => rfl) ?_)
      try simp only [Act.put, List.setIfInBounds_toArray, List.set_cons_zero, List.set_cons_succ]
      first
        | (refine' ordS_take (i := 9) (oi := { dst := some 19, op := Op.load 28 (Operand.tmp 18), type := 28, pos := _, after := #[{ on := 8, ground := Ground.data }], guard := none }) (v := _) rfl (by kernel_rfl) (by kernel_rfl) (by kernel_rfl) (by kernel_rfl) (fun _ _ _ h => h) (by assumption) (Or.inl ⟨by rfl, ?hy134⟩) (fun _ => rfl) ?rest134
           case hy134 => (intro w hSw; (try dsimp only at hSw); go_simp; try with_reducible rfl))
        | (refine ordS_take (i := 9) (oi := { dst := some 19, op := Op.load 28 (Operand.tmp 18), type := 28, pos := _, after := #[{ on := 8, ground := Ground.data }], guard := none }) (v := undef) rfl (by kernel_rfl) (by kernel_rfl) (by kernel_rfl) (by kernel_rfl) (fun _ _ _ h => h) (by assumption) (Or.inr ⟨by rfl, rfl⟩) (fun _ => rfl) ?_)
      try simp only [Act.put, List.setIfInBounds_toArray, List.set_cons_zero, List.set_cons_succ]
      have hJ9 := hJ _ _ _ none hJr (grown_of_below hB) (fun r e => by cases e)
      obtain ⟨fn, tmps, assign, body, hy, hR⟩ := yieldAt_wide 9 (hyd wr.drew hJ9)
      simp only [encPP] at hy
      refine ordS_one (i := 10) (o := { dst := some 20, op := Op.call { callee := Callee.value (Operand.tmp 10), args := #[Operand.tmp 15, Operand.tmp 19], argTypes := #[28, 28] }, type := 4, pos := _, after := #[{ on := 0, ground := Ground.data }, { on := 5, ground := Ground.data }, { on := 9, ground := Ground.data }], guard := none }) (by kernel_rfl) rfl (by rfl) (fun K hK => ?_)
      go_simp
      refine hR.mono ?_
      rintro e w10 (⟨rfl, hJ10, hk10⟩ | ⟨rfl, hJx, hk10⟩)
      · have hS10 := HS.out w10 (hJR _ _ hJ10) (hk10.cell (by omega) (by omega) (cell_later hB s0))
        refine hK _ _ hS10 ?_
        clear hK K
        try simp only [Act.put, List.setIfInBounds_toArray, List.set_cons_zero, List.set_cons_succ]
        first
          | (refine' ordS_take (i := 11) (oi := { dst := some 21, op := Op.unOp UnOp.not 4 (Operand.tmp 20), type := 4, pos := _, after := #[{ on := 10, ground := Ground.data }], guard := none }) (v := _) rfl (by kernel_rfl) (by kernel_rfl) (by kernel_rfl) (by kernel_rfl) (fun _ _ _ h => h) (by assumption) (Or.inl ⟨by rfl, ?hy135⟩) (fun _ => rfl) ?rest135
             case hy135 => (intro w hSw; (try dsimp only at hSw); go_simp; try with_reducible rfl))
          | (refine ordS_take (i := 11) (oi := { dst := some 21, op := Op.unOp UnOp.not 4 (Operand.tmp 20), type := 4, pos := _, after := #[{ on := 10, ground := Ground.data }], guard := none }) (v := undef) rfl (by kernel_rfl) (by kernel_rfl) (by kernel_rfl) (by kernel_rfl) (fun _ _ _ h => h) (by assumption) (Or.inr ⟨by rfl, rfl⟩) (fun _ => rfl) ?_)
        try simp only [Act.put, List.setIfInBounds_toArray, List.set_cons_zero, List.set_cons_succ]
        refine ordS_done (by kernel_rfl) ?_
        gi_wp2
        go_roundw
        case rel => exact ⟨k + 1, by omega, by go_num, by rw [HT.out]; exact hJ10, hS10.1⟩
        case measure => simp [intOf]; omega
      · have hS10 := HS.out w10 (hJxR _ _ hJx) (hk10.cell (by omega) (by omega) (cell_later hB s0))
        refine hK _ _ hS10 ?_
        clear hK K
        try simp only [Act.put, List.setIfInBounds_toArray, List.set_cons_zero, List.set_cons_succ]
        first
          | (refine' ordS_take (i := 11) (oi := { dst := some 21, op := Op.unOp UnOp.not 4 (Operand.tmp 20), type := 4, pos := _, after := #[{ on := 10, ground := Ground.data }], guard := none }) (v := _) rfl (by kernel_rfl) (by kernel_rfl) (by kernel_rfl) (by kernel_rfl) (fun _ _ _ h => h) (by assumption) (Or.inl ⟨by rfl, ?hy136⟩) (fun _ => rfl) ?rest136
             case hy136 => (intro w hSw; (try dsimp only at hSw); go_simp; try with_reducible rfl))
          | (refine ordS_take (i := 11) (oi := { dst := some 21, op := Op.unOp UnOp.not 4 (Operand.tmp 20), type := 4, pos := _, after := #[{ on := 10, ground := Ground.data }], guard := none }) (v := undef) rfl (by kernel_rfl) (by kernel_rfl) (by kernel_rfl) (by kernel_rfl) (fun _ _ _ h => h) (by assumption) (Or.inr ⟨by rfl, rfl⟩) (fun _ => rfl) ?_)
        try simp only [Act.put, List.setIfInBounds_toArray, List.set_cons_zero, List.set_cons_succ]
        refine ordS_done (by kernel_rfl) ?_
        gi_wp2
        refine bodyPost_ret (results_none rfl _ _ _) rfl ?_
        exact ⟨⟨_, rfl⟩, .inr ⟨_, hpre, hJx⟩⟩
    · have hge : (zs.length : Int) ≤ (k : Int) + 1 := by omega
      have hall := pairsF_all (l := zs) (k := k) (by omega)
      rw [hall] at hJr
      gi_wp2
      go_end0
      exact ⟨⟨_, rfl⟩, .inl hJr⟩
theorem iter_pairs (p : Nat) (a : Option Addr) (cap : Nat) (zs : List IC) (hn : zs.length ≤ 1048576) (w : World) (hs : w.cell? ⟨p, 0, none⟩ = some (.slice a zs.length cap)) :
    IterR p 1 47 #[.pointer (some ⟨p, 0, none⟩)] encPP (pairsF zs) (fun W => RowC W a zs) w :=
  fun l J Jx W hW hJ _ hJR hJxR hY h0 => pairs1_in l p a cap zs hn J Jx W hJ hJR hJxR hY (cell_later hW hs) h0
end Go.Proofs.YtldpajfendkhbaaDoor
