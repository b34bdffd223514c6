/- Least costs: a row of so many costs that are none; what is reached. -/
import Derived.Test.YtgbhafadibdmcaaDoorCd
import Derived.Test.YtgbhafadibdmcaaDoorShelf
import Derived.Test.YtgbhafadibdmcaaDoorOh
import Derived.Laws.CopyOwn
import Derived.Deep.OwnRows
namespace Go.Proofs.YtgbhafadibdmcaaDoor
open Go.RowKit

/-- A row as it is filled. -/
def repL (n b : Nat) : List Value := List.replicate b (Value.int .u64 18446744073709551615) ++ List.replicate (n - b) (Value.int .u64 0)
theorem repL_len {n b : Nat} (h : b ≤ n) : (repL n b).length = n := by simp [repL]; omega
theorem repL_at {n b j : Nat} (h : j < b) : (repL n b)[j]? = some (Value.int .u64 18446744073709551615) := by
  unfold repL
  rw [List.getElem?_append_left (by simpa using h), List.getElem?_replicate, if_pos h]
theorem repL_step {n b m : Nat} (h : b + m ≤ n) : (repL n b).take b ++ List.replicate m (Value.int .u64 18446744073709551615) ++ (repL n b).drop (b + m) = repL n (b + m) := by
  unfold repL
  rw [List.take_append_of_le_length (by simp), List.take_of_length_le (by simp), List.drop_append, List.drop_of_length_le (by simp), List.nil_append, List.length_replicate, List.drop_replicate, List.replicate_append_replicate]
  congr 2
  omega
theorem copy_u (V : World) (g n b m : Nat) (o : Nat) (a : Addr) (cd cs : Nat) (hb : o = b) (hm : b + m ≤ n) (sl dl : Nat) (hmin : m = Nat.min sl dl) (hg : V.heap[g]? = some (.cells (repL n b).toArray 36 (0, 0))) (hh : ∀ j, j < m → V.cell? (a.add j) = some (.int .u64 18446744073709551615)) :
    (Builtin.copy_ #[42, 42] 3 #[.slice (some ⟨g, o, none⟩) dl cd, .slice (some a) sl cs]).run Tryd.prog V = .ok (.int .i64 (m : Nat)) (V.setRow g (repL n (b + m)).toArray) := by
  have hs : (Tryd.prog.info? 36).map (·.size) = some 1 := by kernel_rfl
  subst hb
  have := run_copy_row (P := Tryd.prog) V 42 42 3 36 g o dl cd a sl cs (repL n o).toArray 36 (List.replicate m (Value.int .u64 18446744073709551615)) Tryd.underlying42 hs hg (by simpa using hmin)
    (fun j u hu => by
      rw [List.getElem?_replicate] at hu
      split at hu
      · cases hu; exact hh j (by assumption)
      · cases hu) (by simp [repL_len (show o ≤ n by omega)]; omega) (fun v hv => by rw [List.mem_replicate] at hv; rw [hv.2]; rfl)
  rw [this]
  simp only [List.length_replicate, repL_step hm]
  rfl

set_option maxRecDepth 100000 in
set_option maxHeartbeats 2000000 in
theorem repeat_any (g0 n : Nat) (w : World) (h1 : 1 ≤ n) (hn : n ≤ 65536) (hc : w.cell? ⟨g0, 0, none⟩ = some (.int .u64 18446744073709551615)) :
    Calls Tryd.prog 72 #[.slice (some ⟨g0, 0, none⟩) 1 1, .int .i64 (n : Int)] w fun e w' => ∃ g, w.heap.size ≤ g ∧ e = .returned (.slice (some ⟨g, 0, none⟩) n n) ∧ w'.heap[g]? = some (.cells (repL n n).toArray 36 (0, 0)) ∧ Below w.heap.size w w' := by
  have hn0 : ¬ ((n : Int) < 0) := by omega
  have e1 : IntKind.u64.wrap (1 : Int) = ((1 : Nat) : Int) := rfl
  have e2 : IntKind.u64.wrap (n : Int) = (n : Int) := IntWalk.u64_in _ (by omega)
  have hmul := fun w => Tryd.bits_Mul 1 n (by decide) (by omega) w
  rw [show ((1 * n / 18446744073709551616 : Nat) : Int) = 0 by omega, show ((1 * n % 18446744073709551616 : Nat) : Int) = (n : Int) by omega] at hmul
  have e3 : IntKind.i64.wrap (n : Int) = (n : Int) := IntWalk.i64_in _ (by omega)
  have hmk := fun w => make_u64 n (by omega) w
  have hnew : (w.alloc (.cells (Array.replicate n (Value.int .u64 0)) 36)).heap[w.heap.size]? = some (.cells (repL n 0).toArray 36 (0, 0)) := by
    rw [heap_alloc_new]
    simp [repL]
  have hb0 := bl_al (bl0 w) (.cells (Array.replicate n (Value.int .u64 0)) 36)
  have hc2 : ∀ j, j < 1 → (w.alloc (.cells (Array.replicate n (Value.int .u64 0)) 36)).cell? ((⟨g0, 0, none⟩ : Addr).add j) = some (.int .u64 18446744073709551615) := fun j hj => by
    obtain rfl : j = 0 := by omega
    rw [hadd]
    exact cell_later hb0 hc
  have hcp := copy_u _ w.heap.size n 0 1 0 ⟨g0, 0, none⟩ n 1 rfl (by omega) 1 n (Nat.min_eq_left h1).symm hnew hc2
  have hr1 := setRow_heap _ _ _ (repL n (0 + 1)).toArray _ _ hnew
  have hbr := below_setRow hb0 (Nat.le_refl _) (repL n (0 + 1)).toArray
  have HR1 := Lib.hid hr1
  have HBR := Lib.hid hbr
  have hn9 : decide ((9223372036854775807 : Int) < (n : Int)) = false := by rw [decide_eq_false_iff_not]; omega
  clear hr1 hbr hnew hb0 hc2 hc
  go_enter Tryd.func72, Tryd.ntmps72
  go_wp2_with (go_at_call 84; refine (hmul _).mono ?_; rintro e w' ⟨rfl, hww⟩; subst hww)
  go_loopw [8] (fun s wr => ∃ b : Nat, 1 ≤ b ∧ b ≤ n ∧ s = .int .i64 b ∧ wr.heap[w'.heap.size]? = some (.cells (repL n b).toArray 36 (0, 0)) ∧ Below w'.heap.size w' wr) (fun s _ => n - (intOf s).toNat)
  case atStart => exact ⟨1, by omega, by omega, rfl, HR1.out, HBR.out⟩
  case round =>
    obtain ⟨b, hb1, hb2, rfl, hg, hB⟩ := hrel
    clear hcp HR1 HBR
    by_cases hlt : b < n
    · have hlt2 : (b : Int) < (n : Int) := by omega
      have hb0 : (0 : Int) ≤ (b : Int) := by omega
      have hbn : (b : Int) ≤ (n : Int) := by omega
      obtain ⟨m, hm⟩ : ∃ m, m = Nat.min b (n - b) := ⟨_, rfl⟩
      have hm1 : b + m ≤ n ∧ 1 ≤ m := by have := Nat.min_le_right b (n - b); have h3 : Nat.min b (n - b) = min b (n - b) := rfl; omega
      have hcp : ∀ V : World, V.heap[w'.heap.size]? = some (.cells (repL n b).toArray 36 (0, 0)) → (Builtin.copy_ #[42, 42] 3 #[.slice (some ⟨w'.heap.size, b, none⟩) (n - b) (n - b), .slice (some ⟨w'.heap.size, 0, none⟩) b n]).run Tryd.prog V = .ok (.int .i64 (m : Nat)) (V.setRow w'.heap.size (repL n (b + m)).toArray) := fun V hV =>
        copy_u V w'.heap.size n b m b ⟨w'.heap.size, 0, none⟩ (n - b) n rfl hm1.1 b (n - b) hm hV (fun j hj => by
          rw [hadd]
          simp only [World.cell?, hV]
          have hjb : j < b := Nat.lt_of_lt_of_le hj (hm ▸ Nat.min_le_left b (n - b))
          simpa using repL_at (n := n) hjb)
      have hcp2 := hcp wr.drew hg
      have hnb : ¬ (n = b) := by omega
      rw [← show (if n = b then (some ⟨w'.heap.size, 0, none⟩ : Option Addr) else some ⟨w'.heap.size, b, none⟩) = some ⟨w'.heap.size, b, none⟩ from if_neg hnb] at hcp2
      have hr2 := setRow_heap _ _ _ (repL n (b + m)).toArray _ _ hg
      have HR := Lib.hid hr2
      have e4 : IntKind.i64.wrap ((b : Int) + (m : Int)) = ((b + m : Nat) : Int) := by rw [IntWalk.i64_in _ (by omega)]; omega
      have HB := Lib.hid (below_setRow (bl_dr hB) (Nat.le_refl _) (repL n (b + m)).toArray)
      clear hcp hr2 hm
      go_wp2
      refine (wpIn_wide (n := 11)).1 ?_
      refine ordS_begin (S := (fun _ => True)) (by kernel_rfl) trivial (fun hH => ?_)
      first
        | (refine' ordS_take (i := 0) (oi := { dst := some 38, op := Op.move (Operand.tmp 8), type := 3, pos := _, after := #[], guard := none }) (v := _) rfl (by kernel_rfl) (by kernel_rfl) (by kernel_rfl) (by kernel_rfl) (fun _ _ _ h => h) (by assumption) (Or.inl ⟨by rfl, ?hy102⟩) (fun _ => rfl) ?rest102
           case hy102 => (intro w hSw; (try dsimp only at hSw); go_simp; try with_reducible rfl))
        | (refine ordS_take (i := 0) (oi := { dst := some 38, op := Op.move (Operand.tmp 8), type := 3, pos := _, after := #[], guard := none }) (v := undef) rfl (by kernel_rfl) (by kernel_rfl) (by kernel_rfl) (by kernel_rfl) (fun _ _ _ h => h) (by assumption) (Or.inr ⟨by rfl, rfl⟩) (fun _ => rfl) ?_)
      try simp only [Act.put, List.setIfInBounds_toArray, List.set_cons_zero, List.set_cons_succ]
      first
        | (refine' ordS_take (i := 1) (oi := { dst := some 39, op := Op.move (Operand.tmp 7), type := 42, pos := _, after := #[], guard := none }) (v := _) rfl (by kernel_rfl) (by kernel_rfl) (by kernel_rfl) (by kernel_rfl) (fun _ _ _ h => h) (by assumption) (Or.inl ⟨by rfl, ?hy103⟩) (fun _ => rfl) ?rest103
           case hy103 => (intro w hSw; (try dsimp only at hSw); go_simp; try with_reducible rfl))
        | (refine ordS_take (i := 1) (oi := { dst := some 39, op := Op.move (Operand.tmp 7), type := 42, pos := _, after := #[], guard := none }) (v := undef) rfl (by kernel_rfl) (by kernel_rfl) (by kernel_rfl) (by kernel_rfl) (fun _ _ _ h => h) (by assumption) (Or.inr ⟨by rfl, rfl⟩) (fun _ => rfl) ?_)
      try simp only [Act.put, List.setIfInBounds_toArray, List.set_cons_zero, List.set_cons_succ]
      first
        | (refine' ordS_take (i := 2) (oi := { dst := some 40, op := Op.move (Operand.tmp 8), type := 3, pos := _, after := #[], guard := none }) (v := _) rfl (by kernel_rfl) (by kernel_rfl) (by kernel_rfl) (by kernel_rfl) (fun _ _ _ h => h) (by assumption) (Or.inl ⟨by rfl, ?hy104⟩) (fun _ => rfl) ?rest104
           case hy104 => (intro w hSw; (try dsimp only at hSw); go_simp; try with_reducible rfl))
        | (refine ordS_take (i := 2) (oi := { dst := some 40, op := Op.move (Operand.tmp 8), type := 3, pos := _, after := #[], guard := none }) (v := undef) rfl (by kernel_rfl) (by kernel_rfl) (by kernel_rfl) (by kernel_rfl) (fun _ _ _ h => h) (by assumption) (Or.inr ⟨by rfl, rfl⟩) (fun _ => rfl) ?_)
      try simp only [Act.put, List.setIfInBounds_toArray, List.set_cons_zero, List.set_cons_succ]
      first
        | (refine' ordS_take (i := 3) (oi := { dst := some 41, op := Op.slice 42 (Operand.tmp 39) (some (Operand.tmp 40)) none none, type := 42, pos := _, after := #[{ on := 1, ground := Ground.data }, { on := 2, ground := Ground.data }], guard := none }) (v := _) rfl (by kernel_rfl) (by kernel_rfl) (by kernel_rfl) (by kernel_rfl) (fun _ _ _ h => h) (by assumption) (Or.inl ⟨by rfl, ?hy105⟩) (fun _ => rfl) ?rest105
           case hy105 => (intro w hSw; (try dsimp only at hSw); go_simp; try with_reducible rfl))
        | (refine ordS_take (i := 3) (oi := { dst := some 41, op := Op.slice 42 (Operand.tmp 39) (some (Operand.tmp 40)) none none, type := 42, pos := _, after := #[{ on := 1, ground := Ground.data }, { on := 2, ground := Ground.data }], guard := none }) (v := undef) rfl (by kernel_rfl) (by kernel_rfl) (by kernel_rfl) (by kernel_rfl) (fun _ _ _ h => h) (by assumption) (Or.inr ⟨by rfl, rfl⟩) (fun _ => rfl) ?_)
      try simp only [Act.put, List.setIfInBounds_toArray, List.set_cons_zero, List.set_cons_succ]
      first
        | (refine' ordS_take (i := 4) (oi := { dst := some 42, op := Op.move (Operand.tmp 7), type := 42, pos := _, after := #[], guard := none }) (v := _) rfl (by kernel_rfl) (by kernel_rfl) (by kernel_rfl) (by kernel_rfl) (fun _ _ _ h => h) (by assumption) (Or.inl ⟨by rfl, ?hy106⟩) (fun _ => rfl) ?rest106
           case hy106 => (intro w hSw; (try dsimp only at hSw); go_simp; try with_reducible rfl))
        | (refine ordS_take (i := 4) (oi := { dst := some 42, op := Op.move (Operand.tmp 7), type := 42, pos := _, after := #[], guard := none }) (v := undef) rfl (by kernel_rfl) (by kernel_rfl) (by kernel_rfl) (by kernel_rfl) (fun _ _ _ h => h) (by assumption) (Or.inr ⟨by rfl, rfl⟩) (fun _ => rfl) ?_)
      try simp only [Act.put, List.setIfInBounds_toArray, List.set_cons_zero, List.set_cons_succ]
      first
        | (refine' ordS_take (i := 5) (oi := { dst := some 43, op := Op.move (Operand.tmp 8), type := 3, pos := _, after := #[], guard := none }) (v := _) rfl (by kernel_rfl) (by kernel_rfl) (by kernel_rfl) (by kernel_rfl) (fun _ _ _ h => h) (by assumption) (Or.inl ⟨by rfl, ?hy107⟩) (fun _ => rfl) ?rest107
           case hy107 => (intro w hSw; (try dsimp only at hSw); go_simp; try with_reducible rfl))
        | (refine ordS_take (i := 5) (oi := { dst := some 43, op := Op.move (Operand.tmp 8), type := 3, pos := _, after := #[], guard := none }) (v := undef) rfl (by kernel_rfl) (by kernel_rfl) (by kernel_rfl) (by kernel_rfl) (fun _ _ _ h => h) (by assumption) (Or.inr ⟨by rfl, rfl⟩) (fun _ => rfl) ?_)
      try simp only [Act.put, List.setIfInBounds_toArray, List.set_cons_zero, List.set_cons_succ]
      first
        | (refine' ordS_take (i := 6) (oi := { dst := some 44, op := Op.slice 42 (Operand.tmp 42) none (some (Operand.tmp 43)) none, type := 42, pos := _, after := #[{ on := 4, ground := Ground.data }, { on := 5, ground := Ground.data }], guard := none }) (v := _) rfl (by kernel_rfl) (by kernel_rfl) (by kernel_rfl) (by kernel_rfl) (fun _ _ _ h => h) (by assumption) (Or.inl ⟨by rfl, ?hy108⟩) (fun _ => rfl) ?rest108
           case hy108 => (intro w hSw; (try dsimp only at hSw); go_simp; try with_reducible rfl))
        | (refine ordS_take (i := 6) (oi := { dst := some 44, op := Op.slice 42 (Operand.tmp 42) none (some (Operand.tmp 43)) none, type := 42, pos := _, after := #[{ on := 4, ground := Ground.data }, { on := 5, ground := Ground.data }], guard := none }) (v := undef) rfl (by kernel_rfl) (by kernel_rfl) (by kernel_rfl) (by kernel_rfl) (fun _ _ _ h => h) (by assumption) (Or.inr ⟨by rfl, rfl⟩) (fun _ => rfl) ?_)
      try simp only [Act.put, List.setIfInBounds_toArray, List.set_cons_zero, List.set_cons_succ]
      refine ordS_one (i := 7) (o := { dst := some 45, op := Op.call { callee := Callee.builtin Builtin.copy, args := #[Operand.tmp 41, Operand.tmp 44], argTypes := #[42, 42] }, type := 3, pos := _, after := #[{ on := 3, ground := Ground.data }, { on := 6, ground := Ground.data }], guard := none }) (by kernel_rfl) rfl (by rfl) (fun K hK => ?_)
      try simp only [if_neg hnb] at hcp2
      try simp only [if_neg hnb]
      go_simp
      refine hK _ _ trivial ?_
      clear hK K
      try simp only [Act.put, List.setIfInBounds_toArray, List.set_cons_zero, List.set_cons_succ]
      first
        | (refine' ordS_take (i := 8) (oi := { dst := some 46, op := Op.binOp BinOp.add 3 (Operand.tmp 38) (Operand.tmp 45) 3, type := 3, pos := _, after := #[{ on := 0, ground := Ground.data }, { on := 7, ground := Ground.data }], guard := none }) (v := _) rfl (by kernel_rfl) (by kernel_rfl) (by kernel_rfl) (by kernel_rfl) (fun _ _ _ h => h) (by assumption) (Or.inl ⟨by rfl, ?hy109⟩) (fun _ => rfl) ?rest109
           case hy109 => (intro w hSw; (try dsimp only at hSw); go_simp; try with_reducible rfl))
        | (refine ordS_take (i := 8) (oi := { dst := some 46, op := Op.binOp BinOp.add 3 (Operand.tmp 38) (Operand.tmp 45) 3, type := 3, pos := _, after := #[{ on := 0, ground := Ground.data }, { on := 7, ground := Ground.data }], guard := none }) (v := undef) rfl (by kernel_rfl) (by kernel_rfl) (by kernel_rfl) (by kernel_rfl) (fun _ _ _ h => h) (by assumption) (Or.inr ⟨by rfl, rfl⟩) (fun _ => rfl) ?_)
      try simp only [Act.put, List.setIfInBounds_toArray, List.set_cons_zero, List.set_cons_succ]
      first
        | (refine' ordS_take (i := 9) (oi := { dst := some 8, op := Op.assign (Operand.tmp 46), type := 3, pos := _, after := #[{ on := 8, ground := Ground.data }, { on := 7, ground := Ground.chain }, { on := 0, ground := Ground.phase }, { on := 1, ground := Ground.phase }, { on := 2, ground := Ground.phase }, { on := 3, ground := Ground.phase }, { on := 4, ground := Ground.phase }, { on := 5, ground := Ground.phase }, { on := 6, ground := Ground.phase }, { on := 7, ground := Ground.phase }, { on := 8, ground := Ground.phase }], guard := none }) (v := _) rfl (by kernel_rfl) (by kernel_rfl) (by kernel_rfl) (by kernel_rfl) (fun _ _ _ h => h) (by assumption) (Or.inl ⟨by rfl, ?hy110⟩) (fun _ => rfl) ?rest110
           case hy110 => (intro w hSw; (try dsimp only at hSw); go_simp; try with_reducible rfl))
        | (refine ordS_take (i := 9) (oi := { dst := some 8, op := Op.assign (Operand.tmp 46), type := 3, pos := _, after := #[{ on := 8, ground := Ground.data }, { on := 7, ground := Ground.chain }, { on := 0, ground := Ground.phase }, { on := 1, ground := Ground.phase }, { on := 2, ground := Ground.phase }, { on := 3, ground := Ground.phase }, { on := 4, ground := Ground.phase }, { on := 5, ground := Ground.phase }, { on := 6, ground := Ground.phase }, { on := 7, ground := Ground.phase }, { on := 8, ground := Ground.phase }], guard := none }) (v := undef) rfl (by kernel_rfl) (by kernel_rfl) (by kernel_rfl) (by kernel_rfl) (fun _ _ _ h => h) (by assumption) (Or.inr ⟨by rfl, rfl⟩) (fun _ => rfl) ?_)
      try simp only [Act.put, List.setIfInBounds_toArray, List.set_cons_zero, List.set_cons_succ]
      refine ordS_done (by kernel_rfl) ?_
      go_wp2
      go_roundw
      case rel => exact ⟨b + m, by omega, by omega, rfl, HR.out, HB.out⟩
      case measure => simp [intOf]; omega
    · obtain rfl : b = n := by omega
      have hge : ¬ ((b : Int) < (b : Int)) := by omega
      go_wp2
      go_ret
      exact ⟨w'.heap.size, Nat.le_refl _, rfl, hg, hB⟩

set_option maxRecDepth 100000 in
set_option maxHeartbeats 2000000 in
/-- What is told, and what waits, behind a reach. -/
theorem reach_sep (p g cap i : Nat) (cost : Int) (ds : List Int) (m : List Th) (w : World) (B : Nat) (l : List Own) (h : Sep w B (RowO 36 1 (.slice (some ⟨g, 0, none⟩) ds.length cap) ds.length (cellsU ds) :: HeapO p m :: l)) (hi : i < ds.length) (hl : ds.length ≤ 65536) (hm : m.length ≤ 1000000) :
    Calls Tryd.prog 74 #[.slice (some ⟨g, 0, none⟩) ds.length cap, .pointer (some ⟨p, 0, none⟩), .int .i64 (i : Int), .int .u64 cost] w fun e w' => e = .returned (.tuple #[]) ∧
      Sep w' B (RowO 36 1 (.slice (some ⟨g, 0, none⟩) ds.length cap) ds.length (cellsU (if atD ds i = 18446744073709551615 then ds.set i cost else ds)) :: HeapO p (if atD ds i = 18446744073709551615 then pushM m ⟨(i : Int), cost, 0, 0, 0⟩ else m) :: l) ∧ Below B w w' := by
  obtain ⟨hcell, hfr, hB, hlt, hcap⟩ := Sep.row (l1 := []) h
  have q := hcell i _ (cellsU_at hi)
  have fq := hfr i
  have hi0 : (0 : Int) ≤ (i : Int) := by omega
  have hi1 : (i : Int) < (ds.length : Int) := by omega
  have zq := blk_lt q
  by_cases hd : atD ds i = 18446744073709551615
  · rw [if_pos hd, if_pos hd]
    rw [hd] at q
    have h2 := Sep.rowset (l1 := []) h i (.int .u64 cost)
    rw [cellsU_set] at h2
    have hcall := push_sep (l1 := [RowO 36 1 (.slice (some ⟨g, 0, none⟩) ds.length cap) ds.length (cellsU (ds.set i cost))]) ⟨(i : Int), cost, 0, 0, 0⟩ h2 (WalkArith.wf_i64 (show -9223372036854775808 ≤ (i : Int) ∧ (i : Int) ≤ 9223372036854775807 by omega)) hm
    have hb0 : Below B w (w.setCell ⟨g, i, none⟩ (.int .u64 cost)) := (Below.refl _ _).setCell (p := ⟨g, i, none⟩) hB _
    have HB0 := Lib.hid hb0
    clear hb0 h h2 hd hcell hfr
    go_enter Tryd.func74, Tryd.ntmps74
    go_wp2_with fail
    refine hcall.mono ?_
    rintro e w2 ⟨rfl, h3, hb⟩
    go_wp2
    go_end0
    exact ⟨rfl, h3, HB0.out.trans hb⟩
  · rw [if_neg hd, if_neg hd]
    have hd2 : (atD ds i == 18446744073709551615) = false := by rw [beq_eq_false_iff_ne]; exact hd
    clear hcell hfr
    generalize atD ds i = v at *
    go_enter Tryd.func74, Tryd.ntmps74
    go_wp2
    go_end0
    exact ⟨rfl, h, Below.refl _ _⟩
end Go.Proofs.YtgbhafadibdmcaaDoor
