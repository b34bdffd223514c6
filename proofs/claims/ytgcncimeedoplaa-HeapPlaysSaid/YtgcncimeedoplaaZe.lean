/- Heap's laws: the reference's Pop. -/
import Derived.Test.YtgcncimeedoplaaZf
namespace Go.Proofs.Ytgcncimeedoplaa
open Go.RowKit Go.Maps

set_option maxRecDepth 100000 in
set_option maxHeartbeats 16000000 in
theorem pop_ref {w : World} {B : Nat} {p : Nat} {u v : Value} {m : List Th} {l : List Own} (h : Sep w B (RefL p u v m l)) (hm : m.length ≤ 1000) (hn : (m.map Th.id).Nodup) :
    Calls Try.prog 19 #[.pointer (some ⟨p, 0, none⟩)] w fun e w' => e = .returned (.tuple #[.int .i64 (firstT m).id, .agg #[.int .u64 (firstT m).F, .int .u64 (firstT m).H, .int .i64 (firstT m).Y, .int .i64 (firstT m).X], .bool (!m.isEmpty)]) ∧ (∃ u' v', Sep w' B (RefL p u' v' (popM m) l)) ∧ Below B w w' := by
  have hbase := h.base
  have hA := (bl_al (bl0 w) (.cells #[.int .u64 0, .int .u64 0, .int .i64 0, .int .i64 0] 28)).mono hbase
  replace h := h.box #[.int .u64 0, .int .u64 0, .int .i64 0, .int .i64 0] 28
  obtain ⟨c, hc0⟩ : ∃ c, w.heap.size = c := ⟨_, rfl⟩
  rw [hc0] at h
  replace h : Sep (w.alloc (.cells #[.int .u64 0, .int .u64 0, .int .i64 0, .int .i64 0] 28)) B (RefL p u v m (l ++ [CellsO c #[.int .u64 0, .int .u64 0, .int .i64 0, .int .i64 0] 28])) := h
  have HN := Lib.hid hn
  clear hn
  obtain ⟨ru, capu, rfl, hru⟩ := Sep.shape (l1 := [CellsO p #[u, v] 39]) h
  obtain ⟨rv, capv, rfl, hrv⟩ := Sep.shape (l1 := [CellsO p #[.slice ru m.length capu, v] 39, RowO 3 1 (.slice ru m.length capu) m.length (cellsI (m.map Th.id))]) h
  obtain ⟨w1, hw1⟩ : ∃ w1, w.alloc (.cells #[.int .u64 0, .int .u64 0, .int .i64 0, .int .i64 0] 28) = w1 := ⟨_, rfl⟩
  rw [hw1] at h hA
  obtain ⟨rc, hBp⟩ := Sep.cells (l1 := []) h
  have c0 : w1.cell? ⟨p, 0, none⟩ = some (.slice ru m.length capu) := by simp [World.cell?, rc]
  have c1 : w1.cell? ⟨p, 1, none⟩ = some (.slice rv m.length capv) := by simp [World.cell?, rc]
  have HS := Lib.hid h
  have HA := Lib.hid hA
  have hA1 := bl0 w1
  clear rc h hA
  go_enter Try.func19, Try.ntmps19
  go_wp2
  clear hw1
  go_loopw [5, 6] (fun bst i wr => ∃ (k : Nat) (r : Int), k ≤ m.length ∧ i = .int .i64 k ∧ bst = .int .i64 r ∧ Hid (BestR m k r) ∧ Below w1.heap.size w1 wr) (fun _ i _ => m.length - (intOf i).toNat)
  case atStart => exact ⟨0, -1, Nat.zero_le _, rfl, rfl, Lib.hid (.inl ⟨rfl, rfl⟩), hA1⟩
  case round =>
    obtain ⟨k, r, hk, rfl, rfl, HK, hAr⟩ := hrel
    clear hA1
    have d0 := cell_later hAr c0
    have d1 := cell_later hAr c1
    by_cases hlt : k < m.length
    · have hlI : (k : Int) < (m.length : Int) := by omega
      have hk0 : (0 : Int) ≤ (k : Int) := by omega
      have hk1 : (k : Int) ≤ 1000 := by omega
      obtain ⟨gu, rfl⟩ : ∃ g, ru = some ⟨g, 0, none⟩ := by
        rcases hru with ⟨_, e, _⟩ | h
        · omega
        · exact h
      obtain ⟨gv, rfl⟩ : ∃ g, rv = some ⟨g, 0, none⟩ := by
        rcases hrv with ⟨_, e, _⟩ | h
        · omega
        · exact h
      have hB := bl_dr (bl0 wr)
      rcases HK.out with ⟨rfl, rfl⟩ | ⟨j, rfl, hj, hbest⟩
      · have hneg : decide ((-1 : Int) < 0) = true := by decide
        go_upto_region 5 with fail
        have hS : (fun w' : World => w'.cell? ⟨p, 0, none⟩ = some (.slice (some ⟨gu, 0, none⟩) m.length capu)) wr.drew := cell_later hB d0
        refine (wpIn_wide (n := 11)).1 ?_
        refine ordS_begin (S := (fun w' : World => w'.cell? ⟨p, 0, none⟩ = some (.slice (some ⟨gu, 0, none⟩) m.length capu))) (by kernel_rfl) hS (fun _ => ?_)
        refine' ordS_take (i := 0) (oi := { dst := some 20, op := Op.move (Operand.tmp 5), type := 3, pos := _, after := #[], guard := none }) (v := _) rfl (by kernel_rfl) (by kernel_rfl) (by kernel_rfl) (by kernel_rfl) (fun _ _ _ h => h) (by assumption) (Or.inl ⟨by rfl, ?hy1⟩) (fun _ => rfl) ?rest1
        case hy1 => (intro w hSw; (try dsimp only at hSw); go_simp; try with_reducible rfl)
        try simp only [Act.put, List.setIfInBounds_toArray, List.set_cons_zero, List.set_cons_succ]
        refine' ordS_take (i := 1) (oi := { dst := some 21, op := Op.binOp BinOp.lss 3 (Operand.tmp 20) (Operand.const (Value.int IntKind.i64 0)) 3, type := 4, pos := _, after := #[{ on := 0, ground := Ground.data }], guard := none }) (v := _) rfl (by kernel_rfl) (by kernel_rfl) (by kernel_rfl) (by kernel_rfl) (fun _ _ _ h => h) (by assumption) (Or.inl ⟨by rfl, ?hy2⟩) (fun _ => rfl) ?rest2
        case hy2 => (intro w hSw; (try dsimp only at hSw); go_simp; try with_reducible rfl)
        try simp only [Act.put, List.setIfInBounds_toArray, List.set_cons_zero, List.set_cons_succ]
        refine' ordS_take (i := 2) (oi := { dst := some 22, op := Op.move (Operand.tmp 21), type := 4, pos := _, after := #[{ on := 1, ground := Ground.data }], guard := none }) (v := _) rfl (by kernel_rfl) (by kernel_rfl) (by kernel_rfl) (by kernel_rfl) (fun _ _ _ h => h) (by assumption) (Or.inl ⟨by rfl, ?hy3⟩) (fun _ => rfl) ?rest3
        case hy3 => (intro w hSw; (try dsimp only at hSw); go_simp; try with_reducible rfl)
        try simp only [Act.put, List.setIfInBounds_toArray, List.set_cons_zero, List.set_cons_succ]
        refine ordS_take (i := 3) (oi := { dst := some 23, op := Op.move (Operand.tmp 0), type := 35, pos := _, after := #[{ on := 2, ground := Ground.guard }], guard := some (2, false) }) (v := undef) rfl (by kernel_rfl) (by kernel_rfl) (by kernel_rfl) (by kernel_rfl) (fun _ _ _ h => h) (by assumption) (Or.inr ⟨by rfl, rfl⟩) (fun _ => rfl) ?_
        try simp only [Act.put, List.setIfInBounds_toArray, List.set_cons_zero, List.set_cons_succ]
        refine ordS_take (i := 4) (oi := { dst := some 24, op := Op.nilCheck (Operand.tmp 23), type := 0, pos := _, after := #[{ on := 3, ground := Ground.data }, { on := 2, ground := Ground.guard }], guard := some (2, false) }) (v := undef) rfl (by kernel_rfl) (by kernel_rfl) (by kernel_rfl) (by kernel_rfl) (fun _ _ _ h => h) (by assumption) (Or.inr ⟨by rfl, rfl⟩) (fun _ => rfl) ?_
        try simp only [Act.put, List.setIfInBounds_toArray, List.set_cons_zero, List.set_cons_succ]
        refine ordS_take (i := 5) (oi := { dst := some 25, op := Op.fieldAddr 39 (Operand.tmp 24) 1, type := 0, pos := _, after := #[{ on := 4, ground := Ground.data }, { on := 2, ground := Ground.guard }], guard := some (2, false) }) (v := undef) rfl (by kernel_rfl) (by kernel_rfl) (by kernel_rfl) (by kernel_rfl) (fun _ _ _ h => h) (by assumption) (Or.inr ⟨by rfl, rfl⟩) (fun _ => rfl) ?_
        try simp only [Act.put, List.setIfInBounds_toArray, List.set_cons_zero, List.set_cons_succ]
        refine ordS_take (i := 6) (oi := { dst := some 26, op := Op.load 37 (Operand.tmp 25), type := 37, pos := _, after := #[{ on := 5, ground := Ground.data }, { on := 2, ground := Ground.guard }], guard := some (2, false) }) (v := undef) rfl (by kernel_rfl) (by kernel_rfl) (by kernel_rfl) (by kernel_rfl) (fun _ _ _ h => h) (by assumption) (Or.inr ⟨by rfl, rfl⟩) (fun _ => rfl) ?_
        try simp only [Act.put, List.setIfInBounds_toArray, List.set_cons_zero, List.set_cons_succ]
        refine ordS_take (i := 7) (oi := { dst := some 27, op := Op.move (Operand.tmp 6), type := 3, pos := _, after := #[{ on := 2, ground := Ground.guard }], guard := some (2, false) }) (v := undef) rfl (by kernel_rfl) (by kernel_rfl) (by kernel_rfl) (by kernel_rfl) (fun _ _ _ h => h) (by assumption) (Or.inr ⟨by rfl, rfl⟩) (fun _ => rfl) ?_
        try simp only [Act.put, List.setIfInBounds_toArray, List.set_cons_zero, List.set_cons_succ]
        refine ordS_take (i := 8) (oi := { dst := some 28, op := Op.indexAddr 37 (Operand.tmp 26) (Operand.tmp 27), type := 0, pos := _, after := #[{ on := 6, ground := Ground.data }, { on := 7, ground := Ground.data }, { on := 2, ground := Ground.guard }], guard := some (2, false) }) (v := undef) rfl (by kernel_rfl) (by kernel_rfl) (by kernel_rfl) (by kernel_rfl) (fun _ _ _ h => h) (by assumption) (Or.inr ⟨by rfl, rfl⟩) (fun _ => rfl) ?_
        try simp only [Act.put, List.setIfInBounds_toArray, List.set_cons_zero, List.set_cons_succ]
        refine ordS_take (i := 9) (oi := { dst := some 29, op := Op.load 28 (Operand.tmp 28), type := 28, pos := _, after := #[{ on := 8, ground := Ground.data }, { on := 2, ground := Ground.guard }], guard := some (2, false) }) (v := undef) rfl (by kernel_rfl) (by kernel_rfl) (by kernel_rfl) (by kernel_rfl) (fun _ _ _ h => h) (by assumption) (Or.inr ⟨by rfl, rfl⟩) (fun _ => rfl) ?_
        try simp only [Act.put, List.setIfInBounds_toArray, List.set_cons_zero, List.set_cons_succ]
        refine ordS_take (i := 10) (oi := { dst := some 30, op := Op.move (Operand.tmp 0), type := 35, pos := _, after := #[{ on := 2, ground := Ground.guard }], guard := some (2, false) }) (v := undef) rfl (by kernel_rfl) (by kernel_rfl) (by kernel_rfl) (by kernel_rfl) (fun _ _ _ h => h) (by assumption) (Or.inr ⟨by rfl, rfl⟩) (fun _ => rfl) ?_
        try simp only [Act.put, List.setIfInBounds_toArray, List.set_cons_zero, List.set_cons_succ]
        refine ordS_take (i := 11) (oi := { dst := some 31, op := Op.nilCheck (Operand.tmp 30), type := 0, pos := _, after := #[{ on := 10, ground := Ground.data }, { on := 2, ground := Ground.guard }], guard := some (2, false) }) (v := undef) rfl (by kernel_rfl) (by kernel_rfl) (by kernel_rfl) (by kernel_rfl) (fun _ _ _ h => h) (by assumption) (Or.inr ⟨by rfl, rfl⟩) (fun _ => rfl) ?_
        try simp only [Act.put, List.setIfInBounds_toArray, List.set_cons_zero, List.set_cons_succ]
        refine ordS_take (i := 12) (oi := { dst := some 32, op := Op.fieldAddr 39 (Operand.tmp 31) 1, type := 0, pos := _, after := #[{ on := 11, ground := Ground.data }, { on := 2, ground := Ground.guard }], guard := some (2, false) }) (v := undef) rfl (by kernel_rfl) (by kernel_rfl) (by kernel_rfl) (by kernel_rfl) (fun _ _ _ h => h) (by assumption) (Or.inr ⟨by rfl, rfl⟩) (fun _ => rfl) ?_
        try simp only [Act.put, List.setIfInBounds_toArray, List.set_cons_zero, List.set_cons_succ]
        refine ordS_take (i := 13) (oi := { dst := some 33, op := Op.load 37 (Operand.tmp 32), type := 37, pos := _, after := #[{ on := 12, ground := Ground.data }, { on := 2, ground := Ground.guard }], guard := some (2, false) }) (v := undef) rfl (by kernel_rfl) (by kernel_rfl) (by kernel_rfl) (by kernel_rfl) (fun _ _ _ h => h) (by assumption) (Or.inr ⟨by rfl, rfl⟩) (fun _ => rfl) ?_
        try simp only [Act.put, List.setIfInBounds_toArray, List.set_cons_zero, List.set_cons_succ]
        refine ordS_take (i := 14) (oi := { dst := some 34, op := Op.move (Operand.tmp 5), type := 3, pos := _, after := #[{ on := 2, ground := Ground.guard }], guard := some (2, false) }) (v := undef) rfl (by kernel_rfl) (by kernel_rfl) (by kernel_rfl) (by kernel_rfl) (fun _ _ _ h => h) (by assumption) (Or.inr ⟨by rfl, rfl⟩) (fun _ => rfl) ?_
        try simp only [Act.put, List.setIfInBounds_toArray, List.set_cons_zero, List.set_cons_succ]
        refine ordS_take (i := 15) (oi := { dst := some 35, op := Op.indexAddr 37 (Operand.tmp 33) (Operand.tmp 34), type := 0, pos := _, after := #[{ on := 13, ground := Ground.data }, { on := 14, ground := Ground.data }, { on := 2, ground := Ground.guard }], guard := some (2, false) }) (v := undef) rfl (by kernel_rfl) (by kernel_rfl) (by kernel_rfl) (by kernel_rfl) (fun _ _ _ h => h) (by assumption) (Or.inr ⟨by rfl, rfl⟩) (fun _ => rfl) ?_
        try simp only [Act.put, List.setIfInBounds_toArray, List.set_cons_zero, List.set_cons_succ]
        refine ordS_take (i := 16) (oi := { dst := some 36, op := Op.load 28 (Operand.tmp 35), type := 28, pos := _, after := #[{ on := 15, ground := Ground.data }, { on := 2, ground := Ground.guard }], guard := some (2, false) }) (v := undef) rfl (by kernel_rfl) (by kernel_rfl) (by kernel_rfl) (by kernel_rfl) (fun _ _ _ h => h) (by assumption) (Or.inr ⟨by rfl, rfl⟩) (fun _ => rfl) ?_
        try simp only [Act.put, List.setIfInBounds_toArray, List.set_cons_zero, List.set_cons_succ]
        refine ordS_skip (i := 17) (o := { dst := some 37, op := Op.call { callee := Callee.value (Operand.func 10), args := #[Operand.tmp 29, Operand.tmp 36], argTypes := #[28, 28] }, type := 4, pos := _, after := #[{ on := 9, ground := Ground.data }, { on := 16, ground := Ground.data }, { on := 2, ground := Ground.chain }, { on := 2, ground := Ground.guard }], guard := some (2, false) }) (by kernel_rfl) rfl (by rfl) (fun _ => trivial) (by assumption) ?_
        try simp only [Act.put, List.setIfInBounds_toArray, List.set_cons_zero, List.set_cons_succ]
        refine' ordS_take (i := 18) (oi := { dst := some 38, op := Op.pick (Operand.tmp 22) (Operand.const (Value.bool true)) (Operand.tmp 37), type := 4, pos := _, after := #[{ on := 2, ground := Ground.data }, { on := 17, ground := Ground.data }], guard := none }) (v := _) rfl (by kernel_rfl) (by kernel_rfl) (by kernel_rfl) (by kernel_rfl) (fun _ _ _ h => h) (by assumption) (Or.inl ⟨by rfl, ?hy18⟩) (fun _ => rfl) ?rest18
        case hy18 => (intro w hSw; (try dsimp only at hSw); go_simp; try with_reducible rfl)
        try simp only [Act.put, List.setIfInBounds_toArray, List.set_cons_zero, List.set_cons_succ]
        refine' ordS_take (i := 19) (oi := { dst := some 39, op := Op.move (Operand.tmp 38), type := 4, pos := _, after := #[{ on := 18, ground := Ground.data }, { on := 17, ground := Ground.chain }], guard := none }) (v := _) rfl (by kernel_rfl) (by kernel_rfl) (by kernel_rfl) (by kernel_rfl) (fun _ _ _ h => h) (by assumption) (Or.inl ⟨by rfl, ?hy19⟩) (fun _ => rfl) ?rest19
        case hy19 => (intro w hSw; (try dsimp only at hSw); go_simp; try with_reducible rfl)
        try simp only [Act.put, List.setIfInBounds_toArray, List.set_cons_zero, List.set_cons_succ]
        refine ordS_take (i := 20) (oi := { dst := some 40, op := Op.move (Operand.tmp 0), type := 35, pos := _, after := #[{ on := 19, ground := Ground.guard }], guard := some (19, false) }) (v := undef) rfl (by kernel_rfl) (by kernel_rfl) (by kernel_rfl) (by kernel_rfl) (fun _ _ _ h => h) (by assumption) (Or.inr ⟨by rfl, rfl⟩) (fun _ => rfl) ?_
        try simp only [Act.put, List.setIfInBounds_toArray, List.set_cons_zero, List.set_cons_succ]
        refine ordS_take (i := 21) (oi := { dst := some 41, op := Op.nilCheck (Operand.tmp 40), type := 0, pos := _, after := #[{ on := 20, ground := Ground.data }, { on := 19, ground := Ground.guard }], guard := some (19, false) }) (v := undef) rfl (by kernel_rfl) (by kernel_rfl) (by kernel_rfl) (by kernel_rfl) (fun _ _ _ h => h) (by assumption) (Or.inr ⟨by rfl, rfl⟩) (fun _ => rfl) ?_
        try simp only [Act.put, List.setIfInBounds_toArray, List.set_cons_zero, List.set_cons_succ]
        refine ordS_take (i := 22) (oi := { dst := some 42, op := Op.fieldAddr 39 (Operand.tmp 41) 1, type := 0, pos := _, after := #[{ on := 21, ground := Ground.data }, { on := 19, ground := Ground.guard }], guard := some (19, false) }) (v := undef) rfl (by kernel_rfl) (by kernel_rfl) (by kernel_rfl) (by kernel_rfl) (fun _ _ _ h => h) (by assumption) (Or.inr ⟨by rfl, rfl⟩) (fun _ => rfl) ?_
        try simp only [Act.put, List.setIfInBounds_toArray, List.set_cons_zero, List.set_cons_succ]
        refine ordS_take (i := 23) (oi := { dst := some 43, op := Op.load 37 (Operand.tmp 42), type := 37, pos := _, after := #[{ on := 22, ground := Ground.data }, { on := 19, ground := Ground.guard }], guard := some (19, false) }) (v := undef) rfl (by kernel_rfl) (by kernel_rfl) (by kernel_rfl) (by kernel_rfl) (fun _ _ _ h => h) (by assumption) (Or.inr ⟨by rfl, rfl⟩) (fun _ => rfl) ?_
        try simp only [Act.put, List.setIfInBounds_toArray, List.set_cons_zero, List.set_cons_succ]
        refine ordS_take (i := 24) (oi := { dst := some 44, op := Op.move (Operand.tmp 5), type := 3, pos := _, after := #[{ on := 19, ground := Ground.guard }], guard := some (19, false) }) (v := undef) rfl (by kernel_rfl) (by kernel_rfl) (by kernel_rfl) (by kernel_rfl) (fun _ _ _ h => h) (by assumption) (Or.inr ⟨by rfl, rfl⟩) (fun _ => rfl) ?_
        try simp only [Act.put, List.setIfInBounds_toArray, List.set_cons_zero, List.set_cons_succ]
        refine ordS_take (i := 25) (oi := { dst := some 45, op := Op.indexAddr 37 (Operand.tmp 43) (Operand.tmp 44), type := 0, pos := _, after := #[{ on := 23, ground := Ground.data }, { on := 24, ground := Ground.data }, { on := 19, ground := Ground.guard }], guard := some (19, false) }) (v := undef) rfl (by kernel_rfl) (by kernel_rfl) (by kernel_rfl) (by kernel_rfl) (fun _ _ _ h => h) (by assumption) (Or.inr ⟨by rfl, rfl⟩) (fun _ => rfl) ?_
        try simp only [Act.put, List.setIfInBounds_toArray, List.set_cons_zero, List.set_cons_succ]
        refine ordS_take (i := 26) (oi := { dst := some 46, op := Op.load 28 (Operand.tmp 45), type := 28, pos := _, after := #[{ on := 25, ground := Ground.data }, { on := 19, ground := Ground.guard }], guard := some (19, false) }) (v := undef) rfl (by kernel_rfl) (by kernel_rfl) (by kernel_rfl) (by kernel_rfl) (fun _ _ _ h => h) (by assumption) (Or.inr ⟨by rfl, rfl⟩) (fun _ => rfl) ?_
        try simp only [Act.put, List.setIfInBounds_toArray, List.set_cons_zero, List.set_cons_succ]
        refine ordS_take (i := 27) (oi := { dst := some 47, op := Op.move (Operand.tmp 0), type := 35, pos := _, after := #[{ on := 19, ground := Ground.guard }], guard := some (19, false) }) (v := undef) rfl (by kernel_rfl) (by kernel_rfl) (by kernel_rfl) (by kernel_rfl) (fun _ _ _ h => h) (by assumption) (Or.inr ⟨by rfl, rfl⟩) (fun _ => rfl) ?_
        try simp only [Act.put, List.setIfInBounds_toArray, List.set_cons_zero, List.set_cons_succ]
        refine ordS_take (i := 28) (oi := { dst := some 48, op := Op.nilCheck (Operand.tmp 47), type := 0, pos := _, after := #[{ on := 27, ground := Ground.data }, { on := 19, ground := Ground.guard }], guard := some (19, false) }) (v := undef) rfl (by kernel_rfl) (by kernel_rfl) (by kernel_rfl) (by kernel_rfl) (fun _ _ _ h => h) (by assumption) (Or.inr ⟨by rfl, rfl⟩) (fun _ => rfl) ?_
        try simp only [Act.put, List.setIfInBounds_toArray, List.set_cons_zero, List.set_cons_succ]
        refine ordS_take (i := 29) (oi := { dst := some 49, op := Op.fieldAddr 39 (Operand.tmp 48) 1, type := 0, pos := _, after := #[{ on := 28, ground := Ground.data }, { on := 19, ground := Ground.guard }], guard := some (19, false) }) (v := undef) rfl (by kernel_rfl) (by kernel_rfl) (by kernel_rfl) (by kernel_rfl) (fun _ _ _ h => h) (by assumption) (Or.inr ⟨by rfl, rfl⟩) (fun _ => rfl) ?_
        try simp only [Act.put, List.setIfInBounds_toArray, List.set_cons_zero, List.set_cons_succ]
        refine ordS_take (i := 30) (oi := { dst := some 50, op := Op.load 37 (Operand.tmp 49), type := 37, pos := _, after := #[{ on := 29, ground := Ground.data }, { on := 19, ground := Ground.guard }], guard := some (19, false) }) (v := undef) rfl (by kernel_rfl) (by kernel_rfl) (by kernel_rfl) (by kernel_rfl) (fun _ _ _ h => h) (by assumption) (Or.inr ⟨by rfl, rfl⟩) (fun _ => rfl) ?_
        try simp only [Act.put, List.setIfInBounds_toArray, List.set_cons_zero, List.set_cons_succ]
        refine ordS_take (i := 31) (oi := { dst := some 51, op := Op.move (Operand.tmp 6), type := 3, pos := _, after := #[{ on := 19, ground := Ground.guard }], guard := some (19, false) }) (v := undef) rfl (by kernel_rfl) (by kernel_rfl) (by kernel_rfl) (by kernel_rfl) (fun _ _ _ h => h) (by assumption) (Or.inr ⟨by rfl, rfl⟩) (fun _ => rfl) ?_
        try simp only [Act.put, List.setIfInBounds_toArray, List.set_cons_zero, List.set_cons_succ]
        refine ordS_take (i := 32) (oi := { dst := some 52, op := Op.indexAddr 37 (Operand.tmp 50) (Operand.tmp 51), type := 0, pos := _, after := #[{ on := 30, ground := Ground.data }, { on := 31, ground := Ground.data }, { on := 19, ground := Ground.guard }], guard := some (19, false) }) (v := undef) rfl (by kernel_rfl) (by kernel_rfl) (by kernel_rfl) (by kernel_rfl) (fun _ _ _ h => h) (by assumption) (Or.inr ⟨by rfl, rfl⟩) (fun _ => rfl) ?_
        try simp only [Act.put, List.setIfInBounds_toArray, List.set_cons_zero, List.set_cons_succ]
        refine ordS_take (i := 33) (oi := { dst := some 53, op := Op.load 28 (Operand.tmp 52), type := 28, pos := _, after := #[{ on := 32, ground := Ground.data }, { on := 19, ground := Ground.guard }], guard := some (19, false) }) (v := undef) rfl (by kernel_rfl) (by kernel_rfl) (by kernel_rfl) (by kernel_rfl) (fun _ _ _ h => h) (by assumption) (Or.inr ⟨by rfl, rfl⟩) (fun _ => rfl) ?_
        try simp only [Act.put, List.setIfInBounds_toArray, List.set_cons_zero, List.set_cons_succ]
        refine ordS_skip (i := 34) (o := { dst := some 54, op := Op.call { callee := Callee.value (Operand.func 10), args := #[Operand.tmp 46, Operand.tmp 53], argTypes := #[28, 28] }, type := 4, pos := _, after := #[{ on := 26, ground := Ground.data }, { on := 33, ground := Ground.data }, { on := 19, ground := Ground.chain }, { on := 19, ground := Ground.guard }], guard := some (19, false) }) (by kernel_rfl) rfl (by rfl) (fun _ => trivial) (by assumption) ?_
        try simp only [Act.put, List.setIfInBounds_toArray, List.set_cons_zero, List.set_cons_succ]
        refine ordS_take (i := 35) (oi := { dst := some 55, op := Op.unOp UnOp.not 4 (Operand.tmp 54), type := 4, pos := _, after := #[{ on := 34, ground := Ground.data }, { on := 19, ground := Ground.guard }], guard := some (19, false) }) (v := undef) rfl (by kernel_rfl) (by kernel_rfl) (by kernel_rfl) (by kernel_rfl) (fun _ _ _ h => h) (by assumption) (Or.inr ⟨by rfl, rfl⟩) (fun _ => rfl) ?_
        try simp only [Act.put, List.setIfInBounds_toArray, List.set_cons_zero, List.set_cons_succ]
        refine ordS_take (i := 36) (oi := { dst := some 56, op := Op.move (Operand.tmp 55), type := 4, pos := _, after := #[{ on := 35, ground := Ground.data }, { on := 34, ground := Ground.chain }, { on := 19, ground := Ground.guard }], guard := some (19, false) }) (v := undef) rfl (by kernel_rfl) (by kernel_rfl) (by kernel_rfl) (by kernel_rfl) (fun _ _ _ h => h) (by assumption) (Or.inr ⟨by rfl, rfl⟩) (fun _ => rfl) ?_
        try simp only [Act.put, List.setIfInBounds_toArray, List.set_cons_zero, List.set_cons_succ]
        refine ordS_take (i := 37) (oi := { dst := some 57, op := Op.move (Operand.tmp 0), type := 35, pos := _, after := #[{ on := 36, ground := Ground.guard }], guard := some (36, true) }) (v := undef) rfl (by kernel_rfl) (by kernel_rfl) (by kernel_rfl) (by kernel_rfl) (fun _ _ _ h => h) (by assumption) (Or.inr ⟨by rfl, rfl⟩) (fun _ => rfl) ?_
        try simp only [Act.put, List.setIfInBounds_toArray, List.set_cons_zero, List.set_cons_succ]
        refine ordS_take (i := 38) (oi := { dst := some 58, op := Op.nilCheck (Operand.tmp 57), type := 0, pos := _, after := #[{ on := 37, ground := Ground.data }, { on := 36, ground := Ground.guard }], guard := some (36, true) }) (v := undef) rfl (by kernel_rfl) (by kernel_rfl) (by kernel_rfl) (by kernel_rfl) (fun _ _ _ h => h) (by assumption) (Or.inr ⟨by rfl, rfl⟩) (fun _ => rfl) ?_
        try simp only [Act.put, List.setIfInBounds_toArray, List.set_cons_zero, List.set_cons_succ]
        refine ordS_take (i := 39) (oi := { dst := some 59, op := Op.fieldAddr 39 (Operand.tmp 58) 0, type := 0, pos := _, after := #[{ on := 38, ground := Ground.data }, { on := 36, ground := Ground.guard }], guard := some (36, true) }) (v := undef) rfl (by kernel_rfl) (by kernel_rfl) (by kernel_rfl) (by kernel_rfl) (fun _ _ _ h => h) (by assumption) (Or.inr ⟨by rfl, rfl⟩) (fun _ => rfl) ?_
        try simp only [Act.put, List.setIfInBounds_toArray, List.set_cons_zero, List.set_cons_succ]
        refine ordS_take (i := 40) (oi := { dst := some 60, op := Op.load 36 (Operand.tmp 59), type := 36, pos := _, after := #[{ on := 39, ground := Ground.data }, { on := 36, ground := Ground.guard }], guard := some (36, true) }) (v := undef) rfl (by kernel_rfl) (by kernel_rfl) (by kernel_rfl) (by kernel_rfl) (fun _ _ _ h => h) (by assumption) (Or.inr ⟨by rfl, rfl⟩) (fun _ => rfl) ?_
        try simp only [Act.put, List.setIfInBounds_toArray, List.set_cons_zero, List.set_cons_succ]
        refine ordS_take (i := 41) (oi := { dst := some 61, op := Op.move (Operand.tmp 6), type := 3, pos := _, after := #[{ on := 36, ground := Ground.guard }], guard := some (36, true) }) (v := undef) rfl (by kernel_rfl) (by kernel_rfl) (by kernel_rfl) (by kernel_rfl) (fun _ _ _ h => h) (by assumption) (Or.inr ⟨by rfl, rfl⟩) (fun _ => rfl) ?_
        try simp only [Act.put, List.setIfInBounds_toArray, List.set_cons_zero, List.set_cons_succ]
        refine ordS_take (i := 42) (oi := { dst := some 62, op := Op.indexAddr 36 (Operand.tmp 60) (Operand.tmp 61), type := 0, pos := _, after := #[{ on := 40, ground := Ground.data }, { on := 41, ground := Ground.data }, { on := 36, ground := Ground.guard }], guard := some (36, true) }) (v := undef) rfl (by kernel_rfl) (by kernel_rfl) (by kernel_rfl) (by kernel_rfl) (fun _ _ _ h => h) (by assumption) (Or.inr ⟨by rfl, rfl⟩) (fun _ => rfl) ?_
        try simp only [Act.put, List.setIfInBounds_toArray, List.set_cons_zero, List.set_cons_succ]
        refine ordS_take (i := 43) (oi := { dst := some 63, op := Op.load 3 (Operand.tmp 62), type := 3, pos := _, after := #[{ on := 42, ground := Ground.data }, { on := 36, ground := Ground.guard }], guard := some (36, true) }) (v := undef) rfl (by kernel_rfl) (by kernel_rfl) (by kernel_rfl) (by kernel_rfl) (fun _ _ _ h => h) (by assumption) (Or.inr ⟨by rfl, rfl⟩) (fun _ => rfl) ?_
        try simp only [Act.put, List.setIfInBounds_toArray, List.set_cons_zero, List.set_cons_succ]
        refine ordS_take (i := 44) (oi := { dst := some 64, op := Op.move (Operand.tmp 0), type := 35, pos := _, after := #[{ on := 36, ground := Ground.guard }], guard := some (36, true) }) (v := undef) rfl (by kernel_rfl) (by kernel_rfl) (by kernel_rfl) (by kernel_rfl) (fun _ _ _ h => h) (by assumption) (Or.inr ⟨by rfl, rfl⟩) (fun _ => rfl) ?_
        try simp only [Act.put, List.setIfInBounds_toArray, List.set_cons_zero, List.set_cons_succ]
        refine ordS_take (i := 45) (oi := { dst := some 65, op := Op.nilCheck (Operand.tmp 64), type := 0, pos := _, after := #[{ on := 44, ground := Ground.data }, { on := 36, ground := Ground.guard }], guard := some (36, true) }) (v := undef) rfl (by kernel_rfl) (by kernel_rfl) (by kernel_rfl) (by kernel_rfl) (fun _ _ _ h => h) (by assumption) (Or.inr ⟨by rfl, rfl⟩) (fun _ => rfl) ?_
        try simp only [Act.put, List.setIfInBounds_toArray, List.set_cons_zero, List.set_cons_succ]
        refine ordS_take (i := 46) (oi := { dst := some 66, op := Op.fieldAddr 39 (Operand.tmp 65) 0, type := 0, pos := _, after := #[{ on := 45, ground := Ground.data }, { on := 36, ground := Ground.guard }], guard := some (36, true) }) (v := undef) rfl (by kernel_rfl) (by kernel_rfl) (by kernel_rfl) (by kernel_rfl) (fun _ _ _ h => h) (by assumption) (Or.inr ⟨by rfl, rfl⟩) (fun _ => rfl) ?_
        try simp only [Act.put, List.setIfInBounds_toArray, List.set_cons_zero, List.set_cons_succ]
        refine ordS_take (i := 47) (oi := { dst := some 67, op := Op.load 36 (Operand.tmp 66), type := 36, pos := _, after := #[{ on := 46, ground := Ground.data }, { on := 36, ground := Ground.guard }], guard := some (36, true) }) (v := undef) rfl (by kernel_rfl) (by kernel_rfl) (by kernel_rfl) (by kernel_rfl) (fun _ _ _ h => h) (by assumption) (Or.inr ⟨by rfl, rfl⟩) (fun _ => rfl) ?_
        try simp only [Act.put, List.setIfInBounds_toArray, List.set_cons_zero, List.set_cons_succ]
        refine ordS_take (i := 48) (oi := { dst := some 68, op := Op.move (Operand.tmp 5), type := 3, pos := _, after := #[{ on := 36, ground := Ground.guard }], guard := some (36, true) }) (v := undef) rfl (by kernel_rfl) (by kernel_rfl) (by kernel_rfl) (by kernel_rfl) (fun _ _ _ h => h) (by assumption) (Or.inr ⟨by rfl, rfl⟩) (fun _ => rfl) ?_
        try simp only [Act.put, List.setIfInBounds_toArray, List.set_cons_zero, List.set_cons_succ]
        refine ordS_take (i := 49) (oi := { dst := some 69, op := Op.indexAddr 36 (Operand.tmp 67) (Operand.tmp 68), type := 0, pos := _, after := #[{ on := 47, ground := Ground.data }, { on := 48, ground := Ground.data }, { on := 36, ground := Ground.guard }], guard := some (36, true) }) (v := undef) rfl (by kernel_rfl) (by kernel_rfl) (by kernel_rfl) (by kernel_rfl) (fun _ _ _ h => h) (by assumption) (Or.inr ⟨by rfl, rfl⟩) (fun _ => rfl) ?_
        try simp only [Act.put, List.setIfInBounds_toArray, List.set_cons_zero, List.set_cons_succ]
        refine ordS_take (i := 50) (oi := { dst := some 70, op := Op.load 3 (Operand.tmp 69), type := 3, pos := _, after := #[{ on := 49, ground := Ground.data }, { on := 36, ground := Ground.guard }], guard := some (36, true) }) (v := undef) rfl (by kernel_rfl) (by kernel_rfl) (by kernel_rfl) (by kernel_rfl) (fun _ _ _ h => h) (by assumption) (Or.inr ⟨by rfl, rfl⟩) (fun _ => rfl) ?_
        try simp only [Act.put, List.setIfInBounds_toArray, List.set_cons_zero, List.set_cons_succ]
        refine ordS_take (i := 51) (oi := { dst := some 71, op := Op.binOp BinOp.lss 3 (Operand.tmp 63) (Operand.tmp 70) 3, type := 4, pos := _, after := #[{ on := 43, ground := Ground.data }, { on := 50, ground := Ground.data }, { on := 36, ground := Ground.guard }], guard := some (36, true) }) (v := undef) rfl (by kernel_rfl) (by kernel_rfl) (by kernel_rfl) (by kernel_rfl) (fun _ _ _ h => h) (by assumption) (Or.inr ⟨by rfl, rfl⟩) (fun _ => rfl) ?_
        try simp only [Act.put, List.setIfInBounds_toArray, List.set_cons_zero, List.set_cons_succ]
        refine ordS_take (i := 52) (oi := { dst := some 72, op := Op.pick (Operand.tmp 56) (Operand.tmp 71) (Operand.const (Value.bool false)), type := 4, pos := _, after := #[{ on := 36, ground := Ground.data }, { on := 51, ground := Ground.data }, { on := 19, ground := Ground.guard }], guard := some (19, false) }) (v := undef) rfl (by kernel_rfl) (by kernel_rfl) (by kernel_rfl) (by kernel_rfl) (fun _ _ _ h => h) (by assumption) (Or.inr ⟨by rfl, rfl⟩) (fun _ => rfl) ?_
        try simp only [Act.put, List.setIfInBounds_toArray, List.set_cons_zero, List.set_cons_succ]
        refine' ordS_take (i := 53) (oi := { dst := some 73, op := Op.pick (Operand.tmp 39) (Operand.const (Value.bool true)) (Operand.tmp 72), type := 4, pos := _, after := #[{ on := 19, ground := Ground.data }, { on := 52, ground := Ground.data }], guard := none }) (v := _) rfl (by kernel_rfl) (by kernel_rfl) (by kernel_rfl) (by kernel_rfl) (fun _ _ _ h => h) (by assumption) (Or.inl ⟨by rfl, ?hy52⟩) (fun _ => rfl) ?rest52
        case hy52 => (intro w hSw; (try dsimp only at hSw); go_simp; try with_reducible rfl)
        try simp only [Act.put, List.setIfInBounds_toArray, List.set_cons_zero, List.set_cons_succ]
        refine ordS_done (by kernel_rfl) ?_
        have HB := Lib.hid (bl_tr hAr hB)
        clear hB hS hAr
        go_wp2
        go_roundw
        case rel => exact ⟨0 + 1, _, by omega, by go_num, by go_num, Lib.hid (best_one m), HB.out⟩
        case measure => simp [intOf]; omega

      · have hjl : j < m.length := by omega
        have hj0 : (0 : Int) ≤ (j : Int) := by omega
        have hjI : (j : Int) < (m.length : Int) := by omega
        have hneg : decide ((j : Int) < 0) = false := decide_eq_false (by omega)
        obtain ⟨hi, _, _, _, _⟩ := Sep.row (l1 := [CellsO p #[.slice (some ⟨gu, 0, none⟩) m.length capu, .slice (some ⟨gv, 0, none⟩) m.length capv] 39]) HS.out
        obtain ⟨hv, _, _, _, _⟩ := Sep.row (l1 := [CellsO p #[.slice (some ⟨gu, 0, none⟩) m.length capu, .slice (some ⟨gv, 0, none⟩) m.length capv] 39, RowO 3 1 (.slice (some ⟨gu, 0, none⟩) m.length capu) m.length (cellsI (m.map Th.id))]) HS.out
        have x0 := cell_later hAr (hi _ _ (ids_at hlt))
        have z0 := cell_later hAr (hi _ _ (ids_at hjl))
        obtain ⟨e0, e1, e2, e3⟩ := flatK_at m k hlt
        have y0 := cell_later hAr (hv _ _ e0)
        have y1 := cell_later hAr (hv _ _ e1)
        have y2 := cell_later hAr (hv _ _ e2)
        have y3 := cell_later hAr (hv _ _ e3)
        obtain ⟨f0, f1, f2, f3⟩ := flatK_at m j hjl
        have q0 := cell_later hAr (hv _ _ f0)
        have q1 := cell_later hAr (hv _ _ f1)
        have q2 := cell_later hAr (hv _ _ f2)
        have q3 := cell_later hAr (hv _ _ f3)
        have HNEW := Lib.hid (best_new (m := m) hbest)
        have HOLD := Lib.hid (best_old (m := m) hj hbest)
        clear hi hv e0 e1 e2 e3 f0 f1 f2 f3 hbest
        generalize atT m k = a at *
        generalize atT m j = b at *
        go_upto_region 5 with fail
        have hS : (fun w' : World => w'.cell? ⟨p, 0, none⟩ = some (.slice (some ⟨gu, 0, none⟩) m.length capu) ∧ w'.cell? ⟨p, 1, none⟩ = some (.slice (some ⟨gv, 0, none⟩) m.length capv) ∧ w'.cell? ⟨gu, k, none⟩ = some (.int .i64 a.id) ∧ w'.cell? ⟨gu, j, none⟩ = some (.int .i64 b.id) ∧ w'.cell? ⟨gv, k * 4, none⟩ = some (.int .u64 a.F) ∧ w'.cell? ⟨gv, k * 4 + 1, none⟩ = some (.int .u64 a.H) ∧ w'.cell? ⟨gv, k * 4 + 2, none⟩ = some (.int .i64 a.Y) ∧ w'.cell? ⟨gv, k * 4 + 3, none⟩ = some (.int .i64 a.X) ∧ w'.cell? ⟨gv, j * 4, none⟩ = some (.int .u64 b.F) ∧ w'.cell? ⟨gv, j * 4 + 1, none⟩ = some (.int .u64 b.H) ∧ w'.cell? ⟨gv, j * 4 + 2, none⟩ = some (.int .i64 b.Y) ∧ w'.cell? ⟨gv, j * 4 + 3, none⟩ = some (.int .i64 b.X)) wr.drew := ⟨cell_later hB d0, cell_later hB d1, cell_later hB x0, cell_later hB z0, cell_later hB y0, cell_later hB y1, cell_later hB y2, cell_later hB y3, cell_later hB q0, cell_later hB q1, cell_later hB q2, cell_later hB q3⟩
        have HSL : Hid (∀ W W' : World, Below W.heap.size W W' → (fun w' : World => w'.cell? ⟨p, 0, none⟩ = some (.slice (some ⟨gu, 0, none⟩) m.length capu) ∧ w'.cell? ⟨p, 1, none⟩ = some (.slice (some ⟨gv, 0, none⟩) m.length capv) ∧ w'.cell? ⟨gu, k, none⟩ = some (.int .i64 a.id) ∧ w'.cell? ⟨gu, j, none⟩ = some (.int .i64 b.id) ∧ w'.cell? ⟨gv, k * 4, none⟩ = some (.int .u64 a.F) ∧ w'.cell? ⟨gv, k * 4 + 1, none⟩ = some (.int .u64 a.H) ∧ w'.cell? ⟨gv, k * 4 + 2, none⟩ = some (.int .i64 a.Y) ∧ w'.cell? ⟨gv, k * 4 + 3, none⟩ = some (.int .i64 a.X) ∧ w'.cell? ⟨gv, j * 4, none⟩ = some (.int .u64 b.F) ∧ w'.cell? ⟨gv, j * 4 + 1, none⟩ = some (.int .u64 b.H) ∧ w'.cell? ⟨gv, j * 4 + 2, none⟩ = some (.int .i64 b.Y) ∧ w'.cell? ⟨gv, j * 4 + 3, none⟩ = some (.int .i64 b.X)) W → (fun w' : World => w'.cell? ⟨p, 0, none⟩ = some (.slice (some ⟨gu, 0, none⟩) m.length capu) ∧ w'.cell? ⟨p, 1, none⟩ = some (.slice (some ⟨gv, 0, none⟩) m.length capv) ∧ w'.cell? ⟨gu, k, none⟩ = some (.int .i64 a.id) ∧ w'.cell? ⟨gu, j, none⟩ = some (.int .i64 b.id) ∧ w'.cell? ⟨gv, k * 4, none⟩ = some (.int .u64 a.F) ∧ w'.cell? ⟨gv, k * 4 + 1, none⟩ = some (.int .u64 a.H) ∧ w'.cell? ⟨gv, k * 4 + 2, none⟩ = some (.int .i64 a.Y) ∧ w'.cell? ⟨gv, k * 4 + 3, none⟩ = some (.int .i64 a.X) ∧ w'.cell? ⟨gv, j * 4, none⟩ = some (.int .u64 b.F) ∧ w'.cell? ⟨gv, j * 4 + 1, none⟩ = some (.int .u64 b.H) ∧ w'.cell? ⟨gv, j * 4 + 2, none⟩ = some (.int .i64 b.Y) ∧ w'.cell? ⟨gv, j * 4 + 3, none⟩ = some (.int .i64 b.X)) W') := Lib.hid (fun W W' hb h => by
          obtain ⟨h0, h1, h2, h3, h4, h5, h6, h7, h8, h9, h10, h11⟩ := h
          exact ⟨cell_later hb h0, cell_later hb h1, cell_later hb h2, cell_later hb h3, cell_later hb h4, cell_later hb h5, cell_later hb h6, cell_later hb h7, cell_later hb h8, cell_later hb h9, cell_later hb h10, cell_later hb h11⟩)
        clear d0 d1 x0 z0 y0 y1 y2 y3 q0 q1 q2 q3
        have R17 := fun w => rless_any a b w
        have R34 := fun w => rless_any b a w
        cases hab : lessK a b
        · simp only [hab] at R17
          cases hba : lessK b a
          · simp only [hba] at R34
            have hah := ahead_like hab hba
            by_cases hid : a.id < b.id
            · have HX := Lib.hid (HNEW.out (by rw [hah]; exact decide_eq_true hid))
              have hidd : decide (a.id < b.id) = true := decide_eq_true hid
              clear hah hab hba
              refine (wpIn_wide (n := 11)).1 ?_
              refine ordS_begin (S := (fun w' : World => w'.cell? ⟨p, 0, none⟩ = some (.slice (some ⟨gu, 0, none⟩) m.length capu) ∧ w'.cell? ⟨p, 1, none⟩ = some (.slice (some ⟨gv, 0, none⟩) m.length capv) ∧ w'.cell? ⟨gu, k, none⟩ = some (.int .i64 a.id) ∧ w'.cell? ⟨gu, j, none⟩ = some (.int .i64 b.id) ∧ w'.cell? ⟨gv, k * 4, none⟩ = some (.int .u64 a.F) ∧ w'.cell? ⟨gv, k * 4 + 1, none⟩ = some (.int .u64 a.H) ∧ w'.cell? ⟨gv, k * 4 + 2, none⟩ = some (.int .i64 a.Y) ∧ w'.cell? ⟨gv, k * 4 + 3, none⟩ = some (.int .i64 a.X) ∧ w'.cell? ⟨gv, j * 4, none⟩ = some (.int .u64 b.F) ∧ w'.cell? ⟨gv, j * 4 + 1, none⟩ = some (.int .u64 b.H) ∧ w'.cell? ⟨gv, j * 4 + 2, none⟩ = some (.int .i64 b.Y) ∧ w'.cell? ⟨gv, j * 4 + 3, none⟩ = some (.int .i64 b.X))) (by kernel_rfl) hS (fun _ => ?_)
              refine' ordS_take (i := 0) (oi := { dst := some 20, op := Op.move (Operand.tmp 5), type := 3, pos := _, after := #[], guard := none }) (v := _) rfl (by kernel_rfl) (by kernel_rfl) (by kernel_rfl) (by kernel_rfl) (fun _ _ _ h => h) (by assumption) (Or.inl ⟨by rfl, ?hy53⟩) (fun _ => rfl) ?rest53
              case hy53 => (intro w hSw; (try dsimp only at hSw); go_simp; try with_reducible rfl)
              try simp only [Act.put, List.setIfInBounds_toArray, List.set_cons_zero, List.set_cons_succ]
              refine' ordS_take (i := 1) (oi := { dst := some 21, op := Op.binOp BinOp.lss 3 (Operand.tmp 20) (Operand.const (Value.int IntKind.i64 0)) 3, type := 4, pos := _, after := #[{ on := 0, ground := Ground.data }], guard := none }) (v := _) rfl (by kernel_rfl) (by kernel_rfl) (by kernel_rfl) (by kernel_rfl) (fun _ _ _ h => h) (by assumption) (Or.inl ⟨by rfl, ?hy54⟩) (fun _ => rfl) ?rest54
              case hy54 => (intro w hSw; (try dsimp only at hSw); go_simp; try with_reducible rfl)
              try simp only [Act.put, List.setIfInBounds_toArray, List.set_cons_zero, List.set_cons_succ]
              refine' ordS_take (i := 2) (oi := { dst := some 22, op := Op.move (Operand.tmp 21), type := 4, pos := _, after := #[{ on := 1, ground := Ground.data }], guard := none }) (v := _) rfl (by kernel_rfl) (by kernel_rfl) (by kernel_rfl) (by kernel_rfl) (fun _ _ _ h => h) (by assumption) (Or.inl ⟨by rfl, ?hy55⟩) (fun _ => rfl) ?rest55
              case hy55 => (intro w hSw; (try dsimp only at hSw); go_simp; try with_reducible rfl)
              try simp only [Act.put, List.setIfInBounds_toArray, List.set_cons_zero, List.set_cons_succ]
              refine' ordS_take (i := 3) (oi := { dst := some 23, op := Op.move (Operand.tmp 0), type := 35, pos := _, after := #[{ on := 2, ground := Ground.guard }], guard := some (2, false) }) (v := _) rfl (by kernel_rfl) (by kernel_rfl) (by kernel_rfl) (by kernel_rfl) (fun _ _ _ h => h) (by assumption) (Or.inl ⟨by rfl, ?hy56⟩) (fun _ => rfl) ?rest56
              case hy56 => (intro w hSw; (try dsimp only at hSw); go_simp; try with_reducible rfl)
              try simp only [Act.put, List.setIfInBounds_toArray, List.set_cons_zero, List.set_cons_succ]
              refine' ordS_take (i := 4) (oi := { dst := some 24, op := Op.nilCheck (Operand.tmp 23), type := 0, pos := _, after := #[{ on := 3, ground := Ground.data }, { on := 2, ground := Ground.guard }], guard := some (2, false) }) (v := _) rfl (by kernel_rfl) (by kernel_rfl) (by kernel_rfl) (by kernel_rfl) (fun _ _ _ h => h) (by assumption) (Or.inl ⟨by rfl, ?hy57⟩) (fun _ => rfl) ?rest57
              case hy57 => (intro w hSw; (try dsimp only at hSw); go_simp; try with_reducible rfl)
              try simp only [Act.put, List.setIfInBounds_toArray, List.set_cons_zero, List.set_cons_succ]
              refine' ordS_take (i := 5) (oi := { dst := some 25, op := Op.fieldAddr 39 (Operand.tmp 24) 1, type := 0, pos := _, after := #[{ on := 4, ground := Ground.data }, { on := 2, ground := Ground.guard }], guard := some (2, false) }) (v := _) rfl (by kernel_rfl) (by kernel_rfl) (by kernel_rfl) (by kernel_rfl) (fun _ _ _ h => h) (by assumption) (Or.inl ⟨by rfl, ?hy58⟩) (fun _ => rfl) ?rest58
              case hy58 => (intro w hSw; (try dsimp only at hSw); go_simp; try with_reducible rfl)
              try simp only [Act.put, List.setIfInBounds_toArray, List.set_cons_zero, List.set_cons_succ]
              refine' ordS_take (i := 6) (oi := { dst := some 26, op := Op.load 37 (Operand.tmp 25), type := 37, pos := _, after := #[{ on := 5, ground := Ground.data }, { on := 2, ground := Ground.guard }], guard := some (2, false) }) (v := _) rfl (by kernel_rfl) (by kernel_rfl) (by kernel_rfl) (by kernel_rfl) (fun _ _ _ h => h) (by assumption) (Or.inl ⟨by rfl, ?hy59⟩) (fun _ => rfl) ?rest59
              case hy59 => (intro w hSw; (try dsimp only at hSw); go_simp; try with_reducible rfl)
              try simp only [Act.put, List.setIfInBounds_toArray, List.set_cons_zero, List.set_cons_succ]
              refine' ordS_take (i := 7) (oi := { dst := some 27, op := Op.move (Operand.tmp 6), type := 3, pos := _, after := #[{ on := 2, ground := Ground.guard }], guard := some (2, false) }) (v := _) rfl (by kernel_rfl) (by kernel_rfl) (by kernel_rfl) (by kernel_rfl) (fun _ _ _ h => h) (by assumption) (Or.inl ⟨by rfl, ?hy60⟩) (fun _ => rfl) ?rest60
              case hy60 => (intro w hSw; (try dsimp only at hSw); go_simp; try with_reducible rfl)
              try simp only [Act.put, List.setIfInBounds_toArray, List.set_cons_zero, List.set_cons_succ]
              refine' ordS_take (i := 8) (oi := { dst := some 28, op := Op.indexAddr 37 (Operand.tmp 26) (Operand.tmp 27), type := 0, pos := _, after := #[{ on := 6, ground := Ground.data }, { on := 7, ground := Ground.data }, { on := 2, ground := Ground.guard }], guard := some (2, false) }) (v := _) rfl (by kernel_rfl) (by kernel_rfl) (by kernel_rfl) (by kernel_rfl) (fun _ _ _ h => h) (by assumption) (Or.inl ⟨by rfl, ?hy61⟩) (fun _ => rfl) ?rest61
              case hy61 => (intro w hSw; (try dsimp only at hSw); go_simp; try with_reducible rfl)
              try simp only [Act.put, List.setIfInBounds_toArray, List.set_cons_zero, List.set_cons_succ]
              refine' ordS_take (i := 9) (oi := { dst := some 29, op := Op.load 28 (Operand.tmp 28), type := 28, pos := _, after := #[{ on := 8, ground := Ground.data }, { on := 2, ground := Ground.guard }], guard := some (2, false) }) (v := _) rfl (by kernel_rfl) (by kernel_rfl) (by kernel_rfl) (by kernel_rfl) (fun _ _ _ h => h) (by assumption) (Or.inl ⟨by rfl, ?hy62⟩) (fun _ => rfl) ?rest62
              case hy62 => (intro w hSw; (try dsimp only at hSw); go_simp; try with_reducible rfl)
              try simp only [Act.put, List.setIfInBounds_toArray, List.set_cons_zero, List.set_cons_succ]
              refine' ordS_take (i := 10) (oi := { dst := some 30, op := Op.move (Operand.tmp 0), type := 35, pos := _, after := #[{ on := 2, ground := Ground.guard }], guard := some (2, false) }) (v := _) rfl (by kernel_rfl) (by kernel_rfl) (by kernel_rfl) (by kernel_rfl) (fun _ _ _ h => h) (by assumption) (Or.inl ⟨by rfl, ?hy63⟩) (fun _ => rfl) ?rest63
              case hy63 => (intro w hSw; (try dsimp only at hSw); go_simp; try with_reducible rfl)
              try simp only [Act.put, List.setIfInBounds_toArray, List.set_cons_zero, List.set_cons_succ]
              refine' ordS_take (i := 11) (oi := { dst := some 31, op := Op.nilCheck (Operand.tmp 30), type := 0, pos := _, after := #[{ on := 10, ground := Ground.data }, { on := 2, ground := Ground.guard }], guard := some (2, false) }) (v := _) rfl (by kernel_rfl) (by kernel_rfl) (by kernel_rfl) (by kernel_rfl) (fun _ _ _ h => h) (by assumption) (Or.inl ⟨by rfl, ?hy64⟩) (fun _ => rfl) ?rest64
              case hy64 => (intro w hSw; (try dsimp only at hSw); go_simp; try with_reducible rfl)
              try simp only [Act.put, List.setIfInBounds_toArray, List.set_cons_zero, List.set_cons_succ]
              refine' ordS_take (i := 12) (oi := { dst := some 32, op := Op.fieldAddr 39 (Operand.tmp 31) 1, type := 0, pos := _, after := #[{ on := 11, ground := Ground.data }, { on := 2, ground := Ground.guard }], guard := some (2, false) }) (v := _) rfl (by kernel_rfl) (by kernel_rfl) (by kernel_rfl) (by kernel_rfl) (fun _ _ _ h => h) (by assumption) (Or.inl ⟨by rfl, ?hy65⟩) (fun _ => rfl) ?rest65
              case hy65 => (intro w hSw; (try dsimp only at hSw); go_simp; try with_reducible rfl)
              try simp only [Act.put, List.setIfInBounds_toArray, List.set_cons_zero, List.set_cons_succ]
              refine' ordS_take (i := 13) (oi := { dst := some 33, op := Op.load 37 (Operand.tmp 32), type := 37, pos := _, after := #[{ on := 12, ground := Ground.data }, { on := 2, ground := Ground.guard }], guard := some (2, false) }) (v := _) rfl (by kernel_rfl) (by kernel_rfl) (by kernel_rfl) (by kernel_rfl) (fun _ _ _ h => h) (by assumption) (Or.inl ⟨by rfl, ?hy66⟩) (fun _ => rfl) ?rest66
              case hy66 => (intro w hSw; (try dsimp only at hSw); go_simp; try with_reducible rfl)
              try simp only [Act.put, List.setIfInBounds_toArray, List.set_cons_zero, List.set_cons_succ]
              refine' ordS_take (i := 14) (oi := { dst := some 34, op := Op.move (Operand.tmp 5), type := 3, pos := _, after := #[{ on := 2, ground := Ground.guard }], guard := some (2, false) }) (v := _) rfl (by kernel_rfl) (by kernel_rfl) (by kernel_rfl) (by kernel_rfl) (fun _ _ _ h => h) (by assumption) (Or.inl ⟨by rfl, ?hy67⟩) (fun _ => rfl) ?rest67
              case hy67 => (intro w hSw; (try dsimp only at hSw); go_simp; try with_reducible rfl)
              try simp only [Act.put, List.setIfInBounds_toArray, List.set_cons_zero, List.set_cons_succ]
              refine' ordS_take (i := 15) (oi := { dst := some 35, op := Op.indexAddr 37 (Operand.tmp 33) (Operand.tmp 34), type := 0, pos := _, after := #[{ on := 13, ground := Ground.data }, { on := 14, ground := Ground.data }, { on := 2, ground := Ground.guard }], guard := some (2, false) }) (v := _) rfl (by kernel_rfl) (by kernel_rfl) (by kernel_rfl) (by kernel_rfl) (fun _ _ _ h => h) (by assumption) (Or.inl ⟨by rfl, ?hy68⟩) (fun _ => rfl) ?rest68
              case hy68 => (intro w hSw; (try dsimp only at hSw); go_simp; try with_reducible rfl)
              try simp only [Act.put, List.setIfInBounds_toArray, List.set_cons_zero, List.set_cons_succ]
              refine' ordS_take (i := 16) (oi := { dst := some 36, op := Op.load 28 (Operand.tmp 35), type := 28, pos := _, after := #[{ on := 15, ground := Ground.data }, { on := 2, ground := Ground.guard }], guard := some (2, false) }) (v := _) rfl (by kernel_rfl) (by kernel_rfl) (by kernel_rfl) (by kernel_rfl) (fun _ _ _ h => h) (by assumption) (Or.inl ⟨by rfl, ?hy69⟩) (fun _ => rfl) ?rest69
              case hy69 => (intro w hSw; (try dsimp only at hSw); go_simp; try with_reducible rfl)
              try simp only [Act.put, List.setIfInBounds_toArray, List.set_cons_zero, List.set_cons_succ]
              refine ordS_one (i := 17) (o := { dst := some 37, op := Op.call { callee := Callee.value (Operand.func 10), args := #[Operand.tmp 29, Operand.tmp 36], argTypes := #[28, 28] }, type := 4, pos := _, after := #[{ on := 9, ground := Ground.data }, { on := 16, ground := Ground.data }, { on := 2, ground := Ground.chain }, { on := 2, ground := Ground.guard }], guard := some (2, false) }) (by kernel_rfl) rfl (by rfl) (fun K hK => ?_)
              go_simp
              refine ⟨trivial, (callsIn_wide.2 (R17 _)).mono ?_⟩
              rintro e w9 ⟨rfl, hb⟩
              replace hB := bl_tr hB hb
              replace hS := HSL.out _ _ hb hS
              clear hb
              refine hK _ _ hS ?_
              clear hK K
              try simp only [Act.put, List.setIfInBounds_toArray, List.set_cons_zero, List.set_cons_succ]
              refine' ordS_take (i := 18) (oi := { dst := some 38, op := Op.pick (Operand.tmp 22) (Operand.const (Value.bool true)) (Operand.tmp 37), type := 4, pos := _, after := #[{ on := 2, ground := Ground.data }, { on := 17, ground := Ground.data }], guard := none }) (v := _) rfl (by kernel_rfl) (by kernel_rfl) (by kernel_rfl) (by kernel_rfl) (fun _ _ _ h => h) (by assumption) (Or.inl ⟨by rfl, ?hy70⟩) (fun _ => rfl) ?rest70
              case hy70 => (intro w hSw; (try dsimp only at hSw); go_simp; try with_reducible rfl)
              try simp only [Act.put, List.setIfInBounds_toArray, List.set_cons_zero, List.set_cons_succ]
              refine' ordS_take (i := 19) (oi := { dst := some 39, op := Op.move (Operand.tmp 38), type := 4, pos := _, after := #[{ on := 18, ground := Ground.data }, { on := 17, ground := Ground.chain }], guard := none }) (v := _) rfl (by kernel_rfl) (by kernel_rfl) (by kernel_rfl) (by kernel_rfl) (fun _ _ _ h => h) (by assumption) (Or.inl ⟨by rfl, ?hy71⟩) (fun _ => rfl) ?rest71
              case hy71 => (intro w hSw; (try dsimp only at hSw); go_simp; try with_reducible rfl)
              try simp only [Act.put, List.setIfInBounds_toArray, List.set_cons_zero, List.set_cons_succ]
              refine' ordS_take (i := 20) (oi := { dst := some 40, op := Op.move (Operand.tmp 0), type := 35, pos := _, after := #[{ on := 19, ground := Ground.guard }], guard := some (19, false) }) (v := _) rfl (by kernel_rfl) (by kernel_rfl) (by kernel_rfl) (by kernel_rfl) (fun _ _ _ h => h) (by assumption) (Or.inl ⟨by rfl, ?hy72⟩) (fun _ => rfl) ?rest72
              case hy72 => (intro w hSw; (try dsimp only at hSw); go_simp; try with_reducible rfl)
              try simp only [Act.put, List.setIfInBounds_toArray, List.set_cons_zero, List.set_cons_succ]
              refine' ordS_take (i := 21) (oi := { dst := some 41, op := Op.nilCheck (Operand.tmp 40), type := 0, pos := _, after := #[{ on := 20, ground := Ground.data }, { on := 19, ground := Ground.guard }], guard := some (19, false) }) (v := _) rfl (by kernel_rfl) (by kernel_rfl) (by kernel_rfl) (by kernel_rfl) (fun _ _ _ h => h) (by assumption) (Or.inl ⟨by rfl, ?hy73⟩) (fun _ => rfl) ?rest73
              case hy73 => (intro w hSw; (try dsimp only at hSw); go_simp; try with_reducible rfl)
              try simp only [Act.put, List.setIfInBounds_toArray, List.set_cons_zero, List.set_cons_succ]
              refine' ordS_take (i := 22) (oi := { dst := some 42, op := Op.fieldAddr 39 (Operand.tmp 41) 1, type := 0, pos := _, after := #[{ on := 21, ground := Ground.data }, { on := 19, ground := Ground.guard }], guard := some (19, false) }) (v := _) rfl (by kernel_rfl) (by kernel_rfl) (by kernel_rfl) (by kernel_rfl) (fun _ _ _ h => h) (by assumption) (Or.inl ⟨by rfl, ?hy74⟩) (fun _ => rfl) ?rest74
              case hy74 => (intro w hSw; (try dsimp only at hSw); go_simp; try with_reducible rfl)
              try simp only [Act.put, List.setIfInBounds_toArray, List.set_cons_zero, List.set_cons_succ]
              refine' ordS_take (i := 23) (oi := { dst := some 43, op := Op.load 37 (Operand.tmp 42), type := 37, pos := _, after := #[{ on := 22, ground := Ground.data }, { on := 19, ground := Ground.guard }], guard := some (19, false) }) (v := _) rfl (by kernel_rfl) (by kernel_rfl) (by kernel_rfl) (by kernel_rfl) (fun _ _ _ h => h) (by assumption) (Or.inl ⟨by rfl, ?hy75⟩) (fun _ => rfl) ?rest75
              case hy75 => (intro w hSw; (try dsimp only at hSw); go_simp; try with_reducible rfl)
              try simp only [Act.put, List.setIfInBounds_toArray, List.set_cons_zero, List.set_cons_succ]
              refine' ordS_take (i := 24) (oi := { dst := some 44, op := Op.move (Operand.tmp 5), type := 3, pos := _, after := #[{ on := 19, ground := Ground.guard }], guard := some (19, false) }) (v := _) rfl (by kernel_rfl) (by kernel_rfl) (by kernel_rfl) (by kernel_rfl) (fun _ _ _ h => h) (by assumption) (Or.inl ⟨by rfl, ?hy76⟩) (fun _ => rfl) ?rest76
              case hy76 => (intro w hSw; (try dsimp only at hSw); go_simp; try with_reducible rfl)
              try simp only [Act.put, List.setIfInBounds_toArray, List.set_cons_zero, List.set_cons_succ]
              refine' ordS_take (i := 25) (oi := { dst := some 45, op := Op.indexAddr 37 (Operand.tmp 43) (Operand.tmp 44), type := 0, pos := _, after := #[{ on := 23, ground := Ground.data }, { on := 24, ground := Ground.data }, { on := 19, ground := Ground.guard }], guard := some (19, false) }) (v := _) rfl (by kernel_rfl) (by kernel_rfl) (by kernel_rfl) (by kernel_rfl) (fun _ _ _ h => h) (by assumption) (Or.inl ⟨by rfl, ?hy77⟩) (fun _ => rfl) ?rest77
              case hy77 => (intro w hSw; (try dsimp only at hSw); go_simp; try with_reducible rfl)
              try simp only [Act.put, List.setIfInBounds_toArray, List.set_cons_zero, List.set_cons_succ]
              refine' ordS_take (i := 26) (oi := { dst := some 46, op := Op.load 28 (Operand.tmp 45), type := 28, pos := _, after := #[{ on := 25, ground := Ground.data }, { on := 19, ground := Ground.guard }], guard := some (19, false) }) (v := _) rfl (by kernel_rfl) (by kernel_rfl) (by kernel_rfl) (by kernel_rfl) (fun _ _ _ h => h) (by assumption) (Or.inl ⟨by rfl, ?hy78⟩) (fun _ => rfl) ?rest78
              case hy78 => (intro w hSw; (try dsimp only at hSw); go_simp; try with_reducible rfl)
              try simp only [Act.put, List.setIfInBounds_toArray, List.set_cons_zero, List.set_cons_succ]
              refine' ordS_take (i := 27) (oi := { dst := some 47, op := Op.move (Operand.tmp 0), type := 35, pos := _, after := #[{ on := 19, ground := Ground.guard }], guard := some (19, false) }) (v := _) rfl (by kernel_rfl) (by kernel_rfl) (by kernel_rfl) (by kernel_rfl) (fun _ _ _ h => h) (by assumption) (Or.inl ⟨by rfl, ?hy79⟩) (fun _ => rfl) ?rest79
              case hy79 => (intro w hSw; (try dsimp only at hSw); go_simp; try with_reducible rfl)
              try simp only [Act.put, List.setIfInBounds_toArray, List.set_cons_zero, List.set_cons_succ]
              refine' ordS_take (i := 28) (oi := { dst := some 48, op := Op.nilCheck (Operand.tmp 47), type := 0, pos := _, after := #[{ on := 27, ground := Ground.data }, { on := 19, ground := Ground.guard }], guard := some (19, false) }) (v := _) rfl (by kernel_rfl) (by kernel_rfl) (by kernel_rfl) (by kernel_rfl) (fun _ _ _ h => h) (by assumption) (Or.inl ⟨by rfl, ?hy80⟩) (fun _ => rfl) ?rest80
              case hy80 => (intro w hSw; (try dsimp only at hSw); go_simp; try with_reducible rfl)
              try simp only [Act.put, List.setIfInBounds_toArray, List.set_cons_zero, List.set_cons_succ]
              refine' ordS_take (i := 29) (oi := { dst := some 49, op := Op.fieldAddr 39 (Operand.tmp 48) 1, type := 0, pos := _, after := #[{ on := 28, ground := Ground.data }, { on := 19, ground := Ground.guard }], guard := some (19, false) }) (v := _) rfl (by kernel_rfl) (by kernel_rfl) (by kernel_rfl) (by kernel_rfl) (fun _ _ _ h => h) (by assumption) (Or.inl ⟨by rfl, ?hy81⟩) (fun _ => rfl) ?rest81
              case hy81 => (intro w hSw; (try dsimp only at hSw); go_simp; try with_reducible rfl)
              try simp only [Act.put, List.setIfInBounds_toArray, List.set_cons_zero, List.set_cons_succ]
              refine' ordS_take (i := 30) (oi := { dst := some 50, op := Op.load 37 (Operand.tmp 49), type := 37, pos := _, after := #[{ on := 29, ground := Ground.data }, { on := 19, ground := Ground.guard }], guard := some (19, false) }) (v := _) rfl (by kernel_rfl) (by kernel_rfl) (by kernel_rfl) (by kernel_rfl) (fun _ _ _ h => h) (by assumption) (Or.inl ⟨by rfl, ?hy82⟩) (fun _ => rfl) ?rest82
              case hy82 => (intro w hSw; (try dsimp only at hSw); go_simp; try with_reducible rfl)
              try simp only [Act.put, List.setIfInBounds_toArray, List.set_cons_zero, List.set_cons_succ]
              refine' ordS_take (i := 31) (oi := { dst := some 51, op := Op.move (Operand.tmp 6), type := 3, pos := _, after := #[{ on := 19, ground := Ground.guard }], guard := some (19, false) }) (v := _) rfl (by kernel_rfl) (by kernel_rfl) (by kernel_rfl) (by kernel_rfl) (fun _ _ _ h => h) (by assumption) (Or.inl ⟨by rfl, ?hy83⟩) (fun _ => rfl) ?rest83
              case hy83 => (intro w hSw; (try dsimp only at hSw); go_simp; try with_reducible rfl)
              try simp only [Act.put, List.setIfInBounds_toArray, List.set_cons_zero, List.set_cons_succ]
              refine' ordS_take (i := 32) (oi := { dst := some 52, op := Op.indexAddr 37 (Operand.tmp 50) (Operand.tmp 51), type := 0, pos := _, after := #[{ on := 30, ground := Ground.data }, { on := 31, ground := Ground.data }, { on := 19, ground := Ground.guard }], guard := some (19, false) }) (v := _) rfl (by kernel_rfl) (by kernel_rfl) (by kernel_rfl) (by kernel_rfl) (fun _ _ _ h => h) (by assumption) (Or.inl ⟨by rfl, ?hy84⟩) (fun _ => rfl) ?rest84
              case hy84 => (intro w hSw; (try dsimp only at hSw); go_simp; try with_reducible rfl)
              try simp only [Act.put, List.setIfInBounds_toArray, List.set_cons_zero, List.set_cons_succ]
              refine' ordS_take (i := 33) (oi := { dst := some 53, op := Op.load 28 (Operand.tmp 52), type := 28, pos := _, after := #[{ on := 32, ground := Ground.data }, { on := 19, ground := Ground.guard }], guard := some (19, false) }) (v := _) rfl (by kernel_rfl) (by kernel_rfl) (by kernel_rfl) (by kernel_rfl) (fun _ _ _ h => h) (by assumption) (Or.inl ⟨by rfl, ?hy85⟩) (fun _ => rfl) ?rest85
              case hy85 => (intro w hSw; (try dsimp only at hSw); go_simp; try with_reducible rfl)
              try simp only [Act.put, List.setIfInBounds_toArray, List.set_cons_zero, List.set_cons_succ]
              refine ordS_one (i := 34) (o := { dst := some 54, op := Op.call { callee := Callee.value (Operand.func 10), args := #[Operand.tmp 46, Operand.tmp 53], argTypes := #[28, 28] }, type := 4, pos := _, after := #[{ on := 26, ground := Ground.data }, { on := 33, ground := Ground.data }, { on := 19, ground := Ground.chain }, { on := 19, ground := Ground.guard }], guard := some (19, false) }) (by kernel_rfl) rfl (by rfl) (fun K hK => ?_)
              go_simp
              refine ⟨trivial, (callsIn_wide.2 (R34 _)).mono ?_⟩
              rintro e w9 ⟨rfl, hb⟩
              replace hB := bl_tr hB hb
              replace hS := HSL.out _ _ hb hS
              clear hb
              refine hK _ _ hS ?_
              clear hK K
              try simp only [Act.put, List.setIfInBounds_toArray, List.set_cons_zero, List.set_cons_succ]
              refine' ordS_take (i := 35) (oi := { dst := some 55, op := Op.unOp UnOp.not 4 (Operand.tmp 54), type := 4, pos := _, after := #[{ on := 34, ground := Ground.data }, { on := 19, ground := Ground.guard }], guard := some (19, false) }) (v := _) rfl (by kernel_rfl) (by kernel_rfl) (by kernel_rfl) (by kernel_rfl) (fun _ _ _ h => h) (by assumption) (Or.inl ⟨by rfl, ?hy86⟩) (fun _ => rfl) ?rest86
              case hy86 => (intro w hSw; (try dsimp only at hSw); go_simp; try with_reducible rfl)
              try simp only [Act.put, List.setIfInBounds_toArray, List.set_cons_zero, List.set_cons_succ]
              refine' ordS_take (i := 36) (oi := { dst := some 56, op := Op.move (Operand.tmp 55), type := 4, pos := _, after := #[{ on := 35, ground := Ground.data }, { on := 34, ground := Ground.chain }, { on := 19, ground := Ground.guard }], guard := some (19, false) }) (v := _) rfl (by kernel_rfl) (by kernel_rfl) (by kernel_rfl) (by kernel_rfl) (fun _ _ _ h => h) (by assumption) (Or.inl ⟨by rfl, ?hy87⟩) (fun _ => rfl) ?rest87
              case hy87 => (intro w hSw; (try dsimp only at hSw); go_simp; try with_reducible rfl)
              try simp only [Act.put, List.setIfInBounds_toArray, List.set_cons_zero, List.set_cons_succ]
              refine' ordS_take (i := 37) (oi := { dst := some 57, op := Op.move (Operand.tmp 0), type := 35, pos := _, after := #[{ on := 36, ground := Ground.guard }], guard := some (36, true) }) (v := _) rfl (by kernel_rfl) (by kernel_rfl) (by kernel_rfl) (by kernel_rfl) (fun _ _ _ h => h) (by assumption) (Or.inl ⟨by rfl, ?hy88⟩) (fun _ => rfl) ?rest88
              case hy88 => (intro w hSw; (try dsimp only at hSw); go_simp; try with_reducible rfl)
              try simp only [Act.put, List.setIfInBounds_toArray, List.set_cons_zero, List.set_cons_succ]
              refine' ordS_take (i := 38) (oi := { dst := some 58, op := Op.nilCheck (Operand.tmp 57), type := 0, pos := _, after := #[{ on := 37, ground := Ground.data }, { on := 36, ground := Ground.guard }], guard := some (36, true) }) (v := _) rfl (by kernel_rfl) (by kernel_rfl) (by kernel_rfl) (by kernel_rfl) (fun _ _ _ h => h) (by assumption) (Or.inl ⟨by rfl, ?hy89⟩) (fun _ => rfl) ?rest89
              case hy89 => (intro w hSw; (try dsimp only at hSw); go_simp; try with_reducible rfl)
              try simp only [Act.put, List.setIfInBounds_toArray, List.set_cons_zero, List.set_cons_succ]
              refine' ordS_take (i := 39) (oi := { dst := some 59, op := Op.fieldAddr 39 (Operand.tmp 58) 0, type := 0, pos := _, after := #[{ on := 38, ground := Ground.data }, { on := 36, ground := Ground.guard }], guard := some (36, true) }) (v := _) rfl (by kernel_rfl) (by kernel_rfl) (by kernel_rfl) (by kernel_rfl) (fun _ _ _ h => h) (by assumption) (Or.inl ⟨by rfl, ?hy90⟩) (fun _ => rfl) ?rest90
              case hy90 => (intro w hSw; (try dsimp only at hSw); go_simp; try with_reducible rfl)
              try simp only [Act.put, List.setIfInBounds_toArray, List.set_cons_zero, List.set_cons_succ]
              refine' ordS_take (i := 40) (oi := { dst := some 60, op := Op.load 36 (Operand.tmp 59), type := 36, pos := _, after := #[{ on := 39, ground := Ground.data }, { on := 36, ground := Ground.guard }], guard := some (36, true) }) (v := _) rfl (by kernel_rfl) (by kernel_rfl) (by kernel_rfl) (by kernel_rfl) (fun _ _ _ h => h) (by assumption) (Or.inl ⟨by rfl, ?hy91⟩) (fun _ => rfl) ?rest91
              case hy91 => (intro w hSw; (try dsimp only at hSw); go_simp; try with_reducible rfl)
              try simp only [Act.put, List.setIfInBounds_toArray, List.set_cons_zero, List.set_cons_succ]
              refine' ordS_take (i := 41) (oi := { dst := some 61, op := Op.move (Operand.tmp 6), type := 3, pos := _, after := #[{ on := 36, ground := Ground.guard }], guard := some (36, true) }) (v := _) rfl (by kernel_rfl) (by kernel_rfl) (by kernel_rfl) (by kernel_rfl) (fun _ _ _ h => h) (by assumption) (Or.inl ⟨by rfl, ?hy92⟩) (fun _ => rfl) ?rest92
              case hy92 => (intro w hSw; (try dsimp only at hSw); go_simp; try with_reducible rfl)
              try simp only [Act.put, List.setIfInBounds_toArray, List.set_cons_zero, List.set_cons_succ]
              refine' ordS_take (i := 42) (oi := { dst := some 62, op := Op.indexAddr 36 (Operand.tmp 60) (Operand.tmp 61), type := 0, pos := _, after := #[{ on := 40, ground := Ground.data }, { on := 41, ground := Ground.data }, { on := 36, ground := Ground.guard }], guard := some (36, true) }) (v := _) rfl (by kernel_rfl) (by kernel_rfl) (by kernel_rfl) (by kernel_rfl) (fun _ _ _ h => h) (by assumption) (Or.inl ⟨by rfl, ?hy93⟩) (fun _ => rfl) ?rest93
              case hy93 => (intro w hSw; (try dsimp only at hSw); go_simp; try with_reducible rfl)
              try simp only [Act.put, List.setIfInBounds_toArray, List.set_cons_zero, List.set_cons_succ]
              refine' ordS_take (i := 43) (oi := { dst := some 63, op := Op.load 3 (Operand.tmp 62), type := 3, pos := _, after := #[{ on := 42, ground := Ground.data }, { on := 36, ground := Ground.guard }], guard := some (36, true) }) (v := _) rfl (by kernel_rfl) (by kernel_rfl) (by kernel_rfl) (by kernel_rfl) (fun _ _ _ h => h) (by assumption) (Or.inl ⟨by rfl, ?hy94⟩) (fun _ => rfl) ?rest94
              case hy94 => (intro w hSw; (try dsimp only at hSw); go_simp; try with_reducible rfl)
              try simp only [Act.put, List.setIfInBounds_toArray, List.set_cons_zero, List.set_cons_succ]
              refine' ordS_take (i := 44) (oi := { dst := some 64, op := Op.move (Operand.tmp 0), type := 35, pos := _, after := #[{ on := 36, ground := Ground.guard }], guard := some (36, true) }) (v := _) rfl (by kernel_rfl) (by kernel_rfl) (by kernel_rfl) (by kernel_rfl) (fun _ _ _ h => h) (by assumption) (Or.inl ⟨by rfl, ?hy95⟩) (fun _ => rfl) ?rest95
              case hy95 => (intro w hSw; (try dsimp only at hSw); go_simp; try with_reducible rfl)
              try simp only [Act.put, List.setIfInBounds_toArray, List.set_cons_zero, List.set_cons_succ]
              refine' ordS_take (i := 45) (oi := { dst := some 65, op := Op.nilCheck (Operand.tmp 64), type := 0, pos := _, after := #[{ on := 44, ground := Ground.data }, { on := 36, ground := Ground.guard }], guard := some (36, true) }) (v := _) rfl (by kernel_rfl) (by kernel_rfl) (by kernel_rfl) (by kernel_rfl) (fun _ _ _ h => h) (by assumption) (Or.inl ⟨by rfl, ?hy96⟩) (fun _ => rfl) ?rest96
              case hy96 => (intro w hSw; (try dsimp only at hSw); go_simp; try with_reducible rfl)
              try simp only [Act.put, List.setIfInBounds_toArray, List.set_cons_zero, List.set_cons_succ]
              refine' ordS_take (i := 46) (oi := { dst := some 66, op := Op.fieldAddr 39 (Operand.tmp 65) 0, type := 0, pos := _, after := #[{ on := 45, ground := Ground.data }, { on := 36, ground := Ground.guard }], guard := some (36, true) }) (v := _) rfl (by kernel_rfl) (by kernel_rfl) (by kernel_rfl) (by kernel_rfl) (fun _ _ _ h => h) (by assumption) (Or.inl ⟨by rfl, ?hy97⟩) (fun _ => rfl) ?rest97
              case hy97 => (intro w hSw; (try dsimp only at hSw); go_simp; try with_reducible rfl)
              try simp only [Act.put, List.setIfInBounds_toArray, List.set_cons_zero, List.set_cons_succ]
              refine' ordS_take (i := 47) (oi := { dst := some 67, op := Op.load 36 (Operand.tmp 66), type := 36, pos := _, after := #[{ on := 46, ground := Ground.data }, { on := 36, ground := Ground.guard }], guard := some (36, true) }) (v := _) rfl (by kernel_rfl) (by kernel_rfl) (by kernel_rfl) (by kernel_rfl) (fun _ _ _ h => h) (by assumption) (Or.inl ⟨by rfl, ?hy98⟩) (fun _ => rfl) ?rest98
              case hy98 => (intro w hSw; (try dsimp only at hSw); go_simp; try with_reducible rfl)
              try simp only [Act.put, List.setIfInBounds_toArray, List.set_cons_zero, List.set_cons_succ]
              refine' ordS_take (i := 48) (oi := { dst := some 68, op := Op.move (Operand.tmp 5), type := 3, pos := _, after := #[{ on := 36, ground := Ground.guard }], guard := some (36, true) }) (v := _) rfl (by kernel_rfl) (by kernel_rfl) (by kernel_rfl) (by kernel_rfl) (fun _ _ _ h => h) (by assumption) (Or.inl ⟨by rfl, ?hy99⟩) (fun _ => rfl) ?rest99
              case hy99 => (intro w hSw; (try dsimp only at hSw); go_simp; try with_reducible rfl)
              try simp only [Act.put, List.setIfInBounds_toArray, List.set_cons_zero, List.set_cons_succ]
              refine' ordS_take (i := 49) (oi := { dst := some 69, op := Op.indexAddr 36 (Operand.tmp 67) (Operand.tmp 68), type := 0, pos := _, after := #[{ on := 47, ground := Ground.data }, { on := 48, ground := Ground.data }, { on := 36, ground := Ground.guard }], guard := some (36, true) }) (v := _) rfl (by kernel_rfl) (by kernel_rfl) (by kernel_rfl) (by kernel_rfl) (fun _ _ _ h => h) (by assumption) (Or.inl ⟨by rfl, ?hy100⟩) (fun _ => rfl) ?rest100
              case hy100 => (intro w hSw; (try dsimp only at hSw); go_simp; try with_reducible rfl)
              try simp only [Act.put, List.setIfInBounds_toArray, List.set_cons_zero, List.set_cons_succ]
              refine' ordS_take (i := 50) (oi := { dst := some 70, op := Op.load 3 (Operand.tmp 69), type := 3, pos := _, after := #[{ on := 49, ground := Ground.data }, { on := 36, ground := Ground.guard }], guard := some (36, true) }) (v := _) rfl (by kernel_rfl) (by kernel_rfl) (by kernel_rfl) (by kernel_rfl) (fun _ _ _ h => h) (by assumption) (Or.inl ⟨by rfl, ?hy101⟩) (fun _ => rfl) ?rest101
              case hy101 => (intro w hSw; (try dsimp only at hSw); go_simp; try with_reducible rfl)
              try simp only [Act.put, List.setIfInBounds_toArray, List.set_cons_zero, List.set_cons_succ]
              refine' ordS_take (i := 51) (oi := { dst := some 71, op := Op.binOp BinOp.lss 3 (Operand.tmp 63) (Operand.tmp 70) 3, type := 4, pos := _, after := #[{ on := 43, ground := Ground.data }, { on := 50, ground := Ground.data }, { on := 36, ground := Ground.guard }], guard := some (36, true) }) (v := _) rfl (by kernel_rfl) (by kernel_rfl) (by kernel_rfl) (by kernel_rfl) (fun _ _ _ h => h) (by assumption) (Or.inl ⟨by rfl, ?hy102⟩) (fun _ => rfl) ?rest102
              case hy102 => (intro w hSw; (try dsimp only at hSw); go_simp; try with_reducible rfl)
              try simp only [Act.put, List.setIfInBounds_toArray, List.set_cons_zero, List.set_cons_succ]
              refine' ordS_take (i := 52) (oi := { dst := some 72, op := Op.pick (Operand.tmp 56) (Operand.tmp 71) (Operand.const (Value.bool false)), type := 4, pos := _, after := #[{ on := 36, ground := Ground.data }, { on := 51, ground := Ground.data }, { on := 19, ground := Ground.guard }], guard := some (19, false) }) (v := _) rfl (by kernel_rfl) (by kernel_rfl) (by kernel_rfl) (by kernel_rfl) (fun _ _ _ h => h) (by assumption) (Or.inl ⟨by rfl, ?hy103⟩) (fun _ => rfl) ?rest103
              case hy103 => (intro w hSw; (try dsimp only at hSw); go_simp; try with_reducible rfl)
              try simp only [Act.put, List.setIfInBounds_toArray, List.set_cons_zero, List.set_cons_succ]
              refine' ordS_take (i := 53) (oi := { dst := some 73, op := Op.pick (Operand.tmp 39) (Operand.const (Value.bool true)) (Operand.tmp 72), type := 4, pos := _, after := #[{ on := 19, ground := Ground.data }, { on := 52, ground := Ground.data }], guard := none }) (v := _) rfl (by kernel_rfl) (by kernel_rfl) (by kernel_rfl) (by kernel_rfl) (fun _ _ _ h => h) (by assumption) (Or.inl ⟨by rfl, ?hy104⟩) (fun _ => rfl) ?rest104
              case hy104 => (intro w hSw; (try dsimp only at hSw); go_simp; try with_reducible rfl)
              try simp only [Act.put, List.setIfInBounds_toArray, List.set_cons_zero, List.set_cons_succ]
              refine ordS_done (by kernel_rfl) ?_
              have HB := Lib.hid (bl_tr hAr hB)
              clear hB hS hAr
              go_wp2
              go_roundw
              case rel => exact ⟨k + 1, _, by omega, by go_num, by go_num, HX, HB.out⟩
              case measure => simp [intOf]; omega

            · have HX := Lib.hid (HOLD.out (by rw [hah]; exact decide_eq_false hid))
              have hidd : decide (a.id < b.id) = false := decide_eq_false hid
              clear hah hab hba
              refine (wpIn_wide (n := 11)).1 ?_
              refine ordS_begin (S := (fun w' : World => w'.cell? ⟨p, 0, none⟩ = some (.slice (some ⟨gu, 0, none⟩) m.length capu) ∧ w'.cell? ⟨p, 1, none⟩ = some (.slice (some ⟨gv, 0, none⟩) m.length capv) ∧ w'.cell? ⟨gu, k, none⟩ = some (.int .i64 a.id) ∧ w'.cell? ⟨gu, j, none⟩ = some (.int .i64 b.id) ∧ w'.cell? ⟨gv, k * 4, none⟩ = some (.int .u64 a.F) ∧ w'.cell? ⟨gv, k * 4 + 1, none⟩ = some (.int .u64 a.H) ∧ w'.cell? ⟨gv, k * 4 + 2, none⟩ = some (.int .i64 a.Y) ∧ w'.cell? ⟨gv, k * 4 + 3, none⟩ = some (.int .i64 a.X) ∧ w'.cell? ⟨gv, j * 4, none⟩ = some (.int .u64 b.F) ∧ w'.cell? ⟨gv, j * 4 + 1, none⟩ = some (.int .u64 b.H) ∧ w'.cell? ⟨gv, j * 4 + 2, none⟩ = some (.int .i64 b.Y) ∧ w'.cell? ⟨gv, j * 4 + 3, none⟩ = some (.int .i64 b.X))) (by kernel_rfl) hS (fun _ => ?_)
              refine' ordS_take (i := 0) (oi := { dst := some 20, op := Op.move (Operand.tmp 5), type := 3, pos := _, after := #[], guard := none }) (v := _) rfl (by kernel_rfl) (by kernel_rfl) (by kernel_rfl) (by kernel_rfl) (fun _ _ _ h => h) (by assumption) (Or.inl ⟨by rfl, ?hy105⟩) (fun _ => rfl) ?rest105
              case hy105 => (intro w hSw; (try dsimp only at hSw); go_simp; try with_reducible rfl)
              try simp only [Act.put, List.setIfInBounds_toArray, List.set_cons_zero, List.set_cons_succ]
              refine' ordS_take (i := 1) (oi := { dst := some 21, op := Op.binOp BinOp.lss 3 (Operand.tmp 20) (Operand.const (Value.int IntKind.i64 0)) 3, type := 4, pos := _, after := #[{ on := 0, ground := Ground.data }], guard := none }) (v := _) rfl (by kernel_rfl) (by kernel_rfl) (by kernel_rfl) (by kernel_rfl) (fun _ _ _ h => h) (by assumption) (Or.inl ⟨by rfl, ?hy106⟩) (fun _ => rfl) ?rest106
              case hy106 => (intro w hSw; (try dsimp only at hSw); go_simp; try with_reducible rfl)
              try simp only [Act.put, List.setIfInBounds_toArray, List.set_cons_zero, List.set_cons_succ]
              refine' ordS_take (i := 2) (oi := { dst := some 22, op := Op.move (Operand.tmp 21), type := 4, pos := _, after := #[{ on := 1, ground := Ground.data }], guard := none }) (v := _) rfl (by kernel_rfl) (by kernel_rfl) (by kernel_rfl) (by kernel_rfl) (fun _ _ _ h => h) (by assumption) (Or.inl ⟨by rfl, ?hy107⟩) (fun _ => rfl) ?rest107
              case hy107 => (intro w hSw; (try dsimp only at hSw); go_simp; try with_reducible rfl)
              try simp only [Act.put, List.setIfInBounds_toArray, List.set_cons_zero, List.set_cons_succ]
              refine' ordS_take (i := 3) (oi := { dst := some 23, op := Op.move (Operand.tmp 0), type := 35, pos := _, after := #[{ on := 2, ground := Ground.guard }], guard := some (2, false) }) (v := _) rfl (by kernel_rfl) (by kernel_rfl) (by kernel_rfl) (by kernel_rfl) (fun _ _ _ h => h) (by assumption) (Or.inl ⟨by rfl, ?hy108⟩) (fun _ => rfl) ?rest108
              case hy108 => (intro w hSw; (try dsimp only at hSw); go_simp; try with_reducible rfl)
              try simp only [Act.put, List.setIfInBounds_toArray, List.set_cons_zero, List.set_cons_succ]
              refine' ordS_take (i := 4) (oi := { dst := some 24, op := Op.nilCheck (Operand.tmp 23), type := 0, pos := _, after := #[{ on := 3, ground := Ground.data }, { on := 2, ground := Ground.guard }], guard := some (2, false) }) (v := _) rfl (by kernel_rfl) (by kernel_rfl) (by kernel_rfl) (by kernel_rfl) (fun _ _ _ h => h) (by assumption) (Or.inl ⟨by rfl, ?hy109⟩) (fun _ => rfl) ?rest109
              case hy109 => (intro w hSw; (try dsimp only at hSw); go_simp; try with_reducible rfl)
              try simp only [Act.put, List.setIfInBounds_toArray, List.set_cons_zero, List.set_cons_succ]
              refine' ordS_take (i := 5) (oi := { dst := some 25, op := Op.fieldAddr 39 (Operand.tmp 24) 1, type := 0, pos := _, after := #[{ on := 4, ground := Ground.data }, { on := 2, ground := Ground.guard }], guard := some (2, false) }) (v := _) rfl (by kernel_rfl) (by kernel_rfl) (by kernel_rfl) (by kernel_rfl) (fun _ _ _ h => h) (by assumption) (Or.inl ⟨by rfl, ?hy110⟩) (fun _ => rfl) ?rest110
              case hy110 => (intro w hSw; (try dsimp only at hSw); go_simp; try with_reducible rfl)
              try simp only [Act.put, List.setIfInBounds_toArray, List.set_cons_zero, List.set_cons_succ]
              refine' ordS_take (i := 6) (oi := { dst := some 26, op := Op.load 37 (Operand.tmp 25), type := 37, pos := _, after := #[{ on := 5, ground := Ground.data }, { on := 2, ground := Ground.guard }], guard := some (2, false) }) (v := _) rfl (by kernel_rfl) (by kernel_rfl) (by kernel_rfl) (by kernel_rfl) (fun _ _ _ h => h) (by assumption) (Or.inl ⟨by rfl, ?hy111⟩) (fun _ => rfl) ?rest111
              case hy111 => (intro w hSw; (try dsimp only at hSw); go_simp; try with_reducible rfl)
              try simp only [Act.put, List.setIfInBounds_toArray, List.set_cons_zero, List.set_cons_succ]
              refine' ordS_take (i := 7) (oi := { dst := some 27, op := Op.move (Operand.tmp 6), type := 3, pos := _, after := #[{ on := 2, ground := Ground.guard }], guard := some (2, false) }) (v := _) rfl (by kernel_rfl) (by kernel_rfl) (by kernel_rfl) (by kernel_rfl) (fun _ _ _ h => h) (by assumption) (Or.inl ⟨by rfl, ?hy112⟩) (fun _ => rfl) ?rest112
              case hy112 => (intro w hSw; (try dsimp only at hSw); go_simp; try with_reducible rfl)
              try simp only [Act.put, List.setIfInBounds_toArray, List.set_cons_zero, List.set_cons_succ]
              refine' ordS_take (i := 8) (oi := { dst := some 28, op := Op.indexAddr 37 (Operand.tmp 26) (Operand.tmp 27), type := 0, pos := _, after := #[{ on := 6, ground := Ground.data }, { on := 7, ground := Ground.data }, { on := 2, ground := Ground.guard }], guard := some (2, false) }) (v := _) rfl (by kernel_rfl) (by kernel_rfl) (by kernel_rfl) (by kernel_rfl) (fun _ _ _ h => h) (by assumption) (Or.inl ⟨by rfl, ?hy113⟩) (fun _ => rfl) ?rest113
              case hy113 => (intro w hSw; (try dsimp only at hSw); go_simp; try with_reducible rfl)
              try simp only [Act.put, List.setIfInBounds_toArray, List.set_cons_zero, List.set_cons_succ]
              refine' ordS_take (i := 9) (oi := { dst := some 29, op := Op.load 28 (Operand.tmp 28), type := 28, pos := _, after := #[{ on := 8, ground := Ground.data }, { on := 2, ground := Ground.guard }], guard := some (2, false) }) (v := _) rfl (by kernel_rfl) (by kernel_rfl) (by kernel_rfl) (by kernel_rfl) (fun _ _ _ h => h) (by assumption) (Or.inl ⟨by rfl, ?hy114⟩) (fun _ => rfl) ?rest114
              case hy114 => (intro w hSw; (try dsimp only at hSw); go_simp; try with_reducible rfl)
              try simp only [Act.put, List.setIfInBounds_toArray, List.set_cons_zero, List.set_cons_succ]
              refine' ordS_take (i := 10) (oi := { dst := some 30, op := Op.move (Operand.tmp 0), type := 35, pos := _, after := #[{ on := 2, ground := Ground.guard }], guard := some (2, false) }) (v := _) rfl (by kernel_rfl) (by kernel_rfl) (by kernel_rfl) (by kernel_rfl) (fun _ _ _ h => h) (by assumption) (Or.inl ⟨by rfl, ?hy115⟩) (fun _ => rfl) ?rest115
              case hy115 => (intro w hSw; (try dsimp only at hSw); go_simp; try with_reducible rfl)
              try simp only [Act.put, List.setIfInBounds_toArray, List.set_cons_zero, List.set_cons_succ]
              refine' ordS_take (i := 11) (oi := { dst := some 31, op := Op.nilCheck (Operand.tmp 30), type := 0, pos := _, after := #[{ on := 10, ground := Ground.data }, { on := 2, ground := Ground.guard }], guard := some (2, false) }) (v := _) rfl (by kernel_rfl) (by kernel_rfl) (by kernel_rfl) (by kernel_rfl) (fun _ _ _ h => h) (by assumption) (Or.inl ⟨by rfl, ?hy116⟩) (fun _ => rfl) ?rest116
              case hy116 => (intro w hSw; (try dsimp only at hSw); go_simp; try with_reducible rfl)
              try simp only [Act.put, List.setIfInBounds_toArray, List.set_cons_zero, List.set_cons_succ]
              refine' ordS_take (i := 12) (oi := { dst := some 32, op := Op.fieldAddr 39 (Operand.tmp 31) 1, type := 0, pos := _, after := #[{ on := 11, ground := Ground.data }, { on := 2, ground := Ground.guard }], guard := some (2, false) }) (v := _) rfl (by kernel_rfl) (by kernel_rfl) (by kernel_rfl) (by kernel_rfl) (fun _ _ _ h => h) (by assumption) (Or.inl ⟨by rfl, ?hy117⟩) (fun _ => rfl) ?rest117
              case hy117 => (intro w hSw; (try dsimp only at hSw); go_simp; try with_reducible rfl)
              try simp only [Act.put, List.setIfInBounds_toArray, List.set_cons_zero, List.set_cons_succ]
              refine' ordS_take (i := 13) (oi := { dst := some 33, op := Op.load 37 (Operand.tmp 32), type := 37, pos := _, after := #[{ on := 12, ground := Ground.data }, { on := 2, ground := Ground.guard }], guard := some (2, false) }) (v := _) rfl (by kernel_rfl) (by kernel_rfl) (by kernel_rfl) (by kernel_rfl) (fun _ _ _ h => h) (by assumption) (Or.inl ⟨by rfl, ?hy118⟩) (fun _ => rfl) ?rest118
              case hy118 => (intro w hSw; (try dsimp only at hSw); go_simp; try with_reducible rfl)
              try simp only [Act.put, List.setIfInBounds_toArray, List.set_cons_zero, List.set_cons_succ]
              refine' ordS_take (i := 14) (oi := { dst := some 34, op := Op.move (Operand.tmp 5), type := 3, pos := _, after := #[{ on := 2, ground := Ground.guard }], guard := some (2, false) }) (v := _) rfl (by kernel_rfl) (by kernel_rfl) (by kernel_rfl) (by kernel_rfl) (fun _ _ _ h => h) (by assumption) (Or.inl ⟨by rfl, ?hy119⟩) (fun _ => rfl) ?rest119
              case hy119 => (intro w hSw; (try dsimp only at hSw); go_simp; try with_reducible rfl)
              try simp only [Act.put, List.setIfInBounds_toArray, List.set_cons_zero, List.set_cons_succ]
              refine' ordS_take (i := 15) (oi := { dst := some 35, op := Op.indexAddr 37 (Operand.tmp 33) (Operand.tmp 34), type := 0, pos := _, after := #[{ on := 13, ground := Ground.data }, { on := 14, ground := Ground.data }, { on := 2, ground := Ground.guard }], guard := some (2, false) }) (v := _) rfl (by kernel_rfl) (by kernel_rfl) (by kernel_rfl) (by kernel_rfl) (fun _ _ _ h => h) (by assumption) (Or.inl ⟨by rfl, ?hy120⟩) (fun _ => rfl) ?rest120
              case hy120 => (intro w hSw; (try dsimp only at hSw); go_simp; try with_reducible rfl)
              try simp only [Act.put, List.setIfInBounds_toArray, List.set_cons_zero, List.set_cons_succ]
              refine' ordS_take (i := 16) (oi := { dst := some 36, op := Op.load 28 (Operand.tmp 35), type := 28, pos := _, after := #[{ on := 15, ground := Ground.data }, { on := 2, ground := Ground.guard }], guard := some (2, false) }) (v := _) rfl (by kernel_rfl) (by kernel_rfl) (by kernel_rfl) (by kernel_rfl) (fun _ _ _ h => h) (by assumption) (Or.inl ⟨by rfl, ?hy121⟩) (fun _ => rfl) ?rest121
              case hy121 => (intro w hSw; (try dsimp only at hSw); go_simp; try with_reducible rfl)
              try simp only [Act.put, List.setIfInBounds_toArray, List.set_cons_zero, List.set_cons_succ]
              refine ordS_one (i := 17) (o := { dst := some 37, op := Op.call { callee := Callee.value (Operand.func 10), args := #[Operand.tmp 29, Operand.tmp 36], argTypes := #[28, 28] }, type := 4, pos := _, after := #[{ on := 9, ground := Ground.data }, { on := 16, ground := Ground.data }, { on := 2, ground := Ground.chain }, { on := 2, ground := Ground.guard }], guard := some (2, false) }) (by kernel_rfl) rfl (by rfl) (fun K hK => ?_)
              go_simp
              refine ⟨trivial, (callsIn_wide.2 (R17 _)).mono ?_⟩
              rintro e w9 ⟨rfl, hb⟩
              replace hB := bl_tr hB hb
              replace hS := HSL.out _ _ hb hS
              clear hb
              refine hK _ _ hS ?_
              clear hK K
              try simp only [Act.put, List.setIfInBounds_toArray, List.set_cons_zero, List.set_cons_succ]
              refine' ordS_take (i := 18) (oi := { dst := some 38, op := Op.pick (Operand.tmp 22) (Operand.const (Value.bool true)) (Operand.tmp 37), type := 4, pos := _, after := #[{ on := 2, ground := Ground.data }, { on := 17, ground := Ground.data }], guard := none }) (v := _) rfl (by kernel_rfl) (by kernel_rfl) (by kernel_rfl) (by kernel_rfl) (fun _ _ _ h => h) (by assumption) (Or.inl ⟨by rfl, ?hy122⟩) (fun _ => rfl) ?rest122
              case hy122 => (intro w hSw; (try dsimp only at hSw); go_simp; try with_reducible rfl)
              try simp only [Act.put, List.setIfInBounds_toArray, List.set_cons_zero, List.set_cons_succ]
              refine' ordS_take (i := 19) (oi := { dst := some 39, op := Op.move (Operand.tmp 38), type := 4, pos := _, after := #[{ on := 18, ground := Ground.data }, { on := 17, ground := Ground.chain }], guard := none }) (v := _) rfl (by kernel_rfl) (by kernel_rfl) (by kernel_rfl) (by kernel_rfl) (fun _ _ _ h => h) (by assumption) (Or.inl ⟨by rfl, ?hy123⟩) (fun _ => rfl) ?rest123
              case hy123 => (intro w hSw; (try dsimp only at hSw); go_simp; try with_reducible rfl)
              try simp only [Act.put, List.setIfInBounds_toArray, List.set_cons_zero, List.set_cons_succ]
              refine' ordS_take (i := 20) (oi := { dst := some 40, op := Op.move (Operand.tmp 0), type := 35, pos := _, after := #[{ on := 19, ground := Ground.guard }], guard := some (19, false) }) (v := _) rfl (by kernel_rfl) (by kernel_rfl) (by kernel_rfl) (by kernel_rfl) (fun _ _ _ h => h) (by assumption) (Or.inl ⟨by rfl, ?hy124⟩) (fun _ => rfl) ?rest124
              case hy124 => (intro w hSw; (try dsimp only at hSw); go_simp; try with_reducible rfl)
              try simp only [Act.put, List.setIfInBounds_toArray, List.set_cons_zero, List.set_cons_succ]
              refine' ordS_take (i := 21) (oi := { dst := some 41, op := Op.nilCheck (Operand.tmp 40), type := 0, pos := _, after := #[{ on := 20, ground := Ground.data }, { on := 19, ground := Ground.guard }], guard := some (19, false) }) (v := _) rfl (by kernel_rfl) (by kernel_rfl) (by kernel_rfl) (by kernel_rfl) (fun _ _ _ h => h) (by assumption) (Or.inl ⟨by rfl, ?hy125⟩) (fun _ => rfl) ?rest125
              case hy125 => (intro w hSw; (try dsimp only at hSw); go_simp; try with_reducible rfl)
              try simp only [Act.put, List.setIfInBounds_toArray, List.set_cons_zero, List.set_cons_succ]
              refine' ordS_take (i := 22) (oi := { dst := some 42, op := Op.fieldAddr 39 (Operand.tmp 41) 1, type := 0, pos := _, after := #[{ on := 21, ground := Ground.data }, { on := 19, ground := Ground.guard }], guard := some (19, false) }) (v := _) rfl (by kernel_rfl) (by kernel_rfl) (by kernel_rfl) (by kernel_rfl) (fun _ _ _ h => h) (by assumption) (Or.inl ⟨by rfl, ?hy126⟩) (fun _ => rfl) ?rest126
              case hy126 => (intro w hSw; (try dsimp only at hSw); go_simp; try with_reducible rfl)
              try simp only [Act.put, List.setIfInBounds_toArray, List.set_cons_zero, List.set_cons_succ]
              refine' ordS_take (i := 23) (oi := { dst := some 43, op := Op.load 37 (Operand.tmp 42), type := 37, pos := _, after := #[{ on := 22, ground := Ground.data }, { on := 19, ground := Ground.guard }], guard := some (19, false) }) (v := _) rfl (by kernel_rfl) (by kernel_rfl) (by kernel_rfl) (by kernel_rfl) (fun _ _ _ h => h) (by assumption) (Or.inl ⟨by rfl, ?hy127⟩) (fun _ => rfl) ?rest127
              case hy127 => (intro w hSw; (try dsimp only at hSw); go_simp; try with_reducible rfl)
              try simp only [Act.put, List.setIfInBounds_toArray, List.set_cons_zero, List.set_cons_succ]
              refine' ordS_take (i := 24) (oi := { dst := some 44, op := Op.move (Operand.tmp 5), type := 3, pos := _, after := #[{ on := 19, ground := Ground.guard }], guard := some (19, false) }) (v := _) rfl (by kernel_rfl) (by kernel_rfl) (by kernel_rfl) (by kernel_rfl) (fun _ _ _ h => h) (by assumption) (Or.inl ⟨by rfl, ?hy128⟩) (fun _ => rfl) ?rest128
              case hy128 => (intro w hSw; (try dsimp only at hSw); go_simp; try with_reducible rfl)
              try simp only [Act.put, List.setIfInBounds_toArray, List.set_cons_zero, List.set_cons_succ]
              refine' ordS_take (i := 25) (oi := { dst := some 45, op := Op.indexAddr 37 (Operand.tmp 43) (Operand.tmp 44), type := 0, pos := _, after := #[{ on := 23, ground := Ground.data }, { on := 24, ground := Ground.data }, { on := 19, ground := Ground.guard }], guard := some (19, false) }) (v := _) rfl (by kernel_rfl) (by kernel_rfl) (by kernel_rfl) (by kernel_rfl) (fun _ _ _ h => h) (by assumption) (Or.inl ⟨by rfl, ?hy129⟩) (fun _ => rfl) ?rest129
              case hy129 => (intro w hSw; (try dsimp only at hSw); go_simp; try with_reducible rfl)
              try simp only [Act.put, List.setIfInBounds_toArray, List.set_cons_zero, List.set_cons_succ]
              refine' ordS_take (i := 26) (oi := { dst := some 46, op := Op.load 28 (Operand.tmp 45), type := 28, pos := _, after := #[{ on := 25, ground := Ground.data }, { on := 19, ground := Ground.guard }], guard := some (19, false) }) (v := _) rfl (by kernel_rfl) (by kernel_rfl) (by kernel_rfl) (by kernel_rfl) (fun _ _ _ h => h) (by assumption) (Or.inl ⟨by rfl, ?hy130⟩) (fun _ => rfl) ?rest130
              case hy130 => (intro w hSw; (try dsimp only at hSw); go_simp; try with_reducible rfl)
              try simp only [Act.put, List.setIfInBounds_toArray, List.set_cons_zero, List.set_cons_succ]
              refine' ordS_take (i := 27) (oi := { dst := some 47, op := Op.move (Operand.tmp 0), type := 35, pos := _, after := #[{ on := 19, ground := Ground.guard }], guard := some (19, false) }) (v := _) rfl (by kernel_rfl) (by kernel_rfl) (by kernel_rfl) (by kernel_rfl) (fun _ _ _ h => h) (by assumption) (Or.inl ⟨by rfl, ?hy131⟩) (fun _ => rfl) ?rest131
              case hy131 => (intro w hSw; (try dsimp only at hSw); go_simp; try with_reducible rfl)
              try simp only [Act.put, List.setIfInBounds_toArray, List.set_cons_zero, List.set_cons_succ]
              refine' ordS_take (i := 28) (oi := { dst := some 48, op := Op.nilCheck (Operand.tmp 47), type := 0, pos := _, after := #[{ on := 27, ground := Ground.data }, { on := 19, ground := Ground.guard }], guard := some (19, false) }) (v := _) rfl (by kernel_rfl) (by kernel_rfl) (by kernel_rfl) (by kernel_rfl) (fun _ _ _ h => h) (by assumption) (Or.inl ⟨by rfl, ?hy132⟩) (fun _ => rfl) ?rest132
              case hy132 => (intro w hSw; (try dsimp only at hSw); go_simp; try with_reducible rfl)
              try simp only [Act.put, List.setIfInBounds_toArray, List.set_cons_zero, List.set_cons_succ]
              refine' ordS_take (i := 29) (oi := { dst := some 49, op := Op.fieldAddr 39 (Operand.tmp 48) 1, type := 0, pos := _, after := #[{ on := 28, ground := Ground.data }, { on := 19, ground := Ground.guard }], guard := some (19, false) }) (v := _) rfl (by kernel_rfl) (by kernel_rfl) (by kernel_rfl) (by kernel_rfl) (fun _ _ _ h => h) (by assumption) (Or.inl ⟨by rfl, ?hy133⟩) (fun _ => rfl) ?rest133
              case hy133 => (intro w hSw; (try dsimp only at hSw); go_simp; try with_reducible rfl)
              try simp only [Act.put, List.setIfInBounds_toArray, List.set_cons_zero, List.set_cons_succ]
              refine' ordS_take (i := 30) (oi := { dst := some 50, op := Op.load 37 (Operand.tmp 49), type := 37, pos := _, after := #[{ on := 29, ground := Ground.data }, { on := 19, ground := Ground.guard }], guard := some (19, false) }) (v := _) rfl (by kernel_rfl) (by kernel_rfl) (by kernel_rfl) (by kernel_rfl) (fun _ _ _ h => h) (by assumption) (Or.inl ⟨by rfl, ?hy134⟩) (fun _ => rfl) ?rest134
              case hy134 => (intro w hSw; (try dsimp only at hSw); go_simp; try with_reducible rfl)
              try simp only [Act.put, List.setIfInBounds_toArray, List.set_cons_zero, List.set_cons_succ]
              refine' ordS_take (i := 31) (oi := { dst := some 51, op := Op.move (Operand.tmp 6), type := 3, pos := _, after := #[{ on := 19, ground := Ground.guard }], guard := some (19, false) }) (v := _) rfl (by kernel_rfl) (by kernel_rfl) (by kernel_rfl) (by kernel_rfl) (fun _ _ _ h => h) (by assumption) (Or.inl ⟨by rfl, ?hy135⟩) (fun _ => rfl) ?rest135
              case hy135 => (intro w hSw; (try dsimp only at hSw); go_simp; try with_reducible rfl)
              try simp only [Act.put, List.setIfInBounds_toArray, List.set_cons_zero, List.set_cons_succ]
              refine' ordS_take (i := 32) (oi := { dst := some 52, op := Op.indexAddr 37 (Operand.tmp 50) (Operand.tmp 51), type := 0, pos := _, after := #[{ on := 30, ground := Ground.data }, { on := 31, ground := Ground.data }, { on := 19, ground := Ground.guard }], guard := some (19, false) }) (v := _) rfl (by kernel_rfl) (by kernel_rfl) (by kernel_rfl) (by kernel_rfl) (fun _ _ _ h => h) (by assumption) (Or.inl ⟨by rfl, ?hy136⟩) (fun _ => rfl) ?rest136
              case hy136 => (intro w hSw; (try dsimp only at hSw); go_simp; try with_reducible rfl)
              try simp only [Act.put, List.setIfInBounds_toArray, List.set_cons_zero, List.set_cons_succ]
              refine' ordS_take (i := 33) (oi := { dst := some 53, op := Op.load 28 (Operand.tmp 52), type := 28, pos := _, after := #[{ on := 32, ground := Ground.data }, { on := 19, ground := Ground.guard }], guard := some (19, false) }) (v := _) rfl (by kernel_rfl) (by kernel_rfl) (by kernel_rfl) (by kernel_rfl) (fun _ _ _ h => h) (by assumption) (Or.inl ⟨by rfl, ?hy137⟩) (fun _ => rfl) ?rest137
              case hy137 => (intro w hSw; (try dsimp only at hSw); go_simp; try with_reducible rfl)
              try simp only [Act.put, List.setIfInBounds_toArray, List.set_cons_zero, List.set_cons_succ]
              refine ordS_one (i := 34) (o := { dst := some 54, op := Op.call { callee := Callee.value (Operand.func 10), args := #[Operand.tmp 46, Operand.tmp 53], argTypes := #[28, 28] }, type := 4, pos := _, after := #[{ on := 26, ground := Ground.data }, { on := 33, ground := Ground.data }, { on := 19, ground := Ground.chain }, { on := 19, ground := Ground.guard }], guard := some (19, false) }) (by kernel_rfl) rfl (by rfl) (fun K hK => ?_)
              go_simp
              refine ⟨trivial, (callsIn_wide.2 (R34 _)).mono ?_⟩
              rintro e w9 ⟨rfl, hb⟩
              replace hB := bl_tr hB hb
              replace hS := HSL.out _ _ hb hS
              clear hb
              refine hK _ _ hS ?_
              clear hK K
              try simp only [Act.put, List.setIfInBounds_toArray, List.set_cons_zero, List.set_cons_succ]
              refine' ordS_take (i := 35) (oi := { dst := some 55, op := Op.unOp UnOp.not 4 (Operand.tmp 54), type := 4, pos := _, after := #[{ on := 34, ground := Ground.data }, { on := 19, ground := Ground.guard }], guard := some (19, false) }) (v := _) rfl (by kernel_rfl) (by kernel_rfl) (by kernel_rfl) (by kernel_rfl) (fun _ _ _ h => h) (by assumption) (Or.inl ⟨by rfl, ?hy138⟩) (fun _ => rfl) ?rest138
              case hy138 => (intro w hSw; (try dsimp only at hSw); go_simp; try with_reducible rfl)
              try simp only [Act.put, List.setIfInBounds_toArray, List.set_cons_zero, List.set_cons_succ]
              refine' ordS_take (i := 36) (oi := { dst := some 56, op := Op.move (Operand.tmp 55), type := 4, pos := _, after := #[{ on := 35, ground := Ground.data }, { on := 34, ground := Ground.chain }, { on := 19, ground := Ground.guard }], guard := some (19, false) }) (v := _) rfl (by kernel_rfl) (by kernel_rfl) (by kernel_rfl) (by kernel_rfl) (fun _ _ _ h => h) (by assumption) (Or.inl ⟨by rfl, ?hy139⟩) (fun _ => rfl) ?rest139
              case hy139 => (intro w hSw; (try dsimp only at hSw); go_simp; try with_reducible rfl)
              try simp only [Act.put, List.setIfInBounds_toArray, List.set_cons_zero, List.set_cons_succ]
              refine' ordS_take (i := 37) (oi := { dst := some 57, op := Op.move (Operand.tmp 0), type := 35, pos := _, after := #[{ on := 36, ground := Ground.guard }], guard := some (36, true) }) (v := _) rfl (by kernel_rfl) (by kernel_rfl) (by kernel_rfl) (by kernel_rfl) (fun _ _ _ h => h) (by assumption) (Or.inl ⟨by rfl, ?hy140⟩) (fun _ => rfl) ?rest140
              case hy140 => (intro w hSw; (try dsimp only at hSw); go_simp; try with_reducible rfl)
              try simp only [Act.put, List.setIfInBounds_toArray, List.set_cons_zero, List.set_cons_succ]
              refine' ordS_take (i := 38) (oi := { dst := some 58, op := Op.nilCheck (Operand.tmp 57), type := 0, pos := _, after := #[{ on := 37, ground := Ground.data }, { on := 36, ground := Ground.guard }], guard := some (36, true) }) (v := _) rfl (by kernel_rfl) (by kernel_rfl) (by kernel_rfl) (by kernel_rfl) (fun _ _ _ h => h) (by assumption) (Or.inl ⟨by rfl, ?hy141⟩) (fun _ => rfl) ?rest141
              case hy141 => (intro w hSw; (try dsimp only at hSw); go_simp; try with_reducible rfl)
              try simp only [Act.put, List.setIfInBounds_toArray, List.set_cons_zero, List.set_cons_succ]
              refine' ordS_take (i := 39) (oi := { dst := some 59, op := Op.fieldAddr 39 (Operand.tmp 58) 0, type := 0, pos := _, after := #[{ on := 38, ground := Ground.data }, { on := 36, ground := Ground.guard }], guard := some (36, true) }) (v := _) rfl (by kernel_rfl) (by kernel_rfl) (by kernel_rfl) (by kernel_rfl) (fun _ _ _ h => h) (by assumption) (Or.inl ⟨by rfl, ?hy142⟩) (fun _ => rfl) ?rest142
              case hy142 => (intro w hSw; (try dsimp only at hSw); go_simp; try with_reducible rfl)
              try simp only [Act.put, List.setIfInBounds_toArray, List.set_cons_zero, List.set_cons_succ]
              refine' ordS_take (i := 40) (oi := { dst := some 60, op := Op.load 36 (Operand.tmp 59), type := 36, pos := _, after := #[{ on := 39, ground := Ground.data }, { on := 36, ground := Ground.guard }], guard := some (36, true) }) (v := _) rfl (by kernel_rfl) (by kernel_rfl) (by kernel_rfl) (by kernel_rfl) (fun _ _ _ h => h) (by assumption) (Or.inl ⟨by rfl, ?hy143⟩) (fun _ => rfl) ?rest143
              case hy143 => (intro w hSw; (try dsimp only at hSw); go_simp; try with_reducible rfl)
              try simp only [Act.put, List.setIfInBounds_toArray, List.set_cons_zero, List.set_cons_succ]
              refine' ordS_take (i := 41) (oi := { dst := some 61, op := Op.move (Operand.tmp 6), type := 3, pos := _, after := #[{ on := 36, ground := Ground.guard }], guard := some (36, true) }) (v := _) rfl (by kernel_rfl) (by kernel_rfl) (by kernel_rfl) (by kernel_rfl) (fun _ _ _ h => h) (by assumption) (Or.inl ⟨by rfl, ?hy144⟩) (fun _ => rfl) ?rest144
              case hy144 => (intro w hSw; (try dsimp only at hSw); go_simp; try with_reducible rfl)
              try simp only [Act.put, List.setIfInBounds_toArray, List.set_cons_zero, List.set_cons_succ]
              refine' ordS_take (i := 42) (oi := { dst := some 62, op := Op.indexAddr 36 (Operand.tmp 60) (Operand.tmp 61), type := 0, pos := _, after := #[{ on := 40, ground := Ground.data }, { on := 41, ground := Ground.data }, { on := 36, ground := Ground.guard }], guard := some (36, true) }) (v := _) rfl (by kernel_rfl) (by kernel_rfl) (by kernel_rfl) (by kernel_rfl) (fun _ _ _ h => h) (by assumption) (Or.inl ⟨by rfl, ?hy145⟩) (fun _ => rfl) ?rest145
              case hy145 => (intro w hSw; (try dsimp only at hSw); go_simp; try with_reducible rfl)
              try simp only [Act.put, List.setIfInBounds_toArray, List.set_cons_zero, List.set_cons_succ]
              refine' ordS_take (i := 43) (oi := { dst := some 63, op := Op.load 3 (Operand.tmp 62), type := 3, pos := _, after := #[{ on := 42, ground := Ground.data }, { on := 36, ground := Ground.guard }], guard := some (36, true) }) (v := _) rfl (by kernel_rfl) (by kernel_rfl) (by kernel_rfl) (by kernel_rfl) (fun _ _ _ h => h) (by assumption) (Or.inl ⟨by rfl, ?hy146⟩) (fun _ => rfl) ?rest146
              case hy146 => (intro w hSw; (try dsimp only at hSw); go_simp; try with_reducible rfl)
              try simp only [Act.put, List.setIfInBounds_toArray, List.set_cons_zero, List.set_cons_succ]
              refine' ordS_take (i := 44) (oi := { dst := some 64, op := Op.move (Operand.tmp 0), type := 35, pos := _, after := #[{ on := 36, ground := Ground.guard }], guard := some (36, true) }) (v := _) rfl (by kernel_rfl) (by kernel_rfl) (by kernel_rfl) (by kernel_rfl) (fun _ _ _ h => h) (by assumption) (Or.inl ⟨by rfl, ?hy147⟩) (fun _ => rfl) ?rest147
              case hy147 => (intro w hSw; (try dsimp only at hSw); go_simp; try with_reducible rfl)
              try simp only [Act.put, List.setIfInBounds_toArray, List.set_cons_zero, List.set_cons_succ]
              refine' ordS_take (i := 45) (oi := { dst := some 65, op := Op.nilCheck (Operand.tmp 64), type := 0, pos := _, after := #[{ on := 44, ground := Ground.data }, { on := 36, ground := Ground.guard }], guard := some (36, true) }) (v := _) rfl (by kernel_rfl) (by kernel_rfl) (by kernel_rfl) (by kernel_rfl) (fun _ _ _ h => h) (by assumption) (Or.inl ⟨by rfl, ?hy148⟩) (fun _ => rfl) ?rest148
              case hy148 => (intro w hSw; (try dsimp only at hSw); go_simp; try with_reducible rfl)
              try simp only [Act.put, List.setIfInBounds_toArray, List.set_cons_zero, List.set_cons_succ]
              refine' ordS_take (i := 46) (oi := { dst := some 66, op := Op.fieldAddr 39 (Operand.tmp 65) 0, type := 0, pos := _, after := #[{ on := 45, ground := Ground.data }, { on := 36, ground := Ground.guard }], guard := some (36, true) }) (v := _) rfl (by kernel_rfl) (by kernel_rfl) (by kernel_rfl) (by kernel_rfl) (fun _ _ _ h => h) (by assumption) (Or.inl ⟨by rfl, ?hy149⟩) (fun _ => rfl) ?rest149
              case hy149 => (intro w hSw; (try dsimp only at hSw); go_simp; try with_reducible rfl)
              try simp only [Act.put, List.setIfInBounds_toArray, List.set_cons_zero, List.set_cons_succ]
              refine' ordS_take (i := 47) (oi := { dst := some 67, op := Op.load 36 (Operand.tmp 66), type := 36, pos := _, after := #[{ on := 46, ground := Ground.data }, { on := 36, ground := Ground.guard }], guard := some (36, true) }) (v := _) rfl (by kernel_rfl) (by kernel_rfl) (by kernel_rfl) (by kernel_rfl) (fun _ _ _ h => h) (by assumption) (Or.inl ⟨by rfl, ?hy150⟩) (fun _ => rfl) ?rest150
              case hy150 => (intro w hSw; (try dsimp only at hSw); go_simp; try with_reducible rfl)
              try simp only [Act.put, List.setIfInBounds_toArray, List.set_cons_zero, List.set_cons_succ]
              refine' ordS_take (i := 48) (oi := { dst := some 68, op := Op.move (Operand.tmp 5), type := 3, pos := _, after := #[{ on := 36, ground := Ground.guard }], guard := some (36, true) }) (v := _) rfl (by kernel_rfl) (by kernel_rfl) (by kernel_rfl) (by kernel_rfl) (fun _ _ _ h => h) (by assumption) (Or.inl ⟨by rfl, ?hy151⟩) (fun _ => rfl) ?rest151
              case hy151 => (intro w hSw; (try dsimp only at hSw); go_simp; try with_reducible rfl)
              try simp only [Act.put, List.setIfInBounds_toArray, List.set_cons_zero, List.set_cons_succ]
              refine' ordS_take (i := 49) (oi := { dst := some 69, op := Op.indexAddr 36 (Operand.tmp 67) (Operand.tmp 68), type := 0, pos := _, after := #[{ on := 47, ground := Ground.data }, { on := 48, ground := Ground.data }, { on := 36, ground := Ground.guard }], guard := some (36, true) }) (v := _) rfl (by kernel_rfl) (by kernel_rfl) (by kernel_rfl) (by kernel_rfl) (fun _ _ _ h => h) (by assumption) (Or.inl ⟨by rfl, ?hy152⟩) (fun _ => rfl) ?rest152
              case hy152 => (intro w hSw; (try dsimp only at hSw); go_simp; try with_reducible rfl)
              try simp only [Act.put, List.setIfInBounds_toArray, List.set_cons_zero, List.set_cons_succ]
              refine' ordS_take (i := 50) (oi := { dst := some 70, op := Op.load 3 (Operand.tmp 69), type := 3, pos := _, after := #[{ on := 49, ground := Ground.data }, { on := 36, ground := Ground.guard }], guard := some (36, true) }) (v := _) rfl (by kernel_rfl) (by kernel_rfl) (by kernel_rfl) (by kernel_rfl) (fun _ _ _ h => h) (by assumption) (Or.inl ⟨by rfl, ?hy153⟩) (fun _ => rfl) ?rest153
              case hy153 => (intro w hSw; (try dsimp only at hSw); go_simp; try with_reducible rfl)
              try simp only [Act.put, List.setIfInBounds_toArray, List.set_cons_zero, List.set_cons_succ]
              refine' ordS_take (i := 51) (oi := { dst := some 71, op := Op.binOp BinOp.lss 3 (Operand.tmp 63) (Operand.tmp 70) 3, type := 4, pos := _, after := #[{ on := 43, ground := Ground.data }, { on := 50, ground := Ground.data }, { on := 36, ground := Ground.guard }], guard := some (36, true) }) (v := _) rfl (by kernel_rfl) (by kernel_rfl) (by kernel_rfl) (by kernel_rfl) (fun _ _ _ h => h) (by assumption) (Or.inl ⟨by rfl, ?hy154⟩) (fun _ => rfl) ?rest154
              case hy154 => (intro w hSw; (try dsimp only at hSw); go_simp; try with_reducible rfl)
              try simp only [Act.put, List.setIfInBounds_toArray, List.set_cons_zero, List.set_cons_succ]
              refine' ordS_take (i := 52) (oi := { dst := some 72, op := Op.pick (Operand.tmp 56) (Operand.tmp 71) (Operand.const (Value.bool false)), type := 4, pos := _, after := #[{ on := 36, ground := Ground.data }, { on := 51, ground := Ground.data }, { on := 19, ground := Ground.guard }], guard := some (19, false) }) (v := _) rfl (by kernel_rfl) (by kernel_rfl) (by kernel_rfl) (by kernel_rfl) (fun _ _ _ h => h) (by assumption) (Or.inl ⟨by rfl, ?hy155⟩) (fun _ => rfl) ?rest155
              case hy155 => (intro w hSw; (try dsimp only at hSw); go_simp; try with_reducible rfl)
              try simp only [Act.put, List.setIfInBounds_toArray, List.set_cons_zero, List.set_cons_succ]
              refine' ordS_take (i := 53) (oi := { dst := some 73, op := Op.pick (Operand.tmp 39) (Operand.const (Value.bool true)) (Operand.tmp 72), type := 4, pos := _, after := #[{ on := 19, ground := Ground.data }, { on := 52, ground := Ground.data }], guard := none }) (v := _) rfl (by kernel_rfl) (by kernel_rfl) (by kernel_rfl) (by kernel_rfl) (fun _ _ _ h => h) (by assumption) (Or.inl ⟨by rfl, ?hy156⟩) (fun _ => rfl) ?rest156
              case hy156 => (intro w hSw; (try dsimp only at hSw); go_simp; try with_reducible rfl)
              try simp only [Act.put, List.setIfInBounds_toArray, List.set_cons_zero, List.set_cons_succ]
              refine ordS_done (by kernel_rfl) ?_
              have HB := Lib.hid (bl_tr hAr hB)
              clear hB hS hAr
              go_wp2
              go_roundw
              case rel => exact ⟨k + 1, _, by omega, by go_num, by go_num, HX, HB.out⟩
              case measure => simp [intOf]; omega

          · simp only [hba] at R34
            have HX := Lib.hid (HOLD.out (ahead_more hba))
            clear hab hba
            refine (wpIn_wide (n := 11)).1 ?_
            refine ordS_begin (S := (fun w' : World => w'.cell? ⟨p, 0, none⟩ = some (.slice (some ⟨gu, 0, none⟩) m.length capu) ∧ w'.cell? ⟨p, 1, none⟩ = some (.slice (some ⟨gv, 0, none⟩) m.length capv) ∧ w'.cell? ⟨gu, k, none⟩ = some (.int .i64 a.id) ∧ w'.cell? ⟨gu, j, none⟩ = some (.int .i64 b.id) ∧ w'.cell? ⟨gv, k * 4, none⟩ = some (.int .u64 a.F) ∧ w'.cell? ⟨gv, k * 4 + 1, none⟩ = some (.int .u64 a.H) ∧ w'.cell? ⟨gv, k * 4 + 2, none⟩ = some (.int .i64 a.Y) ∧ w'.cell? ⟨gv, k * 4 + 3, none⟩ = some (.int .i64 a.X) ∧ w'.cell? ⟨gv, j * 4, none⟩ = some (.int .u64 b.F) ∧ w'.cell? ⟨gv, j * 4 + 1, none⟩ = some (.int .u64 b.H) ∧ w'.cell? ⟨gv, j * 4 + 2, none⟩ = some (.int .i64 b.Y) ∧ w'.cell? ⟨gv, j * 4 + 3, none⟩ = some (.int .i64 b.X))) (by kernel_rfl) hS (fun _ => ?_)
            refine' ordS_take (i := 0) (oi := { dst := some 20, op := Op.move (Operand.tmp 5), type := 3, pos := _, after := #[], guard := none }) (v := _) rfl (by kernel_rfl) (by kernel_rfl) (by kernel_rfl) (by kernel_rfl) (fun _ _ _ h => h) (by assumption) (Or.inl ⟨by rfl, ?hy157⟩) (fun _ => rfl) ?rest157
            case hy157 => (intro w hSw; (try dsimp only at hSw); go_simp; try with_reducible rfl)
            try simp only [Act.put, List.setIfInBounds_toArray, List.set_cons_zero, List.set_cons_succ]
            refine' ordS_take (i := 1) (oi := { dst := some 21, op := Op.binOp BinOp.lss 3 (Operand.tmp 20) (Operand.const (Value.int IntKind.i64 0)) 3, type := 4, pos := _, after := #[{ on := 0, ground := Ground.data }], guard := none }) (v := _) rfl (by kernel_rfl) (by kernel_rfl) (by kernel_rfl) (by kernel_rfl) (fun _ _ _ h => h) (by assumption) (Or.inl ⟨by rfl, ?hy158⟩) (fun _ => rfl) ?rest158
            case hy158 => (intro w hSw; (try dsimp only at hSw); go_simp; try with_reducible rfl)
            try simp only [Act.put, List.setIfInBounds_toArray, List.set_cons_zero, List.set_cons_succ]
            refine' ordS_take (i := 2) (oi := { dst := some 22, op := Op.move (Operand.tmp 21), type := 4, pos := _, after := #[{ on := 1, ground := Ground.data }], guard := none }) (v := _) rfl (by kernel_rfl) (by kernel_rfl) (by kernel_rfl) (by kernel_rfl) (fun _ _ _ h => h) (by assumption) (Or.inl ⟨by rfl, ?hy159⟩) (fun _ => rfl) ?rest159
            case hy159 => (intro w hSw; (try dsimp only at hSw); go_simp; try with_reducible rfl)
            try simp only [Act.put, List.setIfInBounds_toArray, List.set_cons_zero, List.set_cons_succ]
            refine' ordS_take (i := 3) (oi := { dst := some 23, op := Op.move (Operand.tmp 0), type := 35, pos := _, after := #[{ on := 2, ground := Ground.guard }], guard := some (2, false) }) (v := _) rfl (by kernel_rfl) (by kernel_rfl) (by kernel_rfl) (by kernel_rfl) (fun _ _ _ h => h) (by assumption) (Or.inl ⟨by rfl, ?hy160⟩) (fun _ => rfl) ?rest160
            case hy160 => (intro w hSw; (try dsimp only at hSw); go_simp; try with_reducible rfl)
            try simp only [Act.put, List.setIfInBounds_toArray, List.set_cons_zero, List.set_cons_succ]
            refine' ordS_take (i := 4) (oi := { dst := some 24, op := Op.nilCheck (Operand.tmp 23), type := 0, pos := _, after := #[{ on := 3, ground := Ground.data }, { on := 2, ground := Ground.guard }], guard := some (2, false) }) (v := _) rfl (by kernel_rfl) (by kernel_rfl) (by kernel_rfl) (by kernel_rfl) (fun _ _ _ h => h) (by assumption) (Or.inl ⟨by rfl, ?hy161⟩) (fun _ => rfl) ?rest161
            case hy161 => (intro w hSw; (try dsimp only at hSw); go_simp; try with_reducible rfl)
            try simp only [Act.put, List.setIfInBounds_toArray, List.set_cons_zero, List.set_cons_succ]
            refine' ordS_take (i := 5) (oi := { dst := some 25, op := Op.fieldAddr 39 (Operand.tmp 24) 1, type := 0, pos := _, after := #[{ on := 4, ground := Ground.data }, { on := 2, ground := Ground.guard }], guard := some (2, false) }) (v := _) rfl (by kernel_rfl) (by kernel_rfl) (by kernel_rfl) (by kernel_rfl) (fun _ _ _ h => h) (by assumption) (Or.inl ⟨by rfl, ?hy162⟩) (fun _ => rfl) ?rest162
            case hy162 => (intro w hSw; (try dsimp only at hSw); go_simp; try with_reducible rfl)
            try simp only [Act.put, List.setIfInBounds_toArray, List.set_cons_zero, List.set_cons_succ]
            refine' ordS_take (i := 6) (oi := { dst := some 26, op := Op.load 37 (Operand.tmp 25), type := 37, pos := _, after := #[{ on := 5, ground := Ground.data }, { on := 2, ground := Ground.guard }], guard := some (2, false) }) (v := _) rfl (by kernel_rfl) (by kernel_rfl) (by kernel_rfl) (by kernel_rfl) (fun _ _ _ h => h) (by assumption) (Or.inl ⟨by rfl, ?hy163⟩) (fun _ => rfl) ?rest163
            case hy163 => (intro w hSw; (try dsimp only at hSw); go_simp; try with_reducible rfl)
            try simp only [Act.put, List.setIfInBounds_toArray, List.set_cons_zero, List.set_cons_succ]
            refine' ordS_take (i := 7) (oi := { dst := some 27, op := Op.move (Operand.tmp 6), type := 3, pos := _, after := #[{ on := 2, ground := Ground.guard }], guard := some (2, false) }) (v := _) rfl (by kernel_rfl) (by kernel_rfl) (by kernel_rfl) (by kernel_rfl) (fun _ _ _ h => h) (by assumption) (Or.inl ⟨by rfl, ?hy164⟩) (fun _ => rfl) ?rest164
            case hy164 => (intro w hSw; (try dsimp only at hSw); go_simp; try with_reducible rfl)
            try simp only [Act.put, List.setIfInBounds_toArray, List.set_cons_zero, List.set_cons_succ]
            refine' ordS_take (i := 8) (oi := { dst := some 28, op := Op.indexAddr 37 (Operand.tmp 26) (Operand.tmp 27), type := 0, pos := _, after := #[{ on := 6, ground := Ground.data }, { on := 7, ground := Ground.data }, { on := 2, ground := Ground.guard }], guard := some (2, false) }) (v := _) rfl (by kernel_rfl) (by kernel_rfl) (by kernel_rfl) (by kernel_rfl) (fun _ _ _ h => h) (by assumption) (Or.inl ⟨by rfl, ?hy165⟩) (fun _ => rfl) ?rest165
            case hy165 => (intro w hSw; (try dsimp only at hSw); go_simp; try with_reducible rfl)
            try simp only [Act.put, List.setIfInBounds_toArray, List.set_cons_zero, List.set_cons_succ]
            refine' ordS_take (i := 9) (oi := { dst := some 29, op := Op.load 28 (Operand.tmp 28), type := 28, pos := _, after := #[{ on := 8, ground := Ground.data }, { on := 2, ground := Ground.guard }], guard := some (2, false) }) (v := _) rfl (by kernel_rfl) (by kernel_rfl) (by kernel_rfl) (by kernel_rfl) (fun _ _ _ h => h) (by assumption) (Or.inl ⟨by rfl, ?hy166⟩) (fun _ => rfl) ?rest166
            case hy166 => (intro w hSw; (try dsimp only at hSw); go_simp; try with_reducible rfl)
            try simp only [Act.put, List.setIfInBounds_toArray, List.set_cons_zero, List.set_cons_succ]
            refine' ordS_take (i := 10) (oi := { dst := some 30, op := Op.move (Operand.tmp 0), type := 35, pos := _, after := #[{ on := 2, ground := Ground.guard }], guard := some (2, false) }) (v := _) rfl (by kernel_rfl) (by kernel_rfl) (by kernel_rfl) (by kernel_rfl) (fun _ _ _ h => h) (by assumption) (Or.inl ⟨by rfl, ?hy167⟩) (fun _ => rfl) ?rest167
            case hy167 => (intro w hSw; (try dsimp only at hSw); go_simp; try with_reducible rfl)
            try simp only [Act.put, List.setIfInBounds_toArray, List.set_cons_zero, List.set_cons_succ]
            refine' ordS_take (i := 11) (oi := { dst := some 31, op := Op.nilCheck (Operand.tmp 30), type := 0, pos := _, after := #[{ on := 10, ground := Ground.data }, { on := 2, ground := Ground.guard }], guard := some (2, false) }) (v := _) rfl (by kernel_rfl) (by kernel_rfl) (by kernel_rfl) (by kernel_rfl) (fun _ _ _ h => h) (by assumption) (Or.inl ⟨by rfl, ?hy168⟩) (fun _ => rfl) ?rest168
            case hy168 => (intro w hSw; (try dsimp only at hSw); go_simp; try with_reducible rfl)
            try simp only [Act.put, List.setIfInBounds_toArray, List.set_cons_zero, List.set_cons_succ]
            refine' ordS_take (i := 12) (oi := { dst := some 32, op := Op.fieldAddr 39 (Operand.tmp 31) 1, type := 0, pos := _, after := #[{ on := 11, ground := Ground.data }, { on := 2, ground := Ground.guard }], guard := some (2, false) }) (v := _) rfl (by kernel_rfl) (by kernel_rfl) (by kernel_rfl) (by kernel_rfl) (fun _ _ _ h => h) (by assumption) (Or.inl ⟨by rfl, ?hy169⟩) (fun _ => rfl) ?rest169
            case hy169 => (intro w hSw; (try dsimp only at hSw); go_simp; try with_reducible rfl)
            try simp only [Act.put, List.setIfInBounds_toArray, List.set_cons_zero, List.set_cons_succ]
            refine' ordS_take (i := 13) (oi := { dst := some 33, op := Op.load 37 (Operand.tmp 32), type := 37, pos := _, after := #[{ on := 12, ground := Ground.data }, { on := 2, ground := Ground.guard }], guard := some (2, false) }) (v := _) rfl (by kernel_rfl) (by kernel_rfl) (by kernel_rfl) (by kernel_rfl) (fun _ _ _ h => h) (by assumption) (Or.inl ⟨by rfl, ?hy170⟩) (fun _ => rfl) ?rest170
            case hy170 => (intro w hSw; (try dsimp only at hSw); go_simp; try with_reducible rfl)
            try simp only [Act.put, List.setIfInBounds_toArray, List.set_cons_zero, List.set_cons_succ]
            refine' ordS_take (i := 14) (oi := { dst := some 34, op := Op.move (Operand.tmp 5), type := 3, pos := _, after := #[{ on := 2, ground := Ground.guard }], guard := some (2, false) }) (v := _) rfl (by kernel_rfl) (by kernel_rfl) (by kernel_rfl) (by kernel_rfl) (fun _ _ _ h => h) (by assumption) (Or.inl ⟨by rfl, ?hy171⟩) (fun _ => rfl) ?rest171
            case hy171 => (intro w hSw; (try dsimp only at hSw); go_simp; try with_reducible rfl)
            try simp only [Act.put, List.setIfInBounds_toArray, List.set_cons_zero, List.set_cons_succ]
            refine' ordS_take (i := 15) (oi := { dst := some 35, op := Op.indexAddr 37 (Operand.tmp 33) (Operand.tmp 34), type := 0, pos := _, after := #[{ on := 13, ground := Ground.data }, { on := 14, ground := Ground.data }, { on := 2, ground := Ground.guard }], guard := some (2, false) }) (v := _) rfl (by kernel_rfl) (by kernel_rfl) (by kernel_rfl) (by kernel_rfl) (fun _ _ _ h => h) (by assumption) (Or.inl ⟨by rfl, ?hy172⟩) (fun _ => rfl) ?rest172
            case hy172 => (intro w hSw; (try dsimp only at hSw); go_simp; try with_reducible rfl)
            try simp only [Act.put, List.setIfInBounds_toArray, List.set_cons_zero, List.set_cons_succ]
            refine' ordS_take (i := 16) (oi := { dst := some 36, op := Op.load 28 (Operand.tmp 35), type := 28, pos := _, after := #[{ on := 15, ground := Ground.data }, { on := 2, ground := Ground.guard }], guard := some (2, false) }) (v := _) rfl (by kernel_rfl) (by kernel_rfl) (by kernel_rfl) (by kernel_rfl) (fun _ _ _ h => h) (by assumption) (Or.inl ⟨by rfl, ?hy173⟩) (fun _ => rfl) ?rest173
            case hy173 => (intro w hSw; (try dsimp only at hSw); go_simp; try with_reducible rfl)
            try simp only [Act.put, List.setIfInBounds_toArray, List.set_cons_zero, List.set_cons_succ]
            refine ordS_one (i := 17) (o := { dst := some 37, op := Op.call { callee := Callee.value (Operand.func 10), args := #[Operand.tmp 29, Operand.tmp 36], argTypes := #[28, 28] }, type := 4, pos := _, after := #[{ on := 9, ground := Ground.data }, { on := 16, ground := Ground.data }, { on := 2, ground := Ground.chain }, { on := 2, ground := Ground.guard }], guard := some (2, false) }) (by kernel_rfl) rfl (by rfl) (fun K hK => ?_)
            go_simp
            refine ⟨trivial, (callsIn_wide.2 (R17 _)).mono ?_⟩
            rintro e w9 ⟨rfl, hb⟩
            replace hB := bl_tr hB hb
            replace hS := HSL.out _ _ hb hS
            clear hb
            refine hK _ _ hS ?_
            clear hK K
            try simp only [Act.put, List.setIfInBounds_toArray, List.set_cons_zero, List.set_cons_succ]
            refine' ordS_take (i := 18) (oi := { dst := some 38, op := Op.pick (Operand.tmp 22) (Operand.const (Value.bool true)) (Operand.tmp 37), type := 4, pos := _, after := #[{ on := 2, ground := Ground.data }, { on := 17, ground := Ground.data }], guard := none }) (v := _) rfl (by kernel_rfl) (by kernel_rfl) (by kernel_rfl) (by kernel_rfl) (fun _ _ _ h => h) (by assumption) (Or.inl ⟨by rfl, ?hy174⟩) (fun _ => rfl) ?rest174
            case hy174 => (intro w hSw; (try dsimp only at hSw); go_simp; try with_reducible rfl)
            try simp only [Act.put, List.setIfInBounds_toArray, List.set_cons_zero, List.set_cons_succ]
            refine' ordS_take (i := 19) (oi := { dst := some 39, op := Op.move (Operand.tmp 38), type := 4, pos := _, after := #[{ on := 18, ground := Ground.data }, { on := 17, ground := Ground.chain }], guard := none }) (v := _) rfl (by kernel_rfl) (by kernel_rfl) (by kernel_rfl) (by kernel_rfl) (fun _ _ _ h => h) (by assumption) (Or.inl ⟨by rfl, ?hy175⟩) (fun _ => rfl) ?rest175
            case hy175 => (intro w hSw; (try dsimp only at hSw); go_simp; try with_reducible rfl)
            try simp only [Act.put, List.setIfInBounds_toArray, List.set_cons_zero, List.set_cons_succ]
            refine' ordS_take (i := 20) (oi := { dst := some 40, op := Op.move (Operand.tmp 0), type := 35, pos := _, after := #[{ on := 19, ground := Ground.guard }], guard := some (19, false) }) (v := _) rfl (by kernel_rfl) (by kernel_rfl) (by kernel_rfl) (by kernel_rfl) (fun _ _ _ h => h) (by assumption) (Or.inl ⟨by rfl, ?hy176⟩) (fun _ => rfl) ?rest176
            case hy176 => (intro w hSw; (try dsimp only at hSw); go_simp; try with_reducible rfl)
            try simp only [Act.put, List.setIfInBounds_toArray, List.set_cons_zero, List.set_cons_succ]
            refine' ordS_take (i := 21) (oi := { dst := some 41, op := Op.nilCheck (Operand.tmp 40), type := 0, pos := _, after := #[{ on := 20, ground := Ground.data }, { on := 19, ground := Ground.guard }], guard := some (19, false) }) (v := _) rfl (by kernel_rfl) (by kernel_rfl) (by kernel_rfl) (by kernel_rfl) (fun _ _ _ h => h) (by assumption) (Or.inl ⟨by rfl, ?hy177⟩) (fun _ => rfl) ?rest177
            case hy177 => (intro w hSw; (try dsimp only at hSw); go_simp; try with_reducible rfl)
            try simp only [Act.put, List.setIfInBounds_toArray, List.set_cons_zero, List.set_cons_succ]
            refine' ordS_take (i := 22) (oi := { dst := some 42, op := Op.fieldAddr 39 (Operand.tmp 41) 1, type := 0, pos := _, after := #[{ on := 21, ground := Ground.data }, { on := 19, ground := Ground.guard }], guard := some (19, false) }) (v := _) rfl (by kernel_rfl) (by kernel_rfl) (by kernel_rfl) (by kernel_rfl) (fun _ _ _ h => h) (by assumption) (Or.inl ⟨by rfl, ?hy178⟩) (fun _ => rfl) ?rest178
            case hy178 => (intro w hSw; (try dsimp only at hSw); go_simp; try with_reducible rfl)
            try simp only [Act.put, List.setIfInBounds_toArray, List.set_cons_zero, List.set_cons_succ]
            refine' ordS_take (i := 23) (oi := { dst := some 43, op := Op.load 37 (Operand.tmp 42), type := 37, pos := _, after := #[{ on := 22, ground := Ground.data }, { on := 19, ground := Ground.guard }], guard := some (19, false) }) (v := _) rfl (by kernel_rfl) (by kernel_rfl) (by kernel_rfl) (by kernel_rfl) (fun _ _ _ h => h) (by assumption) (Or.inl ⟨by rfl, ?hy179⟩) (fun _ => rfl) ?rest179
            case hy179 => (intro w hSw; (try dsimp only at hSw); go_simp; try with_reducible rfl)
            try simp only [Act.put, List.setIfInBounds_toArray, List.set_cons_zero, List.set_cons_succ]
            refine' ordS_take (i := 24) (oi := { dst := some 44, op := Op.move (Operand.tmp 5), type := 3, pos := _, after := #[{ on := 19, ground := Ground.guard }], guard := some (19, false) }) (v := _) rfl (by kernel_rfl) (by kernel_rfl) (by kernel_rfl) (by kernel_rfl) (fun _ _ _ h => h) (by assumption) (Or.inl ⟨by rfl, ?hy180⟩) (fun _ => rfl) ?rest180
            case hy180 => (intro w hSw; (try dsimp only at hSw); go_simp; try with_reducible rfl)
            try simp only [Act.put, List.setIfInBounds_toArray, List.set_cons_zero, List.set_cons_succ]
            refine' ordS_take (i := 25) (oi := { dst := some 45, op := Op.indexAddr 37 (Operand.tmp 43) (Operand.tmp 44), type := 0, pos := _, after := #[{ on := 23, ground := Ground.data }, { on := 24, ground := Ground.data }, { on := 19, ground := Ground.guard }], guard := some (19, false) }) (v := _) rfl (by kernel_rfl) (by kernel_rfl) (by kernel_rfl) (by kernel_rfl) (fun _ _ _ h => h) (by assumption) (Or.inl ⟨by rfl, ?hy181⟩) (fun _ => rfl) ?rest181
            case hy181 => (intro w hSw; (try dsimp only at hSw); go_simp; try with_reducible rfl)
            try simp only [Act.put, List.setIfInBounds_toArray, List.set_cons_zero, List.set_cons_succ]
            refine' ordS_take (i := 26) (oi := { dst := some 46, op := Op.load 28 (Operand.tmp 45), type := 28, pos := _, after := #[{ on := 25, ground := Ground.data }, { on := 19, ground := Ground.guard }], guard := some (19, false) }) (v := _) rfl (by kernel_rfl) (by kernel_rfl) (by kernel_rfl) (by kernel_rfl) (fun _ _ _ h => h) (by assumption) (Or.inl ⟨by rfl, ?hy182⟩) (fun _ => rfl) ?rest182
            case hy182 => (intro w hSw; (try dsimp only at hSw); go_simp; try with_reducible rfl)
            try simp only [Act.put, List.setIfInBounds_toArray, List.set_cons_zero, List.set_cons_succ]
            refine' ordS_take (i := 27) (oi := { dst := some 47, op := Op.move (Operand.tmp 0), type := 35, pos := _, after := #[{ on := 19, ground := Ground.guard }], guard := some (19, false) }) (v := _) rfl (by kernel_rfl) (by kernel_rfl) (by kernel_rfl) (by kernel_rfl) (fun _ _ _ h => h) (by assumption) (Or.inl ⟨by rfl, ?hy183⟩) (fun _ => rfl) ?rest183
            case hy183 => (intro w hSw; (try dsimp only at hSw); go_simp; try with_reducible rfl)
            try simp only [Act.put, List.setIfInBounds_toArray, List.set_cons_zero, List.set_cons_succ]
            refine' ordS_take (i := 28) (oi := { dst := some 48, op := Op.nilCheck (Operand.tmp 47), type := 0, pos := _, after := #[{ on := 27, ground := Ground.data }, { on := 19, ground := Ground.guard }], guard := some (19, false) }) (v := _) rfl (by kernel_rfl) (by kernel_rfl) (by kernel_rfl) (by kernel_rfl) (fun _ _ _ h => h) (by assumption) (Or.inl ⟨by rfl, ?hy184⟩) (fun _ => rfl) ?rest184
            case hy184 => (intro w hSw; (try dsimp only at hSw); go_simp; try with_reducible rfl)
            try simp only [Act.put, List.setIfInBounds_toArray, List.set_cons_zero, List.set_cons_succ]
            refine' ordS_take (i := 29) (oi := { dst := some 49, op := Op.fieldAddr 39 (Operand.tmp 48) 1, type := 0, pos := _, after := #[{ on := 28, ground := Ground.data }, { on := 19, ground := Ground.guard }], guard := some (19, false) }) (v := _) rfl (by kernel_rfl) (by kernel_rfl) (by kernel_rfl) (by kernel_rfl) (fun _ _ _ h => h) (by assumption) (Or.inl ⟨by rfl, ?hy185⟩) (fun _ => rfl) ?rest185
            case hy185 => (intro w hSw; (try dsimp only at hSw); go_simp; try with_reducible rfl)
            try simp only [Act.put, List.setIfInBounds_toArray, List.set_cons_zero, List.set_cons_succ]
            refine' ordS_take (i := 30) (oi := { dst := some 50, op := Op.load 37 (Operand.tmp 49), type := 37, pos := _, after := #[{ on := 29, ground := Ground.data }, { on := 19, ground := Ground.guard }], guard := some (19, false) }) (v := _) rfl (by kernel_rfl) (by kernel_rfl) (by kernel_rfl) (by kernel_rfl) (fun _ _ _ h => h) (by assumption) (Or.inl ⟨by rfl, ?hy186⟩) (fun _ => rfl) ?rest186
            case hy186 => (intro w hSw; (try dsimp only at hSw); go_simp; try with_reducible rfl)
            try simp only [Act.put, List.setIfInBounds_toArray, List.set_cons_zero, List.set_cons_succ]
            refine' ordS_take (i := 31) (oi := { dst := some 51, op := Op.move (Operand.tmp 6), type := 3, pos := _, after := #[{ on := 19, ground := Ground.guard }], guard := some (19, false) }) (v := _) rfl (by kernel_rfl) (by kernel_rfl) (by kernel_rfl) (by kernel_rfl) (fun _ _ _ h => h) (by assumption) (Or.inl ⟨by rfl, ?hy187⟩) (fun _ => rfl) ?rest187
            case hy187 => (intro w hSw; (try dsimp only at hSw); go_simp; try with_reducible rfl)
            try simp only [Act.put, List.setIfInBounds_toArray, List.set_cons_zero, List.set_cons_succ]
            refine' ordS_take (i := 32) (oi := { dst := some 52, op := Op.indexAddr 37 (Operand.tmp 50) (Operand.tmp 51), type := 0, pos := _, after := #[{ on := 30, ground := Ground.data }, { on := 31, ground := Ground.data }, { on := 19, ground := Ground.guard }], guard := some (19, false) }) (v := _) rfl (by kernel_rfl) (by kernel_rfl) (by kernel_rfl) (by kernel_rfl) (fun _ _ _ h => h) (by assumption) (Or.inl ⟨by rfl, ?hy188⟩) (fun _ => rfl) ?rest188
            case hy188 => (intro w hSw; (try dsimp only at hSw); go_simp; try with_reducible rfl)
            try simp only [Act.put, List.setIfInBounds_toArray, List.set_cons_zero, List.set_cons_succ]
            refine' ordS_take (i := 33) (oi := { dst := some 53, op := Op.load 28 (Operand.tmp 52), type := 28, pos := _, after := #[{ on := 32, ground := Ground.data }, { on := 19, ground := Ground.guard }], guard := some (19, false) }) (v := _) rfl (by kernel_rfl) (by kernel_rfl) (by kernel_rfl) (by kernel_rfl) (fun _ _ _ h => h) (by assumption) (Or.inl ⟨by rfl, ?hy189⟩) (fun _ => rfl) ?rest189
            case hy189 => (intro w hSw; (try dsimp only at hSw); go_simp; try with_reducible rfl)
            try simp only [Act.put, List.setIfInBounds_toArray, List.set_cons_zero, List.set_cons_succ]
            refine ordS_one (i := 34) (o := { dst := some 54, op := Op.call { callee := Callee.value (Operand.func 10), args := #[Operand.tmp 46, Operand.tmp 53], argTypes := #[28, 28] }, type := 4, pos := _, after := #[{ on := 26, ground := Ground.data }, { on := 33, ground := Ground.data }, { on := 19, ground := Ground.chain }, { on := 19, ground := Ground.guard }], guard := some (19, false) }) (by kernel_rfl) rfl (by rfl) (fun K hK => ?_)
            go_simp
            refine ⟨trivial, (callsIn_wide.2 (R34 _)).mono ?_⟩
            rintro e w9 ⟨rfl, hb⟩
            replace hB := bl_tr hB hb
            replace hS := HSL.out _ _ hb hS
            clear hb
            refine hK _ _ hS ?_
            clear hK K
            try simp only [Act.put, List.setIfInBounds_toArray, List.set_cons_zero, List.set_cons_succ]
            refine' ordS_take (i := 35) (oi := { dst := some 55, op := Op.unOp UnOp.not 4 (Operand.tmp 54), type := 4, pos := _, after := #[{ on := 34, ground := Ground.data }, { on := 19, ground := Ground.guard }], guard := some (19, false) }) (v := _) rfl (by kernel_rfl) (by kernel_rfl) (by kernel_rfl) (by kernel_rfl) (fun _ _ _ h => h) (by assumption) (Or.inl ⟨by rfl, ?hy190⟩) (fun _ => rfl) ?rest190
            case hy190 => (intro w hSw; (try dsimp only at hSw); go_simp; try with_reducible rfl)
            try simp only [Act.put, List.setIfInBounds_toArray, List.set_cons_zero, List.set_cons_succ]
            refine' ordS_take (i := 36) (oi := { dst := some 56, op := Op.move (Operand.tmp 55), type := 4, pos := _, after := #[{ on := 35, ground := Ground.data }, { on := 34, ground := Ground.chain }, { on := 19, ground := Ground.guard }], guard := some (19, false) }) (v := _) rfl (by kernel_rfl) (by kernel_rfl) (by kernel_rfl) (by kernel_rfl) (fun _ _ _ h => h) (by assumption) (Or.inl ⟨by rfl, ?hy191⟩) (fun _ => rfl) ?rest191
            case hy191 => (intro w hSw; (try dsimp only at hSw); go_simp; try with_reducible rfl)
            try simp only [Act.put, List.setIfInBounds_toArray, List.set_cons_zero, List.set_cons_succ]
            refine ordS_take (i := 37) (oi := { dst := some 57, op := Op.move (Operand.tmp 0), type := 35, pos := _, after := #[{ on := 36, ground := Ground.guard }], guard := some (36, true) }) (v := undef) rfl (by kernel_rfl) (by kernel_rfl) (by kernel_rfl) (by kernel_rfl) (fun _ _ _ h => h) (by assumption) (Or.inr ⟨by rfl, rfl⟩) (fun _ => rfl) ?_
            try simp only [Act.put, List.setIfInBounds_toArray, List.set_cons_zero, List.set_cons_succ]
            refine ordS_take (i := 38) (oi := { dst := some 58, op := Op.nilCheck (Operand.tmp 57), type := 0, pos := _, after := #[{ on := 37, ground := Ground.data }, { on := 36, ground := Ground.guard }], guard := some (36, true) }) (v := undef) rfl (by kernel_rfl) (by kernel_rfl) (by kernel_rfl) (by kernel_rfl) (fun _ _ _ h => h) (by assumption) (Or.inr ⟨by rfl, rfl⟩) (fun _ => rfl) ?_
            try simp only [Act.put, List.setIfInBounds_toArray, List.set_cons_zero, List.set_cons_succ]
            refine ordS_take (i := 39) (oi := { dst := some 59, op := Op.fieldAddr 39 (Operand.tmp 58) 0, type := 0, pos := _, after := #[{ on := 38, ground := Ground.data }, { on := 36, ground := Ground.guard }], guard := some (36, true) }) (v := undef) rfl (by kernel_rfl) (by kernel_rfl) (by kernel_rfl) (by kernel_rfl) (fun _ _ _ h => h) (by assumption) (Or.inr ⟨by rfl, rfl⟩) (fun _ => rfl) ?_
            try simp only [Act.put, List.setIfInBounds_toArray, List.set_cons_zero, List.set_cons_succ]
            refine ordS_take (i := 40) (oi := { dst := some 60, op := Op.load 36 (Operand.tmp 59), type := 36, pos := _, after := #[{ on := 39, ground := Ground.data }, { on := 36, ground := Ground.guard }], guard := some (36, true) }) (v := undef) rfl (by kernel_rfl) (by kernel_rfl) (by kernel_rfl) (by kernel_rfl) (fun _ _ _ h => h) (by assumption) (Or.inr ⟨by rfl, rfl⟩) (fun _ => rfl) ?_
            try simp only [Act.put, List.setIfInBounds_toArray, List.set_cons_zero, List.set_cons_succ]
            refine ordS_take (i := 41) (oi := { dst := some 61, op := Op.move (Operand.tmp 6), type := 3, pos := _, after := #[{ on := 36, ground := Ground.guard }], guard := some (36, true) }) (v := undef) rfl (by kernel_rfl) (by kernel_rfl) (by kernel_rfl) (by kernel_rfl) (fun _ _ _ h => h) (by assumption) (Or.inr ⟨by rfl, rfl⟩) (fun _ => rfl) ?_
            try simp only [Act.put, List.setIfInBounds_toArray, List.set_cons_zero, List.set_cons_succ]
            refine ordS_take (i := 42) (oi := { dst := some 62, op := Op.indexAddr 36 (Operand.tmp 60) (Operand.tmp 61), type := 0, pos := _, after := #[{ on := 40, ground := Ground.data }, { on := 41, ground := Ground.data }, { on := 36, ground := Ground.guard }], guard := some (36, true) }) (v := undef) rfl (by kernel_rfl) (by kernel_rfl) (by kernel_rfl) (by kernel_rfl) (fun _ _ _ h => h) (by assumption) (Or.inr ⟨by rfl, rfl⟩) (fun _ => rfl) ?_
            try simp only [Act.put, List.setIfInBounds_toArray, List.set_cons_zero, List.set_cons_succ]
            refine ordS_take (i := 43) (oi := { dst := some 63, op := Op.load 3 (Operand.tmp 62), type := 3, pos := _, after := #[{ on := 42, ground := Ground.data }, { on := 36, ground := Ground.guard }], guard := some (36, true) }) (v := undef) rfl (by kernel_rfl) (by kernel_rfl) (by kernel_rfl) (by kernel_rfl) (fun _ _ _ h => h) (by assumption) (Or.inr ⟨by rfl, rfl⟩) (fun _ => rfl) ?_
            try simp only [Act.put, List.setIfInBounds_toArray, List.set_cons_zero, List.set_cons_succ]
            refine ordS_take (i := 44) (oi := { dst := some 64, op := Op.move (Operand.tmp 0), type := 35, pos := _, after := #[{ on := 36, ground := Ground.guard }], guard := some (36, true) }) (v := undef) rfl (by kernel_rfl) (by kernel_rfl) (by kernel_rfl) (by kernel_rfl) (fun _ _ _ h => h) (by assumption) (Or.inr ⟨by rfl, rfl⟩) (fun _ => rfl) ?_
            try simp only [Act.put, List.setIfInBounds_toArray, List.set_cons_zero, List.set_cons_succ]
            refine ordS_take (i := 45) (oi := { dst := some 65, op := Op.nilCheck (Operand.tmp 64), type := 0, pos := _, after := #[{ on := 44, ground := Ground.data }, { on := 36, ground := Ground.guard }], guard := some (36, true) }) (v := undef) rfl (by kernel_rfl) (by kernel_rfl) (by kernel_rfl) (by kernel_rfl) (fun _ _ _ h => h) (by assumption) (Or.inr ⟨by rfl, rfl⟩) (fun _ => rfl) ?_
            try simp only [Act.put, List.setIfInBounds_toArray, List.set_cons_zero, List.set_cons_succ]
            refine ordS_take (i := 46) (oi := { dst := some 66, op := Op.fieldAddr 39 (Operand.tmp 65) 0, type := 0, pos := _, after := #[{ on := 45, ground := Ground.data }, { on := 36, ground := Ground.guard }], guard := some (36, true) }) (v := undef) rfl (by kernel_rfl) (by kernel_rfl) (by kernel_rfl) (by kernel_rfl) (fun _ _ _ h => h) (by assumption) (Or.inr ⟨by rfl, rfl⟩) (fun _ => rfl) ?_
            try simp only [Act.put, List.setIfInBounds_toArray, List.set_cons_zero, List.set_cons_succ]
            refine ordS_take (i := 47) (oi := { dst := some 67, op := Op.load 36 (Operand.tmp 66), type := 36, pos := _, after := #[{ on := 46, ground := Ground.data }, { on := 36, ground := Ground.guard }], guard := some (36, true) }) (v := undef) rfl (by kernel_rfl) (by kernel_rfl) (by kernel_rfl) (by kernel_rfl) (fun _ _ _ h => h) (by assumption) (Or.inr ⟨by rfl, rfl⟩) (fun _ => rfl) ?_
            try simp only [Act.put, List.setIfInBounds_toArray, List.set_cons_zero, List.set_cons_succ]
            refine ordS_take (i := 48) (oi := { dst := some 68, op := Op.move (Operand.tmp 5), type := 3, pos := _, after := #[{ on := 36, ground := Ground.guard }], guard := some (36, true) }) (v := undef) rfl (by kernel_rfl) (by kernel_rfl) (by kernel_rfl) (by kernel_rfl) (fun _ _ _ h => h) (by assumption) (Or.inr ⟨by rfl, rfl⟩) (fun _ => rfl) ?_
            try simp only [Act.put, List.setIfInBounds_toArray, List.set_cons_zero, List.set_cons_succ]
            refine ordS_take (i := 49) (oi := { dst := some 69, op := Op.indexAddr 36 (Operand.tmp 67) (Operand.tmp 68), type := 0, pos := _, after := #[{ on := 47, ground := Ground.data }, { on := 48, ground := Ground.data }, { on := 36, ground := Ground.guard }], guard := some (36, true) }) (v := undef) rfl (by kernel_rfl) (by kernel_rfl) (by kernel_rfl) (by kernel_rfl) (fun _ _ _ h => h) (by assumption) (Or.inr ⟨by rfl, rfl⟩) (fun _ => rfl) ?_
            try simp only [Act.put, List.setIfInBounds_toArray, List.set_cons_zero, List.set_cons_succ]
            refine ordS_take (i := 50) (oi := { dst := some 70, op := Op.load 3 (Operand.tmp 69), type := 3, pos := _, after := #[{ on := 49, ground := Ground.data }, { on := 36, ground := Ground.guard }], guard := some (36, true) }) (v := undef) rfl (by kernel_rfl) (by kernel_rfl) (by kernel_rfl) (by kernel_rfl) (fun _ _ _ h => h) (by assumption) (Or.inr ⟨by rfl, rfl⟩) (fun _ => rfl) ?_
            try simp only [Act.put, List.setIfInBounds_toArray, List.set_cons_zero, List.set_cons_succ]
            refine ordS_take (i := 51) (oi := { dst := some 71, op := Op.binOp BinOp.lss 3 (Operand.tmp 63) (Operand.tmp 70) 3, type := 4, pos := _, after := #[{ on := 43, ground := Ground.data }, { on := 50, ground := Ground.data }, { on := 36, ground := Ground.guard }], guard := some (36, true) }) (v := undef) rfl (by kernel_rfl) (by kernel_rfl) (by kernel_rfl) (by kernel_rfl) (fun _ _ _ h => h) (by assumption) (Or.inr ⟨by rfl, rfl⟩) (fun _ => rfl) ?_
            try simp only [Act.put, List.setIfInBounds_toArray, List.set_cons_zero, List.set_cons_succ]
            refine' ordS_take (i := 52) (oi := { dst := some 72, op := Op.pick (Operand.tmp 56) (Operand.tmp 71) (Operand.const (Value.bool false)), type := 4, pos := _, after := #[{ on := 36, ground := Ground.data }, { on := 51, ground := Ground.data }, { on := 19, ground := Ground.guard }], guard := some (19, false) }) (v := _) rfl (by kernel_rfl) (by kernel_rfl) (by kernel_rfl) (by kernel_rfl) (fun _ _ _ h => h) (by assumption) (Or.inl ⟨by rfl, ?hy207⟩) (fun _ => rfl) ?rest207
            case hy207 => (intro w hSw; (try dsimp only at hSw); go_simp; try with_reducible rfl)
            try simp only [Act.put, List.setIfInBounds_toArray, List.set_cons_zero, List.set_cons_succ]
            refine' ordS_take (i := 53) (oi := { dst := some 73, op := Op.pick (Operand.tmp 39) (Operand.const (Value.bool true)) (Operand.tmp 72), type := 4, pos := _, after := #[{ on := 19, ground := Ground.data }, { on := 52, ground := Ground.data }], guard := none }) (v := _) rfl (by kernel_rfl) (by kernel_rfl) (by kernel_rfl) (by kernel_rfl) (fun _ _ _ h => h) (by assumption) (Or.inl ⟨by rfl, ?hy208⟩) (fun _ => rfl) ?rest208
            case hy208 => (intro w hSw; (try dsimp only at hSw); go_simp; try with_reducible rfl)
            try simp only [Act.put, List.setIfInBounds_toArray, List.set_cons_zero, List.set_cons_succ]
            refine ordS_done (by kernel_rfl) ?_
            have HB := Lib.hid (bl_tr hAr hB)
            clear hB hS hAr
            go_wp2
            go_roundw
            case rel => exact ⟨k + 1, _, by omega, by go_num, by go_num, HX, HB.out⟩
            case measure => simp [intOf]; omega

        · simp only [hab] at R17
          have HX := Lib.hid (HNEW.out (ahead_lessB hab))
          clear hab
          refine (wpIn_wide (n := 11)).1 ?_
          refine ordS_begin (S := (fun w' : World => w'.cell? ⟨p, 0, none⟩ = some (.slice (some ⟨gu, 0, none⟩) m.length capu) ∧ w'.cell? ⟨p, 1, none⟩ = some (.slice (some ⟨gv, 0, none⟩) m.length capv) ∧ w'.cell? ⟨gu, k, none⟩ = some (.int .i64 a.id) ∧ w'.cell? ⟨gu, j, none⟩ = some (.int .i64 b.id) ∧ w'.cell? ⟨gv, k * 4, none⟩ = some (.int .u64 a.F) ∧ w'.cell? ⟨gv, k * 4 + 1, none⟩ = some (.int .u64 a.H) ∧ w'.cell? ⟨gv, k * 4 + 2, none⟩ = some (.int .i64 a.Y) ∧ w'.cell? ⟨gv, k * 4 + 3, none⟩ = some (.int .i64 a.X) ∧ w'.cell? ⟨gv, j * 4, none⟩ = some (.int .u64 b.F) ∧ w'.cell? ⟨gv, j * 4 + 1, none⟩ = some (.int .u64 b.H) ∧ w'.cell? ⟨gv, j * 4 + 2, none⟩ = some (.int .i64 b.Y) ∧ w'.cell? ⟨gv, j * 4 + 3, none⟩ = some (.int .i64 b.X))) (by kernel_rfl) hS (fun _ => ?_)
          refine' ordS_take (i := 0) (oi := { dst := some 20, op := Op.move (Operand.tmp 5), type := 3, pos := _, after := #[], guard := none }) (v := _) rfl (by kernel_rfl) (by kernel_rfl) (by kernel_rfl) (by kernel_rfl) (fun _ _ _ h => h) (by assumption) (Or.inl ⟨by rfl, ?hy209⟩) (fun _ => rfl) ?rest209
          case hy209 => (intro w hSw; (try dsimp only at hSw); go_simp; try with_reducible rfl)
          try simp only [Act.put, List.setIfInBounds_toArray, List.set_cons_zero, List.set_cons_succ]
          refine' ordS_take (i := 1) (oi := { dst := some 21, op := Op.binOp BinOp.lss 3 (Operand.tmp 20) (Operand.const (Value.int IntKind.i64 0)) 3, type := 4, pos := _, after := #[{ on := 0, ground := Ground.data }], guard := none }) (v := _) rfl (by kernel_rfl) (by kernel_rfl) (by kernel_rfl) (by kernel_rfl) (fun _ _ _ h => h) (by assumption) (Or.inl ⟨by rfl, ?hy210⟩) (fun _ => rfl) ?rest210
          case hy210 => (intro w hSw; (try dsimp only at hSw); go_simp; try with_reducible rfl)
          try simp only [Act.put, List.setIfInBounds_toArray, List.set_cons_zero, List.set_cons_succ]
          refine' ordS_take (i := 2) (oi := { dst := some 22, op := Op.move (Operand.tmp 21), type := 4, pos := _, after := #[{ on := 1, ground := Ground.data }], guard := none }) (v := _) rfl (by kernel_rfl) (by kernel_rfl) (by kernel_rfl) (by kernel_rfl) (fun _ _ _ h => h) (by assumption) (Or.inl ⟨by rfl, ?hy211⟩) (fun _ => rfl) ?rest211
          case hy211 => (intro w hSw; (try dsimp only at hSw); go_simp; try with_reducible rfl)
          try simp only [Act.put, List.setIfInBounds_toArray, List.set_cons_zero, List.set_cons_succ]
          refine' ordS_take (i := 3) (oi := { dst := some 23, op := Op.move (Operand.tmp 0), type := 35, pos := _, after := #[{ on := 2, ground := Ground.guard }], guard := some (2, false) }) (v := _) rfl (by kernel_rfl) (by kernel_rfl) (by kernel_rfl) (by kernel_rfl) (fun _ _ _ h => h) (by assumption) (Or.inl ⟨by rfl, ?hy212⟩) (fun _ => rfl) ?rest212
          case hy212 => (intro w hSw; (try dsimp only at hSw); go_simp; try with_reducible rfl)
          try simp only [Act.put, List.setIfInBounds_toArray, List.set_cons_zero, List.set_cons_succ]
          refine' ordS_take (i := 4) (oi := { dst := some 24, op := Op.nilCheck (Operand.tmp 23), type := 0, pos := _, after := #[{ on := 3, ground := Ground.data }, { on := 2, ground := Ground.guard }], guard := some (2, false) }) (v := _) rfl (by kernel_rfl) (by kernel_rfl) (by kernel_rfl) (by kernel_rfl) (fun _ _ _ h => h) (by assumption) (Or.inl ⟨by rfl, ?hy213⟩) (fun _ => rfl) ?rest213
          case hy213 => (intro w hSw; (try dsimp only at hSw); go_simp; try with_reducible rfl)
          try simp only [Act.put, List.setIfInBounds_toArray, List.set_cons_zero, List.set_cons_succ]
          refine' ordS_take (i := 5) (oi := { dst := some 25, op := Op.fieldAddr 39 (Operand.tmp 24) 1, type := 0, pos := _, after := #[{ on := 4, ground := Ground.data }, { on := 2, ground := Ground.guard }], guard := some (2, false) }) (v := _) rfl (by kernel_rfl) (by kernel_rfl) (by kernel_rfl) (by kernel_rfl) (fun _ _ _ h => h) (by assumption) (Or.inl ⟨by rfl, ?hy214⟩) (fun _ => rfl) ?rest214
          case hy214 => (intro w hSw; (try dsimp only at hSw); go_simp; try with_reducible rfl)
          try simp only [Act.put, List.setIfInBounds_toArray, List.set_cons_zero, List.set_cons_succ]
          refine' ordS_take (i := 6) (oi := { dst := some 26, op := Op.load 37 (Operand.tmp 25), type := 37, pos := _, after := #[{ on := 5, ground := Ground.data }, { on := 2, ground := Ground.guard }], guard := some (2, false) }) (v := _) rfl (by kernel_rfl) (by kernel_rfl) (by kernel_rfl) (by kernel_rfl) (fun _ _ _ h => h) (by assumption) (Or.inl ⟨by rfl, ?hy215⟩) (fun _ => rfl) ?rest215
          case hy215 => (intro w hSw; (try dsimp only at hSw); go_simp; try with_reducible rfl)
          try simp only [Act.put, List.setIfInBounds_toArray, List.set_cons_zero, List.set_cons_succ]
          refine' ordS_take (i := 7) (oi := { dst := some 27, op := Op.move (Operand.tmp 6), type := 3, pos := _, after := #[{ on := 2, ground := Ground.guard }], guard := some (2, false) }) (v := _) rfl (by kernel_rfl) (by kernel_rfl) (by kernel_rfl) (by kernel_rfl) (fun _ _ _ h => h) (by assumption) (Or.inl ⟨by rfl, ?hy216⟩) (fun _ => rfl) ?rest216
          case hy216 => (intro w hSw; (try dsimp only at hSw); go_simp; try with_reducible rfl)
          try simp only [Act.put, List.setIfInBounds_toArray, List.set_cons_zero, List.set_cons_succ]
          refine' ordS_take (i := 8) (oi := { dst := some 28, op := Op.indexAddr 37 (Operand.tmp 26) (Operand.tmp 27), type := 0, pos := _, after := #[{ on := 6, ground := Ground.data }, { on := 7, ground := Ground.data }, { on := 2, ground := Ground.guard }], guard := some (2, false) }) (v := _) rfl (by kernel_rfl) (by kernel_rfl) (by kernel_rfl) (by kernel_rfl) (fun _ _ _ h => h) (by assumption) (Or.inl ⟨by rfl, ?hy217⟩) (fun _ => rfl) ?rest217
          case hy217 => (intro w hSw; (try dsimp only at hSw); go_simp; try with_reducible rfl)
          try simp only [Act.put, List.setIfInBounds_toArray, List.set_cons_zero, List.set_cons_succ]
          refine' ordS_take (i := 9) (oi := { dst := some 29, op := Op.load 28 (Operand.tmp 28), type := 28, pos := _, after := #[{ on := 8, ground := Ground.data }, { on := 2, ground := Ground.guard }], guard := some (2, false) }) (v := _) rfl (by kernel_rfl) (by kernel_rfl) (by kernel_rfl) (by kernel_rfl) (fun _ _ _ h => h) (by assumption) (Or.inl ⟨by rfl, ?hy218⟩) (fun _ => rfl) ?rest218
          case hy218 => (intro w hSw; (try dsimp only at hSw); go_simp; try with_reducible rfl)
          try simp only [Act.put, List.setIfInBounds_toArray, List.set_cons_zero, List.set_cons_succ]
          refine' ordS_take (i := 10) (oi := { dst := some 30, op := Op.move (Operand.tmp 0), type := 35, pos := _, after := #[{ on := 2, ground := Ground.guard }], guard := some (2, false) }) (v := _) rfl (by kernel_rfl) (by kernel_rfl) (by kernel_rfl) (by kernel_rfl) (fun _ _ _ h => h) (by assumption) (Or.inl ⟨by rfl, ?hy219⟩) (fun _ => rfl) ?rest219
          case hy219 => (intro w hSw; (try dsimp only at hSw); go_simp; try with_reducible rfl)
          try simp only [Act.put, List.setIfInBounds_toArray, List.set_cons_zero, List.set_cons_succ]
          refine' ordS_take (i := 11) (oi := { dst := some 31, op := Op.nilCheck (Operand.tmp 30), type := 0, pos := _, after := #[{ on := 10, ground := Ground.data }, { on := 2, ground := Ground.guard }], guard := some (2, false) }) (v := _) rfl (by kernel_rfl) (by kernel_rfl) (by kernel_rfl) (by kernel_rfl) (fun _ _ _ h => h) (by assumption) (Or.inl ⟨by rfl, ?hy220⟩) (fun _ => rfl) ?rest220
          case hy220 => (intro w hSw; (try dsimp only at hSw); go_simp; try with_reducible rfl)
          try simp only [Act.put, List.setIfInBounds_toArray, List.set_cons_zero, List.set_cons_succ]
          refine' ordS_take (i := 12) (oi := { dst := some 32, op := Op.fieldAddr 39 (Operand.tmp 31) 1, type := 0, pos := _, after := #[{ on := 11, ground := Ground.data }, { on := 2, ground := Ground.guard }], guard := some (2, false) }) (v := _) rfl (by kernel_rfl) (by kernel_rfl) (by kernel_rfl) (by kernel_rfl) (fun _ _ _ h => h) (by assumption) (Or.inl ⟨by rfl, ?hy221⟩) (fun _ => rfl) ?rest221
          case hy221 => (intro w hSw; (try dsimp only at hSw); go_simp; try with_reducible rfl)
          try simp only [Act.put, List.setIfInBounds_toArray, List.set_cons_zero, List.set_cons_succ]
          refine' ordS_take (i := 13) (oi := { dst := some 33, op := Op.load 37 (Operand.tmp 32), type := 37, pos := _, after := #[{ on := 12, ground := Ground.data }, { on := 2, ground := Ground.guard }], guard := some (2, false) }) (v := _) rfl (by kernel_rfl) (by kernel_rfl) (by kernel_rfl) (by kernel_rfl) (fun _ _ _ h => h) (by assumption) (Or.inl ⟨by rfl, ?hy222⟩) (fun _ => rfl) ?rest222
          case hy222 => (intro w hSw; (try dsimp only at hSw); go_simp; try with_reducible rfl)
          try simp only [Act.put, List.setIfInBounds_toArray, List.set_cons_zero, List.set_cons_succ]
          refine' ordS_take (i := 14) (oi := { dst := some 34, op := Op.move (Operand.tmp 5), type := 3, pos := _, after := #[{ on := 2, ground := Ground.guard }], guard := some (2, false) }) (v := _) rfl (by kernel_rfl) (by kernel_rfl) (by kernel_rfl) (by kernel_rfl) (fun _ _ _ h => h) (by assumption) (Or.inl ⟨by rfl, ?hy223⟩) (fun _ => rfl) ?rest223
          case hy223 => (intro w hSw; (try dsimp only at hSw); go_simp; try with_reducible rfl)
          try simp only [Act.put, List.setIfInBounds_toArray, List.set_cons_zero, List.set_cons_succ]
          refine' ordS_take (i := 15) (oi := { dst := some 35, op := Op.indexAddr 37 (Operand.tmp 33) (Operand.tmp 34), type := 0, pos := _, after := #[{ on := 13, ground := Ground.data }, { on := 14, ground := Ground.data }, { on := 2, ground := Ground.guard }], guard := some (2, false) }) (v := _) rfl (by kernel_rfl) (by kernel_rfl) (by kernel_rfl) (by kernel_rfl) (fun _ _ _ h => h) (by assumption) (Or.inl ⟨by rfl, ?hy224⟩) (fun _ => rfl) ?rest224
          case hy224 => (intro w hSw; (try dsimp only at hSw); go_simp; try with_reducible rfl)
          try simp only [Act.put, List.setIfInBounds_toArray, List.set_cons_zero, List.set_cons_succ]
          refine' ordS_take (i := 16) (oi := { dst := some 36, op := Op.load 28 (Operand.tmp 35), type := 28, pos := _, after := #[{ on := 15, ground := Ground.data }, { on := 2, ground := Ground.guard }], guard := some (2, false) }) (v := _) rfl (by kernel_rfl) (by kernel_rfl) (by kernel_rfl) (by kernel_rfl) (fun _ _ _ h => h) (by assumption) (Or.inl ⟨by rfl, ?hy225⟩) (fun _ => rfl) ?rest225
          case hy225 => (intro w hSw; (try dsimp only at hSw); go_simp; try with_reducible rfl)
          try simp only [Act.put, List.setIfInBounds_toArray, List.set_cons_zero, List.set_cons_succ]
          refine ordS_one (i := 17) (o := { dst := some 37, op := Op.call { callee := Callee.value (Operand.func 10), args := #[Operand.tmp 29, Operand.tmp 36], argTypes := #[28, 28] }, type := 4, pos := _, after := #[{ on := 9, ground := Ground.data }, { on := 16, ground := Ground.data }, { on := 2, ground := Ground.chain }, { on := 2, ground := Ground.guard }], guard := some (2, false) }) (by kernel_rfl) rfl (by rfl) (fun K hK => ?_)
          go_simp
          refine ⟨trivial, (callsIn_wide.2 (R17 _)).mono ?_⟩
          rintro e w9 ⟨rfl, hb⟩
          replace hB := bl_tr hB hb
          replace hS := HSL.out _ _ hb hS
          clear hb
          refine hK _ _ hS ?_
          clear hK K
          try simp only [Act.put, List.setIfInBounds_toArray, List.set_cons_zero, List.set_cons_succ]
          refine' ordS_take (i := 18) (oi := { dst := some 38, op := Op.pick (Operand.tmp 22) (Operand.const (Value.bool true)) (Operand.tmp 37), type := 4, pos := _, after := #[{ on := 2, ground := Ground.data }, { on := 17, ground := Ground.data }], guard := none }) (v := _) rfl (by kernel_rfl) (by kernel_rfl) (by kernel_rfl) (by kernel_rfl) (fun _ _ _ h => h) (by assumption) (Or.inl ⟨by rfl, ?hy226⟩) (fun _ => rfl) ?rest226
          case hy226 => (intro w hSw; (try dsimp only at hSw); go_simp; try with_reducible rfl)
          try simp only [Act.put, List.setIfInBounds_toArray, List.set_cons_zero, List.set_cons_succ]
          refine' ordS_take (i := 19) (oi := { dst := some 39, op := Op.move (Operand.tmp 38), type := 4, pos := _, after := #[{ on := 18, ground := Ground.data }, { on := 17, ground := Ground.chain }], guard := none }) (v := _) rfl (by kernel_rfl) (by kernel_rfl) (by kernel_rfl) (by kernel_rfl) (fun _ _ _ h => h) (by assumption) (Or.inl ⟨by rfl, ?hy227⟩) (fun _ => rfl) ?rest227
          case hy227 => (intro w hSw; (try dsimp only at hSw); go_simp; try with_reducible rfl)
          try simp only [Act.put, List.setIfInBounds_toArray, List.set_cons_zero, List.set_cons_succ]
          refine ordS_take (i := 20) (oi := { dst := some 40, op := Op.move (Operand.tmp 0), type := 35, pos := _, after := #[{ on := 19, ground := Ground.guard }], guard := some (19, false) }) (v := undef) rfl (by kernel_rfl) (by kernel_rfl) (by kernel_rfl) (by kernel_rfl) (fun _ _ _ h => h) (by assumption) (Or.inr ⟨by rfl, rfl⟩) (fun _ => rfl) ?_
          try simp only [Act.put, List.setIfInBounds_toArray, List.set_cons_zero, List.set_cons_succ]
          refine ordS_take (i := 21) (oi := { dst := some 41, op := Op.nilCheck (Operand.tmp 40), type := 0, pos := _, after := #[{ on := 20, ground := Ground.data }, { on := 19, ground := Ground.guard }], guard := some (19, false) }) (v := undef) rfl (by kernel_rfl) (by kernel_rfl) (by kernel_rfl) (by kernel_rfl) (fun _ _ _ h => h) (by assumption) (Or.inr ⟨by rfl, rfl⟩) (fun _ => rfl) ?_
          try simp only [Act.put, List.setIfInBounds_toArray, List.set_cons_zero, List.set_cons_succ]
          refine ordS_take (i := 22) (oi := { dst := some 42, op := Op.fieldAddr 39 (Operand.tmp 41) 1, type := 0, pos := _, after := #[{ on := 21, ground := Ground.data }, { on := 19, ground := Ground.guard }], guard := some (19, false) }) (v := undef) rfl (by kernel_rfl) (by kernel_rfl) (by kernel_rfl) (by kernel_rfl) (fun _ _ _ h => h) (by assumption) (Or.inr ⟨by rfl, rfl⟩) (fun _ => rfl) ?_
          try simp only [Act.put, List.setIfInBounds_toArray, List.set_cons_zero, List.set_cons_succ]
          refine ordS_take (i := 23) (oi := { dst := some 43, op := Op.load 37 (Operand.tmp 42), type := 37, pos := _, after := #[{ on := 22, ground := Ground.data }, { on := 19, ground := Ground.guard }], guard := some (19, false) }) (v := undef) rfl (by kernel_rfl) (by kernel_rfl) (by kernel_rfl) (by kernel_rfl) (fun _ _ _ h => h) (by assumption) (Or.inr ⟨by rfl, rfl⟩) (fun _ => rfl) ?_
          try simp only [Act.put, List.setIfInBounds_toArray, List.set_cons_zero, List.set_cons_succ]
          refine ordS_take (i := 24) (oi := { dst := some 44, op := Op.move (Operand.tmp 5), type := 3, pos := _, after := #[{ on := 19, ground := Ground.guard }], guard := some (19, false) }) (v := undef) rfl (by kernel_rfl) (by kernel_rfl) (by kernel_rfl) (by kernel_rfl) (fun _ _ _ h => h) (by assumption) (Or.inr ⟨by rfl, rfl⟩) (fun _ => rfl) ?_
          try simp only [Act.put, List.setIfInBounds_toArray, List.set_cons_zero, List.set_cons_succ]
          refine ordS_take (i := 25) (oi := { dst := some 45, op := Op.indexAddr 37 (Operand.tmp 43) (Operand.tmp 44), type := 0, pos := _, after := #[{ on := 23, ground := Ground.data }, { on := 24, ground := Ground.data }, { on := 19, ground := Ground.guard }], guard := some (19, false) }) (v := undef) rfl (by kernel_rfl) (by kernel_rfl) (by kernel_rfl) (by kernel_rfl) (fun _ _ _ h => h) (by assumption) (Or.inr ⟨by rfl, rfl⟩) (fun _ => rfl) ?_
          try simp only [Act.put, List.setIfInBounds_toArray, List.set_cons_zero, List.set_cons_succ]
          refine ordS_take (i := 26) (oi := { dst := some 46, op := Op.load 28 (Operand.tmp 45), type := 28, pos := _, after := #[{ on := 25, ground := Ground.data }, { on := 19, ground := Ground.guard }], guard := some (19, false) }) (v := undef) rfl (by kernel_rfl) (by kernel_rfl) (by kernel_rfl) (by kernel_rfl) (fun _ _ _ h => h) (by assumption) (Or.inr ⟨by rfl, rfl⟩) (fun _ => rfl) ?_
          try simp only [Act.put, List.setIfInBounds_toArray, List.set_cons_zero, List.set_cons_succ]
          refine ordS_take (i := 27) (oi := { dst := some 47, op := Op.move (Operand.tmp 0), type := 35, pos := _, after := #[{ on := 19, ground := Ground.guard }], guard := some (19, false) }) (v := undef) rfl (by kernel_rfl) (by kernel_rfl) (by kernel_rfl) (by kernel_rfl) (fun _ _ _ h => h) (by assumption) (Or.inr ⟨by rfl, rfl⟩) (fun _ => rfl) ?_
          try simp only [Act.put, List.setIfInBounds_toArray, List.set_cons_zero, List.set_cons_succ]
          refine ordS_take (i := 28) (oi := { dst := some 48, op := Op.nilCheck (Operand.tmp 47), type := 0, pos := _, after := #[{ on := 27, ground := Ground.data }, { on := 19, ground := Ground.guard }], guard := some (19, false) }) (v := undef) rfl (by kernel_rfl) (by kernel_rfl) (by kernel_rfl) (by kernel_rfl) (fun _ _ _ h => h) (by assumption) (Or.inr ⟨by rfl, rfl⟩) (fun _ => rfl) ?_
          try simp only [Act.put, List.setIfInBounds_toArray, List.set_cons_zero, List.set_cons_succ]
          refine ordS_take (i := 29) (oi := { dst := some 49, op := Op.fieldAddr 39 (Operand.tmp 48) 1, type := 0, pos := _, after := #[{ on := 28, ground := Ground.data }, { on := 19, ground := Ground.guard }], guard := some (19, false) }) (v := undef) rfl (by kernel_rfl) (by kernel_rfl) (by kernel_rfl) (by kernel_rfl) (fun _ _ _ h => h) (by assumption) (Or.inr ⟨by rfl, rfl⟩) (fun _ => rfl) ?_
          try simp only [Act.put, List.setIfInBounds_toArray, List.set_cons_zero, List.set_cons_succ]
          refine ordS_take (i := 30) (oi := { dst := some 50, op := Op.load 37 (Operand.tmp 49), type := 37, pos := _, after := #[{ on := 29, ground := Ground.data }, { on := 19, ground := Ground.guard }], guard := some (19, false) }) (v := undef) rfl (by kernel_rfl) (by kernel_rfl) (by kernel_rfl) (by kernel_rfl) (fun _ _ _ h => h) (by assumption) (Or.inr ⟨by rfl, rfl⟩) (fun _ => rfl) ?_
          try simp only [Act.put, List.setIfInBounds_toArray, List.set_cons_zero, List.set_cons_succ]
          refine ordS_take (i := 31) (oi := { dst := some 51, op := Op.move (Operand.tmp 6), type := 3, pos := _, after := #[{ on := 19, ground := Ground.guard }], guard := some (19, false) }) (v := undef) rfl (by kernel_rfl) (by kernel_rfl) (by kernel_rfl) (by kernel_rfl) (fun _ _ _ h => h) (by assumption) (Or.inr ⟨by rfl, rfl⟩) (fun _ => rfl) ?_
          try simp only [Act.put, List.setIfInBounds_toArray, List.set_cons_zero, List.set_cons_succ]
          refine ordS_take (i := 32) (oi := { dst := some 52, op := Op.indexAddr 37 (Operand.tmp 50) (Operand.tmp 51), type := 0, pos := _, after := #[{ on := 30, ground := Ground.data }, { on := 31, ground := Ground.data }, { on := 19, ground := Ground.guard }], guard := some (19, false) }) (v := undef) rfl (by kernel_rfl) (by kernel_rfl) (by kernel_rfl) (by kernel_rfl) (fun _ _ _ h => h) (by assumption) (Or.inr ⟨by rfl, rfl⟩) (fun _ => rfl) ?_
          try simp only [Act.put, List.setIfInBounds_toArray, List.set_cons_zero, List.set_cons_succ]
          refine ordS_take (i := 33) (oi := { dst := some 53, op := Op.load 28 (Operand.tmp 52), type := 28, pos := _, after := #[{ on := 32, ground := Ground.data }, { on := 19, ground := Ground.guard }], guard := some (19, false) }) (v := undef) rfl (by kernel_rfl) (by kernel_rfl) (by kernel_rfl) (by kernel_rfl) (fun _ _ _ h => h) (by assumption) (Or.inr ⟨by rfl, rfl⟩) (fun _ => rfl) ?_
          try simp only [Act.put, List.setIfInBounds_toArray, List.set_cons_zero, List.set_cons_succ]
          refine ordS_skip (i := 34) (o := { dst := some 54, op := Op.call { callee := Callee.value (Operand.func 10), args := #[Operand.tmp 46, Operand.tmp 53], argTypes := #[28, 28] }, type := 4, pos := _, after := #[{ on := 26, ground := Ground.data }, { on := 33, ground := Ground.data }, { on := 19, ground := Ground.chain }, { on := 19, ground := Ground.guard }], guard := some (19, false) }) (by kernel_rfl) rfl (by rfl) (fun _ => trivial) (by assumption) ?_
          try simp only [Act.put, List.setIfInBounds_toArray, List.set_cons_zero, List.set_cons_succ]
          refine ordS_take (i := 35) (oi := { dst := some 55, op := Op.unOp UnOp.not 4 (Operand.tmp 54), type := 4, pos := _, after := #[{ on := 34, ground := Ground.data }, { on := 19, ground := Ground.guard }], guard := some (19, false) }) (v := undef) rfl (by kernel_rfl) (by kernel_rfl) (by kernel_rfl) (by kernel_rfl) (fun _ _ _ h => h) (by assumption) (Or.inr ⟨by rfl, rfl⟩) (fun _ => rfl) ?_
          try simp only [Act.put, List.setIfInBounds_toArray, List.set_cons_zero, List.set_cons_succ]
          refine ordS_take (i := 36) (oi := { dst := some 56, op := Op.move (Operand.tmp 55), type := 4, pos := _, after := #[{ on := 35, ground := Ground.data }, { on := 34, ground := Ground.chain }, { on := 19, ground := Ground.guard }], guard := some (19, false) }) (v := undef) rfl (by kernel_rfl) (by kernel_rfl) (by kernel_rfl) (by kernel_rfl) (fun _ _ _ h => h) (by assumption) (Or.inr ⟨by rfl, rfl⟩) (fun _ => rfl) ?_
          try simp only [Act.put, List.setIfInBounds_toArray, List.set_cons_zero, List.set_cons_succ]
          refine ordS_take (i := 37) (oi := { dst := some 57, op := Op.move (Operand.tmp 0), type := 35, pos := _, after := #[{ on := 36, ground := Ground.guard }], guard := some (36, true) }) (v := undef) rfl (by kernel_rfl) (by kernel_rfl) (by kernel_rfl) (by kernel_rfl) (fun _ _ _ h => h) (by assumption) (Or.inr ⟨by rfl, rfl⟩) (fun _ => rfl) ?_
          try simp only [Act.put, List.setIfInBounds_toArray, List.set_cons_zero, List.set_cons_succ]
          refine ordS_take (i := 38) (oi := { dst := some 58, op := Op.nilCheck (Operand.tmp 57), type := 0, pos := _, after := #[{ on := 37, ground := Ground.data }, { on := 36, ground := Ground.guard }], guard := some (36, true) }) (v := undef) rfl (by kernel_rfl) (by kernel_rfl) (by kernel_rfl) (by kernel_rfl) (fun _ _ _ h => h) (by assumption) (Or.inr ⟨by rfl, rfl⟩) (fun _ => rfl) ?_
          try simp only [Act.put, List.setIfInBounds_toArray, List.set_cons_zero, List.set_cons_succ]
          refine ordS_take (i := 39) (oi := { dst := some 59, op := Op.fieldAddr 39 (Operand.tmp 58) 0, type := 0, pos := _, after := #[{ on := 38, ground := Ground.data }, { on := 36, ground := Ground.guard }], guard := some (36, true) }) (v := undef) rfl (by kernel_rfl) (by kernel_rfl) (by kernel_rfl) (by kernel_rfl) (fun _ _ _ h => h) (by assumption) (Or.inr ⟨by rfl, rfl⟩) (fun _ => rfl) ?_
          try simp only [Act.put, List.setIfInBounds_toArray, List.set_cons_zero, List.set_cons_succ]
          refine ordS_take (i := 40) (oi := { dst := some 60, op := Op.load 36 (Operand.tmp 59), type := 36, pos := _, after := #[{ on := 39, ground := Ground.data }, { on := 36, ground := Ground.guard }], guard := some (36, true) }) (v := undef) rfl (by kernel_rfl) (by kernel_rfl) (by kernel_rfl) (by kernel_rfl) (fun _ _ _ h => h) (by assumption) (Or.inr ⟨by rfl, rfl⟩) (fun _ => rfl) ?_
          try simp only [Act.put, List.setIfInBounds_toArray, List.set_cons_zero, List.set_cons_succ]
          refine ordS_take (i := 41) (oi := { dst := some 61, op := Op.move (Operand.tmp 6), type := 3, pos := _, after := #[{ on := 36, ground := Ground.guard }], guard := some (36, true) }) (v := undef) rfl (by kernel_rfl) (by kernel_rfl) (by kernel_rfl) (by kernel_rfl) (fun _ _ _ h => h) (by assumption) (Or.inr ⟨by rfl, rfl⟩) (fun _ => rfl) ?_
          try simp only [Act.put, List.setIfInBounds_toArray, List.set_cons_zero, List.set_cons_succ]
          refine ordS_take (i := 42) (oi := { dst := some 62, op := Op.indexAddr 36 (Operand.tmp 60) (Operand.tmp 61), type := 0, pos := _, after := #[{ on := 40, ground := Ground.data }, { on := 41, ground := Ground.data }, { on := 36, ground := Ground.guard }], guard := some (36, true) }) (v := undef) rfl (by kernel_rfl) (by kernel_rfl) (by kernel_rfl) (by kernel_rfl) (fun _ _ _ h => h) (by assumption) (Or.inr ⟨by rfl, rfl⟩) (fun _ => rfl) ?_
          try simp only [Act.put, List.setIfInBounds_toArray, List.set_cons_zero, List.set_cons_succ]
          refine ordS_take (i := 43) (oi := { dst := some 63, op := Op.load 3 (Operand.tmp 62), type := 3, pos := _, after := #[{ on := 42, ground := Ground.data }, { on := 36, ground := Ground.guard }], guard := some (36, true) }) (v := undef) rfl (by kernel_rfl) (by kernel_rfl) (by kernel_rfl) (by kernel_rfl) (fun _ _ _ h => h) (by assumption) (Or.inr ⟨by rfl, rfl⟩) (fun _ => rfl) ?_
          try simp only [Act.put, List.setIfInBounds_toArray, List.set_cons_zero, List.set_cons_succ]
          refine ordS_take (i := 44) (oi := { dst := some 64, op := Op.move (Operand.tmp 0), type := 35, pos := _, after := #[{ on := 36, ground := Ground.guard }], guard := some (36, true) }) (v := undef) rfl (by kernel_rfl) (by kernel_rfl) (by kernel_rfl) (by kernel_rfl) (fun _ _ _ h => h) (by assumption) (Or.inr ⟨by rfl, rfl⟩) (fun _ => rfl) ?_
          try simp only [Act.put, List.setIfInBounds_toArray, List.set_cons_zero, List.set_cons_succ]
          refine ordS_take (i := 45) (oi := { dst := some 65, op := Op.nilCheck (Operand.tmp 64), type := 0, pos := _, after := #[{ on := 44, ground := Ground.data }, { on := 36, ground := Ground.guard }], guard := some (36, true) }) (v := undef) rfl (by kernel_rfl) (by kernel_rfl) (by kernel_rfl) (by kernel_rfl) (fun _ _ _ h => h) (by assumption) (Or.inr ⟨by rfl, rfl⟩) (fun _ => rfl) ?_
          try simp only [Act.put, List.setIfInBounds_toArray, List.set_cons_zero, List.set_cons_succ]
          refine ordS_take (i := 46) (oi := { dst := some 66, op := Op.fieldAddr 39 (Operand.tmp 65) 0, type := 0, pos := _, after := #[{ on := 45, ground := Ground.data }, { on := 36, ground := Ground.guard }], guard := some (36, true) }) (v := undef) rfl (by kernel_rfl) (by kernel_rfl) (by kernel_rfl) (by kernel_rfl) (fun _ _ _ h => h) (by assumption) (Or.inr ⟨by rfl, rfl⟩) (fun _ => rfl) ?_
          try simp only [Act.put, List.setIfInBounds_toArray, List.set_cons_zero, List.set_cons_succ]
          refine ordS_take (i := 47) (oi := { dst := some 67, op := Op.load 36 (Operand.tmp 66), type := 36, pos := _, after := #[{ on := 46, ground := Ground.data }, { on := 36, ground := Ground.guard }], guard := some (36, true) }) (v := undef) rfl (by kernel_rfl) (by kernel_rfl) (by kernel_rfl) (by kernel_rfl) (fun _ _ _ h => h) (by assumption) (Or.inr ⟨by rfl, rfl⟩) (fun _ => rfl) ?_
          try simp only [Act.put, List.setIfInBounds_toArray, List.set_cons_zero, List.set_cons_succ]
          refine ordS_take (i := 48) (oi := { dst := some 68, op := Op.move (Operand.tmp 5), type := 3, pos := _, after := #[{ on := 36, ground := Ground.guard }], guard := some (36, true) }) (v := undef) rfl (by kernel_rfl) (by kernel_rfl) (by kernel_rfl) (by kernel_rfl) (fun _ _ _ h => h) (by assumption) (Or.inr ⟨by rfl, rfl⟩) (fun _ => rfl) ?_
          try simp only [Act.put, List.setIfInBounds_toArray, List.set_cons_zero, List.set_cons_succ]
          refine ordS_take (i := 49) (oi := { dst := some 69, op := Op.indexAddr 36 (Operand.tmp 67) (Operand.tmp 68), type := 0, pos := _, after := #[{ on := 47, ground := Ground.data }, { on := 48, ground := Ground.data }, { on := 36, ground := Ground.guard }], guard := some (36, true) }) (v := undef) rfl (by kernel_rfl) (by kernel_rfl) (by kernel_rfl) (by kernel_rfl) (fun _ _ _ h => h) (by assumption) (Or.inr ⟨by rfl, rfl⟩) (fun _ => rfl) ?_
          try simp only [Act.put, List.setIfInBounds_toArray, List.set_cons_zero, List.set_cons_succ]
          refine ordS_take (i := 50) (oi := { dst := some 70, op := Op.load 3 (Operand.tmp 69), type := 3, pos := _, after := #[{ on := 49, ground := Ground.data }, { on := 36, ground := Ground.guard }], guard := some (36, true) }) (v := undef) rfl (by kernel_rfl) (by kernel_rfl) (by kernel_rfl) (by kernel_rfl) (fun _ _ _ h => h) (by assumption) (Or.inr ⟨by rfl, rfl⟩) (fun _ => rfl) ?_
          try simp only [Act.put, List.setIfInBounds_toArray, List.set_cons_zero, List.set_cons_succ]
          refine ordS_take (i := 51) (oi := { dst := some 71, op := Op.binOp BinOp.lss 3 (Operand.tmp 63) (Operand.tmp 70) 3, type := 4, pos := _, after := #[{ on := 43, ground := Ground.data }, { on := 50, ground := Ground.data }, { on := 36, ground := Ground.guard }], guard := some (36, true) }) (v := undef) rfl (by kernel_rfl) (by kernel_rfl) (by kernel_rfl) (by kernel_rfl) (fun _ _ _ h => h) (by assumption) (Or.inr ⟨by rfl, rfl⟩) (fun _ => rfl) ?_
          try simp only [Act.put, List.setIfInBounds_toArray, List.set_cons_zero, List.set_cons_succ]
          refine ordS_take (i := 52) (oi := { dst := some 72, op := Op.pick (Operand.tmp 56) (Operand.tmp 71) (Operand.const (Value.bool false)), type := 4, pos := _, after := #[{ on := 36, ground := Ground.data }, { on := 51, ground := Ground.data }, { on := 19, ground := Ground.guard }], guard := some (19, false) }) (v := undef) rfl (by kernel_rfl) (by kernel_rfl) (by kernel_rfl) (by kernel_rfl) (fun _ _ _ h => h) (by assumption) (Or.inr ⟨by rfl, rfl⟩) (fun _ => rfl) ?_
          try simp only [Act.put, List.setIfInBounds_toArray, List.set_cons_zero, List.set_cons_succ]
          refine' ordS_take (i := 53) (oi := { dst := some 73, op := Op.pick (Operand.tmp 39) (Operand.const (Value.bool true)) (Operand.tmp 72), type := 4, pos := _, after := #[{ on := 19, ground := Ground.data }, { on := 52, ground := Ground.data }], guard := none }) (v := _) rfl (by kernel_rfl) (by kernel_rfl) (by kernel_rfl) (by kernel_rfl) (fun _ _ _ h => h) (by assumption) (Or.inl ⟨by rfl, ?hy260⟩) (fun _ => rfl) ?rest260
          case hy260 => (intro w hSw; (try dsimp only at hSw); go_simp; try with_reducible rfl)
          try simp only [Act.put, List.setIfInBounds_toArray, List.set_cons_zero, List.set_cons_succ]
          refine ordS_done (by kernel_rfl) ?_
          have HB := Lib.hid (bl_tr hAr hB)
          clear hB hS hAr
          go_wp2
          go_roundw
          case rel => exact ⟨k + 1, _, by omega, by go_num, by go_num, HX, HB.out⟩
          case measure => simp [intOf]; omega

    · have hge : (m.length : Int) ≤ (k : Int) := by omega
      obtain rfl : k = m.length := by omega
      clear hlt hk
      have h2 := HS.out.below hAr
      have hA2 := HA.out.trans (hAr.mono HS.out.base)
      rcases HK.out with ⟨hk0, rfl⟩ | ⟨j, rfl, hj, hbest⟩
      · have hm0 : m = [] := List.eq_nil_of_length_eq_zero hk0
        have HE : Hid (firstT m = ⟨0, 0, 0, 0, 0⟩ ∧ (!m.isEmpty) = false ∧ popM m = m) := Lib.hid (by rw [hm0]; exact ⟨rfl, rfl, rfl⟩)
        have hneg : decide ((-1 : Int) < 0) = true := by decide
        obtain ⟨rcc, hcB⟩ := Sep.cells (l1 := CellsO p #[.slice ru m.length capu, .slice rv m.length capv] 39 :: RowO 3 1 (.slice ru m.length capu) m.length (cellsI (m.map Th.id)) :: RowO 28 4 (.slice rv m.length capv) m.length (flatK m) :: l) (l2 := []) h2
        have f0 : wr.frozen? ⟨c, 0, none⟩ = false := by simp [World.frozen?, rcc]
        have f1 : wr.frozen? ⟨c, 1, none⟩ = false := by simp [World.frozen?, rcc]
        have f2 : wr.frozen? ⟨c, 2, none⟩ = false := by simp [World.frozen?, rcc]
        have f3 : wr.frozen? ⟨c, 3, none⟩ = false := by simp [World.frozen?, rcc]
        have g0 : wr.cell? ⟨c, 0, none⟩ = some (.int .u64 0) := by simp [World.cell?, rcc]
        have g1 : wr.cell? ⟨c, 1, none⟩ = some (.int .u64 0) := by simp [World.cell?, rcc]
        have g2 : wr.cell? ⟨c, 2, none⟩ = some (.int .i64 0) := by simp [World.cell?, rcc]
        have g3 : wr.cell? ⟨c, 3, none⟩ = some (.int .i64 0) := by simp [World.cell?, rcc]
        have h3 := Sep.set (l1 := CellsO p #[.slice ru m.length capu, .slice rv m.length capv] 39 :: RowO 3 1 (.slice ru m.length capu) m.length (cellsI (m.map Th.id)) :: RowO 28 4 (.slice rv m.length capv) m.length (flatK m) :: l) (l2 := []) h2 0 (.int .u64 0)
        replace h3 := Sep.set (l1 := CellsO p #[.slice ru m.length capu, .slice rv m.length capv] 39 :: RowO 3 1 (.slice ru m.length capu) m.length (cellsI (m.map Th.id)) :: RowO 28 4 (.slice rv m.length capv) m.length (flatK m) :: l) (l2 := []) h3 1 (.int .u64 0)
        replace h3 := Sep.set (l1 := CellsO p #[.slice ru m.length capu, .slice rv m.length capv] 39 :: RowO 3 1 (.slice ru m.length capu) m.length (cellsI (m.map Th.id)) :: RowO 28 4 (.slice rv m.length capv) m.length (flatK m) :: l) (l2 := []) h3 2 (.int .i64 0)
        replace h3 := Sep.set (l1 := CellsO p #[.slice ru m.length capu, .slice rv m.length capv] 39 :: RowO 3 1 (.slice ru m.length capu) m.length (cellsI (m.map Th.id)) :: RowO 28 4 (.slice rv m.length capv) m.length (flatK m) :: l) (l2 := []) h3 3 (.int .i64 0)
        obtain ⟨rc3, _⟩ := Sep.cells (l1 := CellsO p #[.slice ru m.length capu, .slice rv m.length capv] 39 :: RowO 3 1 (.slice ru m.length capu) m.length (cellsI (m.map Th.id)) :: RowO 28 4 (.slice rv m.length capv) m.length (flatK m) :: l) (l2 := []) h3
        have q0 := hgrown_set wr c 0 (.int .u64 0)
        have q1 := q0.trans (hgrown_set _ c 1 (.int .u64 0))
        have q2 := q1.trans (hgrown_set _ c 2 (.int .i64 0))
        have q3 := q2.trans (hgrown_set _ c 3 (.int .i64 0))
        have hA3 := hA2.grown q3 h2.base (fun j e => by cases e; exact hcB)
        have H3 := Lib.hid (Sep.drop (l1 := CellsO p #[.slice ru m.length capu, .slice rv m.length capv] 39 :: RowO 3 1 (.slice ru m.length capu) m.length (cellsI (m.map Th.id)) :: RowO 28 4 (.slice rv m.length capv) m.length (flatK m) :: l) (l2 := []) h3)
        have HA3 := Lib.hid hA3
        have RC3 := Lib.hid rc3
        clear HK hk0 hm0 hru hrv d1 c0 c1 hAr h2 h3 hA2 hA3 q0 q1 q2 q3 rcc rc3
        go_wp2
        generalize hW : World.setCell (World.setCell (World.setCell (World.setCell wr _ _) _ _) _ _) _ _ = W at *
        have rc3 := RC3.out
        have y0 : W.cell? ⟨c, 0, none⟩ = some (.int .u64 0) := by simp [World.cell?, rc3]
        have y1 : W.cell? ⟨c, 1, none⟩ = some (.int .u64 0) := by simp [World.cell?, rc3]
        have y2 : W.cell? ⟨c, 2, none⟩ = some (.int .i64 0) := by simp [World.cell?, rc3]
        have y3 : W.cell? ⟨c, 3, none⟩ = some (.int .i64 0) := by simp [World.cell?, rc3]
        refine bodyPost_ret (v := .tuple #[.int .i64 0, .agg #[.int .u64 0, .int .u64 0, .int .i64 0, .int .i64 0], .bool false]) (by simp [results, Try.results19, go_sem, y0, y1, y2, y3]) rfl ⟨by rw [HE.out.1, HE.out.2.1], ⟨.slice ru m.length capu, .slice rv m.length capv, ?_⟩, ?_⟩
        · have h4 := H3.out
          rw [List.append_nil] at h4
          rw [HE.out.2.2]
          exact h4
        · exact HA3.out
      · have hbne : m ≠ [] := by rintro rfl; simp at hj
        have hft : firstT m = atT m j := firstT_eq (atT_mem hj) (fun x hx => by obtain ⟨i, hi, rfl⟩ := mem_atT hx; exact hbest i hi)
        have HPOP := Lib.hid (pop_at HN.out hj hft)
        have HFT := Lib.hid hft
        have HE : Hid ((!m.isEmpty) = true) := Lib.hid (by cases m with | nil => exact absurd rfl hbne | cons => rfl)
        obtain ⟨gu, rfl⟩ : ∃ g, ru = some ⟨g, 0, none⟩ := by
          rcases hru with ⟨_, e, _⟩ | h
          · omega
          · exact h
        obtain ⟨gv, rfl⟩ : ∃ g, rv = some ⟨g, 0, none⟩ := by
          rcases hrv with ⟨_, e, _⟩ | h
          · omega
          · exact h
        have hneg : decide ((j : Int) < 0) = false := decide_eq_false (by omega)
        have hj0 : (0 : Int) ≤ (j : Int) := by omega
        have hjI : (j : Int) < (m.length : Int) := by omega
        obtain ⟨hi, _, _, _, hcu⟩ := Sep.row (l1 := [CellsO p #[.slice (some ⟨gu, 0, none⟩) m.length capu, .slice (some ⟨gv, 0, none⟩) m.length capv] 39]) h2
        obtain ⟨hv, _, _, _, hcv⟩ := Sep.row (l1 := [CellsO p #[.slice (some ⟨gu, 0, none⟩) m.length capu, .slice (some ⟨gv, 0, none⟩) m.length capv] 39, RowO 3 1 (.slice (some ⟨gu, 0, none⟩) m.length capu) m.length (cellsI (m.map Th.id))]) h2
        have x0 := hi _ _ (ids_at hj)
        obtain ⟨e0, e1, e2, e3⟩ := flatK_at m j hj
        have y0 := hv _ _ e0
        have y1 := hv _ _ e1
        have y2 := hv _ _ e2
        have y3 := hv _ _ e3
        have hjcu : (j : Int) ≤ (capu : Int) := by omega
        have hjcv : (j : Int) ≤ (capv : Int) := by omega
        have hlu : (m.length : Int) ≤ (capu : Int) := by omega
        have hlv : (m.length : Int) ≤ (capv : Int) := by omega
        have hj1 : (j : Int) + 1 ≤ (m.length : Int) := by omega
        have hj2 : (0 : Int) ≤ (j : Int) + 1 := by omega
        have hw1 : IntKind.i64.wrap ((j : Int) + 1) = (j : Int) + 1 := IntWalk.i64_in _ (by omega)
        clear hbest hft hbne hru hrv hi hv e0 e1 e2 e3 c0 c1 HK
        obtain ⟨t, ht⟩ : ∃ t, atT m j = t := ⟨_, rfl⟩
        rw [ht] at x0 y0 y1 y2 y3
        have HT := Lib.hid ht
        clear ht
        obtain ⟨d, hd⟩ : ∃ d, wr.heap.size = d := ⟨_, rfl⟩
        have h3 := h2.box #[.int .u64 t.F, .int .u64 t.H, .int .i64 t.Y, .int .i64 t.X] 28
        rw [hd] at h3
        replace h3 : Sep (wr.alloc (.cells #[.int .u64 t.F, .int .u64 t.H, .int .i64 t.Y, .int .i64 t.X] 28)) B (CellsO p #[.slice (some ⟨gu, 0, none⟩) m.length capu, .slice (some ⟨gv, 0, none⟩) m.length capv] 39 :: RowO 3 1 (.slice (some ⟨gu, 0, none⟩) m.length capu) m.length (cellsI (m.map Th.id)) :: RowO 28 4 (.slice (some ⟨gv, 0, none⟩) m.length capv) m.length (flatK m) :: (l ++ [CellsO c #[.int .u64 0, .int .u64 0, .int .i64 0, .int .i64 0] 28, CellsO d #[.int .u64 t.F, .int .u64 t.H, .int .i64 t.Y, .int .i64 t.X] 28])) := by simpa only [RefL, List.cons_append, List.append_assoc, List.nil_append] using h3
        have hA3 := hA2.trans ((bl_al (bl0 wr) (.cells #[.int .u64 t.F, .int .u64 t.H, .int .i64 t.Y, .int .i64 t.X] 28)).mono h2.base)
        go_upto_region 11 with fail
        generalize hw3 : wr.alloc (.cells #[.int .u64 t.F, .int .u64 t.H, .int .i64 t.Y, .int .i64 t.X] 28) = w3 at *
        clear hw3 hd h2 hA2 d0 d1 x0 y0 y1 y2 y3 hAr
        obtain ⟨rc, _⟩ := Sep.cells (l1 := []) h3
        have c0 : w3.cell? ⟨p, 0, none⟩ = some (.slice (some ⟨gu, 0, none⟩) m.length capu) := by simp [World.cell?, rc]
        have zc := blk_lt c0
        clear rc
        have h4 := h3.ints
        have hA4 := hA3.trans ((bl_al (bl0 w3) (.cells #[] 3)).mono h3.base)
        obtain ⟨hi, _, _, _, _⟩ := Sep.row (l1 := [CellsO p #[.slice (some ⟨gu, 0, none⟩) m.length capu, .slice (some ⟨gv, 0, none⟩) m.length capv] 39]) h4
        go_wp2_with (at_builtin; refine wpList_append_manyI rfl _ _ rfl (l1 := CellsO p #[.slice (some ⟨gu, 0, none⟩) m.length capu, .slice (some ⟨gv, 0, none⟩) m.length capv] 39 :: RowO 3 1 (.slice (some ⟨gu, 0, none⟩) m.length capu) m.length (cellsI (m.map Th.id)) :: RowO 28 4 (.slice (some ⟨gv, 0, none⟩) m.length capv) m.length (flatK m) :: (l ++ [CellsO c #[.int .u64 0, .int .u64 0, .int .i64 0, .int .i64 0] 28, CellsO d #[.int .u64 t.F, .int .u64 t.H, .int .i64 t.Y, .int .i64 t.X] 28])) (l2 := []) (n := 0) (xs := cellsI []) (B := B) (by simpa only [List.cons_append, List.append_assoc, List.nil_append] using h4) (by omega) (by rfl) ⟨gu, 0, none⟩ j capu ((cellsI (m.map Th.id)).take j) (by rfl) (by rw [List.length_take, cellsI_len, List.length_map]; omega) (by omega) (take_cells hi) (fun u hu => cellsI_one _ u (List.mem_of_mem_take hu)) ?_)
        intro v1 w4 h5 hb5
        have hA5 := hA4.trans hb5
        replace h5 : Sep w4 B (CellsO p #[.slice (some ⟨gu, 0, none⟩) m.length capu, .slice (some ⟨gv, 0, none⟩) m.length capv] 39 :: RowO 3 1 (.slice (some ⟨gu, 0, none⟩) m.length capu) m.length (cellsI (m.map Th.id)) :: RowO 28 4 (.slice (some ⟨gv, 0, none⟩) m.length capv) m.length (flatK m) :: (l ++ [CellsO c #[.int .u64 0, .int .u64 0, .int .i64 0, .int .i64 0] 28, CellsO d #[.int .u64 t.F, .int .u64 t.H, .int .i64 t.Y, .int .i64 t.X] 28, RowO 3 1 v1 j (cellsI ((m.map Th.id).take j))])) := by simpa only [Nat.zero_add, List.cons_append, List.append_assoc, List.nil_append, show cellsI [] = [] from rfl, cellsI_take] using h5
        clear hi h3 hA3 h4 hA4 hb5 c0 zc
        go_upto_region 12 with fail
        obtain ⟨rc, _⟩ := Sep.cells (l1 := []) h5
        have c1 : w4.cell? ⟨p, 1, none⟩ = some (.slice (some ⟨gv, 0, none⟩) m.length capv) := by simp [World.cell?, rc]
        have zc := blk_lt c1
        clear rc
        have h6 := h5.rkeys
        have hA6 := hA5.trans ((bl_al (bl0 w4) (.cells #[] 28)).mono h5.base)
        obtain ⟨hv, _, _, _, _⟩ := Sep.row (l1 := [CellsO p #[.slice (some ⟨gu, 0, none⟩) m.length capu, .slice (some ⟨gv, 0, none⟩) m.length capv] 39, RowO 3 1 (.slice (some ⟨gu, 0, none⟩) m.length capu) m.length (cellsI (m.map Th.id))]) h6
        go_wp2_with (at_builtin; refine wpList_append_manyR rfl _ _ rfl (l1 := (CellsO p #[.slice (some ⟨gu, 0, none⟩) m.length capu, .slice (some ⟨gv, 0, none⟩) m.length capv] 39 :: RowO 3 1 (.slice (some ⟨gu, 0, none⟩) m.length capu) m.length (cellsI (m.map Th.id)) :: RowO 28 4 (.slice (some ⟨gv, 0, none⟩) m.length capv) m.length (flatK m) :: (l ++ [CellsO c #[.int .u64 0, .int .u64 0, .int .i64 0, .int .i64 0] 28, CellsO d #[.int .u64 t.F, .int .u64 t.H, .int .i64 t.Y, .int .i64 t.X] 28, RowO 3 1 v1 j (cellsI ((m.map Th.id).take j))]))) (l2 := []) (n := 0) (xs := flatK []) (B := B) (by simpa only [List.cons_append, List.append_assoc, List.nil_append] using h6) (by omega) (by rfl) ⟨gv, 0, none⟩ j capv ((flatK m).take (j * 4)) (by rfl) (by rw [List.length_take, flatK_len]; omega) (by omega) (take_cells hv) (fun u hu => flatK_one _ u (List.mem_of_mem_take hu)) ?_)
        intro v2 w5 h7 hb7
        have hA7 := hA6.trans hb7
        replace h7 : Sep w5 B (CellsO p #[.slice (some ⟨gu, 0, none⟩) m.length capu, .slice (some ⟨gv, 0, none⟩) m.length capv] 39 :: RowO 3 1 (.slice (some ⟨gu, 0, none⟩) m.length capu) m.length (cellsI (m.map Th.id)) :: RowO 28 4 (.slice (some ⟨gv, 0, none⟩) m.length capv) m.length (flatK m) :: (l ++ [CellsO c #[.int .u64 0, .int .u64 0, .int .i64 0, .int .i64 0] 28, CellsO d #[.int .u64 t.F, .int .u64 t.H, .int .i64 t.Y, .int .i64 t.X] 28, RowO 3 1 v1 j (cellsI ((m.map Th.id).take j)), RowO 28 4 v2 j (flatK (m.take j))])) := by simpa only [Nat.zero_add, List.cons_append, List.append_assoc, List.nil_append, show flatK [] = [] from rfl, flatK_take'] using h7
        clear hv h5 hA5 h6 hA6 hb7 c1 zc
        go_upto_region 13 with fail
        obtain ⟨rc, _⟩ := Sep.cells (l1 := []) h7
        have c0 : w5.cell? ⟨p, 0, none⟩ = some (.slice (some ⟨gu, 0, none⟩) m.length capu) := by simp [World.cell?, rc]
        clear rc
        obtain ⟨hi, _, _, _, _⟩ := Sep.row (l1 := [CellsO p #[.slice (some ⟨gu, 0, none⟩) m.length capu, .slice (some ⟨gv, 0, none⟩) m.length capv] 39]) h7
        by_cases hlast : m.length = j + 1
        · generalize hml : m.length = n at *
          obtain rfl : n = j + 1 := hlast
          have HML := Lib.hid hml
          clear hml
          by_cases hcap : capu = j + 1
          · subst hcap
            go_wp2_with (at_builtin; refine wpList_append_manyI rfl _ _ rfl (l1 := CellsO p #[.slice (some ⟨gu, 0, none⟩) (j + 1) (j + 1), .slice (some ⟨gv, 0, none⟩) (j + 1) capv] 39 :: RowO 3 1 (.slice (some ⟨gu, 0, none⟩) (j + 1) (j + 1)) (j + 1) (cellsI (m.map Th.id)) :: RowO 28 4 (.slice (some ⟨gv, 0, none⟩) (j + 1) capv) (j + 1) (flatK m) :: (l ++ [CellsO c #[.int .u64 0, .int .u64 0, .int .i64 0, .int .i64 0] 28, CellsO d #[.int .u64 t.F, .int .u64 t.H, .int .i64 t.Y, .int .i64 t.X] 28])) (l2 := [RowO 28 4 v2 j (flatK (m.take j))]) (n := j) (xs := cellsI ((m.map Th.id).take j)) (B := B) (by simpa only [List.cons_append, List.append_assoc, List.nil_append] using h7) (by omega) (by rfl) ⟨gu, 0, none⟩ 0 0 [] (by rfl) (by rfl) (by omega) (fun i u hu => by simp at hu) (fun u hu => by simp at hu) ?_)
            intro v3 w6 h8 hb8
            replace h8 : Sep w6 B ((CellsO p #[.slice (some ⟨gu, 0, none⟩) (j + 1) (j + 1), .slice (some ⟨gv, 0, none⟩) (j + 1) capv] 39 :: RowO 3 1 (.slice (some ⟨gu, 0, none⟩) (j + 1) (j + 1)) (j + 1) (cellsI (m.map Th.id)) :: RowO 28 4 (.slice (some ⟨gv, 0, none⟩) (j + 1) capv) (j + 1) (flatK m) :: (l ++ [CellsO c #[.int .u64 0, .int .u64 0, .int .i64 0, .int .i64 0] 28, CellsO d #[.int .u64 t.F, .int .u64 t.H, .int .i64 t.Y, .int .i64 t.X] 28])) ++ RowO 3 1 v3 j (cellsI ((m.map Th.id).take j)) :: [RowO 28 4 v2 j (flatK (m.take j))]) := by simpa only [List.cons_append, List.append_assoc, List.nil_append, Nat.add_zero, List.append_nil] using h8
            have hA8 := hA7.trans hb8
            obtain ⟨r3, cap3, rfl, _⟩ := Sep.shape (l1 := CellsO p #[.slice (some ⟨gu, 0, none⟩) (j + 1) (j + 1), .slice (some ⟨gv, 0, none⟩) (j + 1) capv] 39 :: RowO 3 1 (.slice (some ⟨gu, 0, none⟩) (j + 1) (j + 1)) (j + 1) (cellsI (m.map Th.id)) :: RowO 28 4 (.slice (some ⟨gv, 0, none⟩) (j + 1) capv) (j + 1) (flatK m) :: (l ++ [CellsO c #[.int .u64 0, .int .u64 0, .int .i64 0, .int .i64 0] 28, CellsO d #[.int .u64 t.F, .int .u64 t.H, .int .i64 t.Y, .int .i64 t.X] 28])) (l2 := [RowO 28 4 v2 j (flatK (m.take j))]) (n := j) (xs := cellsI ((m.map Th.id).take j)) (by simpa only [List.cons_append, List.append_assoc, List.nil_append] using h8)
            replace h8 : Sep w6 B (CellsO p #[.slice (some ⟨gu, 0, none⟩) (j + 1) (j + 1), .slice (some ⟨gv, 0, none⟩) (j + 1) capv] 39 :: RowO 3 1 (.slice (some ⟨gu, 0, none⟩) (j + 1) (j + 1)) (j + 1) (cellsI (m.map Th.id)) :: RowO 28 4 (.slice (some ⟨gv, 0, none⟩) (j + 1) capv) (j + 1) (flatK m) :: (l ++ [CellsO c #[.int .u64 0, .int .u64 0, .int .i64 0, .int .i64 0] 28, CellsO d #[.int .u64 t.F, .int .u64 t.H, .int .i64 t.Y, .int .i64 t.X] 28, RowO 3 1 (.slice r3 j cap3) j (cellsI ((m.map Th.id).take j)), RowO 28 4 v2 j (flatK (m.take j))])) := by simpa only [List.cons_append, List.append_assoc, List.nil_append, cellsI_drop, cellsI_app] using h8
            clear h7 hA7 hb8 hi c0
            obtain ⟨rc, _⟩ := Sep.cells (l1 := []) h8
            have f0 : w6.frozen? ⟨p, 0, none⟩ = false := by simp [World.frozen?, rc]
            have c0 : w6.cell? ⟨p, 0, none⟩ = some (.slice (some ⟨gu, 0, none⟩) (j + 1) (j + 1)) := by simp [World.cell?, rc]
            have h9 := Sep.set (l1 := []) h8 0 (.slice r3 j cap3)
            rw [show (#[.slice (some ⟨gu, 0, none⟩) (j + 1) (j + 1), .slice (some ⟨gv, 0, none⟩) (j + 1) capv] : Array Value).setIfInBounds 0 (.slice r3 j cap3) = #[.slice r3 j cap3, .slice (some ⟨gv, 0, none⟩) (j + 1) capv] from rfl, List.nil_append] at h9
            have hA9 := hA8.grown (hgrown_set w6 p 0 (.slice r3 j cap3)) h8.base (fun j e => by cases e; exact hBp)
            clear rc
            go_upto_region 14 with fail
            generalize hw7 : w6.setCell ⟨p, 0, none⟩ (.slice r3 j cap3) = w7 at *
            clear hw7 f0 c0 h8 hA8
            obtain ⟨rc, _⟩ := Sep.cells (l1 := []) h9
            have c1 : w7.cell? ⟨p, 1, none⟩ = some (.slice (some ⟨gv, 0, none⟩) (j + 1) capv) := by simp [World.cell?, rc]
            clear rc
            obtain ⟨hv, _, _, _, _⟩ := Sep.row (l1 := [CellsO p #[.slice r3 j cap3, .slice (some ⟨gv, 0, none⟩) (j + 1) capv] 39, RowO 3 1 (.slice (some ⟨gu, 0, none⟩) (j + 1) (j + 1)) (j + 1) (cellsI (m.map Th.id))]) h9
            by_cases hcap2 : capv = j + 1
            · subst hcap2
              go_wp2_with (at_builtin; refine wpList_append_manyR rfl _ _ rfl (l1 := CellsO p #[.slice r3 j cap3, .slice (some ⟨gv, 0, none⟩) (j + 1) (j + 1)] 39 :: RowO 3 1 (.slice (some ⟨gu, 0, none⟩) (j + 1) (j + 1)) (j + 1) (cellsI (m.map Th.id)) :: RowO 28 4 (.slice (some ⟨gv, 0, none⟩) (j + 1) (j + 1)) (j + 1) (flatK m) :: (l ++ [CellsO c #[.int .u64 0, .int .u64 0, .int .i64 0, .int .i64 0] 28, CellsO d #[.int .u64 t.F, .int .u64 t.H, .int .i64 t.Y, .int .i64 t.X] 28, RowO 3 1 (.slice r3 j cap3) j (cellsI ((m.map Th.id).take j))])) (l2 := []) (n := j) (xs := flatK (m.take j)) (B := B) (by simpa only [List.cons_append, List.append_assoc, List.nil_append] using h9) (by omega) (by rfl) ⟨gv, 0, none⟩ 0 0 [] (by rfl) (by rfl) (by omega) (fun i u hu => by simp at hu) (fun u hu => by simp at hu) ?_)
              intro v4 w8 h10 hb10
              replace h10 : Sep w8 B ((CellsO p #[.slice r3 j cap3, .slice (some ⟨gv, 0, none⟩) (j + 1) (j + 1)] 39 :: RowO 3 1 (.slice (some ⟨gu, 0, none⟩) (j + 1) (j + 1)) (j + 1) (cellsI (m.map Th.id)) :: RowO 28 4 (.slice (some ⟨gv, 0, none⟩) (j + 1) (j + 1)) (j + 1) (flatK m) :: (l ++ [CellsO c #[.int .u64 0, .int .u64 0, .int .i64 0, .int .i64 0] 28, CellsO d #[.int .u64 t.F, .int .u64 t.H, .int .i64 t.Y, .int .i64 t.X] 28, RowO 3 1 (.slice r3 j cap3) j (cellsI ((m.map Th.id).take j))])) ++ RowO 28 4 v4 j (flatK (m.take j)) :: []) := by simpa only [List.cons_append, List.append_assoc, List.nil_append, Nat.add_zero, List.append_nil] using h10
              have hA10 := hA9.trans hb10
              obtain ⟨r4, cap4, rfl, _⟩ := Sep.shape (l1 := CellsO p #[.slice r3 j cap3, .slice (some ⟨gv, 0, none⟩) (j + 1) (j + 1)] 39 :: RowO 3 1 (.slice (some ⟨gu, 0, none⟩) (j + 1) (j + 1)) (j + 1) (cellsI (m.map Th.id)) :: RowO 28 4 (.slice (some ⟨gv, 0, none⟩) (j + 1) (j + 1)) (j + 1) (flatK m) :: (l ++ [CellsO c #[.int .u64 0, .int .u64 0, .int .i64 0, .int .i64 0] 28, CellsO d #[.int .u64 t.F, .int .u64 t.H, .int .i64 t.Y, .int .i64 t.X] 28, RowO 3 1 (.slice r3 j cap3) j (cellsI ((m.map Th.id).take j))])) (l2 := []) (n := j) (xs := flatK (m.take j)) (by simpa only [List.cons_append, List.append_assoc, List.nil_append] using h10)
              replace h10 : Sep w8 B (CellsO p #[.slice r3 j cap3, .slice (some ⟨gv, 0, none⟩) (j + 1) (j + 1)] 39 :: RowO 3 1 (.slice (some ⟨gu, 0, none⟩) (j + 1) (j + 1)) (j + 1) (cellsI (m.map Th.id)) :: RowO 28 4 (.slice (some ⟨gv, 0, none⟩) (j + 1) (j + 1)) (j + 1) (flatK m) :: (l ++ [CellsO c #[.int .u64 0, .int .u64 0, .int .i64 0, .int .i64 0] 28, CellsO d #[.int .u64 t.F, .int .u64 t.H, .int .i64 t.Y, .int .i64 t.X] 28, RowO 3 1 (.slice r3 j cap3) j (cellsI ((m.map Th.id).take j)), RowO 28 4 (.slice r4 j cap4) j (flatK (m.take j))])) := by simpa only [List.cons_append, List.append_assoc, List.nil_append, flatK_drop', flatK_app] using h10
              clear h9 hA9 hb10 hv c1
              obtain ⟨rc, _⟩ := Sep.cells (l1 := []) h10
              have f1 : w8.frozen? ⟨p, 1, none⟩ = false := by simp [World.frozen?, rc]
              have c1 : w8.cell? ⟨p, 1, none⟩ = some (.slice (some ⟨gv, 0, none⟩) (j + 1) (j + 1)) := by simp [World.cell?, rc]
              have h11 := Sep.set (l1 := []) h10 1 (.slice r4 j cap4)
              rw [show (#[.slice r3 j cap3, .slice (some ⟨gv, 0, none⟩) (j + 1) (j + 1)] : Array Value).setIfInBounds 1 (.slice r4 j cap4) = #[.slice r3 j cap3, .slice r4 j cap4] from rfl, List.nil_append] at h11
              have hA11 := hA10.grown (hgrown_set w8 p 1 (.slice r4 j cap4)) h10.base (fun j e => by cases e; exact hBp)
              clear rc
              go_upto_region 15 with fail
              generalize hw9 : w8.setCell ⟨p, 1, none⟩ (.slice r4 j cap4) = w9 at *
              clear hw9 f1 c1 h10 hA10
              have hD := bl_dr (bl0 w9)
              have h12 := h11.below hD
              have hA12 := hA11.trans (hD.mono h11.base)
              obtain ⟨W8, hW8⟩ : ∃ W8, w9.drew = W8 := ⟨_, rfl⟩
              rw [hW8] at h12 hA12
              clear h11 hA11 hD
              obtain ⟨rd, _⟩ := Sep.cells (l1 := CellsO p #[.slice r3 j cap3, .slice r4 j cap4] 39 :: RowO 3 1 (.slice (some ⟨gu, 0, none⟩) (j + 1) (j + 1)) (j + 1) (cellsI (m.map Th.id)) :: RowO 28 4 (.slice (some ⟨gv, 0, none⟩) (j + 1) (j + 1)) (j + 1) (flatK m) :: (l ++ [CellsO c #[.int .u64 0, .int .u64 0, .int .i64 0, .int .i64 0] 28])) (l2 := [RowO 3 1 (.slice r3 j cap3) j (cellsI ((m.map Th.id).take j)), RowO 28 4 (.slice r4 j cap4) j (flatK (m.take j))]) (by simpa only [List.cons_append, List.append_assoc, List.nil_append] using h12)
              obtain ⟨rcc, hcB⟩ := Sep.cells (l1 := CellsO p #[.slice r3 j cap3, .slice r4 j cap4] 39 :: RowO 3 1 (.slice (some ⟨gu, 0, none⟩) (j + 1) (j + 1)) (j + 1) (cellsI (m.map Th.id)) :: RowO 28 4 (.slice (some ⟨gv, 0, none⟩) (j + 1) (j + 1)) (j + 1) (flatK m) :: l) (l2 := [CellsO d #[.int .u64 t.F, .int .u64 t.H, .int .i64 t.Y, .int .i64 t.X] 28, RowO 3 1 (.slice r3 j cap3) j (cellsI ((m.map Th.id).take j)), RowO 28 4 (.slice r4 j cap4) j (flatK (m.take j))]) h12
              have t0 : W8.cell? ⟨d, 0, none⟩ = some (.int .u64 t.F) := by simp [World.cell?, rd]
              have t1 : W8.cell? ⟨d, 1, none⟩ = some (.int .u64 t.H) := by simp [World.cell?, rd]
              have t2 : W8.cell? ⟨d, 2, none⟩ = some (.int .i64 t.Y) := by simp [World.cell?, rd]
              have t3 : W8.cell? ⟨d, 3, none⟩ = some (.int .i64 t.X) := by simp [World.cell?, rd]
              have q0 : W8.cell? ⟨c, 0, none⟩ = some (.int .u64 0) := by simp [World.cell?, rcc]
              have q1 : W8.cell? ⟨c, 1, none⟩ = some (.int .u64 0) := by simp [World.cell?, rcc]
              have q2 : W8.cell? ⟨c, 2, none⟩ = some (.int .i64 0) := by simp [World.cell?, rcc]
              have q3 : W8.cell? ⟨c, 3, none⟩ = some (.int .i64 0) := by simp [World.cell?, rcc]
              have f0 : W8.frozen? ⟨c, 0, none⟩ = false := by simp [World.frozen?, rcc]
              have f1 : W8.frozen? ⟨c, 1, none⟩ = false := by simp [World.frozen?, rcc]
              have f2 : W8.frozen? ⟨c, 2, none⟩ = false := by simp [World.frozen?, rcc]
              have f3 : W8.frozen? ⟨c, 3, none⟩ = false := by simp [World.frozen?, rcc]
              have h13 := Sep.set (l1 := CellsO p #[.slice r3 j cap3, .slice r4 j cap4] 39 :: RowO 3 1 (.slice (some ⟨gu, 0, none⟩) (j + 1) (j + 1)) (j + 1) (cellsI (m.map Th.id)) :: RowO 28 4 (.slice (some ⟨gv, 0, none⟩) (j + 1) (j + 1)) (j + 1) (flatK m) :: l) (l2 := [CellsO d #[.int .u64 t.F, .int .u64 t.H, .int .i64 t.Y, .int .i64 t.X] 28, RowO 3 1 (.slice r3 j cap3) j (cellsI ((m.map Th.id).take j)), RowO 28 4 (.slice r4 j cap4) j (flatK (m.take j))]) h12 0 (.int .u64 t.F)
              replace h13 := Sep.set (l1 := CellsO p #[.slice r3 j cap3, .slice r4 j cap4] 39 :: RowO 3 1 (.slice (some ⟨gu, 0, none⟩) (j + 1) (j + 1)) (j + 1) (cellsI (m.map Th.id)) :: RowO 28 4 (.slice (some ⟨gv, 0, none⟩) (j + 1) (j + 1)) (j + 1) (flatK m) :: l) (l2 := [CellsO d #[.int .u64 t.F, .int .u64 t.H, .int .i64 t.Y, .int .i64 t.X] 28, RowO 3 1 (.slice r3 j cap3) j (cellsI ((m.map Th.id).take j)), RowO 28 4 (.slice r4 j cap4) j (flatK (m.take j))]) h13 1 (.int .u64 t.H)
              replace h13 := Sep.set (l1 := CellsO p #[.slice r3 j cap3, .slice r4 j cap4] 39 :: RowO 3 1 (.slice (some ⟨gu, 0, none⟩) (j + 1) (j + 1)) (j + 1) (cellsI (m.map Th.id)) :: RowO 28 4 (.slice (some ⟨gv, 0, none⟩) (j + 1) (j + 1)) (j + 1) (flatK m) :: l) (l2 := [CellsO d #[.int .u64 t.F, .int .u64 t.H, .int .i64 t.Y, .int .i64 t.X] 28, RowO 3 1 (.slice r3 j cap3) j (cellsI ((m.map Th.id).take j)), RowO 28 4 (.slice r4 j cap4) j (flatK (m.take j))]) h13 2 (.int .i64 t.Y)
              replace h13 := Sep.set (l1 := CellsO p #[.slice r3 j cap3, .slice r4 j cap4] 39 :: RowO 3 1 (.slice (some ⟨gu, 0, none⟩) (j + 1) (j + 1)) (j + 1) (cellsI (m.map Th.id)) :: RowO 28 4 (.slice (some ⟨gv, 0, none⟩) (j + 1) (j + 1)) (j + 1) (flatK m) :: l) (l2 := [CellsO d #[.int .u64 t.F, .int .u64 t.H, .int .i64 t.Y, .int .i64 t.X] 28, RowO 3 1 (.slice r3 j cap3) j (cellsI ((m.map Th.id).take j)), RowO 28 4 (.slice r4 j cap4) j (flatK (m.take j))]) h13 3 (.int .i64 t.X)
              have p0 := hgrown_set W8 c 0 (.int .u64 t.F)
              have p1 := p0.trans (hgrown_set _ c 1 (.int .u64 t.H))
              have p2 := p1.trans (hgrown_set _ c 2 (.int .i64 t.Y))
              have p3 := p2.trans (hgrown_set _ c 3 (.int .i64 t.X))
              have hA13 := hA12.grown p3 h12.base (fun j e => by cases e; exact hcB)
              clear p0 p1 p2 p3 h12 hA12 rd rcc
              refine (wpIn_wide (n := 11)).1 ?_
              refine ordS_begin (S := (fun w' : World => w'.cell? ⟨d, 0, none⟩ = some (.int .u64 t.F) ∧ w'.cell? ⟨d, 1, none⟩ = some (.int .u64 t.H) ∧ w'.cell? ⟨d, 2, none⟩ = some (.int .i64 t.Y) ∧ w'.cell? ⟨d, 3, none⟩ = some (.int .i64 t.X))) (by kernel_rfl) (by rw [hW8]; exact ⟨t0, t1, t2, t3⟩) (fun hH => ?_)
              first
                | (refine' ordS_take (i := 0) (oi := { dst := some 132, op := Op.move (Operand.tmp 7), type := 3, pos := _, after := #[], guard := none }) (v := _) rfl (by kernel_rfl) (by kernel_rfl) (by kernel_rfl) (by kernel_rfl) (fun _ _ _ h => h) (by assumption) (Or.inl ⟨by rfl, ?hy261⟩) (fun _ => rfl) ?rest261
                   case hy261 => (intro w hSw; (try dsimp only at hSw); go_simp; try with_reducible rfl))
                | (refine ordS_take (i := 0) (oi := { dst := some 132, op := Op.move (Operand.tmp 7), type := 3, pos := _, after := #[], guard := none }) (v := undef) rfl (by kernel_rfl) (by kernel_rfl) (by kernel_rfl) (by kernel_rfl) (fun _ _ _ h => h) (by assumption) (Or.inr ⟨by rfl, rfl⟩) (fun _ => rfl) ?_)
              try simp only [Act.put, List.setIfInBounds_toArray, List.set_cons_zero, List.set_cons_succ]
              first
                | (refine' ordS_take (i := 1) (oi := { dst := some 133, op := Op.load 28 (Operand.tmp 8), type := 28, pos := _, after := #[{ on := 2, ground := Ground.gcOnly Departure.lateStores }], guard := none }) (v := _) rfl (by kernel_rfl) (by kernel_rfl) (by kernel_rfl) (by kernel_rfl) (fun _ _ _ h => h) (by assumption) (Or.inl ⟨by rfl, ?hy262⟩) (fun _ => rfl) ?rest262
                   case hy262 => (intro w hSw; (try dsimp only at hSw); go_simp; try with_reducible rfl))
                | (refine ordS_take (i := 1) (oi := { dst := some 133, op := Op.load 28 (Operand.tmp 8), type := 28, pos := _, after := #[{ on := 2, ground := Ground.gcOnly Departure.lateStores }], guard := none }) (v := undef) rfl (by kernel_rfl) (by kernel_rfl) (by kernel_rfl) (by kernel_rfl) (fun _ _ _ h => h) (by assumption) (Or.inr ⟨by rfl, rfl⟩) (fun _ => rfl) ?_)
              try simp only [Act.put, List.setIfInBounds_toArray, List.set_cons_zero, List.set_cons_succ]
              first
                | (refine' ordS_take (i := 2) (oi := { dst := some 2, op := Op.assign (Operand.tmp 132), type := 3, pos := _, after := #[{ on := 0, ground := Ground.data }, { on := 0, ground := Ground.phase }, { on := 1, ground := Ground.textOnly Departure.lateStores }], guard := none }) (v := _) rfl (by kernel_rfl) (by kernel_rfl) (by kernel_rfl) (by kernel_rfl) (fun _ _ _ h => h) (by assumption) (Or.inl ⟨by rfl, ?hy263⟩) (fun _ => rfl) ?rest263
                   case hy263 => (intro w hSw; (try dsimp only at hSw); go_simp; try with_reducible rfl))
                | (refine ordS_take (i := 2) (oi := { dst := some 2, op := Op.assign (Operand.tmp 132), type := 3, pos := _, after := #[{ on := 0, ground := Ground.data }, { on := 0, ground := Ground.phase }, { on := 1, ground := Ground.textOnly Departure.lateStores }], guard := none }) (v := undef) rfl (by kernel_rfl) (by kernel_rfl) (by kernel_rfl) (by kernel_rfl) (fun _ _ _ h => h) (by assumption) (Or.inr ⟨by rfl, rfl⟩) (fun _ => rfl) ?_)
              try simp only [Act.put, List.setIfInBounds_toArray, List.set_cons_zero, List.set_cons_succ]
              rw [hW8] at hH ⊢
              clear hW8
              refine ordS_one (i := 3) (o := { dst := none, op := Op.store 28 (Operand.tmp 3) (Operand.tmp 133), type := 0, pos := _, after := #[{ on := 1, ground := Ground.data }, { on := 2, ground := Ground.chain }, { on := 0, ground := Ground.phase }, { on := 1, ground := Ground.phase }, { on := 2, ground := Ground.phase }], guard := none }) (by kernel_rfl) rfl (by rfl) (fun K hK => ?_)
              go_simp
              obtain ⟨W9, hW9⟩ : ∃ W9, ((((W8.setCell ⟨c, 0, none⟩ (.int .u64 t.F)).setCell ⟨c, 1, none⟩ (.int .u64 t.H)).setCell ⟨c, 2, none⟩ (.int .i64 t.Y)).setCell ⟨c, 3, none⟩ (.int .i64 t.X)) = W9 := ⟨_, rfl⟩
              rw [hW9] at h13 hA13 ⊢
              replace h13 : Sep W9 B (CellsO p #[.slice r3 j cap3, .slice r4 j cap4] 39 :: RowO 3 1 (.slice (some ⟨gu, 0, none⟩) (j + 1) (j + 1)) (j + 1) (cellsI (m.map Th.id)) :: RowO 28 4 (.slice (some ⟨gv, 0, none⟩) (j + 1) (j + 1)) (j + 1) (flatK m) :: l ++ CellsO c #[.int .u64 t.F, .int .u64 t.H, .int .i64 t.Y, .int .i64 t.X] 28 :: [CellsO d #[.int .u64 t.F, .int .u64 t.H, .int .i64 t.Y, .int .i64 t.X] 28, RowO 3 1 (.slice r3 j cap3) j (cellsI ((m.map Th.id).take j)), RowO 28 4 (.slice r4 j cap4) j (flatK (m.take j))]) := h13
              obtain ⟨rd, _⟩ := Sep.cells (l1 := CellsO p #[.slice r3 j cap3, .slice r4 j cap4] 39 :: RowO 3 1 (.slice (some ⟨gu, 0, none⟩) (j + 1) (j + 1)) (j + 1) (cellsI (m.map Th.id)) :: RowO 28 4 (.slice (some ⟨gv, 0, none⟩) (j + 1) (j + 1)) (j + 1) (flatK m) :: (l ++ [CellsO c #[.int .u64 t.F, .int .u64 t.H, .int .i64 t.Y, .int .i64 t.X] 28])) (l2 := [RowO 3 1 (.slice r3 j cap3) j (cellsI ((m.map Th.id).take j)), RowO 28 4 (.slice r4 j cap4) j (flatK (m.take j))]) (by simpa only [List.cons_append, List.append_assoc, List.nil_append] using h13)
              obtain ⟨rcc, _⟩ := Sep.cells (l1 := CellsO p #[.slice r3 j cap3, .slice r4 j cap4] 39 :: RowO 3 1 (.slice (some ⟨gu, 0, none⟩) (j + 1) (j + 1)) (j + 1) (cellsI (m.map Th.id)) :: RowO 28 4 (.slice (some ⟨gv, 0, none⟩) (j + 1) (j + 1)) (j + 1) (flatK m) :: l) (l2 := [CellsO d #[.int .u64 t.F, .int .u64 t.H, .int .i64 t.Y, .int .i64 t.X] 28, RowO 3 1 (.slice r3 j cap3) j (cellsI ((m.map Th.id).take j)), RowO 28 4 (.slice r4 j cap4) j (flatK (m.take j))]) h13
              have hS9 : (fun w' : World => w'.cell? ⟨d, 0, none⟩ = some (.int .u64 t.F) ∧ w'.cell? ⟨d, 1, none⟩ = some (.int .u64 t.H) ∧ w'.cell? ⟨d, 2, none⟩ = some (.int .i64 t.Y) ∧ w'.cell? ⟨d, 3, none⟩ = some (.int .i64 t.X)) W9 := ⟨by simp [World.cell?, rd], by simp [World.cell?, rd], by simp [World.cell?, rd], by simp [World.cell?, rd]⟩
              have y0 : W9.cell? ⟨c, 0, none⟩ = some (.int .u64 t.F) := by simp [World.cell?, rcc]
              have y1 : W9.cell? ⟨c, 1, none⟩ = some (.int .u64 t.H) := by simp [World.cell?, rcc]
              have y2 : W9.cell? ⟨c, 2, none⟩ = some (.int .i64 t.Y) := by simp [World.cell?, rcc]
              have y3 : W9.cell? ⟨c, 3, none⟩ = some (.int .i64 t.X) := by simp [World.cell?, rcc]
              have HEND : Hid (Sep W9 B (RefL p (.slice r3 j cap3) (.slice r4 j cap4) (popM m) l)) := Lib.hid (by
                have g1 := Sep.drop (l1 := CellsO p #[.slice r3 j cap3, .slice r4 j cap4] 39 :: RowO 3 1 (.slice (some ⟨gu, 0, none⟩) (j + 1) (j + 1)) (j + 1) (cellsI (m.map Th.id)) :: RowO 28 4 (.slice (some ⟨gv, 0, none⟩) (j + 1) (j + 1)) (j + 1) (flatK m) :: l) (l2 := [CellsO d #[.int .u64 t.F, .int .u64 t.H, .int .i64 t.Y, .int .i64 t.X] 28, RowO 3 1 (.slice r3 j cap3) j (cellsI ((m.map Th.id).take j)), RowO 28 4 (.slice r4 j cap4) j (flatK (m.take j))]) h13
                have g2 := Sep.drop (l1 := CellsO p #[.slice r3 j cap3, .slice r4 j cap4] 39 :: RowO 3 1 (.slice (some ⟨gu, 0, none⟩) (j + 1) (j + 1)) (j + 1) (cellsI (m.map Th.id)) :: RowO 28 4 (.slice (some ⟨gv, 0, none⟩) (j + 1) (j + 1)) (j + 1) (flatK m) :: l) (l2 := [RowO 3 1 (.slice r3 j cap3) j (cellsI ((m.map Th.id).take j)), RowO 28 4 (.slice r4 j cap4) j (flatK (m.take j))]) g1
                have g3 := Sep.drop (l1 := [CellsO p #[.slice r3 j cap3, .slice r4 j cap4] 39]) (l2 := RowO 28 4 (.slice (some ⟨gv, 0, none⟩) (j + 1) (j + 1)) (j + 1) (flatK m) :: (l ++ [RowO 3 1 (.slice r3 j cap3) j (cellsI ((m.map Th.id).take j)), RowO 28 4 (.slice r4 j cap4) j (flatK (m.take j))])) g2
                have g4 := Sep.drop (l1 := [CellsO p #[.slice r3 j cap3, .slice r4 j cap4] 39]) (l2 := l ++ [RowO 3 1 (.slice r3 j cap3) j (cellsI ((m.map Th.id).take j)), RowO 28 4 (.slice r4 j cap4) j (flatK (m.take j))]) g3
                have g5 := g4.perm (l' := CellsO p #[.slice r3 j cap3, .slice r4 j cap4] 39 :: RowO 3 1 (.slice r3 j cap3) j (cellsI ((m.map Th.id).take j)) :: RowO 28 4 (.slice r4 j cap4) j (flatK (m.take j)) :: l) (List.Perm.cons _ (List.perm_append_comm (l₁ := l) (l₂ := [RowO 3 1 (.slice r3 j cap3) j (cellsI ((m.map Th.id).take j)), RowO 28 4 (.slice r4 j cap4) j (flatK (m.take j))])))
                have hd : m.drop (j + 1) = [] := List.drop_eq_nil_of_le (by rw [HML.out]; exact Nat.le_refl _)
                have hN : j = (popM m).length := by rw [HPOP.out, hd, List.append_nil, List.length_take, HML.out]; omega
                unfold RefL
                rw [← hN, HPOP.out, hd, List.append_nil, List.map_take]
                exact g5)
              have HAE := Lib.hid hA13
              clear hW9 q0 q1 q2 q3 f0 f1 f2 f3 t0 t1 t2 t3 rd rcc h13 hA13
              refine hK _ _ hS9 ?_
              clear hK K hH
              try simp only [Act.put, List.setIfInBounds_toArray, List.set_cons_zero, List.set_cons_succ]
              refine ordS_one (i := 4) (o := { dst := some 4, op := Op.assign (Operand.const (Value.bool true)), type := 4, pos := _, after := #[{ on := 3, ground := Ground.chain }, { on := 0, ground := Ground.phase }, { on := 1, ground := Ground.phase }, { on := 2, ground := Ground.phase }, { on := 3, ground := Ground.phase }], guard := none }) (by kernel_rfl) rfl (by rfl) (fun K hK => ?_)
              go_simp
              refine hK _ _ hS9 ?_
              clear hK K hS9
              try simp only [Act.put, List.setIfInBounds_toArray, List.set_cons_zero, List.set_cons_succ]
              refine ordS_done (by kernel_rfl) ?_
              go_wp2
              refine bodyPost_ret (v := .tuple #[.int .i64 t.id, .agg #[.int .u64 t.F, .int .u64 t.H, .int .i64 t.Y, .int .i64 t.X], .bool true]) (by simp [results, Try.results19, go_sem, y0, y1, y2, y3]) rfl ⟨by rw [HFT.out, HT.out, HE.out], ⟨_, _, HEND.out⟩, HAE.out⟩
            · skip
              go_wp2_with (at_builtin; refine wpList_append_manyR rfl _ _ rfl (l1 := CellsO p #[.slice r3 j cap3, .slice (some ⟨gv, 0, none⟩) (j + 1) capv] 39 :: RowO 3 1 (.slice (some ⟨gu, 0, none⟩) (j + 1) (j + 1)) (j + 1) (cellsI (m.map Th.id)) :: RowO 28 4 (.slice (some ⟨gv, 0, none⟩) (j + 1) capv) (j + 1) (flatK m) :: (l ++ [CellsO c #[.int .u64 0, .int .u64 0, .int .i64 0, .int .i64 0] 28, CellsO d #[.int .u64 t.F, .int .u64 t.H, .int .i64 t.Y, .int .i64 t.X] 28, RowO 3 1 (.slice r3 j cap3) j (cellsI ((m.map Th.id).take j))])) (l2 := []) (n := j) (xs := flatK (m.take j)) (B := B) (by simpa only [List.cons_append, List.append_assoc, List.nil_append] using h9) (by omega) (by rfl) ⟨gv, (j + 1) * 4, none⟩ 0 (capv - (j + 1)) [] (by rfl) (by rfl) (by omega) (fun i u hu => by simp at hu) (fun u hu => by simp at hu) ?_)
              intro v4 w8 h10 hb10
              replace h10 : Sep w8 B ((CellsO p #[.slice r3 j cap3, .slice (some ⟨gv, 0, none⟩) (j + 1) capv] 39 :: RowO 3 1 (.slice (some ⟨gu, 0, none⟩) (j + 1) (j + 1)) (j + 1) (cellsI (m.map Th.id)) :: RowO 28 4 (.slice (some ⟨gv, 0, none⟩) (j + 1) capv) (j + 1) (flatK m) :: (l ++ [CellsO c #[.int .u64 0, .int .u64 0, .int .i64 0, .int .i64 0] 28, CellsO d #[.int .u64 t.F, .int .u64 t.H, .int .i64 t.Y, .int .i64 t.X] 28, RowO 3 1 (.slice r3 j cap3) j (cellsI ((m.map Th.id).take j))])) ++ RowO 28 4 v4 j (flatK (m.take j)) :: []) := by simpa only [List.cons_append, List.append_assoc, List.nil_append, Nat.add_zero, List.append_nil] using h10
              have hA10 := hA9.trans hb10
              obtain ⟨r4, cap4, rfl, _⟩ := Sep.shape (l1 := CellsO p #[.slice r3 j cap3, .slice (some ⟨gv, 0, none⟩) (j + 1) capv] 39 :: RowO 3 1 (.slice (some ⟨gu, 0, none⟩) (j + 1) (j + 1)) (j + 1) (cellsI (m.map Th.id)) :: RowO 28 4 (.slice (some ⟨gv, 0, none⟩) (j + 1) capv) (j + 1) (flatK m) :: (l ++ [CellsO c #[.int .u64 0, .int .u64 0, .int .i64 0, .int .i64 0] 28, CellsO d #[.int .u64 t.F, .int .u64 t.H, .int .i64 t.Y, .int .i64 t.X] 28, RowO 3 1 (.slice r3 j cap3) j (cellsI ((m.map Th.id).take j))])) (l2 := []) (n := j) (xs := flatK (m.take j)) (by simpa only [List.cons_append, List.append_assoc, List.nil_append] using h10)
              replace h10 : Sep w8 B (CellsO p #[.slice r3 j cap3, .slice (some ⟨gv, 0, none⟩) (j + 1) capv] 39 :: RowO 3 1 (.slice (some ⟨gu, 0, none⟩) (j + 1) (j + 1)) (j + 1) (cellsI (m.map Th.id)) :: RowO 28 4 (.slice (some ⟨gv, 0, none⟩) (j + 1) capv) (j + 1) (flatK m) :: (l ++ [CellsO c #[.int .u64 0, .int .u64 0, .int .i64 0, .int .i64 0] 28, CellsO d #[.int .u64 t.F, .int .u64 t.H, .int .i64 t.Y, .int .i64 t.X] 28, RowO 3 1 (.slice r3 j cap3) j (cellsI ((m.map Th.id).take j)), RowO 28 4 (.slice r4 j cap4) j (flatK (m.take j))])) := by simpa only [List.cons_append, List.append_assoc, List.nil_append, flatK_drop', flatK_app] using h10
              clear h9 hA9 hb10 hv c1
              obtain ⟨rc, _⟩ := Sep.cells (l1 := []) h10
              have f1 : w8.frozen? ⟨p, 1, none⟩ = false := by simp [World.frozen?, rc]
              have c1 : w8.cell? ⟨p, 1, none⟩ = some (.slice (some ⟨gv, 0, none⟩) (j + 1) capv) := by simp [World.cell?, rc]
              have h11 := Sep.set (l1 := []) h10 1 (.slice r4 j cap4)
              rw [show (#[.slice r3 j cap3, .slice (some ⟨gv, 0, none⟩) (j + 1) capv] : Array Value).setIfInBounds 1 (.slice r4 j cap4) = #[.slice r3 j cap3, .slice r4 j cap4] from rfl, List.nil_append] at h11
              have hA11 := hA10.grown (hgrown_set w8 p 1 (.slice r4 j cap4)) h10.base (fun j e => by cases e; exact hBp)
              clear rc
              go_upto_region 15 with fail
              generalize hw9 : w8.setCell ⟨p, 1, none⟩ (.slice r4 j cap4) = w9 at *
              clear hw9 f1 c1 h10 hA10
              have hD := bl_dr (bl0 w9)
              have h12 := h11.below hD
              have hA12 := hA11.trans (hD.mono h11.base)
              obtain ⟨W8, hW8⟩ : ∃ W8, w9.drew = W8 := ⟨_, rfl⟩
              rw [hW8] at h12 hA12
              clear h11 hA11 hD
              obtain ⟨rd, _⟩ := Sep.cells (l1 := CellsO p #[.slice r3 j cap3, .slice r4 j cap4] 39 :: RowO 3 1 (.slice (some ⟨gu, 0, none⟩) (j + 1) (j + 1)) (j + 1) (cellsI (m.map Th.id)) :: RowO 28 4 (.slice (some ⟨gv, 0, none⟩) (j + 1) capv) (j + 1) (flatK m) :: (l ++ [CellsO c #[.int .u64 0, .int .u64 0, .int .i64 0, .int .i64 0] 28])) (l2 := [RowO 3 1 (.slice r3 j cap3) j (cellsI ((m.map Th.id).take j)), RowO 28 4 (.slice r4 j cap4) j (flatK (m.take j))]) (by simpa only [List.cons_append, List.append_assoc, List.nil_append] using h12)
              obtain ⟨rcc, hcB⟩ := Sep.cells (l1 := CellsO p #[.slice r3 j cap3, .slice r4 j cap4] 39 :: RowO 3 1 (.slice (some ⟨gu, 0, none⟩) (j + 1) (j + 1)) (j + 1) (cellsI (m.map Th.id)) :: RowO 28 4 (.slice (some ⟨gv, 0, none⟩) (j + 1) capv) (j + 1) (flatK m) :: l) (l2 := [CellsO d #[.int .u64 t.F, .int .u64 t.H, .int .i64 t.Y, .int .i64 t.X] 28, RowO 3 1 (.slice r3 j cap3) j (cellsI ((m.map Th.id).take j)), RowO 28 4 (.slice r4 j cap4) j (flatK (m.take j))]) h12
              have t0 : W8.cell? ⟨d, 0, none⟩ = some (.int .u64 t.F) := by simp [World.cell?, rd]
              have t1 : W8.cell? ⟨d, 1, none⟩ = some (.int .u64 t.H) := by simp [World.cell?, rd]
              have t2 : W8.cell? ⟨d, 2, none⟩ = some (.int .i64 t.Y) := by simp [World.cell?, rd]
              have t3 : W8.cell? ⟨d, 3, none⟩ = some (.int .i64 t.X) := by simp [World.cell?, rd]
              have q0 : W8.cell? ⟨c, 0, none⟩ = some (.int .u64 0) := by simp [World.cell?, rcc]
              have q1 : W8.cell? ⟨c, 1, none⟩ = some (.int .u64 0) := by simp [World.cell?, rcc]
              have q2 : W8.cell? ⟨c, 2, none⟩ = some (.int .i64 0) := by simp [World.cell?, rcc]
              have q3 : W8.cell? ⟨c, 3, none⟩ = some (.int .i64 0) := by simp [World.cell?, rcc]
              have f0 : W8.frozen? ⟨c, 0, none⟩ = false := by simp [World.frozen?, rcc]
              have f1 : W8.frozen? ⟨c, 1, none⟩ = false := by simp [World.frozen?, rcc]
              have f2 : W8.frozen? ⟨c, 2, none⟩ = false := by simp [World.frozen?, rcc]
              have f3 : W8.frozen? ⟨c, 3, none⟩ = false := by simp [World.frozen?, rcc]
              have h13 := Sep.set (l1 := CellsO p #[.slice r3 j cap3, .slice r4 j cap4] 39 :: RowO 3 1 (.slice (some ⟨gu, 0, none⟩) (j + 1) (j + 1)) (j + 1) (cellsI (m.map Th.id)) :: RowO 28 4 (.slice (some ⟨gv, 0, none⟩) (j + 1) capv) (j + 1) (flatK m) :: l) (l2 := [CellsO d #[.int .u64 t.F, .int .u64 t.H, .int .i64 t.Y, .int .i64 t.X] 28, RowO 3 1 (.slice r3 j cap3) j (cellsI ((m.map Th.id).take j)), RowO 28 4 (.slice r4 j cap4) j (flatK (m.take j))]) h12 0 (.int .u64 t.F)
              replace h13 := Sep.set (l1 := CellsO p #[.slice r3 j cap3, .slice r4 j cap4] 39 :: RowO 3 1 (.slice (some ⟨gu, 0, none⟩) (j + 1) (j + 1)) (j + 1) (cellsI (m.map Th.id)) :: RowO 28 4 (.slice (some ⟨gv, 0, none⟩) (j + 1) capv) (j + 1) (flatK m) :: l) (l2 := [CellsO d #[.int .u64 t.F, .int .u64 t.H, .int .i64 t.Y, .int .i64 t.X] 28, RowO 3 1 (.slice r3 j cap3) j (cellsI ((m.map Th.id).take j)), RowO 28 4 (.slice r4 j cap4) j (flatK (m.take j))]) h13 1 (.int .u64 t.H)
              replace h13 := Sep.set (l1 := CellsO p #[.slice r3 j cap3, .slice r4 j cap4] 39 :: RowO 3 1 (.slice (some ⟨gu, 0, none⟩) (j + 1) (j + 1)) (j + 1) (cellsI (m.map Th.id)) :: RowO 28 4 (.slice (some ⟨gv, 0, none⟩) (j + 1) capv) (j + 1) (flatK m) :: l) (l2 := [CellsO d #[.int .u64 t.F, .int .u64 t.H, .int .i64 t.Y, .int .i64 t.X] 28, RowO 3 1 (.slice r3 j cap3) j (cellsI ((m.map Th.id).take j)), RowO 28 4 (.slice r4 j cap4) j (flatK (m.take j))]) h13 2 (.int .i64 t.Y)
              replace h13 := Sep.set (l1 := CellsO p #[.slice r3 j cap3, .slice r4 j cap4] 39 :: RowO 3 1 (.slice (some ⟨gu, 0, none⟩) (j + 1) (j + 1)) (j + 1) (cellsI (m.map Th.id)) :: RowO 28 4 (.slice (some ⟨gv, 0, none⟩) (j + 1) capv) (j + 1) (flatK m) :: l) (l2 := [CellsO d #[.int .u64 t.F, .int .u64 t.H, .int .i64 t.Y, .int .i64 t.X] 28, RowO 3 1 (.slice r3 j cap3) j (cellsI ((m.map Th.id).take j)), RowO 28 4 (.slice r4 j cap4) j (flatK (m.take j))]) h13 3 (.int .i64 t.X)
              have p0 := hgrown_set W8 c 0 (.int .u64 t.F)
              have p1 := p0.trans (hgrown_set _ c 1 (.int .u64 t.H))
              have p2 := p1.trans (hgrown_set _ c 2 (.int .i64 t.Y))
              have p3 := p2.trans (hgrown_set _ c 3 (.int .i64 t.X))
              have hA13 := hA12.grown p3 h12.base (fun j e => by cases e; exact hcB)
              clear p0 p1 p2 p3 h12 hA12 rd rcc
              refine (wpIn_wide (n := 11)).1 ?_
              refine ordS_begin (S := (fun w' : World => w'.cell? ⟨d, 0, none⟩ = some (.int .u64 t.F) ∧ w'.cell? ⟨d, 1, none⟩ = some (.int .u64 t.H) ∧ w'.cell? ⟨d, 2, none⟩ = some (.int .i64 t.Y) ∧ w'.cell? ⟨d, 3, none⟩ = some (.int .i64 t.X))) (by kernel_rfl) (by rw [hW8]; exact ⟨t0, t1, t2, t3⟩) (fun hH => ?_)
              first
                | (refine' ordS_take (i := 0) (oi := { dst := some 132, op := Op.move (Operand.tmp 7), type := 3, pos := _, after := #[], guard := none }) (v := _) rfl (by kernel_rfl) (by kernel_rfl) (by kernel_rfl) (by kernel_rfl) (fun _ _ _ h => h) (by assumption) (Or.inl ⟨by rfl, ?hy264⟩) (fun _ => rfl) ?rest264
                   case hy264 => (intro w hSw; (try dsimp only at hSw); go_simp; try with_reducible rfl))
                | (refine ordS_take (i := 0) (oi := { dst := some 132, op := Op.move (Operand.tmp 7), type := 3, pos := _, after := #[], guard := none }) (v := undef) rfl (by kernel_rfl) (by kernel_rfl) (by kernel_rfl) (by kernel_rfl) (fun _ _ _ h => h) (by assumption) (Or.inr ⟨by rfl, rfl⟩) (fun _ => rfl) ?_)
              try simp only [Act.put, List.setIfInBounds_toArray, List.set_cons_zero, List.set_cons_succ]
              first
                | (refine' ordS_take (i := 1) (oi := { dst := some 133, op := Op.load 28 (Operand.tmp 8), type := 28, pos := _, after := #[{ on := 2, ground := Ground.gcOnly Departure.lateStores }], guard := none }) (v := _) rfl (by kernel_rfl) (by kernel_rfl) (by kernel_rfl) (by kernel_rfl) (fun _ _ _ h => h) (by assumption) (Or.inl ⟨by rfl, ?hy265⟩) (fun _ => rfl) ?rest265
                   case hy265 => (intro w hSw; (try dsimp only at hSw); go_simp; try with_reducible rfl))
                | (refine ordS_take (i := 1) (oi := { dst := some 133, op := Op.load 28 (Operand.tmp 8), type := 28, pos := _, after := #[{ on := 2, ground := Ground.gcOnly Departure.lateStores }], guard := none }) (v := undef) rfl (by kernel_rfl) (by kernel_rfl) (by kernel_rfl) (by kernel_rfl) (fun _ _ _ h => h) (by assumption) (Or.inr ⟨by rfl, rfl⟩) (fun _ => rfl) ?_)
              try simp only [Act.put, List.setIfInBounds_toArray, List.set_cons_zero, List.set_cons_succ]
              first
                | (refine' ordS_take (i := 2) (oi := { dst := some 2, op := Op.assign (Operand.tmp 132), type := 3, pos := _, after := #[{ on := 0, ground := Ground.data }, { on := 0, ground := Ground.phase }, { on := 1, ground := Ground.textOnly Departure.lateStores }], guard := none }) (v := _) rfl (by kernel_rfl) (by kernel_rfl) (by kernel_rfl) (by kernel_rfl) (fun _ _ _ h => h) (by assumption) (Or.inl ⟨by rfl, ?hy266⟩) (fun _ => rfl) ?rest266
                   case hy266 => (intro w hSw; (try dsimp only at hSw); go_simp; try with_reducible rfl))
                | (refine ordS_take (i := 2) (oi := { dst := some 2, op := Op.assign (Operand.tmp 132), type := 3, pos := _, after := #[{ on := 0, ground := Ground.data }, { on := 0, ground := Ground.phase }, { on := 1, ground := Ground.textOnly Departure.lateStores }], guard := none }) (v := undef) rfl (by kernel_rfl) (by kernel_rfl) (by kernel_rfl) (by kernel_rfl) (fun _ _ _ h => h) (by assumption) (Or.inr ⟨by rfl, rfl⟩) (fun _ => rfl) ?_)
              try simp only [Act.put, List.setIfInBounds_toArray, List.set_cons_zero, List.set_cons_succ]
              rw [hW8] at hH ⊢
              clear hW8
              refine ordS_one (i := 3) (o := { dst := none, op := Op.store 28 (Operand.tmp 3) (Operand.tmp 133), type := 0, pos := _, after := #[{ on := 1, ground := Ground.data }, { on := 2, ground := Ground.chain }, { on := 0, ground := Ground.phase }, { on := 1, ground := Ground.phase }, { on := 2, ground := Ground.phase }], guard := none }) (by kernel_rfl) rfl (by rfl) (fun K hK => ?_)
              go_simp
              obtain ⟨W9, hW9⟩ : ∃ W9, ((((W8.setCell ⟨c, 0, none⟩ (.int .u64 t.F)).setCell ⟨c, 1, none⟩ (.int .u64 t.H)).setCell ⟨c, 2, none⟩ (.int .i64 t.Y)).setCell ⟨c, 3, none⟩ (.int .i64 t.X)) = W9 := ⟨_, rfl⟩
              rw [hW9] at h13 hA13 ⊢
              replace h13 : Sep W9 B (CellsO p #[.slice r3 j cap3, .slice r4 j cap4] 39 :: RowO 3 1 (.slice (some ⟨gu, 0, none⟩) (j + 1) (j + 1)) (j + 1) (cellsI (m.map Th.id)) :: RowO 28 4 (.slice (some ⟨gv, 0, none⟩) (j + 1) capv) (j + 1) (flatK m) :: l ++ CellsO c #[.int .u64 t.F, .int .u64 t.H, .int .i64 t.Y, .int .i64 t.X] 28 :: [CellsO d #[.int .u64 t.F, .int .u64 t.H, .int .i64 t.Y, .int .i64 t.X] 28, RowO 3 1 (.slice r3 j cap3) j (cellsI ((m.map Th.id).take j)), RowO 28 4 (.slice r4 j cap4) j (flatK (m.take j))]) := h13
              obtain ⟨rd, _⟩ := Sep.cells (l1 := CellsO p #[.slice r3 j cap3, .slice r4 j cap4] 39 :: RowO 3 1 (.slice (some ⟨gu, 0, none⟩) (j + 1) (j + 1)) (j + 1) (cellsI (m.map Th.id)) :: RowO 28 4 (.slice (some ⟨gv, 0, none⟩) (j + 1) capv) (j + 1) (flatK m) :: (l ++ [CellsO c #[.int .u64 t.F, .int .u64 t.H, .int .i64 t.Y, .int .i64 t.X] 28])) (l2 := [RowO 3 1 (.slice r3 j cap3) j (cellsI ((m.map Th.id).take j)), RowO 28 4 (.slice r4 j cap4) j (flatK (m.take j))]) (by simpa only [List.cons_append, List.append_assoc, List.nil_append] using h13)
              obtain ⟨rcc, _⟩ := Sep.cells (l1 := CellsO p #[.slice r3 j cap3, .slice r4 j cap4] 39 :: RowO 3 1 (.slice (some ⟨gu, 0, none⟩) (j + 1) (j + 1)) (j + 1) (cellsI (m.map Th.id)) :: RowO 28 4 (.slice (some ⟨gv, 0, none⟩) (j + 1) capv) (j + 1) (flatK m) :: l) (l2 := [CellsO d #[.int .u64 t.F, .int .u64 t.H, .int .i64 t.Y, .int .i64 t.X] 28, RowO 3 1 (.slice r3 j cap3) j (cellsI ((m.map Th.id).take j)), RowO 28 4 (.slice r4 j cap4) j (flatK (m.take j))]) h13
              have hS9 : (fun w' : World => w'.cell? ⟨d, 0, none⟩ = some (.int .u64 t.F) ∧ w'.cell? ⟨d, 1, none⟩ = some (.int .u64 t.H) ∧ w'.cell? ⟨d, 2, none⟩ = some (.int .i64 t.Y) ∧ w'.cell? ⟨d, 3, none⟩ = some (.int .i64 t.X)) W9 := ⟨by simp [World.cell?, rd], by simp [World.cell?, rd], by simp [World.cell?, rd], by simp [World.cell?, rd]⟩
              have y0 : W9.cell? ⟨c, 0, none⟩ = some (.int .u64 t.F) := by simp [World.cell?, rcc]
              have y1 : W9.cell? ⟨c, 1, none⟩ = some (.int .u64 t.H) := by simp [World.cell?, rcc]
              have y2 : W9.cell? ⟨c, 2, none⟩ = some (.int .i64 t.Y) := by simp [World.cell?, rcc]
              have y3 : W9.cell? ⟨c, 3, none⟩ = some (.int .i64 t.X) := by simp [World.cell?, rcc]
              have HEND : Hid (Sep W9 B (RefL p (.slice r3 j cap3) (.slice r4 j cap4) (popM m) l)) := Lib.hid (by
                have g1 := Sep.drop (l1 := CellsO p #[.slice r3 j cap3, .slice r4 j cap4] 39 :: RowO 3 1 (.slice (some ⟨gu, 0, none⟩) (j + 1) (j + 1)) (j + 1) (cellsI (m.map Th.id)) :: RowO 28 4 (.slice (some ⟨gv, 0, none⟩) (j + 1) capv) (j + 1) (flatK m) :: l) (l2 := [CellsO d #[.int .u64 t.F, .int .u64 t.H, .int .i64 t.Y, .int .i64 t.X] 28, RowO 3 1 (.slice r3 j cap3) j (cellsI ((m.map Th.id).take j)), RowO 28 4 (.slice r4 j cap4) j (flatK (m.take j))]) h13
                have g2 := Sep.drop (l1 := CellsO p #[.slice r3 j cap3, .slice r4 j cap4] 39 :: RowO 3 1 (.slice (some ⟨gu, 0, none⟩) (j + 1) (j + 1)) (j + 1) (cellsI (m.map Th.id)) :: RowO 28 4 (.slice (some ⟨gv, 0, none⟩) (j + 1) capv) (j + 1) (flatK m) :: l) (l2 := [RowO 3 1 (.slice r3 j cap3) j (cellsI ((m.map Th.id).take j)), RowO 28 4 (.slice r4 j cap4) j (flatK (m.take j))]) g1
                have g3 := Sep.drop (l1 := [CellsO p #[.slice r3 j cap3, .slice r4 j cap4] 39]) (l2 := RowO 28 4 (.slice (some ⟨gv, 0, none⟩) (j + 1) capv) (j + 1) (flatK m) :: (l ++ [RowO 3 1 (.slice r3 j cap3) j (cellsI ((m.map Th.id).take j)), RowO 28 4 (.slice r4 j cap4) j (flatK (m.take j))])) g2
                have g4 := Sep.drop (l1 := [CellsO p #[.slice r3 j cap3, .slice r4 j cap4] 39]) (l2 := l ++ [RowO 3 1 (.slice r3 j cap3) j (cellsI ((m.map Th.id).take j)), RowO 28 4 (.slice r4 j cap4) j (flatK (m.take j))]) g3
                have g5 := g4.perm (l' := CellsO p #[.slice r3 j cap3, .slice r4 j cap4] 39 :: RowO 3 1 (.slice r3 j cap3) j (cellsI ((m.map Th.id).take j)) :: RowO 28 4 (.slice r4 j cap4) j (flatK (m.take j)) :: l) (List.Perm.cons _ (List.perm_append_comm (l₁ := l) (l₂ := [RowO 3 1 (.slice r3 j cap3) j (cellsI ((m.map Th.id).take j)), RowO 28 4 (.slice r4 j cap4) j (flatK (m.take j))])))
                have hd : m.drop (j + 1) = [] := List.drop_eq_nil_of_le (by rw [HML.out]; exact Nat.le_refl _)
                have hN : j = (popM m).length := by rw [HPOP.out, hd, List.append_nil, List.length_take, HML.out]; omega
                unfold RefL
                rw [← hN, HPOP.out, hd, List.append_nil, List.map_take]
                exact g5)
              have HAE := Lib.hid hA13
              clear hW9 q0 q1 q2 q3 f0 f1 f2 f3 t0 t1 t2 t3 rd rcc h13 hA13
              refine hK _ _ hS9 ?_
              clear hK K hH
              try simp only [Act.put, List.setIfInBounds_toArray, List.set_cons_zero, List.set_cons_succ]
              refine ordS_one (i := 4) (o := { dst := some 4, op := Op.assign (Operand.const (Value.bool true)), type := 4, pos := _, after := #[{ on := 3, ground := Ground.chain }, { on := 0, ground := Ground.phase }, { on := 1, ground := Ground.phase }, { on := 2, ground := Ground.phase }, { on := 3, ground := Ground.phase }], guard := none }) (by kernel_rfl) rfl (by rfl) (fun K hK => ?_)
              go_simp
              refine hK _ _ hS9 ?_
              clear hK K hS9
              try simp only [Act.put, List.setIfInBounds_toArray, List.set_cons_zero, List.set_cons_succ]
              refine ordS_done (by kernel_rfl) ?_
              go_wp2
              refine bodyPost_ret (v := .tuple #[.int .i64 t.id, .agg #[.int .u64 t.F, .int .u64 t.H, .int .i64 t.Y, .int .i64 t.X], .bool true]) (by simp [results, Try.results19, go_sem, y0, y1, y2, y3]) rfl ⟨by rw [HFT.out, HT.out, HE.out], ⟨_, _, HEND.out⟩, HAE.out⟩
          · skip
            go_wp2_with (at_builtin; refine wpList_append_manyI rfl _ _ rfl (l1 := CellsO p #[.slice (some ⟨gu, 0, none⟩) (j + 1) capu, .slice (some ⟨gv, 0, none⟩) (j + 1) capv] 39 :: RowO 3 1 (.slice (some ⟨gu, 0, none⟩) (j + 1) capu) (j + 1) (cellsI (m.map Th.id)) :: RowO 28 4 (.slice (some ⟨gv, 0, none⟩) (j + 1) capv) (j + 1) (flatK m) :: (l ++ [CellsO c #[.int .u64 0, .int .u64 0, .int .i64 0, .int .i64 0] 28, CellsO d #[.int .u64 t.F, .int .u64 t.H, .int .i64 t.Y, .int .i64 t.X] 28])) (l2 := [RowO 28 4 v2 j (flatK (m.take j))]) (n := j) (xs := cellsI ((m.map Th.id).take j)) (B := B) (by simpa only [List.cons_append, List.append_assoc, List.nil_append] using h7) (by omega) (by rfl) ⟨gu, j + 1, none⟩ 0 (capu - (j + 1)) [] (by rfl) (by rfl) (by omega) (fun i u hu => by simp at hu) (fun u hu => by simp at hu) ?_)
            intro v3 w6 h8 hb8
            replace h8 : Sep w6 B ((CellsO p #[.slice (some ⟨gu, 0, none⟩) (j + 1) capu, .slice (some ⟨gv, 0, none⟩) (j + 1) capv] 39 :: RowO 3 1 (.slice (some ⟨gu, 0, none⟩) (j + 1) capu) (j + 1) (cellsI (m.map Th.id)) :: RowO 28 4 (.slice (some ⟨gv, 0, none⟩) (j + 1) capv) (j + 1) (flatK m) :: (l ++ [CellsO c #[.int .u64 0, .int .u64 0, .int .i64 0, .int .i64 0] 28, CellsO d #[.int .u64 t.F, .int .u64 t.H, .int .i64 t.Y, .int .i64 t.X] 28])) ++ RowO 3 1 v3 j (cellsI ((m.map Th.id).take j)) :: [RowO 28 4 v2 j (flatK (m.take j))]) := by simpa only [List.cons_append, List.append_assoc, List.nil_append, Nat.add_zero, List.append_nil] using h8
            have hA8 := hA7.trans hb8
            obtain ⟨r3, cap3, rfl, _⟩ := Sep.shape (l1 := CellsO p #[.slice (some ⟨gu, 0, none⟩) (j + 1) capu, .slice (some ⟨gv, 0, none⟩) (j + 1) capv] 39 :: RowO 3 1 (.slice (some ⟨gu, 0, none⟩) (j + 1) capu) (j + 1) (cellsI (m.map Th.id)) :: RowO 28 4 (.slice (some ⟨gv, 0, none⟩) (j + 1) capv) (j + 1) (flatK m) :: (l ++ [CellsO c #[.int .u64 0, .int .u64 0, .int .i64 0, .int .i64 0] 28, CellsO d #[.int .u64 t.F, .int .u64 t.H, .int .i64 t.Y, .int .i64 t.X] 28])) (l2 := [RowO 28 4 v2 j (flatK (m.take j))]) (n := j) (xs := cellsI ((m.map Th.id).take j)) (by simpa only [List.cons_append, List.append_assoc, List.nil_append] using h8)
            replace h8 : Sep w6 B (CellsO p #[.slice (some ⟨gu, 0, none⟩) (j + 1) capu, .slice (some ⟨gv, 0, none⟩) (j + 1) capv] 39 :: RowO 3 1 (.slice (some ⟨gu, 0, none⟩) (j + 1) capu) (j + 1) (cellsI (m.map Th.id)) :: RowO 28 4 (.slice (some ⟨gv, 0, none⟩) (j + 1) capv) (j + 1) (flatK m) :: (l ++ [CellsO c #[.int .u64 0, .int .u64 0, .int .i64 0, .int .i64 0] 28, CellsO d #[.int .u64 t.F, .int .u64 t.H, .int .i64 t.Y, .int .i64 t.X] 28, RowO 3 1 (.slice r3 j cap3) j (cellsI ((m.map Th.id).take j)), RowO 28 4 v2 j (flatK (m.take j))])) := by simpa only [List.cons_append, List.append_assoc, List.nil_append, cellsI_drop, cellsI_app] using h8
            clear h7 hA7 hb8 hi c0
            obtain ⟨rc, _⟩ := Sep.cells (l1 := []) h8
            have f0 : w6.frozen? ⟨p, 0, none⟩ = false := by simp [World.frozen?, rc]
            have c0 : w6.cell? ⟨p, 0, none⟩ = some (.slice (some ⟨gu, 0, none⟩) (j + 1) capu) := by simp [World.cell?, rc]
            have h9 := Sep.set (l1 := []) h8 0 (.slice r3 j cap3)
            rw [show (#[.slice (some ⟨gu, 0, none⟩) (j + 1) capu, .slice (some ⟨gv, 0, none⟩) (j + 1) capv] : Array Value).setIfInBounds 0 (.slice r3 j cap3) = #[.slice r3 j cap3, .slice (some ⟨gv, 0, none⟩) (j + 1) capv] from rfl, List.nil_append] at h9
            have hA9 := hA8.grown (hgrown_set w6 p 0 (.slice r3 j cap3)) h8.base (fun j e => by cases e; exact hBp)
            clear rc
            go_upto_region 14 with fail
            generalize hw7 : w6.setCell ⟨p, 0, none⟩ (.slice r3 j cap3) = w7 at *
            clear hw7 f0 c0 h8 hA8
            obtain ⟨rc, _⟩ := Sep.cells (l1 := []) h9
            have c1 : w7.cell? ⟨p, 1, none⟩ = some (.slice (some ⟨gv, 0, none⟩) (j + 1) capv) := by simp [World.cell?, rc]
            clear rc
            obtain ⟨hv, _, _, _, _⟩ := Sep.row (l1 := [CellsO p #[.slice r3 j cap3, .slice (some ⟨gv, 0, none⟩) (j + 1) capv] 39, RowO 3 1 (.slice (some ⟨gu, 0, none⟩) (j + 1) capu) (j + 1) (cellsI (m.map Th.id))]) h9
            by_cases hcap2 : capv = j + 1
            · subst hcap2
              go_wp2_with (at_builtin; refine wpList_append_manyR rfl _ _ rfl (l1 := CellsO p #[.slice r3 j cap3, .slice (some ⟨gv, 0, none⟩) (j + 1) (j + 1)] 39 :: RowO 3 1 (.slice (some ⟨gu, 0, none⟩) (j + 1) capu) (j + 1) (cellsI (m.map Th.id)) :: RowO 28 4 (.slice (some ⟨gv, 0, none⟩) (j + 1) (j + 1)) (j + 1) (flatK m) :: (l ++ [CellsO c #[.int .u64 0, .int .u64 0, .int .i64 0, .int .i64 0] 28, CellsO d #[.int .u64 t.F, .int .u64 t.H, .int .i64 t.Y, .int .i64 t.X] 28, RowO 3 1 (.slice r3 j cap3) j (cellsI ((m.map Th.id).take j))])) (l2 := []) (n := j) (xs := flatK (m.take j)) (B := B) (by simpa only [List.cons_append, List.append_assoc, List.nil_append] using h9) (by omega) (by rfl) ⟨gv, 0, none⟩ 0 0 [] (by rfl) (by rfl) (by omega) (fun i u hu => by simp at hu) (fun u hu => by simp at hu) ?_)
              intro v4 w8 h10 hb10
              replace h10 : Sep w8 B ((CellsO p #[.slice r3 j cap3, .slice (some ⟨gv, 0, none⟩) (j + 1) (j + 1)] 39 :: RowO 3 1 (.slice (some ⟨gu, 0, none⟩) (j + 1) capu) (j + 1) (cellsI (m.map Th.id)) :: RowO 28 4 (.slice (some ⟨gv, 0, none⟩) (j + 1) (j + 1)) (j + 1) (flatK m) :: (l ++ [CellsO c #[.int .u64 0, .int .u64 0, .int .i64 0, .int .i64 0] 28, CellsO d #[.int .u64 t.F, .int .u64 t.H, .int .i64 t.Y, .int .i64 t.X] 28, RowO 3 1 (.slice r3 j cap3) j (cellsI ((m.map Th.id).take j))])) ++ RowO 28 4 v4 j (flatK (m.take j)) :: []) := by simpa only [List.cons_append, List.append_assoc, List.nil_append, Nat.add_zero, List.append_nil] using h10
              have hA10 := hA9.trans hb10
              obtain ⟨r4, cap4, rfl, _⟩ := Sep.shape (l1 := CellsO p #[.slice r3 j cap3, .slice (some ⟨gv, 0, none⟩) (j + 1) (j + 1)] 39 :: RowO 3 1 (.slice (some ⟨gu, 0, none⟩) (j + 1) capu) (j + 1) (cellsI (m.map Th.id)) :: RowO 28 4 (.slice (some ⟨gv, 0, none⟩) (j + 1) (j + 1)) (j + 1) (flatK m) :: (l ++ [CellsO c #[.int .u64 0, .int .u64 0, .int .i64 0, .int .i64 0] 28, CellsO d #[.int .u64 t.F, .int .u64 t.H, .int .i64 t.Y, .int .i64 t.X] 28, RowO 3 1 (.slice r3 j cap3) j (cellsI ((m.map Th.id).take j))])) (l2 := []) (n := j) (xs := flatK (m.take j)) (by simpa only [List.cons_append, List.append_assoc, List.nil_append] using h10)
              replace h10 : Sep w8 B (CellsO p #[.slice r3 j cap3, .slice (some ⟨gv, 0, none⟩) (j + 1) (j + 1)] 39 :: RowO 3 1 (.slice (some ⟨gu, 0, none⟩) (j + 1) capu) (j + 1) (cellsI (m.map Th.id)) :: RowO 28 4 (.slice (some ⟨gv, 0, none⟩) (j + 1) (j + 1)) (j + 1) (flatK m) :: (l ++ [CellsO c #[.int .u64 0, .int .u64 0, .int .i64 0, .int .i64 0] 28, CellsO d #[.int .u64 t.F, .int .u64 t.H, .int .i64 t.Y, .int .i64 t.X] 28, RowO 3 1 (.slice r3 j cap3) j (cellsI ((m.map Th.id).take j)), RowO 28 4 (.slice r4 j cap4) j (flatK (m.take j))])) := by simpa only [List.cons_append, List.append_assoc, List.nil_append, flatK_drop', flatK_app] using h10
              clear h9 hA9 hb10 hv c1
              obtain ⟨rc, _⟩ := Sep.cells (l1 := []) h10
              have f1 : w8.frozen? ⟨p, 1, none⟩ = false := by simp [World.frozen?, rc]
              have c1 : w8.cell? ⟨p, 1, none⟩ = some (.slice (some ⟨gv, 0, none⟩) (j + 1) (j + 1)) := by simp [World.cell?, rc]
              have h11 := Sep.set (l1 := []) h10 1 (.slice r4 j cap4)
              rw [show (#[.slice r3 j cap3, .slice (some ⟨gv, 0, none⟩) (j + 1) (j + 1)] : Array Value).setIfInBounds 1 (.slice r4 j cap4) = #[.slice r3 j cap3, .slice r4 j cap4] from rfl, List.nil_append] at h11
              have hA11 := hA10.grown (hgrown_set w8 p 1 (.slice r4 j cap4)) h10.base (fun j e => by cases e; exact hBp)
              clear rc
              go_upto_region 15 with fail
              generalize hw9 : w8.setCell ⟨p, 1, none⟩ (.slice r4 j cap4) = w9 at *
              clear hw9 f1 c1 h10 hA10
              have hD := bl_dr (bl0 w9)
              have h12 := h11.below hD
              have hA12 := hA11.trans (hD.mono h11.base)
              obtain ⟨W8, hW8⟩ : ∃ W8, w9.drew = W8 := ⟨_, rfl⟩
              rw [hW8] at h12 hA12
              clear h11 hA11 hD
              obtain ⟨rd, _⟩ := Sep.cells (l1 := CellsO p #[.slice r3 j cap3, .slice r4 j cap4] 39 :: RowO 3 1 (.slice (some ⟨gu, 0, none⟩) (j + 1) capu) (j + 1) (cellsI (m.map Th.id)) :: RowO 28 4 (.slice (some ⟨gv, 0, none⟩) (j + 1) (j + 1)) (j + 1) (flatK m) :: (l ++ [CellsO c #[.int .u64 0, .int .u64 0, .int .i64 0, .int .i64 0] 28])) (l2 := [RowO 3 1 (.slice r3 j cap3) j (cellsI ((m.map Th.id).take j)), RowO 28 4 (.slice r4 j cap4) j (flatK (m.take j))]) (by simpa only [List.cons_append, List.append_assoc, List.nil_append] using h12)
              obtain ⟨rcc, hcB⟩ := Sep.cells (l1 := CellsO p #[.slice r3 j cap3, .slice r4 j cap4] 39 :: RowO 3 1 (.slice (some ⟨gu, 0, none⟩) (j + 1) capu) (j + 1) (cellsI (m.map Th.id)) :: RowO 28 4 (.slice (some ⟨gv, 0, none⟩) (j + 1) (j + 1)) (j + 1) (flatK m) :: l) (l2 := [CellsO d #[.int .u64 t.F, .int .u64 t.H, .int .i64 t.Y, .int .i64 t.X] 28, RowO 3 1 (.slice r3 j cap3) j (cellsI ((m.map Th.id).take j)), RowO 28 4 (.slice r4 j cap4) j (flatK (m.take j))]) h12
              have t0 : W8.cell? ⟨d, 0, none⟩ = some (.int .u64 t.F) := by simp [World.cell?, rd]
              have t1 : W8.cell? ⟨d, 1, none⟩ = some (.int .u64 t.H) := by simp [World.cell?, rd]
              have t2 : W8.cell? ⟨d, 2, none⟩ = some (.int .i64 t.Y) := by simp [World.cell?, rd]
              have t3 : W8.cell? ⟨d, 3, none⟩ = some (.int .i64 t.X) := by simp [World.cell?, rd]
              have q0 : W8.cell? ⟨c, 0, none⟩ = some (.int .u64 0) := by simp [World.cell?, rcc]
              have q1 : W8.cell? ⟨c, 1, none⟩ = some (.int .u64 0) := by simp [World.cell?, rcc]
              have q2 : W8.cell? ⟨c, 2, none⟩ = some (.int .i64 0) := by simp [World.cell?, rcc]
              have q3 : W8.cell? ⟨c, 3, none⟩ = some (.int .i64 0) := by simp [World.cell?, rcc]
              have f0 : W8.frozen? ⟨c, 0, none⟩ = false := by simp [World.frozen?, rcc]
              have f1 : W8.frozen? ⟨c, 1, none⟩ = false := by simp [World.frozen?, rcc]
              have f2 : W8.frozen? ⟨c, 2, none⟩ = false := by simp [World.frozen?, rcc]
              have f3 : W8.frozen? ⟨c, 3, none⟩ = false := by simp [World.frozen?, rcc]
              have h13 := Sep.set (l1 := CellsO p #[.slice r3 j cap3, .slice r4 j cap4] 39 :: RowO 3 1 (.slice (some ⟨gu, 0, none⟩) (j + 1) capu) (j + 1) (cellsI (m.map Th.id)) :: RowO 28 4 (.slice (some ⟨gv, 0, none⟩) (j + 1) (j + 1)) (j + 1) (flatK m) :: l) (l2 := [CellsO d #[.int .u64 t.F, .int .u64 t.H, .int .i64 t.Y, .int .i64 t.X] 28, RowO 3 1 (.slice r3 j cap3) j (cellsI ((m.map Th.id).take j)), RowO 28 4 (.slice r4 j cap4) j (flatK (m.take j))]) h12 0 (.int .u64 t.F)
              replace h13 := Sep.set (l1 := CellsO p #[.slice r3 j cap3, .slice r4 j cap4] 39 :: RowO 3 1 (.slice (some ⟨gu, 0, none⟩) (j + 1) capu) (j + 1) (cellsI (m.map Th.id)) :: RowO 28 4 (.slice (some ⟨gv, 0, none⟩) (j + 1) (j + 1)) (j + 1) (flatK m) :: l) (l2 := [CellsO d #[.int .u64 t.F, .int .u64 t.H, .int .i64 t.Y, .int .i64 t.X] 28, RowO 3 1 (.slice r3 j cap3) j (cellsI ((m.map Th.id).take j)), RowO 28 4 (.slice r4 j cap4) j (flatK (m.take j))]) h13 1 (.int .u64 t.H)
              replace h13 := Sep.set (l1 := CellsO p #[.slice r3 j cap3, .slice r4 j cap4] 39 :: RowO 3 1 (.slice (some ⟨gu, 0, none⟩) (j + 1) capu) (j + 1) (cellsI (m.map Th.id)) :: RowO 28 4 (.slice (some ⟨gv, 0, none⟩) (j + 1) (j + 1)) (j + 1) (flatK m) :: l) (l2 := [CellsO d #[.int .u64 t.F, .int .u64 t.H, .int .i64 t.Y, .int .i64 t.X] 28, RowO 3 1 (.slice r3 j cap3) j (cellsI ((m.map Th.id).take j)), RowO 28 4 (.slice r4 j cap4) j (flatK (m.take j))]) h13 2 (.int .i64 t.Y)
              replace h13 := Sep.set (l1 := CellsO p #[.slice r3 j cap3, .slice r4 j cap4] 39 :: RowO 3 1 (.slice (some ⟨gu, 0, none⟩) (j + 1) capu) (j + 1) (cellsI (m.map Th.id)) :: RowO 28 4 (.slice (some ⟨gv, 0, none⟩) (j + 1) (j + 1)) (j + 1) (flatK m) :: l) (l2 := [CellsO d #[.int .u64 t.F, .int .u64 t.H, .int .i64 t.Y, .int .i64 t.X] 28, RowO 3 1 (.slice r3 j cap3) j (cellsI ((m.map Th.id).take j)), RowO 28 4 (.slice r4 j cap4) j (flatK (m.take j))]) h13 3 (.int .i64 t.X)
              have p0 := hgrown_set W8 c 0 (.int .u64 t.F)
              have p1 := p0.trans (hgrown_set _ c 1 (.int .u64 t.H))
              have p2 := p1.trans (hgrown_set _ c 2 (.int .i64 t.Y))
              have p3 := p2.trans (hgrown_set _ c 3 (.int .i64 t.X))
              have hA13 := hA12.grown p3 h12.base (fun j e => by cases e; exact hcB)
              clear p0 p1 p2 p3 h12 hA12 rd rcc
              refine (wpIn_wide (n := 11)).1 ?_
              refine ordS_begin (S := (fun w' : World => w'.cell? ⟨d, 0, none⟩ = some (.int .u64 t.F) ∧ w'.cell? ⟨d, 1, none⟩ = some (.int .u64 t.H) ∧ w'.cell? ⟨d, 2, none⟩ = some (.int .i64 t.Y) ∧ w'.cell? ⟨d, 3, none⟩ = some (.int .i64 t.X))) (by kernel_rfl) (by rw [hW8]; exact ⟨t0, t1, t2, t3⟩) (fun hH => ?_)
              first
                | (refine' ordS_take (i := 0) (oi := { dst := some 132, op := Op.move (Operand.tmp 7), type := 3, pos := _, after := #[], guard := none }) (v := _) rfl (by kernel_rfl) (by kernel_rfl) (by kernel_rfl) (by kernel_rfl) (fun _ _ _ h => h) (by assumption) (Or.inl ⟨by rfl, ?hy267⟩) (fun _ => rfl) ?rest267
                   case hy267 => (intro w hSw; (try dsimp only at hSw); go_simp; try with_reducible rfl))
                | (refine ordS_take (i := 0) (oi := { dst := some 132, op := Op.move (Operand.tmp 7), type := 3, pos := _, after := #[], guard := none }) (v := undef) rfl (by kernel_rfl) (by kernel_rfl) (by kernel_rfl) (by kernel_rfl) (fun _ _ _ h => h) (by assumption) (Or.inr ⟨by rfl, rfl⟩) (fun _ => rfl) ?_)
              try simp only [Act.put, List.setIfInBounds_toArray, List.set_cons_zero, List.set_cons_succ]
              first
                | (refine' ordS_take (i := 1) (oi := { dst := some 133, op := Op.load 28 (Operand.tmp 8), type := 28, pos := _, after := #[{ on := 2, ground := Ground.gcOnly Departure.lateStores }], guard := none }) (v := _) rfl (by kernel_rfl) (by kernel_rfl) (by kernel_rfl) (by kernel_rfl) (fun _ _ _ h => h) (by assumption) (Or.inl ⟨by rfl, ?hy268⟩) (fun _ => rfl) ?rest268
                   case hy268 => (intro w hSw; (try dsimp only at hSw); go_simp; try with_reducible rfl))
                | (refine ordS_take (i := 1) (oi := { dst := some 133, op := Op.load 28 (Operand.tmp 8), type := 28, pos := _, after := #[{ on := 2, ground := Ground.gcOnly Departure.lateStores }], guard := none }) (v := undef) rfl (by kernel_rfl) (by kernel_rfl) (by kernel_rfl) (by kernel_rfl) (fun _ _ _ h => h) (by assumption) (Or.inr ⟨by rfl, rfl⟩) (fun _ => rfl) ?_)
              try simp only [Act.put, List.setIfInBounds_toArray, List.set_cons_zero, List.set_cons_succ]
              first
                | (refine' ordS_take (i := 2) (oi := { dst := some 2, op := Op.assign (Operand.tmp 132), type := 3, pos := _, after := #[{ on := 0, ground := Ground.data }, { on := 0, ground := Ground.phase }, { on := 1, ground := Ground.textOnly Departure.lateStores }], guard := none }) (v := _) rfl (by kernel_rfl) (by kernel_rfl) (by kernel_rfl) (by kernel_rfl) (fun _ _ _ h => h) (by assumption) (Or.inl ⟨by rfl, ?hy269⟩) (fun _ => rfl) ?rest269
                   case hy269 => (intro w hSw; (try dsimp only at hSw); go_simp; try with_reducible rfl))
                | (refine ordS_take (i := 2) (oi := { dst := some 2, op := Op.assign (Operand.tmp 132), type := 3, pos := _, after := #[{ on := 0, ground := Ground.data }, { on := 0, ground := Ground.phase }, { on := 1, ground := Ground.textOnly Departure.lateStores }], guard := none }) (v := undef) rfl (by kernel_rfl) (by kernel_rfl) (by kernel_rfl) (by kernel_rfl) (fun _ _ _ h => h) (by assumption) (Or.inr ⟨by rfl, rfl⟩) (fun _ => rfl) ?_)
              try simp only [Act.put, List.setIfInBounds_toArray, List.set_cons_zero, List.set_cons_succ]
              rw [hW8] at hH ⊢
              clear hW8
              refine ordS_one (i := 3) (o := { dst := none, op := Op.store 28 (Operand.tmp 3) (Operand.tmp 133), type := 0, pos := _, after := #[{ on := 1, ground := Ground.data }, { on := 2, ground := Ground.chain }, { on := 0, ground := Ground.phase }, { on := 1, ground := Ground.phase }, { on := 2, ground := Ground.phase }], guard := none }) (by kernel_rfl) rfl (by rfl) (fun K hK => ?_)
              go_simp
              obtain ⟨W9, hW9⟩ : ∃ W9, ((((W8.setCell ⟨c, 0, none⟩ (.int .u64 t.F)).setCell ⟨c, 1, none⟩ (.int .u64 t.H)).setCell ⟨c, 2, none⟩ (.int .i64 t.Y)).setCell ⟨c, 3, none⟩ (.int .i64 t.X)) = W9 := ⟨_, rfl⟩
              rw [hW9] at h13 hA13 ⊢
              replace h13 : Sep W9 B (CellsO p #[.slice r3 j cap3, .slice r4 j cap4] 39 :: RowO 3 1 (.slice (some ⟨gu, 0, none⟩) (j + 1) capu) (j + 1) (cellsI (m.map Th.id)) :: RowO 28 4 (.slice (some ⟨gv, 0, none⟩) (j + 1) (j + 1)) (j + 1) (flatK m) :: l ++ CellsO c #[.int .u64 t.F, .int .u64 t.H, .int .i64 t.Y, .int .i64 t.X] 28 :: [CellsO d #[.int .u64 t.F, .int .u64 t.H, .int .i64 t.Y, .int .i64 t.X] 28, RowO 3 1 (.slice r3 j cap3) j (cellsI ((m.map Th.id).take j)), RowO 28 4 (.slice r4 j cap4) j (flatK (m.take j))]) := h13
              obtain ⟨rd, _⟩ := Sep.cells (l1 := CellsO p #[.slice r3 j cap3, .slice r4 j cap4] 39 :: RowO 3 1 (.slice (some ⟨gu, 0, none⟩) (j + 1) capu) (j + 1) (cellsI (m.map Th.id)) :: RowO 28 4 (.slice (some ⟨gv, 0, none⟩) (j + 1) (j + 1)) (j + 1) (flatK m) :: (l ++ [CellsO c #[.int .u64 t.F, .int .u64 t.H, .int .i64 t.Y, .int .i64 t.X] 28])) (l2 := [RowO 3 1 (.slice r3 j cap3) j (cellsI ((m.map Th.id).take j)), RowO 28 4 (.slice r4 j cap4) j (flatK (m.take j))]) (by simpa only [List.cons_append, List.append_assoc, List.nil_append] using h13)
              obtain ⟨rcc, _⟩ := Sep.cells (l1 := CellsO p #[.slice r3 j cap3, .slice r4 j cap4] 39 :: RowO 3 1 (.slice (some ⟨gu, 0, none⟩) (j + 1) capu) (j + 1) (cellsI (m.map Th.id)) :: RowO 28 4 (.slice (some ⟨gv, 0, none⟩) (j + 1) (j + 1)) (j + 1) (flatK m) :: l) (l2 := [CellsO d #[.int .u64 t.F, .int .u64 t.H, .int .i64 t.Y, .int .i64 t.X] 28, RowO 3 1 (.slice r3 j cap3) j (cellsI ((m.map Th.id).take j)), RowO 28 4 (.slice r4 j cap4) j (flatK (m.take j))]) h13
              have hS9 : (fun w' : World => w'.cell? ⟨d, 0, none⟩ = some (.int .u64 t.F) ∧ w'.cell? ⟨d, 1, none⟩ = some (.int .u64 t.H) ∧ w'.cell? ⟨d, 2, none⟩ = some (.int .i64 t.Y) ∧ w'.cell? ⟨d, 3, none⟩ = some (.int .i64 t.X)) W9 := ⟨by simp [World.cell?, rd], by simp [World.cell?, rd], by simp [World.cell?, rd], by simp [World.cell?, rd]⟩
              have y0 : W9.cell? ⟨c, 0, none⟩ = some (.int .u64 t.F) := by simp [World.cell?, rcc]
              have y1 : W9.cell? ⟨c, 1, none⟩ = some (.int .u64 t.H) := by simp [World.cell?, rcc]
              have y2 : W9.cell? ⟨c, 2, none⟩ = some (.int .i64 t.Y) := by simp [World.cell?, rcc]
              have y3 : W9.cell? ⟨c, 3, none⟩ = some (.int .i64 t.X) := by simp [World.cell?, rcc]
              have HEND : Hid (Sep W9 B (RefL p (.slice r3 j cap3) (.slice r4 j cap4) (popM m) l)) := Lib.hid (by
                have g1 := Sep.drop (l1 := CellsO p #[.slice r3 j cap3, .slice r4 j cap4] 39 :: RowO 3 1 (.slice (some ⟨gu, 0, none⟩) (j + 1) capu) (j + 1) (cellsI (m.map Th.id)) :: RowO 28 4 (.slice (some ⟨gv, 0, none⟩) (j + 1) (j + 1)) (j + 1) (flatK m) :: l) (l2 := [CellsO d #[.int .u64 t.F, .int .u64 t.H, .int .i64 t.Y, .int .i64 t.X] 28, RowO 3 1 (.slice r3 j cap3) j (cellsI ((m.map Th.id).take j)), RowO 28 4 (.slice r4 j cap4) j (flatK (m.take j))]) h13
                have g2 := Sep.drop (l1 := CellsO p #[.slice r3 j cap3, .slice r4 j cap4] 39 :: RowO 3 1 (.slice (some ⟨gu, 0, none⟩) (j + 1) capu) (j + 1) (cellsI (m.map Th.id)) :: RowO 28 4 (.slice (some ⟨gv, 0, none⟩) (j + 1) (j + 1)) (j + 1) (flatK m) :: l) (l2 := [RowO 3 1 (.slice r3 j cap3) j (cellsI ((m.map Th.id).take j)), RowO 28 4 (.slice r4 j cap4) j (flatK (m.take j))]) g1
                have g3 := Sep.drop (l1 := [CellsO p #[.slice r3 j cap3, .slice r4 j cap4] 39]) (l2 := RowO 28 4 (.slice (some ⟨gv, 0, none⟩) (j + 1) (j + 1)) (j + 1) (flatK m) :: (l ++ [RowO 3 1 (.slice r3 j cap3) j (cellsI ((m.map Th.id).take j)), RowO 28 4 (.slice r4 j cap4) j (flatK (m.take j))])) g2
                have g4 := Sep.drop (l1 := [CellsO p #[.slice r3 j cap3, .slice r4 j cap4] 39]) (l2 := l ++ [RowO 3 1 (.slice r3 j cap3) j (cellsI ((m.map Th.id).take j)), RowO 28 4 (.slice r4 j cap4) j (flatK (m.take j))]) g3
                have g5 := g4.perm (l' := CellsO p #[.slice r3 j cap3, .slice r4 j cap4] 39 :: RowO 3 1 (.slice r3 j cap3) j (cellsI ((m.map Th.id).take j)) :: RowO 28 4 (.slice r4 j cap4) j (flatK (m.take j)) :: l) (List.Perm.cons _ (List.perm_append_comm (l₁ := l) (l₂ := [RowO 3 1 (.slice r3 j cap3) j (cellsI ((m.map Th.id).take j)), RowO 28 4 (.slice r4 j cap4) j (flatK (m.take j))])))
                have hd : m.drop (j + 1) = [] := List.drop_eq_nil_of_le (by rw [HML.out]; exact Nat.le_refl _)
                have hN : j = (popM m).length := by rw [HPOP.out, hd, List.append_nil, List.length_take, HML.out]; omega
                unfold RefL
                rw [← hN, HPOP.out, hd, List.append_nil, List.map_take]
                exact g5)
              have HAE := Lib.hid hA13
              clear hW9 q0 q1 q2 q3 f0 f1 f2 f3 t0 t1 t2 t3 rd rcc h13 hA13
              refine hK _ _ hS9 ?_
              clear hK K hH
              try simp only [Act.put, List.setIfInBounds_toArray, List.set_cons_zero, List.set_cons_succ]
              refine ordS_one (i := 4) (o := { dst := some 4, op := Op.assign (Operand.const (Value.bool true)), type := 4, pos := _, after := #[{ on := 3, ground := Ground.chain }, { on := 0, ground := Ground.phase }, { on := 1, ground := Ground.phase }, { on := 2, ground := Ground.phase }, { on := 3, ground := Ground.phase }], guard := none }) (by kernel_rfl) rfl (by rfl) (fun K hK => ?_)
              go_simp
              refine hK _ _ hS9 ?_
              clear hK K hS9
              try simp only [Act.put, List.setIfInBounds_toArray, List.set_cons_zero, List.set_cons_succ]
              refine ordS_done (by kernel_rfl) ?_
              go_wp2
              refine bodyPost_ret (v := .tuple #[.int .i64 t.id, .agg #[.int .u64 t.F, .int .u64 t.H, .int .i64 t.Y, .int .i64 t.X], .bool true]) (by simp [results, Try.results19, go_sem, y0, y1, y2, y3]) rfl ⟨by rw [HFT.out, HT.out, HE.out], ⟨_, _, HEND.out⟩, HAE.out⟩
            · skip
              go_wp2_with (at_builtin; refine wpList_append_manyR rfl _ _ rfl (l1 := CellsO p #[.slice r3 j cap3, .slice (some ⟨gv, 0, none⟩) (j + 1) capv] 39 :: RowO 3 1 (.slice (some ⟨gu, 0, none⟩) (j + 1) capu) (j + 1) (cellsI (m.map Th.id)) :: RowO 28 4 (.slice (some ⟨gv, 0, none⟩) (j + 1) capv) (j + 1) (flatK m) :: (l ++ [CellsO c #[.int .u64 0, .int .u64 0, .int .i64 0, .int .i64 0] 28, CellsO d #[.int .u64 t.F, .int .u64 t.H, .int .i64 t.Y, .int .i64 t.X] 28, RowO 3 1 (.slice r3 j cap3) j (cellsI ((m.map Th.id).take j))])) (l2 := []) (n := j) (xs := flatK (m.take j)) (B := B) (by simpa only [List.cons_append, List.append_assoc, List.nil_append] using h9) (by omega) (by rfl) ⟨gv, (j + 1) * 4, none⟩ 0 (capv - (j + 1)) [] (by rfl) (by rfl) (by omega) (fun i u hu => by simp at hu) (fun u hu => by simp at hu) ?_)
              intro v4 w8 h10 hb10
              replace h10 : Sep w8 B ((CellsO p #[.slice r3 j cap3, .slice (some ⟨gv, 0, none⟩) (j + 1) capv] 39 :: RowO 3 1 (.slice (some ⟨gu, 0, none⟩) (j + 1) capu) (j + 1) (cellsI (m.map Th.id)) :: RowO 28 4 (.slice (some ⟨gv, 0, none⟩) (j + 1) capv) (j + 1) (flatK m) :: (l ++ [CellsO c #[.int .u64 0, .int .u64 0, .int .i64 0, .int .i64 0] 28, CellsO d #[.int .u64 t.F, .int .u64 t.H, .int .i64 t.Y, .int .i64 t.X] 28, RowO 3 1 (.slice r3 j cap3) j (cellsI ((m.map Th.id).take j))])) ++ RowO 28 4 v4 j (flatK (m.take j)) :: []) := by simpa only [List.cons_append, List.append_assoc, List.nil_append, Nat.add_zero, List.append_nil] using h10
              have hA10 := hA9.trans hb10
              obtain ⟨r4, cap4, rfl, _⟩ := Sep.shape (l1 := CellsO p #[.slice r3 j cap3, .slice (some ⟨gv, 0, none⟩) (j + 1) capv] 39 :: RowO 3 1 (.slice (some ⟨gu, 0, none⟩) (j + 1) capu) (j + 1) (cellsI (m.map Th.id)) :: RowO 28 4 (.slice (some ⟨gv, 0, none⟩) (j + 1) capv) (j + 1) (flatK m) :: (l ++ [CellsO c #[.int .u64 0, .int .u64 0, .int .i64 0, .int .i64 0] 28, CellsO d #[.int .u64 t.F, .int .u64 t.H, .int .i64 t.Y, .int .i64 t.X] 28, RowO 3 1 (.slice r3 j cap3) j (cellsI ((m.map Th.id).take j))])) (l2 := []) (n := j) (xs := flatK (m.take j)) (by simpa only [List.cons_append, List.append_assoc, List.nil_append] using h10)
              replace h10 : Sep w8 B (CellsO p #[.slice r3 j cap3, .slice (some ⟨gv, 0, none⟩) (j + 1) capv] 39 :: RowO 3 1 (.slice (some ⟨gu, 0, none⟩) (j + 1) capu) (j + 1) (cellsI (m.map Th.id)) :: RowO 28 4 (.slice (some ⟨gv, 0, none⟩) (j + 1) capv) (j + 1) (flatK m) :: (l ++ [CellsO c #[.int .u64 0, .int .u64 0, .int .i64 0, .int .i64 0] 28, CellsO d #[.int .u64 t.F, .int .u64 t.H, .int .i64 t.Y, .int .i64 t.X] 28, RowO 3 1 (.slice r3 j cap3) j (cellsI ((m.map Th.id).take j)), RowO 28 4 (.slice r4 j cap4) j (flatK (m.take j))])) := by simpa only [List.cons_append, List.append_assoc, List.nil_append, flatK_drop', flatK_app] using h10
              clear h9 hA9 hb10 hv c1
              obtain ⟨rc, _⟩ := Sep.cells (l1 := []) h10
              have f1 : w8.frozen? ⟨p, 1, none⟩ = false := by simp [World.frozen?, rc]
              have c1 : w8.cell? ⟨p, 1, none⟩ = some (.slice (some ⟨gv, 0, none⟩) (j + 1) capv) := by simp [World.cell?, rc]
              have h11 := Sep.set (l1 := []) h10 1 (.slice r4 j cap4)
              rw [show (#[.slice r3 j cap3, .slice (some ⟨gv, 0, none⟩) (j + 1) capv] : Array Value).setIfInBounds 1 (.slice r4 j cap4) = #[.slice r3 j cap3, .slice r4 j cap4] from rfl, List.nil_append] at h11
              have hA11 := hA10.grown (hgrown_set w8 p 1 (.slice r4 j cap4)) h10.base (fun j e => by cases e; exact hBp)
              clear rc
              go_upto_region 15 with fail
              generalize hw9 : w8.setCell ⟨p, 1, none⟩ (.slice r4 j cap4) = w9 at *
              clear hw9 f1 c1 h10 hA10
              have hD := bl_dr (bl0 w9)
              have h12 := h11.below hD
              have hA12 := hA11.trans (hD.mono h11.base)
              obtain ⟨W8, hW8⟩ : ∃ W8, w9.drew = W8 := ⟨_, rfl⟩
              rw [hW8] at h12 hA12
              clear h11 hA11 hD
              obtain ⟨rd, _⟩ := Sep.cells (l1 := CellsO p #[.slice r3 j cap3, .slice r4 j cap4] 39 :: RowO 3 1 (.slice (some ⟨gu, 0, none⟩) (j + 1) capu) (j + 1) (cellsI (m.map Th.id)) :: RowO 28 4 (.slice (some ⟨gv, 0, none⟩) (j + 1) capv) (j + 1) (flatK m) :: (l ++ [CellsO c #[.int .u64 0, .int .u64 0, .int .i64 0, .int .i64 0] 28])) (l2 := [RowO 3 1 (.slice r3 j cap3) j (cellsI ((m.map Th.id).take j)), RowO 28 4 (.slice r4 j cap4) j (flatK (m.take j))]) (by simpa only [List.cons_append, List.append_assoc, List.nil_append] using h12)
              obtain ⟨rcc, hcB⟩ := Sep.cells (l1 := CellsO p #[.slice r3 j cap3, .slice r4 j cap4] 39 :: RowO 3 1 (.slice (some ⟨gu, 0, none⟩) (j + 1) capu) (j + 1) (cellsI (m.map Th.id)) :: RowO 28 4 (.slice (some ⟨gv, 0, none⟩) (j + 1) capv) (j + 1) (flatK m) :: l) (l2 := [CellsO d #[.int .u64 t.F, .int .u64 t.H, .int .i64 t.Y, .int .i64 t.X] 28, RowO 3 1 (.slice r3 j cap3) j (cellsI ((m.map Th.id).take j)), RowO 28 4 (.slice r4 j cap4) j (flatK (m.take j))]) h12
              have t0 : W8.cell? ⟨d, 0, none⟩ = some (.int .u64 t.F) := by simp [World.cell?, rd]
              have t1 : W8.cell? ⟨d, 1, none⟩ = some (.int .u64 t.H) := by simp [World.cell?, rd]
              have t2 : W8.cell? ⟨d, 2, none⟩ = some (.int .i64 t.Y) := by simp [World.cell?, rd]
              have t3 : W8.cell? ⟨d, 3, none⟩ = some (.int .i64 t.X) := by simp [World.cell?, rd]
              have q0 : W8.cell? ⟨c, 0, none⟩ = some (.int .u64 0) := by simp [World.cell?, rcc]
              have q1 : W8.cell? ⟨c, 1, none⟩ = some (.int .u64 0) := by simp [World.cell?, rcc]
              have q2 : W8.cell? ⟨c, 2, none⟩ = some (.int .i64 0) := by simp [World.cell?, rcc]
              have q3 : W8.cell? ⟨c, 3, none⟩ = some (.int .i64 0) := by simp [World.cell?, rcc]
              have f0 : W8.frozen? ⟨c, 0, none⟩ = false := by simp [World.frozen?, rcc]
              have f1 : W8.frozen? ⟨c, 1, none⟩ = false := by simp [World.frozen?, rcc]
              have f2 : W8.frozen? ⟨c, 2, none⟩ = false := by simp [World.frozen?, rcc]
              have f3 : W8.frozen? ⟨c, 3, none⟩ = false := by simp [World.frozen?, rcc]
              have h13 := Sep.set (l1 := CellsO p #[.slice r3 j cap3, .slice r4 j cap4] 39 :: RowO 3 1 (.slice (some ⟨gu, 0, none⟩) (j + 1) capu) (j + 1) (cellsI (m.map Th.id)) :: RowO 28 4 (.slice (some ⟨gv, 0, none⟩) (j + 1) capv) (j + 1) (flatK m) :: l) (l2 := [CellsO d #[.int .u64 t.F, .int .u64 t.H, .int .i64 t.Y, .int .i64 t.X] 28, RowO 3 1 (.slice r3 j cap3) j (cellsI ((m.map Th.id).take j)), RowO 28 4 (.slice r4 j cap4) j (flatK (m.take j))]) h12 0 (.int .u64 t.F)
              replace h13 := Sep.set (l1 := CellsO p #[.slice r3 j cap3, .slice r4 j cap4] 39 :: RowO 3 1 (.slice (some ⟨gu, 0, none⟩) (j + 1) capu) (j + 1) (cellsI (m.map Th.id)) :: RowO 28 4 (.slice (some ⟨gv, 0, none⟩) (j + 1) capv) (j + 1) (flatK m) :: l) (l2 := [CellsO d #[.int .u64 t.F, .int .u64 t.H, .int .i64 t.Y, .int .i64 t.X] 28, RowO 3 1 (.slice r3 j cap3) j (cellsI ((m.map Th.id).take j)), RowO 28 4 (.slice r4 j cap4) j (flatK (m.take j))]) h13 1 (.int .u64 t.H)
              replace h13 := Sep.set (l1 := CellsO p #[.slice r3 j cap3, .slice r4 j cap4] 39 :: RowO 3 1 (.slice (some ⟨gu, 0, none⟩) (j + 1) capu) (j + 1) (cellsI (m.map Th.id)) :: RowO 28 4 (.slice (some ⟨gv, 0, none⟩) (j + 1) capv) (j + 1) (flatK m) :: l) (l2 := [CellsO d #[.int .u64 t.F, .int .u64 t.H, .int .i64 t.Y, .int .i64 t.X] 28, RowO 3 1 (.slice r3 j cap3) j (cellsI ((m.map Th.id).take j)), RowO 28 4 (.slice r4 j cap4) j (flatK (m.take j))]) h13 2 (.int .i64 t.Y)
              replace h13 := Sep.set (l1 := CellsO p #[.slice r3 j cap3, .slice r4 j cap4] 39 :: RowO 3 1 (.slice (some ⟨gu, 0, none⟩) (j + 1) capu) (j + 1) (cellsI (m.map Th.id)) :: RowO 28 4 (.slice (some ⟨gv, 0, none⟩) (j + 1) capv) (j + 1) (flatK m) :: l) (l2 := [CellsO d #[.int .u64 t.F, .int .u64 t.H, .int .i64 t.Y, .int .i64 t.X] 28, RowO 3 1 (.slice r3 j cap3) j (cellsI ((m.map Th.id).take j)), RowO 28 4 (.slice r4 j cap4) j (flatK (m.take j))]) h13 3 (.int .i64 t.X)
              have p0 := hgrown_set W8 c 0 (.int .u64 t.F)
              have p1 := p0.trans (hgrown_set _ c 1 (.int .u64 t.H))
              have p2 := p1.trans (hgrown_set _ c 2 (.int .i64 t.Y))
              have p3 := p2.trans (hgrown_set _ c 3 (.int .i64 t.X))
              have hA13 := hA12.grown p3 h12.base (fun j e => by cases e; exact hcB)
              clear p0 p1 p2 p3 h12 hA12 rd rcc
              refine (wpIn_wide (n := 11)).1 ?_
              refine ordS_begin (S := (fun w' : World => w'.cell? ⟨d, 0, none⟩ = some (.int .u64 t.F) ∧ w'.cell? ⟨d, 1, none⟩ = some (.int .u64 t.H) ∧ w'.cell? ⟨d, 2, none⟩ = some (.int .i64 t.Y) ∧ w'.cell? ⟨d, 3, none⟩ = some (.int .i64 t.X))) (by kernel_rfl) (by rw [hW8]; exact ⟨t0, t1, t2, t3⟩) (fun hH => ?_)
              first
                | (refine' ordS_take (i := 0) (oi := { dst := some 132, op := Op.move (Operand.tmp 7), type := 3, pos := _, after := #[], guard := none }) (v := _) rfl (by kernel_rfl) (by kernel_rfl) (by kernel_rfl) (by kernel_rfl) (fun _ _ _ h => h) (by assumption) (Or.inl ⟨by rfl, ?hy270⟩) (fun _ => rfl) ?rest270
                   case hy270 => (intro w hSw; (try dsimp only at hSw); go_simp; try with_reducible rfl))
                | (refine ordS_take (i := 0) (oi := { dst := some 132, op := Op.move (Operand.tmp 7), type := 3, pos := _, after := #[], guard := none }) (v := undef) rfl (by kernel_rfl) (by kernel_rfl) (by kernel_rfl) (by kernel_rfl) (fun _ _ _ h => h) (by assumption) (Or.inr ⟨by rfl, rfl⟩) (fun _ => rfl) ?_)
              try simp only [Act.put, List.setIfInBounds_toArray, List.set_cons_zero, List.set_cons_succ]
              first
                | (refine' ordS_take (i := 1) (oi := { dst := some 133, op := Op.load 28 (Operand.tmp 8), type := 28, pos := _, after := #[{ on := 2, ground := Ground.gcOnly Departure.lateStores }], guard := none }) (v := _) rfl (by kernel_rfl) (by kernel_rfl) (by kernel_rfl) (by kernel_rfl) (fun _ _ _ h => h) (by assumption) (Or.inl ⟨by rfl, ?hy271⟩) (fun _ => rfl) ?rest271
                   case hy271 => (intro w hSw; (try dsimp only at hSw); go_simp; try with_reducible rfl))
                | (refine ordS_take (i := 1) (oi := { dst := some 133, op := Op.load 28 (Operand.tmp 8), type := 28, pos := _, after := #[{ on := 2, ground := Ground.gcOnly Departure.lateStores }], guard := none }) (v := undef) rfl (by kernel_rfl) (by kernel_rfl) (by kernel_rfl) (by kernel_rfl) (fun _ _ _ h => h) (by assumption) (Or.inr ⟨by rfl, rfl⟩) (fun _ => rfl) ?_)
              try simp only [Act.put, List.setIfInBounds_toArray, List.set_cons_zero, List.set_cons_succ]
              first
                | (refine' ordS_take (i := 2) (oi := { dst := some 2, op := Op.assign (Operand.tmp 132), type := 3, pos := _, after := #[{ on := 0, ground := Ground.data }, { on := 0, ground := Ground.phase }, { on := 1, ground := Ground.textOnly Departure.lateStores }], guard := none }) (v := _) rfl (by kernel_rfl) (by kernel_rfl) (by kernel_rfl) (by kernel_rfl) (fun _ _ _ h => h) (by assumption) (Or.inl ⟨by rfl, ?hy272⟩) (fun _ => rfl) ?rest272
                   case hy272 => (intro w hSw; (try dsimp only at hSw); go_simp; try with_reducible rfl))
                | (refine ordS_take (i := 2) (oi := { dst := some 2, op := Op.assign (Operand.tmp 132), type := 3, pos := _, after := #[{ on := 0, ground := Ground.data }, { on := 0, ground := Ground.phase }, { on := 1, ground := Ground.textOnly Departure.lateStores }], guard := none }) (v := undef) rfl (by kernel_rfl) (by kernel_rfl) (by kernel_rfl) (by kernel_rfl) (fun _ _ _ h => h) (by assumption) (Or.inr ⟨by rfl, rfl⟩) (fun _ => rfl) ?_)
              try simp only [Act.put, List.setIfInBounds_toArray, List.set_cons_zero, List.set_cons_succ]
              rw [hW8] at hH ⊢
              clear hW8
              refine ordS_one (i := 3) (o := { dst := none, op := Op.store 28 (Operand.tmp 3) (Operand.tmp 133), type := 0, pos := _, after := #[{ on := 1, ground := Ground.data }, { on := 2, ground := Ground.chain }, { on := 0, ground := Ground.phase }, { on := 1, ground := Ground.phase }, { on := 2, ground := Ground.phase }], guard := none }) (by kernel_rfl) rfl (by rfl) (fun K hK => ?_)
              go_simp
              obtain ⟨W9, hW9⟩ : ∃ W9, ((((W8.setCell ⟨c, 0, none⟩ (.int .u64 t.F)).setCell ⟨c, 1, none⟩ (.int .u64 t.H)).setCell ⟨c, 2, none⟩ (.int .i64 t.Y)).setCell ⟨c, 3, none⟩ (.int .i64 t.X)) = W9 := ⟨_, rfl⟩
              rw [hW9] at h13 hA13 ⊢
              replace h13 : Sep W9 B (CellsO p #[.slice r3 j cap3, .slice r4 j cap4] 39 :: RowO 3 1 (.slice (some ⟨gu, 0, none⟩) (j + 1) capu) (j + 1) (cellsI (m.map Th.id)) :: RowO 28 4 (.slice (some ⟨gv, 0, none⟩) (j + 1) capv) (j + 1) (flatK m) :: l ++ CellsO c #[.int .u64 t.F, .int .u64 t.H, .int .i64 t.Y, .int .i64 t.X] 28 :: [CellsO d #[.int .u64 t.F, .int .u64 t.H, .int .i64 t.Y, .int .i64 t.X] 28, RowO 3 1 (.slice r3 j cap3) j (cellsI ((m.map Th.id).take j)), RowO 28 4 (.slice r4 j cap4) j (flatK (m.take j))]) := h13
              obtain ⟨rd, _⟩ := Sep.cells (l1 := CellsO p #[.slice r3 j cap3, .slice r4 j cap4] 39 :: RowO 3 1 (.slice (some ⟨gu, 0, none⟩) (j + 1) capu) (j + 1) (cellsI (m.map Th.id)) :: RowO 28 4 (.slice (some ⟨gv, 0, none⟩) (j + 1) capv) (j + 1) (flatK m) :: (l ++ [CellsO c #[.int .u64 t.F, .int .u64 t.H, .int .i64 t.Y, .int .i64 t.X] 28])) (l2 := [RowO 3 1 (.slice r3 j cap3) j (cellsI ((m.map Th.id).take j)), RowO 28 4 (.slice r4 j cap4) j (flatK (m.take j))]) (by simpa only [List.cons_append, List.append_assoc, List.nil_append] using h13)
              obtain ⟨rcc, _⟩ := Sep.cells (l1 := CellsO p #[.slice r3 j cap3, .slice r4 j cap4] 39 :: RowO 3 1 (.slice (some ⟨gu, 0, none⟩) (j + 1) capu) (j + 1) (cellsI (m.map Th.id)) :: RowO 28 4 (.slice (some ⟨gv, 0, none⟩) (j + 1) capv) (j + 1) (flatK m) :: l) (l2 := [CellsO d #[.int .u64 t.F, .int .u64 t.H, .int .i64 t.Y, .int .i64 t.X] 28, RowO 3 1 (.slice r3 j cap3) j (cellsI ((m.map Th.id).take j)), RowO 28 4 (.slice r4 j cap4) j (flatK (m.take j))]) h13
              have hS9 : (fun w' : World => w'.cell? ⟨d, 0, none⟩ = some (.int .u64 t.F) ∧ w'.cell? ⟨d, 1, none⟩ = some (.int .u64 t.H) ∧ w'.cell? ⟨d, 2, none⟩ = some (.int .i64 t.Y) ∧ w'.cell? ⟨d, 3, none⟩ = some (.int .i64 t.X)) W9 := ⟨by simp [World.cell?, rd], by simp [World.cell?, rd], by simp [World.cell?, rd], by simp [World.cell?, rd]⟩
              have y0 : W9.cell? ⟨c, 0, none⟩ = some (.int .u64 t.F) := by simp [World.cell?, rcc]
              have y1 : W9.cell? ⟨c, 1, none⟩ = some (.int .u64 t.H) := by simp [World.cell?, rcc]
              have y2 : W9.cell? ⟨c, 2, none⟩ = some (.int .i64 t.Y) := by simp [World.cell?, rcc]
              have y3 : W9.cell? ⟨c, 3, none⟩ = some (.int .i64 t.X) := by simp [World.cell?, rcc]
              have HEND : Hid (Sep W9 B (RefL p (.slice r3 j cap3) (.slice r4 j cap4) (popM m) l)) := Lib.hid (by
                have g1 := Sep.drop (l1 := CellsO p #[.slice r3 j cap3, .slice r4 j cap4] 39 :: RowO 3 1 (.slice (some ⟨gu, 0, none⟩) (j + 1) capu) (j + 1) (cellsI (m.map Th.id)) :: RowO 28 4 (.slice (some ⟨gv, 0, none⟩) (j + 1) capv) (j + 1) (flatK m) :: l) (l2 := [CellsO d #[.int .u64 t.F, .int .u64 t.H, .int .i64 t.Y, .int .i64 t.X] 28, RowO 3 1 (.slice r3 j cap3) j (cellsI ((m.map Th.id).take j)), RowO 28 4 (.slice r4 j cap4) j (flatK (m.take j))]) h13
                have g2 := Sep.drop (l1 := CellsO p #[.slice r3 j cap3, .slice r4 j cap4] 39 :: RowO 3 1 (.slice (some ⟨gu, 0, none⟩) (j + 1) capu) (j + 1) (cellsI (m.map Th.id)) :: RowO 28 4 (.slice (some ⟨gv, 0, none⟩) (j + 1) capv) (j + 1) (flatK m) :: l) (l2 := [RowO 3 1 (.slice r3 j cap3) j (cellsI ((m.map Th.id).take j)), RowO 28 4 (.slice r4 j cap4) j (flatK (m.take j))]) g1
                have g3 := Sep.drop (l1 := [CellsO p #[.slice r3 j cap3, .slice r4 j cap4] 39]) (l2 := RowO 28 4 (.slice (some ⟨gv, 0, none⟩) (j + 1) capv) (j + 1) (flatK m) :: (l ++ [RowO 3 1 (.slice r3 j cap3) j (cellsI ((m.map Th.id).take j)), RowO 28 4 (.slice r4 j cap4) j (flatK (m.take j))])) g2
                have g4 := Sep.drop (l1 := [CellsO p #[.slice r3 j cap3, .slice r4 j cap4] 39]) (l2 := l ++ [RowO 3 1 (.slice r3 j cap3) j (cellsI ((m.map Th.id).take j)), RowO 28 4 (.slice r4 j cap4) j (flatK (m.take j))]) g3
                have g5 := g4.perm (l' := CellsO p #[.slice r3 j cap3, .slice r4 j cap4] 39 :: RowO 3 1 (.slice r3 j cap3) j (cellsI ((m.map Th.id).take j)) :: RowO 28 4 (.slice r4 j cap4) j (flatK (m.take j)) :: l) (List.Perm.cons _ (List.perm_append_comm (l₁ := l) (l₂ := [RowO 3 1 (.slice r3 j cap3) j (cellsI ((m.map Th.id).take j)), RowO 28 4 (.slice r4 j cap4) j (flatK (m.take j))])))
                have hd : m.drop (j + 1) = [] := List.drop_eq_nil_of_le (by rw [HML.out]; exact Nat.le_refl _)
                have hN : j = (popM m).length := by rw [HPOP.out, hd, List.append_nil, List.length_take, HML.out]; omega
                unfold RefL
                rw [← hN, HPOP.out, hd, List.append_nil, List.map_take]
                exact g5)
              have HAE := Lib.hid hA13
              clear hW9 q0 q1 q2 q3 f0 f1 f2 f3 t0 t1 t2 t3 rd rcc h13 hA13
              refine hK _ _ hS9 ?_
              clear hK K hH
              try simp only [Act.put, List.setIfInBounds_toArray, List.set_cons_zero, List.set_cons_succ]
              refine ordS_one (i := 4) (o := { dst := some 4, op := Op.assign (Operand.const (Value.bool true)), type := 4, pos := _, after := #[{ on := 3, ground := Ground.chain }, { on := 0, ground := Ground.phase }, { on := 1, ground := Ground.phase }, { on := 2, ground := Ground.phase }, { on := 3, ground := Ground.phase }], guard := none }) (by kernel_rfl) rfl (by rfl) (fun K hK => ?_)
              go_simp
              refine hK _ _ hS9 ?_
              clear hK K hS9
              try simp only [Act.put, List.setIfInBounds_toArray, List.set_cons_zero, List.set_cons_succ]
              refine ordS_done (by kernel_rfl) ?_
              go_wp2
              refine bodyPost_ret (v := .tuple #[.int .i64 t.id, .agg #[.int .u64 t.F, .int .u64 t.H, .int .i64 t.Y, .int .i64 t.X], .bool true]) (by simp [results, Try.results19, go_sem, y0, y1, y2, y3]) rfl ⟨by rw [HFT.out, HT.out, HE.out], ⟨_, _, HEND.out⟩, HAE.out⟩
        · have hcap : ¬capu = j + 1 := by omega
          have hcap2 : ¬capv = j + 1 := by omega
          go_wp2_with (at_builtin; refine wpList_append_manyI rfl _ _ rfl (l1 := CellsO p #[.slice (some ⟨gu, 0, none⟩) m.length capu, .slice (some ⟨gv, 0, none⟩) m.length capv] 39 :: RowO 3 1 (.slice (some ⟨gu, 0, none⟩) m.length capu) m.length (cellsI (m.map Th.id)) :: RowO 28 4 (.slice (some ⟨gv, 0, none⟩) m.length capv) m.length (flatK m) :: (l ++ [CellsO c #[.int .u64 0, .int .u64 0, .int .i64 0, .int .i64 0] 28, CellsO d #[.int .u64 t.F, .int .u64 t.H, .int .i64 t.Y, .int .i64 t.X] 28])) (l2 := [RowO 28 4 v2 j (flatK (m.take j))]) (n := j) (xs := cellsI ((m.map Th.id).take j)) (B := B) (by simpa only [List.cons_append, List.append_assoc, List.nil_append] using h7) (by omega) (by rfl) ⟨gu, j + 1, none⟩ (m.length - (j + 1)) (capu - (j + 1)) ((cellsI (m.map Th.id)).drop (j + 1)) (by rfl) (by rw [List.length_drop, cellsI_len, List.length_map]; omega) (by omega) (drop_cells hi) (fun u hu => cellsI_one _ u (List.mem_of_mem_drop hu)) ?_)
          intro v3 w6 h8 hb8
          have hA8 := hA7.trans hb8
          obtain ⟨r3, cap3, rfl, _⟩ := Sep.shape (l1 := CellsO p #[.slice (some ⟨gu, 0, none⟩) m.length capu, .slice (some ⟨gv, 0, none⟩) m.length capv] 39 :: RowO 3 1 (.slice (some ⟨gu, 0, none⟩) m.length capu) m.length (cellsI (m.map Th.id)) :: RowO 28 4 (.slice (some ⟨gv, 0, none⟩) m.length capv) m.length (flatK m) :: (l ++ [CellsO c #[.int .u64 0, .int .u64 0, .int .i64 0, .int .i64 0] 28, CellsO d #[.int .u64 t.F, .int .u64 t.H, .int .i64 t.Y, .int .i64 t.X] 28])) (l2 := [RowO 28 4 v2 j (flatK (m.take j))]) (n := (j + (m.length - (j + 1)))) (xs := cellsI ((m.map Th.id).take j) ++ (cellsI (m.map Th.id)).drop (j + 1)) (by simpa only [List.cons_append, List.append_assoc, List.nil_append] using h8)
          replace h8 : Sep w6 B (CellsO p #[.slice (some ⟨gu, 0, none⟩) m.length capu, .slice (some ⟨gv, 0, none⟩) m.length capv] 39 :: RowO 3 1 (.slice (some ⟨gu, 0, none⟩) m.length capu) m.length (cellsI (m.map Th.id)) :: RowO 28 4 (.slice (some ⟨gv, 0, none⟩) m.length capv) m.length (flatK m) :: (l ++ [CellsO c #[.int .u64 0, .int .u64 0, .int .i64 0, .int .i64 0] 28, CellsO d #[.int .u64 t.F, .int .u64 t.H, .int .i64 t.Y, .int .i64 t.X] 28, RowO 3 1 (.slice r3 (j + (m.length - (j + 1))) cap3) (j + (m.length - (j + 1))) (cellsI ((m.map Th.id).take j ++ (m.map Th.id).drop (j + 1))), RowO 28 4 v2 j (flatK (m.take j))])) := by simpa only [List.cons_append, List.append_assoc, List.nil_append, cellsI_drop, cellsI_app] using h8
          clear h7 hA7 hb8 hi c0
          obtain ⟨rc, _⟩ := Sep.cells (l1 := []) h8
          have f0 : w6.frozen? ⟨p, 0, none⟩ = false := by simp [World.frozen?, rc]
          have c0 : w6.cell? ⟨p, 0, none⟩ = some (.slice (some ⟨gu, 0, none⟩) m.length capu) := by simp [World.cell?, rc]
          have h9 := Sep.set (l1 := []) h8 0 (.slice r3 (j + (m.length - (j + 1))) cap3)
          rw [show (#[.slice (some ⟨gu, 0, none⟩) m.length capu, .slice (some ⟨gv, 0, none⟩) m.length capv] : Array Value).setIfInBounds 0 (.slice r3 (j + (m.length - (j + 1))) cap3) = #[.slice r3 (j + (m.length - (j + 1))) cap3, .slice (some ⟨gv, 0, none⟩) m.length capv] from rfl, List.nil_append] at h9
          have hA9 := hA8.grown (hgrown_set w6 p 0 (.slice r3 (j + (m.length - (j + 1))) cap3)) h8.base (fun j e => by cases e; exact hBp)
          clear rc
          go_upto_region 14 with fail
          generalize hw7 : w6.setCell ⟨p, 0, none⟩ (.slice r3 (j + (m.length - (j + 1))) cap3) = w7 at *
          clear hw7 f0 c0 h8 hA8
          obtain ⟨rc, _⟩ := Sep.cells (l1 := []) h9
          have c1 : w7.cell? ⟨p, 1, none⟩ = some (.slice (some ⟨gv, 0, none⟩) m.length capv) := by simp [World.cell?, rc]
          clear rc
          obtain ⟨hv, _, _, _, _⟩ := Sep.row (l1 := [CellsO p #[.slice r3 (j + (m.length - (j + 1))) cap3, .slice (some ⟨gv, 0, none⟩) m.length capv] 39, RowO 3 1 (.slice (some ⟨gu, 0, none⟩) m.length capu) m.length (cellsI (m.map Th.id))]) h9
          go_wp2_with (at_builtin; refine wpList_append_manyR rfl _ _ rfl (l1 := CellsO p #[.slice r3 (j + (m.length - (j + 1))) cap3, .slice (some ⟨gv, 0, none⟩) m.length capv] 39 :: RowO 3 1 (.slice (some ⟨gu, 0, none⟩) m.length capu) m.length (cellsI (m.map Th.id)) :: RowO 28 4 (.slice (some ⟨gv, 0, none⟩) m.length capv) m.length (flatK m) :: (l ++ [CellsO c #[.int .u64 0, .int .u64 0, .int .i64 0, .int .i64 0] 28, CellsO d #[.int .u64 t.F, .int .u64 t.H, .int .i64 t.Y, .int .i64 t.X] 28, RowO 3 1 (.slice r3 (j + (m.length - (j + 1))) cap3) (j + (m.length - (j + 1))) (cellsI ((m.map Th.id).take j ++ (m.map Th.id).drop (j + 1)))])) (l2 := []) (n := j) (xs := flatK (m.take j)) (B := B) (by simpa only [List.cons_append, List.append_assoc, List.nil_append] using h9) (by omega) (by rfl) ⟨gv, (j + 1) * 4, none⟩ (m.length - (j + 1)) (capv - (j + 1)) ((flatK m).drop ((j + 1) * 4)) (by rfl) (by rw [List.length_drop, flatK_len]; omega) (by omega) (drop_cells hv) (fun u hu => flatK_one _ u (List.mem_of_mem_drop hu)) ?_)
          intro v4 w8 h10 hb10
          have hA10 := hA9.trans hb10
          obtain ⟨r4, cap4, rfl, _⟩ := Sep.shape (l1 := CellsO p #[.slice r3 (j + (m.length - (j + 1))) cap3, .slice (some ⟨gv, 0, none⟩) m.length capv] 39 :: RowO 3 1 (.slice (some ⟨gu, 0, none⟩) m.length capu) m.length (cellsI (m.map Th.id)) :: RowO 28 4 (.slice (some ⟨gv, 0, none⟩) m.length capv) m.length (flatK m) :: (l ++ [CellsO c #[.int .u64 0, .int .u64 0, .int .i64 0, .int .i64 0] 28, CellsO d #[.int .u64 t.F, .int .u64 t.H, .int .i64 t.Y, .int .i64 t.X] 28, RowO 3 1 (.slice r3 (j + (m.length - (j + 1))) cap3) (j + (m.length - (j + 1))) (cellsI ((m.map Th.id).take j ++ (m.map Th.id).drop (j + 1)))])) (l2 := []) (n := (j + (m.length - (j + 1)))) (xs := flatK (m.take j) ++ (flatK m).drop ((j + 1) * 4)) (by simpa only [List.cons_append, List.append_assoc, List.nil_append] using h10)
          replace h10 : Sep w8 B (CellsO p #[.slice r3 (j + (m.length - (j + 1))) cap3, .slice (some ⟨gv, 0, none⟩) m.length capv] 39 :: RowO 3 1 (.slice (some ⟨gu, 0, none⟩) m.length capu) m.length (cellsI (m.map Th.id)) :: RowO 28 4 (.slice (some ⟨gv, 0, none⟩) m.length capv) m.length (flatK m) :: (l ++ [CellsO c #[.int .u64 0, .int .u64 0, .int .i64 0, .int .i64 0] 28, CellsO d #[.int .u64 t.F, .int .u64 t.H, .int .i64 t.Y, .int .i64 t.X] 28, RowO 3 1 (.slice r3 (j + (m.length - (j + 1))) cap3) (j + (m.length - (j + 1))) (cellsI ((m.map Th.id).take j ++ (m.map Th.id).drop (j + 1))), RowO 28 4 (.slice r4 (j + (m.length - (j + 1))) cap4) (j + (m.length - (j + 1))) (flatK (m.take j ++ m.drop (j + 1)))])) := by simpa only [List.cons_append, List.append_assoc, List.nil_append, flatK_drop', flatK_app] using h10
          clear h9 hA9 hb10 hv c1
          obtain ⟨rc, _⟩ := Sep.cells (l1 := []) h10
          have f1 : w8.frozen? ⟨p, 1, none⟩ = false := by simp [World.frozen?, rc]
          have c1 : w8.cell? ⟨p, 1, none⟩ = some (.slice (some ⟨gv, 0, none⟩) m.length capv) := by simp [World.cell?, rc]
          have h11 := Sep.set (l1 := []) h10 1 (.slice r4 (j + (m.length - (j + 1))) cap4)
          rw [show (#[.slice r3 (j + (m.length - (j + 1))) cap3, .slice (some ⟨gv, 0, none⟩) m.length capv] : Array Value).setIfInBounds 1 (.slice r4 (j + (m.length - (j + 1))) cap4) = #[.slice r3 (j + (m.length - (j + 1))) cap3, .slice r4 (j + (m.length - (j + 1))) cap4] from rfl, List.nil_append] at h11
          have hA11 := hA10.grown (hgrown_set w8 p 1 (.slice r4 (j + (m.length - (j + 1))) cap4)) h10.base (fun j e => by cases e; exact hBp)
          clear rc
          go_upto_region 15 with fail
          generalize hw9 : w8.setCell ⟨p, 1, none⟩ (.slice r4 (j + (m.length - (j + 1))) cap4) = w9 at *
          clear hw9 f1 c1 h10 hA10
          have hD := bl_dr (bl0 w9)
          have h12 := h11.below hD
          have hA12 := hA11.trans (hD.mono h11.base)
          obtain ⟨W8, hW8⟩ : ∃ W8, w9.drew = W8 := ⟨_, rfl⟩
          rw [hW8] at h12 hA12
          clear h11 hA11 hD
          obtain ⟨rd, _⟩ := Sep.cells (l1 := CellsO p #[.slice r3 (j + (m.length - (j + 1))) cap3, .slice r4 (j + (m.length - (j + 1))) cap4] 39 :: RowO 3 1 (.slice (some ⟨gu, 0, none⟩) m.length capu) m.length (cellsI (m.map Th.id)) :: RowO 28 4 (.slice (some ⟨gv, 0, none⟩) m.length capv) m.length (flatK m) :: (l ++ [CellsO c #[.int .u64 0, .int .u64 0, .int .i64 0, .int .i64 0] 28])) (l2 := [RowO 3 1 (.slice r3 (j + (m.length - (j + 1))) cap3) (j + (m.length - (j + 1))) (cellsI ((m.map Th.id).take j ++ (m.map Th.id).drop (j + 1))), RowO 28 4 (.slice r4 (j + (m.length - (j + 1))) cap4) (j + (m.length - (j + 1))) (flatK (m.take j ++ m.drop (j + 1)))]) (by simpa only [List.cons_append, List.append_assoc, List.nil_append] using h12)
          obtain ⟨rcc, hcB⟩ := Sep.cells (l1 := CellsO p #[.slice r3 (j + (m.length - (j + 1))) cap3, .slice r4 (j + (m.length - (j + 1))) cap4] 39 :: RowO 3 1 (.slice (some ⟨gu, 0, none⟩) m.length capu) m.length (cellsI (m.map Th.id)) :: RowO 28 4 (.slice (some ⟨gv, 0, none⟩) m.length capv) m.length (flatK m) :: l) (l2 := [CellsO d #[.int .u64 t.F, .int .u64 t.H, .int .i64 t.Y, .int .i64 t.X] 28, RowO 3 1 (.slice r3 (j + (m.length - (j + 1))) cap3) (j + (m.length - (j + 1))) (cellsI ((m.map Th.id).take j ++ (m.map Th.id).drop (j + 1))), RowO 28 4 (.slice r4 (j + (m.length - (j + 1))) cap4) (j + (m.length - (j + 1))) (flatK (m.take j ++ m.drop (j + 1)))]) h12
          have t0 : W8.cell? ⟨d, 0, none⟩ = some (.int .u64 t.F) := by simp [World.cell?, rd]
          have t1 : W8.cell? ⟨d, 1, none⟩ = some (.int .u64 t.H) := by simp [World.cell?, rd]
          have t2 : W8.cell? ⟨d, 2, none⟩ = some (.int .i64 t.Y) := by simp [World.cell?, rd]
          have t3 : W8.cell? ⟨d, 3, none⟩ = some (.int .i64 t.X) := by simp [World.cell?, rd]
          have q0 : W8.cell? ⟨c, 0, none⟩ = some (.int .u64 0) := by simp [World.cell?, rcc]
          have q1 : W8.cell? ⟨c, 1, none⟩ = some (.int .u64 0) := by simp [World.cell?, rcc]
          have q2 : W8.cell? ⟨c, 2, none⟩ = some (.int .i64 0) := by simp [World.cell?, rcc]
          have q3 : W8.cell? ⟨c, 3, none⟩ = some (.int .i64 0) := by simp [World.cell?, rcc]
          have f0 : W8.frozen? ⟨c, 0, none⟩ = false := by simp [World.frozen?, rcc]
          have f1 : W8.frozen? ⟨c, 1, none⟩ = false := by simp [World.frozen?, rcc]
          have f2 : W8.frozen? ⟨c, 2, none⟩ = false := by simp [World.frozen?, rcc]
          have f3 : W8.frozen? ⟨c, 3, none⟩ = false := by simp [World.frozen?, rcc]
          have h13 := Sep.set (l1 := CellsO p #[.slice r3 (j + (m.length - (j + 1))) cap3, .slice r4 (j + (m.length - (j + 1))) cap4] 39 :: RowO 3 1 (.slice (some ⟨gu, 0, none⟩) m.length capu) m.length (cellsI (m.map Th.id)) :: RowO 28 4 (.slice (some ⟨gv, 0, none⟩) m.length capv) m.length (flatK m) :: l) (l2 := [CellsO d #[.int .u64 t.F, .int .u64 t.H, .int .i64 t.Y, .int .i64 t.X] 28, RowO 3 1 (.slice r3 (j + (m.length - (j + 1))) cap3) (j + (m.length - (j + 1))) (cellsI ((m.map Th.id).take j ++ (m.map Th.id).drop (j + 1))), RowO 28 4 (.slice r4 (j + (m.length - (j + 1))) cap4) (j + (m.length - (j + 1))) (flatK (m.take j ++ m.drop (j + 1)))]) h12 0 (.int .u64 t.F)
          replace h13 := Sep.set (l1 := CellsO p #[.slice r3 (j + (m.length - (j + 1))) cap3, .slice r4 (j + (m.length - (j + 1))) cap4] 39 :: RowO 3 1 (.slice (some ⟨gu, 0, none⟩) m.length capu) m.length (cellsI (m.map Th.id)) :: RowO 28 4 (.slice (some ⟨gv, 0, none⟩) m.length capv) m.length (flatK m) :: l) (l2 := [CellsO d #[.int .u64 t.F, .int .u64 t.H, .int .i64 t.Y, .int .i64 t.X] 28, RowO 3 1 (.slice r3 (j + (m.length - (j + 1))) cap3) (j + (m.length - (j + 1))) (cellsI ((m.map Th.id).take j ++ (m.map Th.id).drop (j + 1))), RowO 28 4 (.slice r4 (j + (m.length - (j + 1))) cap4) (j + (m.length - (j + 1))) (flatK (m.take j ++ m.drop (j + 1)))]) h13 1 (.int .u64 t.H)
          replace h13 := Sep.set (l1 := CellsO p #[.slice r3 (j + (m.length - (j + 1))) cap3, .slice r4 (j + (m.length - (j + 1))) cap4] 39 :: RowO 3 1 (.slice (some ⟨gu, 0, none⟩) m.length capu) m.length (cellsI (m.map Th.id)) :: RowO 28 4 (.slice (some ⟨gv, 0, none⟩) m.length capv) m.length (flatK m) :: l) (l2 := [CellsO d #[.int .u64 t.F, .int .u64 t.H, .int .i64 t.Y, .int .i64 t.X] 28, RowO 3 1 (.slice r3 (j + (m.length - (j + 1))) cap3) (j + (m.length - (j + 1))) (cellsI ((m.map Th.id).take j ++ (m.map Th.id).drop (j + 1))), RowO 28 4 (.slice r4 (j + (m.length - (j + 1))) cap4) (j + (m.length - (j + 1))) (flatK (m.take j ++ m.drop (j + 1)))]) h13 2 (.int .i64 t.Y)
          replace h13 := Sep.set (l1 := CellsO p #[.slice r3 (j + (m.length - (j + 1))) cap3, .slice r4 (j + (m.length - (j + 1))) cap4] 39 :: RowO 3 1 (.slice (some ⟨gu, 0, none⟩) m.length capu) m.length (cellsI (m.map Th.id)) :: RowO 28 4 (.slice (some ⟨gv, 0, none⟩) m.length capv) m.length (flatK m) :: l) (l2 := [CellsO d #[.int .u64 t.F, .int .u64 t.H, .int .i64 t.Y, .int .i64 t.X] 28, RowO 3 1 (.slice r3 (j + (m.length - (j + 1))) cap3) (j + (m.length - (j + 1))) (cellsI ((m.map Th.id).take j ++ (m.map Th.id).drop (j + 1))), RowO 28 4 (.slice r4 (j + (m.length - (j + 1))) cap4) (j + (m.length - (j + 1))) (flatK (m.take j ++ m.drop (j + 1)))]) h13 3 (.int .i64 t.X)
          have p0 := hgrown_set W8 c 0 (.int .u64 t.F)
          have p1 := p0.trans (hgrown_set _ c 1 (.int .u64 t.H))
          have p2 := p1.trans (hgrown_set _ c 2 (.int .i64 t.Y))
          have p3 := p2.trans (hgrown_set _ c 3 (.int .i64 t.X))
          have hA13 := hA12.grown p3 h12.base (fun j e => by cases e; exact hcB)
          clear p0 p1 p2 p3 h12 hA12 rd rcc
          refine (wpIn_wide (n := 11)).1 ?_
          refine ordS_begin (S := (fun w' : World => w'.cell? ⟨d, 0, none⟩ = some (.int .u64 t.F) ∧ w'.cell? ⟨d, 1, none⟩ = some (.int .u64 t.H) ∧ w'.cell? ⟨d, 2, none⟩ = some (.int .i64 t.Y) ∧ w'.cell? ⟨d, 3, none⟩ = some (.int .i64 t.X))) (by kernel_rfl) (by rw [hW8]; exact ⟨t0, t1, t2, t3⟩) (fun hH => ?_)
          first
            | (refine' ordS_take (i := 0) (oi := { dst := some 132, op := Op.move (Operand.tmp 7), type := 3, pos := _, after := #[], guard := none }) (v := _) rfl (by kernel_rfl) (by kernel_rfl) (by kernel_rfl) (by kernel_rfl) (fun _ _ _ h => h) (by assumption) (Or.inl ⟨by rfl, ?hy273⟩) (fun _ => rfl) ?rest273
               case hy273 => (intro w hSw; (try dsimp only at hSw); go_simp; try with_reducible rfl))
            | (refine ordS_take (i := 0) (oi := { dst := some 132, op := Op.move (Operand.tmp 7), type := 3, pos := _, after := #[], guard := none }) (v := undef) rfl (by kernel_rfl) (by kernel_rfl) (by kernel_rfl) (by kernel_rfl) (fun _ _ _ h => h) (by assumption) (Or.inr ⟨by rfl, rfl⟩) (fun _ => rfl) ?_)
          try simp only [Act.put, List.setIfInBounds_toArray, List.set_cons_zero, List.set_cons_succ]
          first
            | (refine' ordS_take (i := 1) (oi := { dst := some 133, op := Op.load 28 (Operand.tmp 8), type := 28, pos := _, after := #[{ on := 2, ground := Ground.gcOnly Departure.lateStores }], guard := none }) (v := _) rfl (by kernel_rfl) (by kernel_rfl) (by kernel_rfl) (by kernel_rfl) (fun _ _ _ h => h) (by assumption) (Or.inl ⟨by rfl, ?hy274⟩) (fun _ => rfl) ?rest274
               case hy274 => (intro w hSw; (try dsimp only at hSw); go_simp; try with_reducible rfl))
            | (refine ordS_take (i := 1) (oi := { dst := some 133, op := Op.load 28 (Operand.tmp 8), type := 28, pos := _, after := #[{ on := 2, ground := Ground.gcOnly Departure.lateStores }], guard := none }) (v := undef) rfl (by kernel_rfl) (by kernel_rfl) (by kernel_rfl) (by kernel_rfl) (fun _ _ _ h => h) (by assumption) (Or.inr ⟨by rfl, rfl⟩) (fun _ => rfl) ?_)
          try simp only [Act.put, List.setIfInBounds_toArray, List.set_cons_zero, List.set_cons_succ]
          first
            | (refine' ordS_take (i := 2) (oi := { dst := some 2, op := Op.assign (Operand.tmp 132), type := 3, pos := _, after := #[{ on := 0, ground := Ground.data }, { on := 0, ground := Ground.phase }, { on := 1, ground := Ground.textOnly Departure.lateStores }], guard := none }) (v := _) rfl (by kernel_rfl) (by kernel_rfl) (by kernel_rfl) (by kernel_rfl) (fun _ _ _ h => h) (by assumption) (Or.inl ⟨by rfl, ?hy275⟩) (fun _ => rfl) ?rest275
               case hy275 => (intro w hSw; (try dsimp only at hSw); go_simp; try with_reducible rfl))
            | (refine ordS_take (i := 2) (oi := { dst := some 2, op := Op.assign (Operand.tmp 132), type := 3, pos := _, after := #[{ on := 0, ground := Ground.data }, { on := 0, ground := Ground.phase }, { on := 1, ground := Ground.textOnly Departure.lateStores }], guard := none }) (v := undef) rfl (by kernel_rfl) (by kernel_rfl) (by kernel_rfl) (by kernel_rfl) (fun _ _ _ h => h) (by assumption) (Or.inr ⟨by rfl, rfl⟩) (fun _ => rfl) ?_)
          try simp only [Act.put, List.setIfInBounds_toArray, List.set_cons_zero, List.set_cons_succ]
          rw [hW8] at hH ⊢
          clear hW8
          refine ordS_one (i := 3) (o := { dst := none, op := Op.store 28 (Operand.tmp 3) (Operand.tmp 133), type := 0, pos := _, after := #[{ on := 1, ground := Ground.data }, { on := 2, ground := Ground.chain }, { on := 0, ground := Ground.phase }, { on := 1, ground := Ground.phase }, { on := 2, ground := Ground.phase }], guard := none }) (by kernel_rfl) rfl (by rfl) (fun K hK => ?_)
          go_simp
          obtain ⟨W9, hW9⟩ : ∃ W9, ((((W8.setCell ⟨c, 0, none⟩ (.int .u64 t.F)).setCell ⟨c, 1, none⟩ (.int .u64 t.H)).setCell ⟨c, 2, none⟩ (.int .i64 t.Y)).setCell ⟨c, 3, none⟩ (.int .i64 t.X)) = W9 := ⟨_, rfl⟩
          rw [hW9] at h13 hA13 ⊢
          replace h13 : Sep W9 B (CellsO p #[.slice r3 (j + (m.length - (j + 1))) cap3, .slice r4 (j + (m.length - (j + 1))) cap4] 39 :: RowO 3 1 (.slice (some ⟨gu, 0, none⟩) m.length capu) m.length (cellsI (m.map Th.id)) :: RowO 28 4 (.slice (some ⟨gv, 0, none⟩) m.length capv) m.length (flatK m) :: l ++ CellsO c #[.int .u64 t.F, .int .u64 t.H, .int .i64 t.Y, .int .i64 t.X] 28 :: [CellsO d #[.int .u64 t.F, .int .u64 t.H, .int .i64 t.Y, .int .i64 t.X] 28, RowO 3 1 (.slice r3 (j + (m.length - (j + 1))) cap3) (j + (m.length - (j + 1))) (cellsI ((m.map Th.id).take j ++ (m.map Th.id).drop (j + 1))), RowO 28 4 (.slice r4 (j + (m.length - (j + 1))) cap4) (j + (m.length - (j + 1))) (flatK (m.take j ++ m.drop (j + 1)))]) := h13
          obtain ⟨rd, _⟩ := Sep.cells (l1 := CellsO p #[.slice r3 (j + (m.length - (j + 1))) cap3, .slice r4 (j + (m.length - (j + 1))) cap4] 39 :: RowO 3 1 (.slice (some ⟨gu, 0, none⟩) m.length capu) m.length (cellsI (m.map Th.id)) :: RowO 28 4 (.slice (some ⟨gv, 0, none⟩) m.length capv) m.length (flatK m) :: (l ++ [CellsO c #[.int .u64 t.F, .int .u64 t.H, .int .i64 t.Y, .int .i64 t.X] 28])) (l2 := [RowO 3 1 (.slice r3 (j + (m.length - (j + 1))) cap3) (j + (m.length - (j + 1))) (cellsI ((m.map Th.id).take j ++ (m.map Th.id).drop (j + 1))), RowO 28 4 (.slice r4 (j + (m.length - (j + 1))) cap4) (j + (m.length - (j + 1))) (flatK (m.take j ++ m.drop (j + 1)))]) (by simpa only [List.cons_append, List.append_assoc, List.nil_append] using h13)
          obtain ⟨rcc, _⟩ := Sep.cells (l1 := CellsO p #[.slice r3 (j + (m.length - (j + 1))) cap3, .slice r4 (j + (m.length - (j + 1))) cap4] 39 :: RowO 3 1 (.slice (some ⟨gu, 0, none⟩) m.length capu) m.length (cellsI (m.map Th.id)) :: RowO 28 4 (.slice (some ⟨gv, 0, none⟩) m.length capv) m.length (flatK m) :: l) (l2 := [CellsO d #[.int .u64 t.F, .int .u64 t.H, .int .i64 t.Y, .int .i64 t.X] 28, RowO 3 1 (.slice r3 (j + (m.length - (j + 1))) cap3) (j + (m.length - (j + 1))) (cellsI ((m.map Th.id).take j ++ (m.map Th.id).drop (j + 1))), RowO 28 4 (.slice r4 (j + (m.length - (j + 1))) cap4) (j + (m.length - (j + 1))) (flatK (m.take j ++ m.drop (j + 1)))]) h13
          have hS9 : (fun w' : World => w'.cell? ⟨d, 0, none⟩ = some (.int .u64 t.F) ∧ w'.cell? ⟨d, 1, none⟩ = some (.int .u64 t.H) ∧ w'.cell? ⟨d, 2, none⟩ = some (.int .i64 t.Y) ∧ w'.cell? ⟨d, 3, none⟩ = some (.int .i64 t.X)) W9 := ⟨by simp [World.cell?, rd], by simp [World.cell?, rd], by simp [World.cell?, rd], by simp [World.cell?, rd]⟩
          have y0 : W9.cell? ⟨c, 0, none⟩ = some (.int .u64 t.F) := by simp [World.cell?, rcc]
          have y1 : W9.cell? ⟨c, 1, none⟩ = some (.int .u64 t.H) := by simp [World.cell?, rcc]
          have y2 : W9.cell? ⟨c, 2, none⟩ = some (.int .i64 t.Y) := by simp [World.cell?, rcc]
          have y3 : W9.cell? ⟨c, 3, none⟩ = some (.int .i64 t.X) := by simp [World.cell?, rcc]
          have HEND : Hid (Sep W9 B (RefL p (.slice r3 (j + (m.length - (j + 1))) cap3) (.slice r4 (j + (m.length - (j + 1))) cap4) (popM m) l)) := Lib.hid (by
            have g1 := Sep.drop (l1 := CellsO p #[.slice r3 (j + (m.length - (j + 1))) cap3, .slice r4 (j + (m.length - (j + 1))) cap4] 39 :: RowO 3 1 (.slice (some ⟨gu, 0, none⟩) m.length capu) m.length (cellsI (m.map Th.id)) :: RowO 28 4 (.slice (some ⟨gv, 0, none⟩) m.length capv) m.length (flatK m) :: l) (l2 := [CellsO d #[.int .u64 t.F, .int .u64 t.H, .int .i64 t.Y, .int .i64 t.X] 28, RowO 3 1 (.slice r3 (j + (m.length - (j + 1))) cap3) (j + (m.length - (j + 1))) (cellsI ((m.map Th.id).take j ++ (m.map Th.id).drop (j + 1))), RowO 28 4 (.slice r4 (j + (m.length - (j + 1))) cap4) (j + (m.length - (j + 1))) (flatK (m.take j ++ m.drop (j + 1)))]) h13
            have g2 := Sep.drop (l1 := CellsO p #[.slice r3 (j + (m.length - (j + 1))) cap3, .slice r4 (j + (m.length - (j + 1))) cap4] 39 :: RowO 3 1 (.slice (some ⟨gu, 0, none⟩) m.length capu) m.length (cellsI (m.map Th.id)) :: RowO 28 4 (.slice (some ⟨gv, 0, none⟩) m.length capv) m.length (flatK m) :: l) (l2 := [RowO 3 1 (.slice r3 (j + (m.length - (j + 1))) cap3) (j + (m.length - (j + 1))) (cellsI ((m.map Th.id).take j ++ (m.map Th.id).drop (j + 1))), RowO 28 4 (.slice r4 (j + (m.length - (j + 1))) cap4) (j + (m.length - (j + 1))) (flatK (m.take j ++ m.drop (j + 1)))]) g1
            have g3 := Sep.drop (l1 := [CellsO p #[.slice r3 (j + (m.length - (j + 1))) cap3, .slice r4 (j + (m.length - (j + 1))) cap4] 39]) (l2 := RowO 28 4 (.slice (some ⟨gv, 0, none⟩) m.length capv) m.length (flatK m) :: (l ++ [RowO 3 1 (.slice r3 (j + (m.length - (j + 1))) cap3) (j + (m.length - (j + 1))) (cellsI ((m.map Th.id).take j ++ (m.map Th.id).drop (j + 1))), RowO 28 4 (.slice r4 (j + (m.length - (j + 1))) cap4) (j + (m.length - (j + 1))) (flatK (m.take j ++ m.drop (j + 1)))])) g2
            have g4 := Sep.drop (l1 := [CellsO p #[.slice r3 (j + (m.length - (j + 1))) cap3, .slice r4 (j + (m.length - (j + 1))) cap4] 39]) (l2 := l ++ [RowO 3 1 (.slice r3 (j + (m.length - (j + 1))) cap3) (j + (m.length - (j + 1))) (cellsI ((m.map Th.id).take j ++ (m.map Th.id).drop (j + 1))), RowO 28 4 (.slice r4 (j + (m.length - (j + 1))) cap4) (j + (m.length - (j + 1))) (flatK (m.take j ++ m.drop (j + 1)))]) g3
            have g5 := g4.perm (l' := CellsO p #[.slice r3 (j + (m.length - (j + 1))) cap3, .slice r4 (j + (m.length - (j + 1))) cap4] 39 :: RowO 3 1 (.slice r3 (j + (m.length - (j + 1))) cap3) (j + (m.length - (j + 1))) (cellsI ((m.map Th.id).take j ++ (m.map Th.id).drop (j + 1))) :: RowO 28 4 (.slice r4 (j + (m.length - (j + 1))) cap4) (j + (m.length - (j + 1))) (flatK (m.take j ++ m.drop (j + 1))) :: l) (List.Perm.cons _ (List.perm_append_comm (l₁ := l) (l₂ := [RowO 3 1 (.slice r3 (j + (m.length - (j + 1))) cap3) (j + (m.length - (j + 1))) (cellsI ((m.map Th.id).take j ++ (m.map Th.id).drop (j + 1))), RowO 28 4 (.slice r4 (j + (m.length - (j + 1))) cap4) (j + (m.length - (j + 1))) (flatK (m.take j ++ m.drop (j + 1)))])))
            have hN : (j + (m.length - (j + 1))) = (popM m).length := by rw [HPOP.out, List.length_append, List.length_take, List.length_drop]; omega
            unfold RefL
            rw [← hN, HPOP.out, List.map_append, List.map_take, List.map_drop]
            exact g5)
          have HAE := Lib.hid hA13
          clear hW9 q0 q1 q2 q3 f0 f1 f2 f3 t0 t1 t2 t3 rd rcc h13 hA13
          refine hK _ _ hS9 ?_
          clear hK K hH
          try simp only [Act.put, List.setIfInBounds_toArray, List.set_cons_zero, List.set_cons_succ]
          refine ordS_one (i := 4) (o := { dst := some 4, op := Op.assign (Operand.const (Value.bool true)), type := 4, pos := _, after := #[{ on := 3, ground := Ground.chain }, { on := 0, ground := Ground.phase }, { on := 1, ground := Ground.phase }, { on := 2, ground := Ground.phase }, { on := 3, ground := Ground.phase }], guard := none }) (by kernel_rfl) rfl (by rfl) (fun K hK => ?_)
          go_simp
          refine hK _ _ hS9 ?_
          clear hK K hS9
          try simp only [Act.put, List.setIfInBounds_toArray, List.set_cons_zero, List.set_cons_succ]
          refine ordS_done (by kernel_rfl) ?_
          go_wp2
          refine bodyPost_ret (v := .tuple #[.int .i64 t.id, .agg #[.int .u64 t.F, .int .u64 t.H, .int .i64 t.Y, .int .i64 t.X], .bool true]) (by simp [results, Try.results19, go_sem, y0, y1, y2, y3]) rfl ⟨by rw [HFT.out, HT.out, HE.out], ⟨_, _, HEND.out⟩, HAE.out⟩
end Go.Proofs.Ytgcncimeedoplaa
