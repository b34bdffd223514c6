/- HeapPlays: its walk. -/
import Derived.Test.YtgcncimeedoplaaZe
namespace Go.Proofs.Ytgcncimeedoplaa
open Go.RowKit Go.Maps

theorem sep_nodup {W : World} {B : Nat} {l1 l2 : List Own} {p : Nat} {m : List Th} (h : Sep W B (l1 ++ HeapO p m :: l2)) : (m.map Th.id).Nodup := by
  obtain ⟨S, ⟨b, v, s, _, h2, _⟩, _⟩ := h.at
  exact h2.nodup
theorem Sep.nilrow {W : World} {B : Nat} {l : List Own} (h : Sep W B l) (e : TypeId) (size : Nat) : Sep W B (l ++ [RowO e size (.slice none 0 0) 0 []]) :=
  h.new (S := fun _ => False) (bl0 W) ⟨⟨by simp, .inl ⟨rfl, rfl⟩⟩, fun k => ⟨fun h => h.elim, fun h => by cases h⟩⟩ (fun k e => e.elim)

def lenAt (W : World) (q : Nat) : Nat := match W.cell? ⟨q, 0, none⟩ with | some (.slice _ n _) => n | _ => 0
set_option maxRecDepth 100000 in
set_option maxHeartbeats 16000000 in
theorem hplays_walk (a : Option Addr) (ca : Nat) (ls : List ActD) (w : World) (hd : RowD w a ls) (wf : ∀ k ∈ ls, WfT k.t) :
    Calls Try.prog 4 #[.slice a ls.length ca] w fun e w' => e = .returned (.bool true) ∧ Below w.heap.size w w' := by
  have hA := bl0 w
  by_cases hb1 : 150 < ls.length
  · have hb1I : (150 : Int) < (ls.length : Int) := by omega
    go_enter Try.func4, Try.ntmps4
    go_wp2_with fail
    refine (hawake _).mono ?_
    rintro e w9 ⟨rfl, hb⟩
    have HA := Lib.hid (bl_tr hA hb)
    clear hA hb
    go_wp2
    go_ret
    exact ⟨rfl, HA.out⟩
  have hb1I : (ls.length : Int) ≤ 150 := by omega
  have hb1N : ls.length ≤ 150 := by omega
  have hb1D : decide ((150 : Int) < (ls.length : Int)) = false := decide_eq_false (by omega)
  clear hb1
  have h0 : Sep w w.heap.size [] := Sep.nil (Nat.le_refl _)
  go_enter Try.func4, Try.ntmps4
  go_wp2_with fail
  refine (new_sep h0).mono ?_
  rintro e w1 ⟨p, rfl, h1, hb⟩
  replace hA := bl_tr hA hb
  clear h0 hb
  obtain ⟨q, hq⟩ : ∃ q, w1.heap.size = q := ⟨_, rfl⟩
  replace h1 := h1.box #[.slice none 0 0, .slice none 0 0] 39
  rw [hq] at h1
  replace h1 := ((h1.nilrow 3 1).nilrow 28 4).perm (List.perm_append_comm (l₁ := [HeapO p []]) (l₂ := [CellsO q #[(.slice none 0 0), (.slice none 0 0)] 39, RowO 3 1 (.slice none 0 0) ([] : List Th).length (cellsI (([] : List Th).map Th.id)), RowO 28 4 (.slice none 0 0) ([] : List Th).length (flatK ([] : List Th))]))
  replace hA := bl_al hA (.cells #[.slice none 0 0, .slice none 0 0] 39)
  go_upto_region 5 with fail
  generalize hw2 : w1.alloc (.cells #[.slice none 0 0, .slice none 0 0] 39) = w2 at *
  clear hw2 hq
  go_wp2
  go_loopw [5] (fun i wr => ∃ (k : Nat) (m : List Th) (u v : Value), k ≤ ls.length ∧ i = .int .i64 k ∧ m.length ≤ k ∧ Sep wr w.heap.size [CellsO q #[u, v] 39, RowO 3 1 u m.length (cellsI (m.map Th.id)), RowO 28 4 v m.length (flatK m), HeapO p m] ∧ Below w.heap.size w wr) (fun i _ => ls.length - (intOf i).toNat)
  case atStart => exact ⟨0, [], .slice none 0 0, .slice none 0 0, Nat.zero_le _, rfl, Nat.le_refl _, h1, hA⟩
  case round =>
    obtain ⟨k, m, u, v, hk, rfl, hml, hS0, hAr⟩ := hrel
    clear h1 hA
    by_cases hlt : k < ls.length
    · have hlI : (k : Int) < (ls.length : Int) := by omega
      have hk1 : (0 : Int) ≤ (k : Int) := by omega
      have hk2 : (k : Int) ≤ 150 := by omega
      have HD := Lib.hid hd
      obtain ⟨gb, go, rfl, q0, q1, q2, q3, q4, q5⟩ := hd.at hlt
      have hwt : WfT (atD ls k).t := wf _ (by simp [atD, List.getD_eq_getElem?_getD, hlt])
      clear hd
      obtain ⟨d, hdd⟩ : ∃ d, (atD ls k).d = d := ⟨_, rfl⟩
      obtain ⟨t, htt⟩ : ∃ t, (atD ls k).t = t := ⟨_, rfl⟩
      rw [hdd] at q0
      rw [htt] at q1 q2 q3 q4 q5 hwt
      replace hwt : wfT t := hwt.id
      clear hdd htt
      replace q0 := cell_later hAr q0
      replace q1 := cell_later hAr q1
      replace q2 := cell_later hAr q2
      replace q3 := cell_later hAr q3
      replace q4 := cell_later hAr q4
      replace q5 := cell_later hAr q5
      obtain ⟨ab, hab⟩ : ∃ ab, wr.heap.size = ab := ⟨_, rfl⟩
      have h3 := hS0.box #[.int .i64 d, .int .i64 t.id, .int .u64 t.F, .int .u64 t.H, .int .i64 t.Y, .int .i64 t.X] 41
      rw [hab] at h3
      replace h3 : Sep (wr.alloc (.cells #[.int .i64 d, .int .i64 t.id, .int .u64 t.F, .int .u64 t.H, .int .i64 t.Y, .int .i64 t.X] 41)) w.heap.size [CellsO q #[u, v] 39, RowO 3 1 u m.length (cellsI (m.map Th.id)), RowO 28 4 v m.length (flatK m), HeapO p m, CellsO ab #[.int .i64 d, .int .i64 t.id, .int .u64 t.F, .int .u64 t.H, .int .i64 t.Y, .int .i64 t.X] 41] := h3
      have hA3 := bl_al hAr (.cells #[.int .i64 d, .int .i64 t.id, .int .u64 t.F, .int .u64 t.H, .int .i64 t.Y, .int .i64 t.X] 41)
      go_upto_region 9 with fail
      generalize hw3 : wr.alloc (.cells #[.int .i64 d, .int .i64 t.id, .int .u64 t.F, .int .u64 t.H, .int .i64 t.Y, .int .i64 t.X] 41) = w3 at *
      clear hw3 hab hS0 hAr q0 q1 q2 q3 q4 q5
      have HSA : Hid (∀ (W : World) (l : List Own), Sep W w.heap.size ((l ++ [CellsO ab #[.int .i64 d, .int .i64 t.id, .int .u64 t.F, .int .u64 t.H, .int .i64 t.Y, .int .i64 t.X] 41]) : List Own) → (fun w' : World => w'.cell? ⟨ab, 1, none⟩ = some (.int .i64 t.id) ∧ w'.cell? ⟨ab, 2, none⟩ = some (.int .u64 t.F) ∧ w'.cell? ⟨ab, 3, none⟩ = some (.int .u64 t.H) ∧ w'.cell? ⟨ab, 4, none⟩ = some (.int .i64 t.Y) ∧ w'.cell? ⟨ab, 5, none⟩ = some (.int .i64 t.X)) W) := Lib.hid (fun W l hW => by
        obtain ⟨rt, _⟩ := Sep.cells (l2 := []) hW
        exact ⟨by simp [World.cell?, rt], by simp [World.cell?, rt], by simp [World.cell?, rt], by simp [World.cell?, rt], by simp [World.cell?, rt]⟩)
      obtain ⟨rt, _⟩ := Sep.cells (l1 := [CellsO q #[u, v] 39, RowO 3 1 u m.length (cellsI (m.map Th.id)), RowO 28 4 v m.length (flatK m), HeapO p m]) (l2 := []) h3
      have b0 : w3.cell? ⟨ab, 0, none⟩ = some (.int .i64 d) := by simp [World.cell?, rt]
      have zb := blk_lt b0
      clear rt
      by_cases hd0 : d = 0
      · have nd0 : (d == 0) = true := by rw [beq_iff_eq]; exact hd0
        clear hd0
        go_upto_region 15 with fail
        have hD := bl_dr (bl0 w3)
        have h4 := h3.below hD
        have hA4 := bl_tr hA3 hD
        have hS := HSA.out _ [CellsO q #[u, v] 39, RowO 3 1 u m.length (cellsI (m.map Th.id)), RowO 28 4 v m.length (flatK m), HeapO p m] h4
        clear hD
        clear hA3
        have hnd := sep_nodup (l1 := [CellsO q #[u, v] 39, RowO 3 1 u m.length (cellsI (m.map Th.id)), RowO 28 4 v m.length (flatK m)]) (l2 := [CellsO ab #[.int .i64 d, .int .i64 t.id, .int .u64 t.F, .int .u64 t.H, .int .i64 t.Y, .int .i64 t.X] 41]) h4
        have hne : (pushE m t.id != pushE m t.id) = false := by simp
        have hc5 := push_sep (l1 := [CellsO q #[u, v] 39, RowO 3 1 u m.length (cellsI (m.map Th.id)), RowO 28 4 v m.length (flatK m)]) (l2 := [CellsO ab #[.int .i64 d, .int .i64 t.id, .int .u64 t.F, .int .u64 t.H, .int .i64 t.Y, .int .i64 t.X] 41]) t h4 hwt (by omega)
        refine (wpIn_wide (n := 11)).1 ?_
        refine ordS_begin (S := (fun w' : World => w'.cell? ⟨ab, 1, none⟩ = some (.int .i64 t.id) ∧ w'.cell? ⟨ab, 2, none⟩ = some (.int .u64 t.F) ∧ w'.cell? ⟨ab, 3, none⟩ = some (.int .u64 t.H) ∧ w'.cell? ⟨ab, 4, none⟩ = some (.int .i64 t.Y) ∧ w'.cell? ⟨ab, 5, none⟩ = some (.int .i64 t.X))) (by kernel_rfl) hS (fun _ => ?_)
        refine' ordS_take (i := 0) (oi := { dst := some 72, op := Op.move (Operand.tmp 3), type := 33, pos := _, after := #[], guard := none }) (v := _) rfl (by kernel_rfl) (by kernel_rfl) (by kernel_rfl) (by kernel_rfl) (fun _ _ _ h => h) (by assumption) (Or.inl ⟨by rfl, ?hy1⟩) (fun _ => rfl) ?rest1
        case hy1 => (intro w hSw; (try dsimp only at hSw); go_simp; try with_reducible rfl)
        try simp only [Act.put, List.setIfInBounds_toArray, List.set_cons_zero, List.set_cons_succ]
        refine' ordS_take (i := 1) (oi := { dst := some 73, op := Op.fieldAddr 41 (Operand.tmp 6) 1, type := 0, pos := _, after := #[], guard := none }) (v := _) rfl (by kernel_rfl) (by kernel_rfl) (by kernel_rfl) (by kernel_rfl) (fun _ _ _ h => h) (by assumption) (Or.inl ⟨by rfl, ?hy2⟩) (fun _ => rfl) ?rest2
        case hy2 => (intro w hSw; (try dsimp only at hSw); go_simp; try with_reducible rfl)
        try simp only [Act.put, List.setIfInBounds_toArray, List.set_cons_zero, List.set_cons_succ]
        refine' ordS_take (i := 2) (oi := { dst := some 74, op := Op.load 3 (Operand.tmp 73), type := 3, pos := _, after := #[{ on := 1, ground := Ground.data }], guard := none }) (v := _) rfl (by kernel_rfl) (by kernel_rfl) (by kernel_rfl) (by kernel_rfl) (fun _ _ _ h => h) (by assumption) (Or.inl ⟨by rfl, ?hy3⟩) (fun _ => rfl) ?rest3
        case hy3 => (intro w hSw; (try dsimp only at hSw); go_simp; try with_reducible rfl)
        try simp only [Act.put, List.setIfInBounds_toArray, List.set_cons_zero, List.set_cons_succ]
        refine' ordS_take (i := 3) (oi := { dst := some 75, op := Op.fieldAddr 41 (Operand.tmp 6) 2, type := 0, pos := _, after := #[], guard := none }) (v := _) rfl (by kernel_rfl) (by kernel_rfl) (by kernel_rfl) (by kernel_rfl) (fun _ _ _ h => h) (by assumption) (Or.inl ⟨by rfl, ?hy4⟩) (fun _ => rfl) ?rest4
        case hy4 => (intro w hSw; (try dsimp only at hSw); go_simp; try with_reducible rfl)
        try simp only [Act.put, List.setIfInBounds_toArray, List.set_cons_zero, List.set_cons_succ]
        refine' ordS_take (i := 4) (oi := { dst := some 76, op := Op.load 24 (Operand.tmp 75), type := 24, pos := _, after := #[{ on := 3, ground := Ground.data }], guard := none }) (v := _) rfl (by kernel_rfl) (by kernel_rfl) (by kernel_rfl) (by kernel_rfl) (fun _ _ _ h => h) (by assumption) (Or.inl ⟨by rfl, ?hy5⟩) (fun _ => rfl) ?rest5
        case hy5 => (intro w hSw; (try dsimp only at hSw); go_simp; try with_reducible rfl)
        try simp only [Act.put, List.setIfInBounds_toArray, List.set_cons_zero, List.set_cons_succ]
        refine' ordS_take (i := 6) (oi := { dst := some 78, op := Op.move (Operand.tmp 4), type := 35, pos := _, after := #[], guard := none }) (v := _) rfl (by kernel_rfl) (by kernel_rfl) (by kernel_rfl) (by kernel_rfl) (fun _ _ _ h => h) (by assumption) (Or.inl ⟨by rfl, ?hy6⟩) (fun _ => rfl) ?rest6
        case hy6 => (intro w hSw; (try dsimp only at hSw); go_simp; try with_reducible rfl)
        try simp only [Act.put, List.setIfInBounds_toArray, List.set_cons_zero, List.set_cons_succ]
        refine' ordS_take (i := 7) (oi := { dst := some 79, op := Op.fieldAddr 41 (Operand.tmp 6) 1, type := 0, pos := _, after := #[], guard := none }) (v := _) rfl (by kernel_rfl) (by kernel_rfl) (by kernel_rfl) (by kernel_rfl) (fun _ _ _ h => h) (by assumption) (Or.inl ⟨by rfl, ?hy7⟩) (fun _ => rfl) ?rest7
        case hy7 => (intro w hSw; (try dsimp only at hSw); go_simp; try with_reducible rfl)
        try simp only [Act.put, List.setIfInBounds_toArray, List.set_cons_zero, List.set_cons_succ]
        refine' ordS_take (i := 8) (oi := { dst := some 80, op := Op.load 3 (Operand.tmp 79), type := 3, pos := _, after := #[{ on := 7, ground := Ground.data }], guard := none }) (v := _) rfl (by kernel_rfl) (by kernel_rfl) (by kernel_rfl) (by kernel_rfl) (fun _ _ _ h => h) (by assumption) (Or.inl ⟨by rfl, ?hy8⟩) (fun _ => rfl) ?rest8
        case hy8 => (intro w hSw; (try dsimp only at hSw); go_simp; try with_reducible rfl)
        try simp only [Act.put, List.setIfInBounds_toArray, List.set_cons_zero, List.set_cons_succ]
        refine' ordS_take (i := 9) (oi := { dst := some 81, op := Op.fieldAddr 41 (Operand.tmp 6) 2, type := 0, pos := _, after := #[], guard := none }) (v := _) rfl (by kernel_rfl) (by kernel_rfl) (by kernel_rfl) (by kernel_rfl) (fun _ _ _ h => h) (by assumption) (Or.inl ⟨by rfl, ?hy9⟩) (fun _ => rfl) ?rest9
        case hy9 => (intro w hSw; (try dsimp only at hSw); go_simp; try with_reducible rfl)
        try simp only [Act.put, List.setIfInBounds_toArray, List.set_cons_zero, List.set_cons_succ]
        refine' ordS_take (i := 10) (oi := { dst := some 82, op := Op.load 24 (Operand.tmp 81), type := 24, pos := _, after := #[{ on := 9, ground := Ground.data }], guard := none }) (v := _) rfl (by kernel_rfl) (by kernel_rfl) (by kernel_rfl) (by kernel_rfl) (fun _ _ _ h => h) (by assumption) (Or.inl ⟨by rfl, ?hy10⟩) (fun _ => rfl) ?rest10
        case hy10 => (intro w hSw; (try dsimp only at hSw); go_simp; try with_reducible rfl)
        try simp only [Act.put, List.setIfInBounds_toArray, List.set_cons_zero, List.set_cons_succ]
        refine ordS_one (i := 5) (o := { dst := some 77, op := Op.call { callee := Callee.value (Operand.func 14), args := #[Operand.tmp 72, Operand.tmp 74, Operand.tmp 76], argTypes := #[33, 3, 24] }, type := 42, pos := _, after := #[{ on := 0, ground := Ground.data }, { on := 2, ground := Ground.data }, { on := 4, ground := Ground.data }], guard := none }) (by kernel_rfl) rfl (by rfl) (fun K hK => ?_)
        go_simp
        refine ⟨trivial, (callsIn_wide.2 (hc5)).mono ?_⟩
        rintro e w9 ⟨rfl, h5, hb⟩
        replace hA4 := hA4.trans hb
        clear hc5 hb h4 hS
        have hS := HSA.out _ [CellsO q #[u, v] 39, RowO 3 1 u m.length (cellsI (m.map Th.id)), RowO 28 4 v m.length (flatK m), HeapO p (pushM m t)] h5
        refine hK _ _ hS ?_
        clear hK K
        try simp only [Act.put, List.setIfInBounds_toArray, List.set_cons_zero, List.set_cons_succ]
        refine ordS_one (i := 11) (o := { dst := some 83, op := Op.call { callee := Callee.value (Operand.func 11), args := #[Operand.tmp 82], argTypes := #[24] }, type := 28, pos := _, after := #[{ on := 10, ground := Ground.data }, { on := 5, ground := Ground.chain }], guard := none }) (by kernel_rfl) rfl (by rfl) (fun K hK => ?_)
        go_simp
        refine ⟨trivial, (callsIn_wide.2 (plain_any t _)).mono ?_⟩
        rintro e w9 ⟨rfl, hb⟩
        replace h5 := h5.below hb
        replace hA4 := bl_tr hA4 hb
        clear hb hS
        have hS := HSA.out _ [CellsO q #[u, v] 39, RowO 3 1 u m.length (cellsI (m.map Th.id)), RowO 28 4 v m.length (flatK m), HeapO p (pushM m t)] h5
        have hc12 := push_ref (l := [HeapO p (pushM m t), CellsO ab #[.int .i64 d, .int .i64 t.id, .int .u64 t.F, .int .u64 t.H, .int .i64 t.Y, .int .i64 t.X] 41]) t h5 (by omega)
        refine hK _ _ hS ?_
        clear hK K
        try simp only [Act.put, List.setIfInBounds_toArray, List.set_cons_zero, List.set_cons_succ]
        refine ordS_one (i := 12) (o := { dst := some 84, op := Op.call { callee := Callee.value (Operand.func 15), args := #[Operand.tmp 78, Operand.tmp 80, Operand.tmp 83], argTypes := #[35, 3, 28] }, type := 42, pos := _, after := #[{ on := 6, ground := Ground.data }, { on := 8, ground := Ground.data }, { on := 11, ground := Ground.data }, { on := 11, ground := Ground.chain }], guard := none }) (by kernel_rfl) rfl (by rfl) (fun K hK => ?_)
        go_simp
        refine ⟨trivial, (callsIn_wide.2 (hc12)).mono ?_⟩
        rintro e w9 ⟨rfl, ⟨u2, v2, h6⟩, hb⟩
        replace hA4 := hA4.trans hb
        clear hc12 hb h5 hS
        have hS := HSA.out _ [CellsO q #[u2, v2] 39, RowO 3 1 u2 (pushM m t).length (cellsI ((pushM m t).map Th.id)), RowO 28 4 v2 (pushM m t).length (flatK (pushM m t)), HeapO p (pushM m t)] h6
        refine hK _ _ hS ?_
        clear hK K
        try simp only [Act.put, List.setIfInBounds_toArray, List.set_cons_zero, List.set_cons_succ]
        refine ordS_one (i := 13) (o := { dst := some 85, op := Op.binOp BinOp.neq 42 (Operand.tmp 77) (Operand.tmp 84) 42, type := 4, pos := _, after := #[{ on := 5, ground := Ground.data }, { on := 12, ground := Ground.data }], guard := none }) (by kernel_rfl) rfl (by rfl) (fun K hK => ?_)
        go_simp
        refine hK _ _ hS ?_
        clear hK K hS
        try simp only [Act.put, List.setIfInBounds_toArray, List.set_cons_zero, List.set_cons_succ]
        refine ordS_done (by kernel_rfl) ?_
        have hml2 : (pushM m t).length ≤ k + 1 := by have := pushM_len m t; omega
        generalize pushM m t = m2 at *
        clear hnd hne
        obtain ⟨ru, capu, rfl, hru⟩ := Sep.shape (l1 := [CellsO q #[u2, v2] 39]) h6
        obtain ⟨rv, capv, rfl, hrv⟩ := Sep.shape (l1 := [CellsO q #[(.slice ru m2.length capu), v2] 39, RowO 3 1 (.slice ru m2.length capu) m2.length (cellsI (m2.map Th.id))]) h6
        have hc := key_sep (l1 := [CellsO q #[(.slice ru m2.length capu), (.slice rv m2.length capv)] 39, RowO 3 1 (.slice ru m2.length capu) m2.length (cellsI (m2.map Th.id)), RowO 28 4 (.slice rv m2.length capv) m2.length (flatK m2)]) (l2 := [CellsO ab #[.int .i64 d, .int .i64 t.id, .int .u64 t.F, .int .u64 t.H, .int .i64 t.Y, .int .i64 t.X] 41]) t.id h6 hwt
        obtain ⟨kk, hkk⟩ : ∃ kk, keyA m2 t.id = kk := ⟨_, rfl⟩
        obtain ⟨is, his⟩ : ∃ is, (findT m2 t.id).isSome = is := ⟨_, rfl⟩
        rw [hkk, his] at hc
        have HKK := Lib.hid hkk
        have HIS := Lib.hid his
        obtain ⟨b1, _⟩ := HSA.out _ [CellsO q #[(.slice ru m2.length capu), (.slice rv m2.length capv)] 39, RowO 3 1 (.slice ru m2.length capu) m2.length (cellsI (m2.map Th.id)), RowO 28 4 (.slice rv m2.length capv) m2.length (flatK m2), HeapO p m2] h6
        clear hkk his hru
        go_wp2_with fail
        refine hc.mono ?_
        rintro e w10 ⟨rfl, h7, hb⟩
        obtain ⟨kb, hkb⟩ : ∃ kb, w10.heap.size = kb := ⟨_, rfl⟩
        replace h7 := h7.box #[.int .u64 kk.F, .int .u64 kk.H, .int .i64 kk.Y, .int .i64 kk.X] 24
        rw [hkb] at h7
        replace h7 : Sep (w10.alloc (.cells #[.int .u64 kk.F, .int .u64 kk.H, .int .i64 kk.Y, .int .i64 kk.X] 24)) w.heap.size [CellsO q #[(.slice ru m2.length capu), (.slice rv m2.length capv)] 39, RowO 3 1 (.slice ru m2.length capu) m2.length (cellsI (m2.map Th.id)), RowO 28 4 (.slice rv m2.length capv) m2.length (flatK m2), HeapO p m2, CellsO ab #[.int .i64 d, .int .i64 t.id, .int .u64 t.F, .int .u64 t.H, .int .i64 t.Y, .int .i64 t.X] 41, CellsO kb #[.int .u64 kk.F, .int .u64 kk.H, .int .i64 kk.Y, .int .i64 kk.X] 24] := h7
        have hA7 := bl_al (bl_tr hA4 hb) (.cells #[.int .u64 kk.F, .int .u64 kk.H, .int .i64 kk.Y, .int .i64 kk.X] 24)
        clear hc hb b1 h6 hA4
        go_upto_region 21 with fail
        generalize hw11 : w10.alloc (.cells #[.int .u64 kk.F, .int .u64 kk.H, .int .i64 kk.Y, .int .i64 kk.X] 24) = w11 at *
        clear hw11 hkb
        obtain ⟨rt, _⟩ := Sep.cells (l1 := [CellsO q #[(.slice ru m2.length capu), (.slice rv m2.length capv)] 39, RowO 3 1 (.slice ru m2.length capu) m2.length (cellsI (m2.map Th.id)), RowO 28 4 (.slice rv m2.length capv) m2.length (flatK m2), HeapO p m2]) (l2 := [CellsO kb #[.int .u64 kk.F, .int .u64 kk.H, .int .i64 kk.Y, .int .i64 kk.X] 24]) h7
        have b1 : w11.cell? ⟨ab, 1, none⟩ = some (.int .i64 t.id) := by simp [World.cell?, rt]
        have hc := find_ref (l := [HeapO p m2, CellsO ab #[.int .i64 d, .int .i64 t.id, .int .u64 t.F, .int .u64 t.H, .int .i64 t.Y, .int .i64 t.X] 41, CellsO kb #[.int .u64 kk.F, .int .u64 kk.H, .int .i64 kk.Y, .int .i64 kk.X] 24]) t.id h7 (by omega)
        clear rt
        go_wp2_with fail
        refine hc.mono ?_
        rintro e w12 ⟨r, rfl, hF, hb⟩
        have h8 := h7.below hb
        have hA8 := bl_tr hA7 hb
        clear hc hb b1 h7 hA7
        go_upto_region 22 with fail
        have hD := bl_dr (bl0 w12)
        have h9 := h8.below hD
        have hA9 := bl_tr hA8 hD
        clear h8 hA8 hD
        obtain ⟨rq, _⟩ := Sep.cells (l1 := []) h9
        obtain ⟨rk, _⟩ := Sep.cells (l1 := [CellsO q #[(.slice ru m2.length capu), (.slice rv m2.length capv)] 39, RowO 3 1 (.slice ru m2.length capu) m2.length (cellsI (m2.map Th.id)), RowO 28 4 (.slice rv m2.length capv) m2.length (flatK m2), HeapO p m2, CellsO ab #[.int .i64 d, .int .i64 t.id, .int .u64 t.F, .int .u64 t.H, .int .i64 t.Y, .int .i64 t.X] 41]) (l2 := []) h9
        rcases hF with ⟨rfl, hf⟩ | ⟨j, rfl, hj, _, hf⟩
        · obtain rfl : kk = ⟨0, 0, 0, 0, 0⟩ := by rw [← HKK.out]; unfold keyA; rw [hf]; rfl
          obtain rfl : is = false := by rw [← HIS.out, hf]; rfl
          replace h9 : Sep w12.drew w.heap.size [CellsO q #[(.slice ru m2.length capu), (.slice rv m2.length capv)] 39, RowO 3 1 (.slice ru m2.length capu) m2.length (cellsI (m2.map Th.id)), RowO 28 4 (.slice rv m2.length capv) m2.length (flatK m2), HeapO p m2, CellsO ab #[.int .i64 d, .int .i64 t.id, .int .u64 t.F, .int .u64 t.H, .int .i64 t.Y, .int .i64 t.X] 41, CellsO kb #[.int .u64 0, .int .u64 0, .int .i64 0, .int .i64 0] 24] := h9
          have heq : ∀ w : World, _ := fun w => eql_key ⟨0, 0, 0, 0, 0⟩ ⟨0, 0, 0, 0, 0⟩ w
          rw [show sameK ⟨0, 0, 0, 0, 0⟩ ⟨0, 0, 0, 0, 0⟩ = true from by decide] at heq
          dsimp only at heq
          have hneg : decide ((0 : Int) ≤ -1) = false := by decide
          have hS : (fun w' : World => w'.cell? ⟨q, 0, none⟩ = some (.slice ru m2.length capu) ∧ w'.cell? ⟨kb, 0, none⟩ = some (.int .u64 0) ∧ w'.cell? ⟨kb, 1, none⟩ = some (.int .u64 0) ∧ w'.cell? ⟨kb, 2, none⟩ = some (.int .i64 0) ∧ w'.cell? ⟨kb, 3, none⟩ = some (.int .i64 0)) w12.drew := ⟨by simp [World.cell?, rq], by simp [World.cell?, rk], by simp [World.cell?, rk], by simp [World.cell?, rk], by simp [World.cell?, rk]⟩
          have hc := len_sep (l1 := [CellsO q #[(.slice ru m2.length capu), (.slice rv m2.length capv)] 39, RowO 3 1 (.slice ru m2.length capu) m2.length (cellsI (m2.map Th.id)), RowO 28 4 (.slice rv m2.length capv) m2.length (flatK m2)]) (l2 := [CellsO ab #[.int .i64 d, .int .i64 t.id, .int .u64 t.F, .int .u64 t.H, .int .i64 t.Y, .int .i64 t.X] 41, CellsO kb #[.int .u64 0, .int .u64 0, .int .i64 0, .int .i64 0] 24]) h9
          clear rq rk hf hrv
          refine (wpIn_wide (n := 11)).1 ?_
          refine ordS_begin (S := (fun w' : World => w'.cell? ⟨q, 0, none⟩ = some (.slice ru m2.length capu) ∧ w'.cell? ⟨kb, 0, none⟩ = some (.int .u64 0) ∧ w'.cell? ⟨kb, 1, none⟩ = some (.int .u64 0) ∧ w'.cell? ⟨kb, 2, none⟩ = some (.int .i64 0) ∧ w'.cell? ⟨kb, 3, none⟩ = some (.int .i64 0))) (by kernel_rfl) hS (fun _ => ?_)
          refine' ordS_take (i := 0) (oi := { dst := some 113, op := Op.move (Operand.tmp 3), type := 33, pos := _, after := #[], guard := none }) (v := _) rfl (by kernel_rfl) (by kernel_rfl) (by kernel_rfl) (by kernel_rfl) (fun _ _ _ h => h) (by assumption) (Or.inl ⟨by rfl, ?hy11⟩) (fun _ => rfl) ?rest11
          case hy11 => (intro w hSw; (try dsimp only at hSw); go_simp; try with_reducible rfl)
          try simp only [Act.put, List.setIfInBounds_toArray, List.set_cons_zero, List.set_cons_succ]
          refine' ordS_take (i := 2) (oi := { dst := some 115, op := Op.move (Operand.tmp 4), type := 35, pos := _, after := #[], guard := none }) (v := _) rfl (by kernel_rfl) (by kernel_rfl) (by kernel_rfl) (by kernel_rfl) (fun _ _ _ h => h) (by assumption) (Or.inl ⟨by rfl, ?hy12⟩) (fun _ => rfl) ?rest12
          case hy12 => (intro w hSw; (try dsimp only at hSw); go_simp; try with_reducible rfl)
          try simp only [Act.put, List.setIfInBounds_toArray, List.set_cons_zero, List.set_cons_succ]
          refine' ordS_take (i := 3) (oi := { dst := some 116, op := Op.nilCheck (Operand.tmp 115), type := 0, pos := _, after := #[{ on := 2, ground := Ground.data }], guard := none }) (v := _) rfl (by kernel_rfl) (by kernel_rfl) (by kernel_rfl) (by kernel_rfl) (fun _ _ _ h => h) (by assumption) (Or.inl ⟨by rfl, ?hy13⟩) (fun _ => rfl) ?rest13
          case hy13 => (intro w hSw; (try dsimp only at hSw); go_simp; try with_reducible rfl)
          try simp only [Act.put, List.setIfInBounds_toArray, List.set_cons_zero, List.set_cons_succ]
          refine' ordS_take (i := 4) (oi := { dst := some 117, op := Op.fieldAddr 39 (Operand.tmp 116) 0, type := 0, pos := _, after := #[{ on := 3, ground := Ground.data }], guard := none }) (v := _) rfl (by kernel_rfl) (by kernel_rfl) (by kernel_rfl) (by kernel_rfl) (fun _ _ _ h => h) (by assumption) (Or.inl ⟨by rfl, ?hy14⟩) (fun _ => rfl) ?rest14
          case hy14 => (intro w hSw; (try dsimp only at hSw); go_simp; try with_reducible rfl)
          try simp only [Act.put, List.setIfInBounds_toArray, List.set_cons_zero, List.set_cons_succ]
          refine' ordS_take (i := 5) (oi := { dst := some 118, op := Op.load 36 (Operand.tmp 117), type := 36, pos := _, after := #[{ on := 4, ground := Ground.data }], guard := none }) (v := _) rfl (by kernel_rfl) (by kernel_rfl) (by kernel_rfl) (by kernel_rfl) (fun _ _ _ h => h) (by assumption) (Or.inl ⟨by rfl, ?hy15⟩) (fun _ => rfl) ?rest15
          case hy15 => (intro w hSw; (try dsimp only at hSw); go_simp; try with_reducible rfl)
          try simp only [Act.put, List.setIfInBounds_toArray, List.set_cons_zero, List.set_cons_succ]
          refine' ordS_take (i := 6) (oi := { dst := some 119, op := Op.call { callee := Callee.builtin Builtin.len, args := #[Operand.tmp 118], argTypes := #[36] }, type := 3, pos := _, after := #[{ on := 5, ground := Ground.data }], guard := none }) (v := _) rfl (by kernel_rfl) (by kernel_rfl) (by kernel_rfl) (by kernel_rfl) (fun _ _ _ h => h) (by assumption) (Or.inl ⟨by rfl, ?hy16⟩) (fun _ => rfl) ?rest16
          case hy16 => (intro w hSw; (try dsimp only at hSw); go_simp; try with_reducible rfl)
          try simp only [Act.put, List.setIfInBounds_toArray, List.set_cons_zero, List.set_cons_succ]
          refine ordS_one (i := 1) (o := { dst := some 114, op := Op.call { callee := Callee.value (Operand.func 23), args := #[Operand.tmp 113], argTypes := #[33] }, type := 3, pos := _, after := #[{ on := 0, ground := Ground.data }], guard := none }) (by kernel_rfl) rfl (by rfl) (fun K hK => ?_)
          go_simp
          refine ⟨trivial, (callsIn_wide.2 (hc)).mono ?_⟩
          rintro e w9 ⟨rfl, rfl⟩
          clear hc
          refine hK _ _ hS ?_
          clear hK K
          try simp only [Act.put, List.setIfInBounds_toArray, List.set_cons_zero, List.set_cons_succ]
          refine' ordS_take (i := 7) (oi := { dst := some 120, op := Op.binOp BinOp.neq 3 (Operand.tmp 114) (Operand.tmp 119) 3, type := 4, pos := _, after := #[{ on := 1, ground := Ground.data }, { on := 6, ground := Ground.data }], guard := none }) (v := _) rfl (by kernel_rfl) (by kernel_rfl) (by kernel_rfl) (by kernel_rfl) (fun _ _ _ h => h) (by assumption) (Or.inl ⟨by rfl, ?hy17⟩) (fun _ => rfl) ?rest17
          case hy17 => (intro w hSw; (try dsimp only at hSw); go_simp; try with_reducible rfl)
          try simp only [Act.put, List.setIfInBounds_toArray, List.set_cons_zero, List.set_cons_succ]
          refine' ordS_take (i := 8) (oi := { dst := some 121, op := Op.move (Operand.tmp 120), type := 4, pos := _, after := #[{ on := 7, ground := Ground.data }, { on := 1, ground := Ground.chain }], guard := none }) (v := _) rfl (by kernel_rfl) (by kernel_rfl) (by kernel_rfl) (by kernel_rfl) (fun _ _ _ h => h) (by assumption) (Or.inl ⟨by rfl, ?hy18⟩) (fun _ => rfl) ?rest18
          case hy18 => (intro w hSw; (try dsimp only at hSw); go_simp; try with_reducible rfl)
          try simp only [Act.put, List.setIfInBounds_toArray, List.set_cons_zero, List.set_cons_succ]
          refine' ordS_take (i := 9) (oi := { dst := some 122, op := Op.move (Operand.tmp 14), type := 4, pos := _, after := #[{ on := 8, ground := Ground.guard }], guard := some (8, false) }) (v := _) rfl (by kernel_rfl) (by kernel_rfl) (by kernel_rfl) (by kernel_rfl) (fun _ _ _ h => h) (by assumption) (Or.inl ⟨by rfl, ?hy19⟩) (fun _ => rfl) ?rest19
          case hy19 => (intro w hSw; (try dsimp only at hSw); go_simp; try with_reducible rfl)
          try simp only [Act.put, List.setIfInBounds_toArray, List.set_cons_zero, List.set_cons_succ]
          refine' ordS_take (i := 10) (oi := { dst := some 123, op := Op.move (Operand.tmp 15), type := 3, pos := _, after := #[{ on := 8, ground := Ground.guard }], guard := some (8, false) }) (v := _) rfl (by kernel_rfl) (by kernel_rfl) (by kernel_rfl) (by kernel_rfl) (fun _ _ _ h => h) (by assumption) (Or.inl ⟨by rfl, ?hy20⟩) (fun _ => rfl) ?rest20
          case hy20 => (intro w hSw; (try dsimp only at hSw); go_simp; try with_reducible rfl)
          try simp only [Act.put, List.setIfInBounds_toArray, List.set_cons_zero, List.set_cons_succ]
          refine' ordS_take (i := 11) (oi := { dst := some 124, op := Op.binOp BinOp.geq 3 (Operand.tmp 123) (Operand.const (Value.int IntKind.i64 0)) 3, type := 4, pos := _, after := #[{ on := 10, ground := Ground.data }, { on := 8, ground := Ground.guard }], guard := some (8, false) }) (v := _) rfl (by kernel_rfl) (by kernel_rfl) (by kernel_rfl) (by kernel_rfl) (fun _ _ _ h => h) (by assumption) (Or.inl ⟨by rfl, ?hy21⟩) (fun _ => rfl) ?rest21
          case hy21 => (intro w hSw; (try dsimp only at hSw); go_simp; try with_reducible rfl)
          try simp only [Act.put, List.setIfInBounds_toArray, List.set_cons_zero, List.set_cons_succ]
          refine' ordS_take (i := 12) (oi := { dst := some 125, op := Op.binOp BinOp.neq 4 (Operand.tmp 122) (Operand.tmp 124) 4, type := 4, pos := _, after := #[{ on := 9, ground := Ground.data }, { on := 11, ground := Ground.data }, { on := 8, ground := Ground.guard }], guard := some (8, false) }) (v := _) rfl (by kernel_rfl) (by kernel_rfl) (by kernel_rfl) (by kernel_rfl) (fun _ _ _ h => h) (by assumption) (Or.inl ⟨by rfl, ?hy22⟩) (fun _ => rfl) ?rest22
          case hy22 => (intro w hSw; (try dsimp only at hSw); go_simp; try with_reducible rfl)
          try simp only [Act.put, List.setIfInBounds_toArray, List.set_cons_zero, List.set_cons_succ]
          refine' ordS_take (i := 13) (oi := { dst := some 126, op := Op.pick (Operand.tmp 121) (Operand.const (Value.bool true)) (Operand.tmp 125), type := 4, pos := _, after := #[{ on := 8, ground := Ground.data }, { on := 12, ground := Ground.data }], guard := none }) (v := _) rfl (by kernel_rfl) (by kernel_rfl) (by kernel_rfl) (by kernel_rfl) (fun _ _ _ h => h) (by assumption) (Or.inl ⟨by rfl, ?hy23⟩) (fun _ => rfl) ?rest23
          case hy23 => (intro w hSw; (try dsimp only at hSw); go_simp; try with_reducible rfl)
          try simp only [Act.put, List.setIfInBounds_toArray, List.set_cons_zero, List.set_cons_succ]
          refine' ordS_take (i := 14) (oi := { dst := some 127, op := Op.move (Operand.tmp 126), type := 4, pos := _, after := #[{ on := 13, ground := Ground.data }, { on := 8, ground := Ground.chain }], guard := none }) (v := _) rfl (by kernel_rfl) (by kernel_rfl) (by kernel_rfl) (by kernel_rfl) (fun _ _ _ h => h) (by assumption) (Or.inl ⟨by rfl, ?hy24⟩) (fun _ => rfl) ?rest24
          case hy24 => (intro w hSw; (try dsimp only at hSw); go_simp; try with_reducible rfl)
          try simp only [Act.put, List.setIfInBounds_toArray, List.set_cons_zero, List.set_cons_succ]
          refine' ordS_take (i := 15) (oi := { dst := some 128, op := Op.move (Operand.tmp 14), type := 4, pos := _, after := #[{ on := 14, ground := Ground.guard }], guard := some (14, false) }) (v := _) rfl (by kernel_rfl) (by kernel_rfl) (by kernel_rfl) (by kernel_rfl) (fun _ _ _ h => h) (by assumption) (Or.inl ⟨by rfl, ?hy25⟩) (fun _ => rfl) ?rest25
          case hy25 => (intro w hSw; (try dsimp only at hSw); go_simp; try with_reducible rfl)
          try simp only [Act.put, List.setIfInBounds_toArray, List.set_cons_zero, List.set_cons_succ]
          refine' ordS_take (i := 16) (oi := { dst := some 129, op := Op.move (Operand.tmp 128), type := 4, pos := _, after := #[{ on := 15, ground := Ground.data }, { on := 14, ground := Ground.chain }, { on := 14, ground := Ground.guard }], guard := some (14, false) }) (v := _) rfl (by kernel_rfl) (by kernel_rfl) (by kernel_rfl) (by kernel_rfl) (fun _ _ _ h => h) (by assumption) (Or.inl ⟨by rfl, ?hy26⟩) (fun _ => rfl) ?rest26
          case hy26 => (intro w hSw; (try dsimp only at hSw); go_simp; try with_reducible rfl)
          try simp only [Act.put, List.setIfInBounds_toArray, List.set_cons_zero, List.set_cons_succ]
          refine ordS_take (i := 17) (oi := { dst := some 130, op := Op.load 24 (Operand.tmp 13), type := 24, pos := _, after := #[{ on := 16, ground := Ground.guard }], guard := some (16, true) }) (v := undef) rfl (by kernel_rfl) (by kernel_rfl) (by kernel_rfl) (by kernel_rfl) (fun _ _ _ h => h) (by assumption) (Or.inr ⟨by rfl, rfl⟩) (fun _ => rfl) ?_
          try simp only [Act.put, List.setIfInBounds_toArray, List.set_cons_zero, List.set_cons_succ]
          refine ordS_take (i := 18) (oi := { dst := some 131, op := Op.move (Operand.tmp 4), type := 35, pos := _, after := #[{ on := 16, ground := Ground.guard }], guard := some (16, true) }) (v := undef) rfl (by kernel_rfl) (by kernel_rfl) (by kernel_rfl) (by kernel_rfl) (fun _ _ _ h => h) (by assumption) (Or.inr ⟨by rfl, rfl⟩) (fun _ => rfl) ?_
          try simp only [Act.put, List.setIfInBounds_toArray, List.set_cons_zero, List.set_cons_succ]
          refine ordS_take (i := 19) (oi := { dst := some 132, op := Op.nilCheck (Operand.tmp 131), type := 0, pos := _, after := #[{ on := 18, ground := Ground.data }, { on := 16, ground := Ground.guard }], guard := some (16, true) }) (v := undef) rfl (by kernel_rfl) (by kernel_rfl) (by kernel_rfl) (by kernel_rfl) (fun _ _ _ h => h) (by assumption) (Or.inr ⟨by rfl, rfl⟩) (fun _ => rfl) ?_
          try simp only [Act.put, List.setIfInBounds_toArray, List.set_cons_zero, List.set_cons_succ]
          refine ordS_take (i := 20) (oi := { dst := some 133, op := Op.fieldAddr 39 (Operand.tmp 132) 1, type := 0, pos := _, after := #[{ on := 19, ground := Ground.data }, { on := 16, ground := Ground.guard }], guard := some (16, true) }) (v := undef) rfl (by kernel_rfl) (by kernel_rfl) (by kernel_rfl) (by kernel_rfl) (fun _ _ _ h => h) (by assumption) (Or.inr ⟨by rfl, rfl⟩) (fun _ => rfl) ?_
          try simp only [Act.put, List.setIfInBounds_toArray, List.set_cons_zero, List.set_cons_succ]
          refine ordS_take (i := 21) (oi := { dst := some 134, op := Op.load 37 (Operand.tmp 133), type := 37, pos := _, after := #[{ on := 20, ground := Ground.data }, { on := 16, ground := Ground.guard }], guard := some (16, true) }) (v := undef) rfl (by kernel_rfl) (by kernel_rfl) (by kernel_rfl) (by kernel_rfl) (fun _ _ _ h => h) (by assumption) (Or.inr ⟨by rfl, rfl⟩) (fun _ => rfl) ?_
          try simp only [Act.put, List.setIfInBounds_toArray, List.set_cons_zero, List.set_cons_succ]
          refine ordS_take (i := 22) (oi := { dst := some 135, op := Op.move (Operand.tmp 15), type := 3, pos := _, after := #[{ on := 16, ground := Ground.guard }], guard := some (16, true) }) (v := undef) rfl (by kernel_rfl) (by kernel_rfl) (by kernel_rfl) (by kernel_rfl) (fun _ _ _ h => h) (by assumption) (Or.inr ⟨by rfl, rfl⟩) (fun _ => rfl) ?_
          try simp only [Act.put, List.setIfInBounds_toArray, List.set_cons_zero, List.set_cons_succ]
          refine ordS_take (i := 23) (oi := { dst := some 136, op := Op.indexAddr 37 (Operand.tmp 134) (Operand.tmp 135), type := 0, pos := _, after := #[{ on := 21, ground := Ground.data }, { on := 22, ground := Ground.data }, { on := 16, ground := Ground.guard }], guard := some (16, true) }) (v := undef) rfl (by kernel_rfl) (by kernel_rfl) (by kernel_rfl) (by kernel_rfl) (fun _ _ _ h => h) (by assumption) (Or.inr ⟨by rfl, rfl⟩) (fun _ => rfl) ?_
          try simp only [Act.put, List.setIfInBounds_toArray, List.set_cons_zero, List.set_cons_succ]
          refine ordS_take (i := 24) (oi := { dst := some 137, op := Op.load 28 (Operand.tmp 136), type := 28, pos := _, after := #[{ on := 23, ground := Ground.data }, { on := 16, ground := Ground.guard }], guard := some (16, true) }) (v := undef) rfl (by kernel_rfl) (by kernel_rfl) (by kernel_rfl) (by kernel_rfl) (fun _ _ _ h => h) (by assumption) (Or.inr ⟨by rfl, rfl⟩) (fun _ => rfl) ?_
          try simp only [Act.put, List.setIfInBounds_toArray, List.set_cons_zero, List.set_cons_succ]
          refine ordS_skip (i := 25) (o := { dst := some 138, op := Op.call { callee := Callee.value (Operand.func 20), args := #[Operand.tmp 130, Operand.tmp 137], argTypes := #[24, 28] }, type := 4, pos := _, after := #[{ on := 17, ground := Ground.data }, { on := 24, ground := Ground.data }, { on := 16, ground := Ground.chain }, { on := 16, ground := Ground.guard }], guard := some (16, true) }) (by kernel_rfl) rfl (by rfl) (fun _ => trivial) (by assumption) ?_
          try simp only [Act.put, List.setIfInBounds_toArray, List.set_cons_zero, List.set_cons_succ]
          refine ordS_take (i := 26) (oi := { dst := some 139, op := Op.unOp UnOp.not 4 (Operand.tmp 138), type := 4, pos := _, after := #[{ on := 25, ground := Ground.data }, { on := 16, ground := Ground.guard }], guard := some (16, true) }) (v := undef) rfl (by kernel_rfl) (by kernel_rfl) (by kernel_rfl) (by kernel_rfl) (fun _ _ _ h => h) (by assumption) (Or.inr ⟨by rfl, rfl⟩) (fun _ => rfl) ?_
          try simp only [Act.put, List.setIfInBounds_toArray, List.set_cons_zero, List.set_cons_succ]
          refine' ordS_take (i := 27) (oi := { dst := some 140, op := Op.pick (Operand.tmp 129) (Operand.tmp 139) (Operand.const (Value.bool false)), type := 4, pos := _, after := #[{ on := 16, ground := Ground.data }, { on := 26, ground := Ground.data }, { on := 14, ground := Ground.guard }], guard := some (14, false) }) (v := _) rfl (by kernel_rfl) (by kernel_rfl) (by kernel_rfl) (by kernel_rfl) (fun _ _ _ h => h) (by assumption) (Or.inl ⟨by rfl, ?hy36⟩) (fun _ => rfl) ?rest36
          case hy36 => (intro w hSw; (try dsimp only at hSw); go_simp; try with_reducible rfl)
          try simp only [Act.put, List.setIfInBounds_toArray, List.set_cons_zero, List.set_cons_succ]
          refine' ordS_take (i := 28) (oi := { dst := some 141, op := Op.pick (Operand.tmp 127) (Operand.const (Value.bool true)) (Operand.tmp 140), type := 4, pos := _, after := #[{ on := 14, ground := Ground.data }, { on := 27, ground := Ground.data }], guard := none }) (v := _) rfl (by kernel_rfl) (by kernel_rfl) (by kernel_rfl) (by kernel_rfl) (fun _ _ _ h => h) (by assumption) (Or.inl ⟨by rfl, ?hy37⟩) (fun _ => rfl) ?rest37
          case hy37 => (intro w hSw; (try dsimp only at hSw); go_simp; try with_reducible rfl)
          try simp only [Act.put, List.setIfInBounds_toArray, List.set_cons_zero, List.set_cons_succ]
          refine' ordS_take (i := 29) (oi := { dst := some 142, op := Op.move (Operand.tmp 141), type := 4, pos := _, after := #[{ on := 28, ground := Ground.data }, { on := 25, ground := Ground.chain }], guard := none }) (v := _) rfl (by kernel_rfl) (by kernel_rfl) (by kernel_rfl) (by kernel_rfl) (fun _ _ _ h => h) (by assumption) (Or.inl ⟨by rfl, ?hy38⟩) (fun _ => rfl) ?rest38
          case hy38 => (intro w hSw; (try dsimp only at hSw); go_simp; try with_reducible rfl)
          try simp only [Act.put, List.setIfInBounds_toArray, List.set_cons_zero, List.set_cons_succ]
          refine' ordS_take (i := 30) (oi := { dst := some 143, op := Op.move (Operand.tmp 14), type := 4, pos := _, after := #[{ on := 29, ground := Ground.guard }], guard := some (29, false) }) (v := _) rfl (by kernel_rfl) (by kernel_rfl) (by kernel_rfl) (by kernel_rfl) (fun _ _ _ h => h) (by assumption) (Or.inl ⟨by rfl, ?hy39⟩) (fun _ => rfl) ?rest39
          case hy39 => (intro w hSw; (try dsimp only at hSw); go_simp; try with_reducible rfl)
          try simp only [Act.put, List.setIfInBounds_toArray, List.set_cons_zero, List.set_cons_succ]
          refine' ordS_take (i := 31) (oi := { dst := some 144, op := Op.unOp UnOp.not 4 (Operand.tmp 143), type := 4, pos := _, after := #[{ on := 30, ground := Ground.data }, { on := 29, ground := Ground.guard }], guard := some (29, false) }) (v := _) rfl (by kernel_rfl) (by kernel_rfl) (by kernel_rfl) (by kernel_rfl) (fun _ _ _ h => h) (by assumption) (Or.inl ⟨by rfl, ?hy40⟩) (fun _ => rfl) ?rest40
          case hy40 => (intro w hSw; (try dsimp only at hSw); go_simp; try with_reducible rfl)
          try simp only [Act.put, List.setIfInBounds_toArray, List.set_cons_zero, List.set_cons_succ]
          refine' ordS_take (i := 32) (oi := { dst := some 145, op := Op.move (Operand.tmp 144), type := 4, pos := _, after := #[{ on := 31, ground := Ground.data }, { on := 29, ground := Ground.chain }, { on := 29, ground := Ground.guard }], guard := some (29, false) }) (v := _) rfl (by kernel_rfl) (by kernel_rfl) (by kernel_rfl) (by kernel_rfl) (fun _ _ _ h => h) (by assumption) (Or.inl ⟨by rfl, ?hy41⟩) (fun _ => rfl) ?rest41
          case hy41 => (intro w hSw; (try dsimp only at hSw); go_simp; try with_reducible rfl)
          try simp only [Act.put, List.setIfInBounds_toArray, List.set_cons_zero, List.set_cons_succ]
          refine' ordS_take (i := 33) (oi := { dst := some 146, op := Op.load 24 (Operand.tmp 13), type := 24, pos := _, after := #[{ on := 32, ground := Ground.guard }], guard := some (32, true) }) (v := _) rfl (by kernel_rfl) (by kernel_rfl) (by kernel_rfl) (by kernel_rfl) (fun _ _ _ h => h) (by assumption) (Or.inl ⟨by rfl, ?hy42⟩) (fun _ => rfl) ?rest42
          case hy42 => (intro w hSw; (try dsimp only at hSw); go_simp; try with_reducible rfl)
          try simp only [Act.put, List.setIfInBounds_toArray, List.set_cons_zero, List.set_cons_succ]
          refine' ordS_take (i := 34) (oi := { dst := some 147, op := Op.build 24 #[], type := 24, pos := _, after := #[{ on := 32, ground := Ground.guard }], guard := some (32, true) }) (v := _) rfl (by kernel_rfl) (by kernel_rfl) (by kernel_rfl) (by kernel_rfl) (fun _ _ _ h => h) (by assumption) (Or.inl ⟨by rfl, ?hy43⟩) (fun _ => rfl) ?rest43
          case hy43 => (intro w hSw; (try dsimp only at hSw); go_simp; try with_reducible rfl)
          try simp only [Act.put, List.setIfInBounds_toArray, List.set_cons_zero, List.set_cons_succ]
          refine ordS_one (i := 35) (o := { dst := some 148, op := Op.binOp BinOp.neq 24 (Operand.tmp 146) (Operand.tmp 147) 24, type := 4, pos := _, after := #[{ on := 33, ground := Ground.data }, { on := 34, ground := Ground.data }, { on := 32, ground := Ground.guard }], guard := some (32, true) }) (by kernel_rfl) rfl (by rfl) (fun K hK => ?_)
          go_simp
          refine hK _ _ hS ?_
          clear hK K
          try simp only [Act.put, List.setIfInBounds_toArray, List.set_cons_zero, List.set_cons_succ]
          refine' ordS_take (i := 36) (oi := { dst := some 149, op := Op.pick (Operand.tmp 145) (Operand.tmp 148) (Operand.const (Value.bool false)), type := 4, pos := _, after := #[{ on := 32, ground := Ground.data }, { on := 35, ground := Ground.data }, { on := 29, ground := Ground.guard }], guard := some (29, false) }) (v := _) rfl (by kernel_rfl) (by kernel_rfl) (by kernel_rfl) (by kernel_rfl) (fun _ _ _ h => h) (by assumption) (Or.inl ⟨by rfl, ?hy44⟩) (fun _ => rfl) ?rest44
          case hy44 => (intro w hSw; (try dsimp only at hSw); go_simp; try with_reducible rfl)
          try simp only [Act.put, List.setIfInBounds_toArray, List.set_cons_zero, List.set_cons_succ]
          refine' ordS_take (i := 37) (oi := { dst := some 150, op := Op.pick (Operand.tmp 142) (Operand.const (Value.bool true)) (Operand.tmp 149), type := 4, pos := _, after := #[{ on := 29, ground := Ground.data }, { on := 36, ground := Ground.data }], guard := none }) (v := _) rfl (by kernel_rfl) (by kernel_rfl) (by kernel_rfl) (by kernel_rfl) (fun _ _ _ h => h) (by assumption) (Or.inl ⟨by rfl, ?hy45⟩) (fun _ => rfl) ?rest45
          case hy45 => (intro w hSw; (try dsimp only at hSw); go_simp; try with_reducible rfl)
          try simp only [Act.put, List.setIfInBounds_toArray, List.set_cons_zero, List.set_cons_succ]
          refine ordS_done (by kernel_rfl) ?_
          clear heq
          have HSE := Lib.hid (Sep.drop (l1 := [CellsO q #[(.slice ru m2.length capu), (.slice rv m2.length capv)] 39, RowO 3 1 (.slice ru m2.length capu) m2.length (cellsI (m2.map Th.id)), RowO 28 4 (.slice rv m2.length capv) m2.length (flatK m2), HeapO p m2]) (l2 := []) (Sep.drop (l1 := [CellsO q #[(.slice ru m2.length capu), (.slice rv m2.length capv)] 39, RowO 3 1 (.slice ru m2.length capu) m2.length (cellsI (m2.map Th.id)), RowO 28 4 (.slice rv m2.length capv) m2.length (flatK m2), HeapO p m2, CellsO ab #[.int .i64 d, .int .i64 t.id, .int .u64 t.F, .int .u64 t.H, .int .i64 t.Y, .int .i64 t.X] 41]) (l2 := []) h9))
          have HAE := Lib.hid hA9
          clear h9 hA9 hS
          go_wp2
          go_roundw
          case rel => exact ⟨k + 1, m2, _, _, by omega, by go_num, hml2, HSE.out, HAE.out⟩
          case measure => simp [intOf]; omega
        · obtain rfl : is = true := by rw [← HIS.out, hf]; rfl
          obtain ⟨gv, rfl⟩ : ∃ g, rv = some ⟨g, 0, none⟩ := by
            rcases hrv with ⟨_, e, _⟩ | h
            · omega
            · exact h
          have ek : atT m2 j = kk := by rw [← HKK.out]; unfold keyA; rw [hf]; rfl
          obtain ⟨hv, _, _, _, _⟩ := Sep.row (l1 := [CellsO q #[(.slice ru m2.length capu), (.slice (some ⟨gv, 0, none⟩) m2.length capv)] 39, RowO 3 1 (.slice ru m2.length capu) m2.length (cellsI (m2.map Th.id))]) h9
          obtain ⟨e0, e1, e2, e3⟩ := flatK_at m2 j hj
          rw [ek] at e0 e1 e2 e3
          have hS : (fun w' : World => w'.cell? ⟨q, 0, none⟩ = some (.slice ru m2.length capu) ∧ w'.cell? ⟨q, 1, none⟩ = some (.slice (some ⟨gv, 0, none⟩) m2.length capv) ∧ w'.cell? ⟨kb, 0, none⟩ = some (.int .u64 kk.F) ∧ w'.cell? ⟨kb, 1, none⟩ = some (.int .u64 kk.H) ∧ w'.cell? ⟨kb, 2, none⟩ = some (.int .i64 kk.Y) ∧ w'.cell? ⟨kb, 3, none⟩ = some (.int .i64 kk.X) ∧ w'.cell? ⟨gv, j * 4, none⟩ = some (.int .u64 kk.F) ∧ w'.cell? ⟨gv, j * 4 + 1, none⟩ = some (.int .u64 kk.H) ∧ w'.cell? ⟨gv, j * 4 + 2, none⟩ = some (.int .i64 kk.Y) ∧ w'.cell? ⟨gv, j * 4 + 3, none⟩ = some (.int .i64 kk.X)) w12.drew := ⟨by simp [World.cell?, rq], by simp [World.cell?, rq], by simp [World.cell?, rk], by simp [World.cell?, rk], by simp [World.cell?, rk], by simp [World.cell?, rk], hv _ _ e0, hv _ _ e1, hv _ _ e2, hv _ _ e3⟩
          have hj0 : (0 : Int) ≤ (j : Int) := by omega
          have hjI : (j : Int) < (m2.length : Int) := by omega
          have hge0 : decide ((0 : Int) ≤ (j : Int)) = true := decide_eq_true hj0
          have hc := len_sep (l1 := [CellsO q #[(.slice ru m2.length capu), (.slice (some ⟨gv, 0, none⟩) m2.length capv)] 39, RowO 3 1 (.slice ru m2.length capu) m2.length (cellsI (m2.map Th.id)), RowO 28 4 (.slice (some ⟨gv, 0, none⟩) m2.length capv) m2.length (flatK m2)]) (l2 := [CellsO ab #[.int .i64 d, .int .i64 t.id, .int .u64 t.F, .int .u64 t.H, .int .i64 t.Y, .int .i64 t.X] 41, CellsO kb #[.int .u64 kk.F, .int .u64 kk.H, .int .i64 kk.Y, .int .i64 kk.X] 24]) h9
          have hs25 := fun w => same_any kk kk w
          have hss : sameK kk kk = true := by unfold sameK; simp
          simp only [hss] at hs25
          clear rq rk hf hrv ek hv e0 e1 e2 e3 hss
          refine (wpIn_wide (n := 11)).1 ?_
          refine ordS_begin (S := (fun w' : World => w'.cell? ⟨q, 0, none⟩ = some (.slice ru m2.length capu) ∧ w'.cell? ⟨q, 1, none⟩ = some (.slice (some ⟨gv, 0, none⟩) m2.length capv) ∧ w'.cell? ⟨kb, 0, none⟩ = some (.int .u64 kk.F) ∧ w'.cell? ⟨kb, 1, none⟩ = some (.int .u64 kk.H) ∧ w'.cell? ⟨kb, 2, none⟩ = some (.int .i64 kk.Y) ∧ w'.cell? ⟨kb, 3, none⟩ = some (.int .i64 kk.X) ∧ w'.cell? ⟨gv, j * 4, none⟩ = some (.int .u64 kk.F) ∧ w'.cell? ⟨gv, j * 4 + 1, none⟩ = some (.int .u64 kk.H) ∧ w'.cell? ⟨gv, j * 4 + 2, none⟩ = some (.int .i64 kk.Y) ∧ w'.cell? ⟨gv, j * 4 + 3, none⟩ = some (.int .i64 kk.X))) (by kernel_rfl) hS (fun _ => ?_)
          refine' ordS_take (i := 0) (oi := { dst := some 113, op := Op.move (Operand.tmp 3), type := 33, pos := _, after := #[], guard := none }) (v := _) rfl (by kernel_rfl) (by kernel_rfl) (by kernel_rfl) (by kernel_rfl) (fun _ _ _ h => h) (by assumption) (Or.inl ⟨by rfl, ?hy46⟩) (fun _ => rfl) ?rest46
          case hy46 => (intro w hSw; (try dsimp only at hSw); go_simp; try with_reducible rfl)
          try simp only [Act.put, List.setIfInBounds_toArray, List.set_cons_zero, List.set_cons_succ]
          refine' ordS_take (i := 2) (oi := { dst := some 115, op := Op.move (Operand.tmp 4), type := 35, pos := _, after := #[], guard := none }) (v := _) rfl (by kernel_rfl) (by kernel_rfl) (by kernel_rfl) (by kernel_rfl) (fun _ _ _ h => h) (by assumption) (Or.inl ⟨by rfl, ?hy47⟩) (fun _ => rfl) ?rest47
          case hy47 => (intro w hSw; (try dsimp only at hSw); go_simp; try with_reducible rfl)
          try simp only [Act.put, List.setIfInBounds_toArray, List.set_cons_zero, List.set_cons_succ]
          refine' ordS_take (i := 3) (oi := { dst := some 116, op := Op.nilCheck (Operand.tmp 115), type := 0, pos := _, after := #[{ on := 2, ground := Ground.data }], guard := none }) (v := _) rfl (by kernel_rfl) (by kernel_rfl) (by kernel_rfl) (by kernel_rfl) (fun _ _ _ h => h) (by assumption) (Or.inl ⟨by rfl, ?hy48⟩) (fun _ => rfl) ?rest48
          case hy48 => (intro w hSw; (try dsimp only at hSw); go_simp; try with_reducible rfl)
          try simp only [Act.put, List.setIfInBounds_toArray, List.set_cons_zero, List.set_cons_succ]
          refine' ordS_take (i := 4) (oi := { dst := some 117, op := Op.fieldAddr 39 (Operand.tmp 116) 0, type := 0, pos := _, after := #[{ on := 3, ground := Ground.data }], guard := none }) (v := _) rfl (by kernel_rfl) (by kernel_rfl) (by kernel_rfl) (by kernel_rfl) (fun _ _ _ h => h) (by assumption) (Or.inl ⟨by rfl, ?hy49⟩) (fun _ => rfl) ?rest49
          case hy49 => (intro w hSw; (try dsimp only at hSw); go_simp; try with_reducible rfl)
          try simp only [Act.put, List.setIfInBounds_toArray, List.set_cons_zero, List.set_cons_succ]
          refine' ordS_take (i := 5) (oi := { dst := some 118, op := Op.load 36 (Operand.tmp 117), type := 36, pos := _, after := #[{ on := 4, ground := Ground.data }], guard := none }) (v := _) rfl (by kernel_rfl) (by kernel_rfl) (by kernel_rfl) (by kernel_rfl) (fun _ _ _ h => h) (by assumption) (Or.inl ⟨by rfl, ?hy50⟩) (fun _ => rfl) ?rest50
          case hy50 => (intro w hSw; (try dsimp only at hSw); go_simp; try with_reducible rfl)
          try simp only [Act.put, List.setIfInBounds_toArray, List.set_cons_zero, List.set_cons_succ]
          refine' ordS_take (i := 6) (oi := { dst := some 119, op := Op.call { callee := Callee.builtin Builtin.len, args := #[Operand.tmp 118], argTypes := #[36] }, type := 3, pos := _, after := #[{ on := 5, ground := Ground.data }], guard := none }) (v := _) rfl (by kernel_rfl) (by kernel_rfl) (by kernel_rfl) (by kernel_rfl) (fun _ _ _ h => h) (by assumption) (Or.inl ⟨by rfl, ?hy51⟩) (fun _ => rfl) ?rest51
          case hy51 => (intro w hSw; (try dsimp only at hSw); go_simp; try with_reducible rfl)
          try simp only [Act.put, List.setIfInBounds_toArray, List.set_cons_zero, List.set_cons_succ]
          refine ordS_one (i := 1) (o := { dst := some 114, op := Op.call { callee := Callee.value (Operand.func 23), args := #[Operand.tmp 113], argTypes := #[33] }, type := 3, pos := _, after := #[{ on := 0, ground := Ground.data }], guard := none }) (by kernel_rfl) rfl (by rfl) (fun K hK => ?_)
          go_simp
          refine ⟨trivial, (callsIn_wide.2 (hc)).mono ?_⟩
          rintro e w9 ⟨rfl, rfl⟩
          clear hc
          refine hK _ _ hS ?_
          clear hK K
          try simp only [Act.put, List.setIfInBounds_toArray, List.set_cons_zero, List.set_cons_succ]
          refine' ordS_take (i := 7) (oi := { dst := some 120, op := Op.binOp BinOp.neq 3 (Operand.tmp 114) (Operand.tmp 119) 3, type := 4, pos := _, after := #[{ on := 1, ground := Ground.data }, { on := 6, ground := Ground.data }], guard := none }) (v := _) rfl (by kernel_rfl) (by kernel_rfl) (by kernel_rfl) (by kernel_rfl) (fun _ _ _ h => h) (by assumption) (Or.inl ⟨by rfl, ?hy52⟩) (fun _ => rfl) ?rest52
          case hy52 => (intro w hSw; (try dsimp only at hSw); go_simp; try with_reducible rfl)
          try simp only [Act.put, List.setIfInBounds_toArray, List.set_cons_zero, List.set_cons_succ]
          refine' ordS_take (i := 8) (oi := { dst := some 121, op := Op.move (Operand.tmp 120), type := 4, pos := _, after := #[{ on := 7, ground := Ground.data }, { on := 1, ground := Ground.chain }], guard := none }) (v := _) rfl (by kernel_rfl) (by kernel_rfl) (by kernel_rfl) (by kernel_rfl) (fun _ _ _ h => h) (by assumption) (Or.inl ⟨by rfl, ?hy53⟩) (fun _ => rfl) ?rest53
          case hy53 => (intro w hSw; (try dsimp only at hSw); go_simp; try with_reducible rfl)
          try simp only [Act.put, List.setIfInBounds_toArray, List.set_cons_zero, List.set_cons_succ]
          refine' ordS_take (i := 9) (oi := { dst := some 122, op := Op.move (Operand.tmp 14), type := 4, pos := _, after := #[{ on := 8, ground := Ground.guard }], guard := some (8, false) }) (v := _) rfl (by kernel_rfl) (by kernel_rfl) (by kernel_rfl) (by kernel_rfl) (fun _ _ _ h => h) (by assumption) (Or.inl ⟨by rfl, ?hy54⟩) (fun _ => rfl) ?rest54
          case hy54 => (intro w hSw; (try dsimp only at hSw); go_simp; try with_reducible rfl)
          try simp only [Act.put, List.setIfInBounds_toArray, List.set_cons_zero, List.set_cons_succ]
          refine' ordS_take (i := 10) (oi := { dst := some 123, op := Op.move (Operand.tmp 15), type := 3, pos := _, after := #[{ on := 8, ground := Ground.guard }], guard := some (8, false) }) (v := _) rfl (by kernel_rfl) (by kernel_rfl) (by kernel_rfl) (by kernel_rfl) (fun _ _ _ h => h) (by assumption) (Or.inl ⟨by rfl, ?hy55⟩) (fun _ => rfl) ?rest55
          case hy55 => (intro w hSw; (try dsimp only at hSw); go_simp; try with_reducible rfl)
          try simp only [Act.put, List.setIfInBounds_toArray, List.set_cons_zero, List.set_cons_succ]
          refine' ordS_take (i := 11) (oi := { dst := some 124, op := Op.binOp BinOp.geq 3 (Operand.tmp 123) (Operand.const (Value.int IntKind.i64 0)) 3, type := 4, pos := _, after := #[{ on := 10, ground := Ground.data }, { on := 8, ground := Ground.guard }], guard := some (8, false) }) (v := _) rfl (by kernel_rfl) (by kernel_rfl) (by kernel_rfl) (by kernel_rfl) (fun _ _ _ h => h) (by assumption) (Or.inl ⟨by rfl, ?hy56⟩) (fun _ => rfl) ?rest56
          case hy56 => (intro w hSw; (try dsimp only at hSw); go_simp; try with_reducible rfl)
          try simp only [Act.put, List.setIfInBounds_toArray, List.set_cons_zero, List.set_cons_succ]
          refine' ordS_take (i := 12) (oi := { dst := some 125, op := Op.binOp BinOp.neq 4 (Operand.tmp 122) (Operand.tmp 124) 4, type := 4, pos := _, after := #[{ on := 9, ground := Ground.data }, { on := 11, ground := Ground.data }, { on := 8, ground := Ground.guard }], guard := some (8, false) }) (v := _) rfl (by kernel_rfl) (by kernel_rfl) (by kernel_rfl) (by kernel_rfl) (fun _ _ _ h => h) (by assumption) (Or.inl ⟨by rfl, ?hy57⟩) (fun _ => rfl) ?rest57
          case hy57 => (intro w hSw; (try dsimp only at hSw); go_simp; try with_reducible rfl)
          try simp only [Act.put, List.setIfInBounds_toArray, List.set_cons_zero, List.set_cons_succ]
          refine' ordS_take (i := 13) (oi := { dst := some 126, op := Op.pick (Operand.tmp 121) (Operand.const (Value.bool true)) (Operand.tmp 125), type := 4, pos := _, after := #[{ on := 8, ground := Ground.data }, { on := 12, ground := Ground.data }], guard := none }) (v := _) rfl (by kernel_rfl) (by kernel_rfl) (by kernel_rfl) (by kernel_rfl) (fun _ _ _ h => h) (by assumption) (Or.inl ⟨by rfl, ?hy58⟩) (fun _ => rfl) ?rest58
          case hy58 => (intro w hSw; (try dsimp only at hSw); go_simp; try with_reducible rfl)
          try simp only [Act.put, List.setIfInBounds_toArray, List.set_cons_zero, List.set_cons_succ]
          refine' ordS_take (i := 14) (oi := { dst := some 127, op := Op.move (Operand.tmp 126), type := 4, pos := _, after := #[{ on := 13, ground := Ground.data }, { on := 8, ground := Ground.chain }], guard := none }) (v := _) rfl (by kernel_rfl) (by kernel_rfl) (by kernel_rfl) (by kernel_rfl) (fun _ _ _ h => h) (by assumption) (Or.inl ⟨by rfl, ?hy59⟩) (fun _ => rfl) ?rest59
          case hy59 => (intro w hSw; (try dsimp only at hSw); go_simp; try with_reducible rfl)
          try simp only [Act.put, List.setIfInBounds_toArray, List.set_cons_zero, List.set_cons_succ]
          refine' ordS_take (i := 15) (oi := { dst := some 128, op := Op.move (Operand.tmp 14), type := 4, pos := _, after := #[{ on := 14, ground := Ground.guard }], guard := some (14, false) }) (v := _) rfl (by kernel_rfl) (by kernel_rfl) (by kernel_rfl) (by kernel_rfl) (fun _ _ _ h => h) (by assumption) (Or.inl ⟨by rfl, ?hy60⟩) (fun _ => rfl) ?rest60
          case hy60 => (intro w hSw; (try dsimp only at hSw); go_simp; try with_reducible rfl)
          try simp only [Act.put, List.setIfInBounds_toArray, List.set_cons_zero, List.set_cons_succ]
          refine' ordS_take (i := 16) (oi := { dst := some 129, op := Op.move (Operand.tmp 128), type := 4, pos := _, after := #[{ on := 15, ground := Ground.data }, { on := 14, ground := Ground.chain }, { on := 14, ground := Ground.guard }], guard := some (14, false) }) (v := _) rfl (by kernel_rfl) (by kernel_rfl) (by kernel_rfl) (by kernel_rfl) (fun _ _ _ h => h) (by assumption) (Or.inl ⟨by rfl, ?hy61⟩) (fun _ => rfl) ?rest61
          case hy61 => (intro w hSw; (try dsimp only at hSw); go_simp; try with_reducible rfl)
          try simp only [Act.put, List.setIfInBounds_toArray, List.set_cons_zero, List.set_cons_succ]
          refine' ordS_take (i := 17) (oi := { dst := some 130, op := Op.load 24 (Operand.tmp 13), type := 24, pos := _, after := #[{ on := 16, ground := Ground.guard }], guard := some (16, true) }) (v := _) rfl (by kernel_rfl) (by kernel_rfl) (by kernel_rfl) (by kernel_rfl) (fun _ _ _ h => h) (by assumption) (Or.inl ⟨by rfl, ?hy62⟩) (fun _ => rfl) ?rest62
          case hy62 => (intro w hSw; (try dsimp only at hSw); go_simp; try with_reducible rfl)
          try simp only [Act.put, List.setIfInBounds_toArray, List.set_cons_zero, List.set_cons_succ]
          refine' ordS_take (i := 18) (oi := { dst := some 131, op := Op.move (Operand.tmp 4), type := 35, pos := _, after := #[{ on := 16, ground := Ground.guard }], guard := some (16, true) }) (v := _) rfl (by kernel_rfl) (by kernel_rfl) (by kernel_rfl) (by kernel_rfl) (fun _ _ _ h => h) (by assumption) (Or.inl ⟨by rfl, ?hy63⟩) (fun _ => rfl) ?rest63
          case hy63 => (intro w hSw; (try dsimp only at hSw); go_simp; try with_reducible rfl)
          try simp only [Act.put, List.setIfInBounds_toArray, List.set_cons_zero, List.set_cons_succ]
          refine' ordS_take (i := 19) (oi := { dst := some 132, op := Op.nilCheck (Operand.tmp 131), type := 0, pos := _, after := #[{ on := 18, ground := Ground.data }, { on := 16, ground := Ground.guard }], guard := some (16, true) }) (v := _) rfl (by kernel_rfl) (by kernel_rfl) (by kernel_rfl) (by kernel_rfl) (fun _ _ _ h => h) (by assumption) (Or.inl ⟨by rfl, ?hy64⟩) (fun _ => rfl) ?rest64
          case hy64 => (intro w hSw; (try dsimp only at hSw); go_simp; try with_reducible rfl)
          try simp only [Act.put, List.setIfInBounds_toArray, List.set_cons_zero, List.set_cons_succ]
          refine' ordS_take (i := 20) (oi := { dst := some 133, op := Op.fieldAddr 39 (Operand.tmp 132) 1, type := 0, pos := _, after := #[{ on := 19, ground := Ground.data }, { on := 16, ground := Ground.guard }], guard := some (16, true) }) (v := _) rfl (by kernel_rfl) (by kernel_rfl) (by kernel_rfl) (by kernel_rfl) (fun _ _ _ h => h) (by assumption) (Or.inl ⟨by rfl, ?hy65⟩) (fun _ => rfl) ?rest65
          case hy65 => (intro w hSw; (try dsimp only at hSw); go_simp; try with_reducible rfl)
          try simp only [Act.put, List.setIfInBounds_toArray, List.set_cons_zero, List.set_cons_succ]
          refine' ordS_take (i := 21) (oi := { dst := some 134, op := Op.load 37 (Operand.tmp 133), type := 37, pos := _, after := #[{ on := 20, ground := Ground.data }, { on := 16, ground := Ground.guard }], guard := some (16, true) }) (v := _) rfl (by kernel_rfl) (by kernel_rfl) (by kernel_rfl) (by kernel_rfl) (fun _ _ _ h => h) (by assumption) (Or.inl ⟨by rfl, ?hy66⟩) (fun _ => rfl) ?rest66
          case hy66 => (intro w hSw; (try dsimp only at hSw); go_simp; try with_reducible rfl)
          try simp only [Act.put, List.setIfInBounds_toArray, List.set_cons_zero, List.set_cons_succ]
          refine' ordS_take (i := 22) (oi := { dst := some 135, op := Op.move (Operand.tmp 15), type := 3, pos := _, after := #[{ on := 16, ground := Ground.guard }], guard := some (16, true) }) (v := _) rfl (by kernel_rfl) (by kernel_rfl) (by kernel_rfl) (by kernel_rfl) (fun _ _ _ h => h) (by assumption) (Or.inl ⟨by rfl, ?hy67⟩) (fun _ => rfl) ?rest67
          case hy67 => (intro w hSw; (try dsimp only at hSw); go_simp; try with_reducible rfl)
          try simp only [Act.put, List.setIfInBounds_toArray, List.set_cons_zero, List.set_cons_succ]
          refine' ordS_take (i := 23) (oi := { dst := some 136, op := Op.indexAddr 37 (Operand.tmp 134) (Operand.tmp 135), type := 0, pos := _, after := #[{ on := 21, ground := Ground.data }, { on := 22, ground := Ground.data }, { on := 16, ground := Ground.guard }], guard := some (16, true) }) (v := _) rfl (by kernel_rfl) (by kernel_rfl) (by kernel_rfl) (by kernel_rfl) (fun _ _ _ h => h) (by assumption) (Or.inl ⟨by rfl, ?hy68⟩) (fun _ => rfl) ?rest68
          case hy68 => (intro w hSw; (try dsimp only at hSw); go_simp; try with_reducible rfl)
          try simp only [Act.put, List.setIfInBounds_toArray, List.set_cons_zero, List.set_cons_succ]
          refine' ordS_take (i := 24) (oi := { dst := some 137, op := Op.load 28 (Operand.tmp 136), type := 28, pos := _, after := #[{ on := 23, ground := Ground.data }, { on := 16, ground := Ground.guard }], guard := some (16, true) }) (v := _) rfl (by kernel_rfl) (by kernel_rfl) (by kernel_rfl) (by kernel_rfl) (fun _ _ _ h => h) (by assumption) (Or.inl ⟨by rfl, ?hy69⟩) (fun _ => rfl) ?rest69
          case hy69 => (intro w hSw; (try dsimp only at hSw); go_simp; try with_reducible rfl)
          try simp only [Act.put, List.setIfInBounds_toArray, List.set_cons_zero, List.set_cons_succ]
          refine ordS_one (i := 25) (o := { dst := some 138, op := Op.call { callee := Callee.value (Operand.func 20), args := #[Operand.tmp 130, Operand.tmp 137], argTypes := #[24, 28] }, type := 4, pos := _, after := #[{ on := 17, ground := Ground.data }, { on := 24, ground := Ground.data }, { on := 16, ground := Ground.chain }, { on := 16, ground := Ground.guard }], guard := some (16, true) }) (by kernel_rfl) rfl (by rfl) (fun K hK => ?_)
          go_simp
          refine ⟨trivial, (callsIn_wide.2 (hs25 _)).mono ?_⟩
          rintro e w9 ⟨rfl, hb⟩
          replace h9 := h9.below hb
          replace hA9 := bl_tr hA9 hb
          replace hS : (fun w' : World => w'.cell? ⟨q, 0, none⟩ = some (.slice ru m2.length capu) ∧ w'.cell? ⟨q, 1, none⟩ = some (.slice (some ⟨gv, 0, none⟩) m2.length capv) ∧ w'.cell? ⟨kb, 0, none⟩ = some (.int .u64 kk.F) ∧ w'.cell? ⟨kb, 1, none⟩ = some (.int .u64 kk.H) ∧ w'.cell? ⟨kb, 2, none⟩ = some (.int .i64 kk.Y) ∧ w'.cell? ⟨kb, 3, none⟩ = some (.int .i64 kk.X) ∧ w'.cell? ⟨gv, j * 4, none⟩ = some (.int .u64 kk.F) ∧ w'.cell? ⟨gv, j * 4 + 1, none⟩ = some (.int .u64 kk.H) ∧ w'.cell? ⟨gv, j * 4 + 2, none⟩ = some (.int .i64 kk.Y) ∧ w'.cell? ⟨gv, j * 4 + 3, none⟩ = some (.int .i64 kk.X)) w9 := by
            obtain ⟨g0, g1, g2, g3, g4, g5, g6, g7, g8, g9⟩ := hS
            exact ⟨cell_later hb g0, cell_later hb g1, cell_later hb g2, cell_later hb g3, cell_later hb g4, cell_later hb g5, cell_later hb g6, cell_later hb g7, cell_later hb g8, cell_later hb g9⟩
          clear hb
          refine hK _ _ hS ?_
          clear hK K
          try simp only [Act.put, List.setIfInBounds_toArray, List.set_cons_zero, List.set_cons_succ]
          refine' ordS_take (i := 26) (oi := { dst := some 139, op := Op.unOp UnOp.not 4 (Operand.tmp 138), type := 4, pos := _, after := #[{ on := 25, ground := Ground.data }, { on := 16, ground := Ground.guard }], guard := some (16, true) }) (v := _) rfl (by kernel_rfl) (by kernel_rfl) (by kernel_rfl) (by kernel_rfl) (fun _ _ _ h => h) (by assumption) (Or.inl ⟨by rfl, ?hy70⟩) (fun _ => rfl) ?rest70
          case hy70 => (intro w hSw; (try dsimp only at hSw); go_simp; try with_reducible rfl)
          try simp only [Act.put, List.setIfInBounds_toArray, List.set_cons_zero, List.set_cons_succ]
          refine' ordS_take (i := 27) (oi := { dst := some 140, op := Op.pick (Operand.tmp 129) (Operand.tmp 139) (Operand.const (Value.bool false)), type := 4, pos := _, after := #[{ on := 16, ground := Ground.data }, { on := 26, ground := Ground.data }, { on := 14, ground := Ground.guard }], guard := some (14, false) }) (v := _) rfl (by kernel_rfl) (by kernel_rfl) (by kernel_rfl) (by kernel_rfl) (fun _ _ _ h => h) (by assumption) (Or.inl ⟨by rfl, ?hy71⟩) (fun _ => rfl) ?rest71
          case hy71 => (intro w hSw; (try dsimp only at hSw); go_simp; try with_reducible rfl)
          try simp only [Act.put, List.setIfInBounds_toArray, List.set_cons_zero, List.set_cons_succ]
          refine' ordS_take (i := 28) (oi := { dst := some 141, op := Op.pick (Operand.tmp 127) (Operand.const (Value.bool true)) (Operand.tmp 140), type := 4, pos := _, after := #[{ on := 14, ground := Ground.data }, { on := 27, ground := Ground.data }], guard := none }) (v := _) rfl (by kernel_rfl) (by kernel_rfl) (by kernel_rfl) (by kernel_rfl) (fun _ _ _ h => h) (by assumption) (Or.inl ⟨by rfl, ?hy72⟩) (fun _ => rfl) ?rest72
          case hy72 => (intro w hSw; (try dsimp only at hSw); go_simp; try with_reducible rfl)
          try simp only [Act.put, List.setIfInBounds_toArray, List.set_cons_zero, List.set_cons_succ]
          refine' ordS_take (i := 29) (oi := { dst := some 142, op := Op.move (Operand.tmp 141), type := 4, pos := _, after := #[{ on := 28, ground := Ground.data }, { on := 25, ground := Ground.chain }], guard := none }) (v := _) rfl (by kernel_rfl) (by kernel_rfl) (by kernel_rfl) (by kernel_rfl) (fun _ _ _ h => h) (by assumption) (Or.inl ⟨by rfl, ?hy73⟩) (fun _ => rfl) ?rest73
          case hy73 => (intro w hSw; (try dsimp only at hSw); go_simp; try with_reducible rfl)
          try simp only [Act.put, List.setIfInBounds_toArray, List.set_cons_zero, List.set_cons_succ]
          refine' ordS_take (i := 30) (oi := { dst := some 143, op := Op.move (Operand.tmp 14), type := 4, pos := _, after := #[{ on := 29, ground := Ground.guard }], guard := some (29, false) }) (v := _) rfl (by kernel_rfl) (by kernel_rfl) (by kernel_rfl) (by kernel_rfl) (fun _ _ _ h => h) (by assumption) (Or.inl ⟨by rfl, ?hy74⟩) (fun _ => rfl) ?rest74
          case hy74 => (intro w hSw; (try dsimp only at hSw); go_simp; try with_reducible rfl)
          try simp only [Act.put, List.setIfInBounds_toArray, List.set_cons_zero, List.set_cons_succ]
          refine' ordS_take (i := 31) (oi := { dst := some 144, op := Op.unOp UnOp.not 4 (Operand.tmp 143), type := 4, pos := _, after := #[{ on := 30, ground := Ground.data }, { on := 29, ground := Ground.guard }], guard := some (29, false) }) (v := _) rfl (by kernel_rfl) (by kernel_rfl) (by kernel_rfl) (by kernel_rfl) (fun _ _ _ h => h) (by assumption) (Or.inl ⟨by rfl, ?hy75⟩) (fun _ => rfl) ?rest75
          case hy75 => (intro w hSw; (try dsimp only at hSw); go_simp; try with_reducible rfl)
          try simp only [Act.put, List.setIfInBounds_toArray, List.set_cons_zero, List.set_cons_succ]
          refine' ordS_take (i := 32) (oi := { dst := some 145, op := Op.move (Operand.tmp 144), type := 4, pos := _, after := #[{ on := 31, ground := Ground.data }, { on := 29, ground := Ground.chain }, { on := 29, ground := Ground.guard }], guard := some (29, false) }) (v := _) rfl (by kernel_rfl) (by kernel_rfl) (by kernel_rfl) (by kernel_rfl) (fun _ _ _ h => h) (by assumption) (Or.inl ⟨by rfl, ?hy76⟩) (fun _ => rfl) ?rest76
          case hy76 => (intro w hSw; (try dsimp only at hSw); go_simp; try with_reducible rfl)
          try simp only [Act.put, List.setIfInBounds_toArray, List.set_cons_zero, List.set_cons_succ]
          refine ordS_take (i := 33) (oi := { dst := some 146, op := Op.load 24 (Operand.tmp 13), type := 24, pos := _, after := #[{ on := 32, ground := Ground.guard }], guard := some (32, true) }) (v := undef) rfl (by kernel_rfl) (by kernel_rfl) (by kernel_rfl) (by kernel_rfl) (fun _ _ _ h => h) (by assumption) (Or.inr ⟨by rfl, rfl⟩) (fun _ => rfl) ?_
          try simp only [Act.put, List.setIfInBounds_toArray, List.set_cons_zero, List.set_cons_succ]
          refine ordS_take (i := 34) (oi := { dst := some 147, op := Op.build 24 #[], type := 24, pos := _, after := #[{ on := 32, ground := Ground.guard }], guard := some (32, true) }) (v := undef) rfl (by kernel_rfl) (by kernel_rfl) (by kernel_rfl) (by kernel_rfl) (fun _ _ _ h => h) (by assumption) (Or.inr ⟨by rfl, rfl⟩) (fun _ => rfl) ?_
          try simp only [Act.put, List.setIfInBounds_toArray, List.set_cons_zero, List.set_cons_succ]
          refine ordS_take (i := 35) (oi := { dst := some 148, op := Op.binOp BinOp.neq 24 (Operand.tmp 146) (Operand.tmp 147) 24, type := 4, pos := _, after := #[{ on := 33, ground := Ground.data }, { on := 34, ground := Ground.data }, { on := 32, ground := Ground.guard }], guard := some (32, true) }) (v := undef) rfl (by kernel_rfl) (by kernel_rfl) (by kernel_rfl) (by kernel_rfl) (fun _ _ _ h => h) (by assumption) (Or.inr ⟨by rfl, rfl⟩) (fun _ => rfl) ?_
          try simp only [Act.put, List.setIfInBounds_toArray, List.set_cons_zero, List.set_cons_succ]
          refine' ordS_take (i := 36) (oi := { dst := some 149, op := Op.pick (Operand.tmp 145) (Operand.tmp 148) (Operand.const (Value.bool false)), type := 4, pos := _, after := #[{ on := 32, ground := Ground.data }, { on := 35, ground := Ground.data }, { on := 29, ground := Ground.guard }], guard := some (29, false) }) (v := _) rfl (by kernel_rfl) (by kernel_rfl) (by kernel_rfl) (by kernel_rfl) (fun _ _ _ h => h) (by assumption) (Or.inl ⟨by rfl, ?hy80⟩) (fun _ => rfl) ?rest80
          case hy80 => (intro w hSw; (try dsimp only at hSw); go_simp; try with_reducible rfl)
          try simp only [Act.put, List.setIfInBounds_toArray, List.set_cons_zero, List.set_cons_succ]
          refine' ordS_take (i := 37) (oi := { dst := some 150, op := Op.pick (Operand.tmp 142) (Operand.const (Value.bool true)) (Operand.tmp 149), type := 4, pos := _, after := #[{ on := 29, ground := Ground.data }, { on := 36, ground := Ground.data }], guard := none }) (v := _) rfl (by kernel_rfl) (by kernel_rfl) (by kernel_rfl) (by kernel_rfl) (fun _ _ _ h => h) (by assumption) (Or.inl ⟨by rfl, ?hy81⟩) (fun _ => rfl) ?rest81
          case hy81 => (intro w hSw; (try dsimp only at hSw); go_simp; try with_reducible rfl)
          try simp only [Act.put, List.setIfInBounds_toArray, List.set_cons_zero, List.set_cons_succ]
          refine ordS_done (by kernel_rfl) ?_
          have HSE := Lib.hid (Sep.drop (l1 := [CellsO q #[(.slice ru m2.length capu), (.slice (some ⟨gv, 0, none⟩) m2.length capv)] 39, RowO 3 1 (.slice ru m2.length capu) m2.length (cellsI (m2.map Th.id)), RowO 28 4 (.slice (some ⟨gv, 0, none⟩) m2.length capv) m2.length (flatK m2), HeapO p m2]) (l2 := []) (Sep.drop (l1 := [CellsO q #[(.slice ru m2.length capu), (.slice (some ⟨gv, 0, none⟩) m2.length capv)] 39, RowO 3 1 (.slice ru m2.length capu) m2.length (cellsI (m2.map Th.id)), RowO 28 4 (.slice (some ⟨gv, 0, none⟩) m2.length capv) m2.length (flatK m2), HeapO p m2, CellsO ab #[.int .i64 d, .int .i64 t.id, .int .u64 t.F, .int .u64 t.H, .int .i64 t.Y, .int .i64 t.X] 41]) (l2 := []) h9))
          have HAE := Lib.hid hA9
          clear h9 hA9 hS
          go_wp2
          go_roundw
          case rel => exact ⟨k + 1, m2, _, _, by omega, by go_num, hml2, HSE.out, HAE.out⟩
          case measure => simp [intOf]; omega
      · have nd0 : (d == 0) = false := by rw [beq_eq_false_iff_ne]; exact hd0
        by_cases hd1 : d = 1
        · have nd1 : (d == 1) = true := by rw [beq_iff_eq]; exact hd1
          clear hd0 hd1
          go_upto_region 18 with fail
          have hD := bl_dr (bl0 w3)
          have h4 := h3.below hD
          have hA4 := bl_tr hA3 hD
          have hS := HSA.out _ [CellsO q #[u, v] 39, RowO 3 1 u m.length (cellsI (m.map Th.id)), RowO 28 4 v m.length (flatK m), HeapO p m] h4
          clear hD
          clear hA3
          have hnd := sep_nodup (l1 := [CellsO q #[u, v] 39, RowO 3 1 u m.length (cellsI (m.map Th.id)), RowO 28 4 v m.length (flatK m)]) (l2 := [CellsO ab #[.int .i64 d, .int .i64 t.id, .int .u64 t.F, .int .u64 t.H, .int .i64 t.Y, .int .i64 t.X] 41]) h4
          have hne : (lowerE m t != lowerE m t) = false := by simp
          have hc5 := lower_sep (l1 := [CellsO q #[u, v] 39, RowO 3 1 u m.length (cellsI (m.map Th.id)), RowO 28 4 v m.length (flatK m)]) (l2 := [CellsO ab #[.int .i64 d, .int .i64 t.id, .int .u64 t.F, .int .u64 t.H, .int .i64 t.Y, .int .i64 t.X] 41]) t h4 hwt (by omega)
          refine (wpIn_wide (n := 11)).1 ?_
          refine ordS_begin (S := (fun w' : World => w'.cell? ⟨ab, 1, none⟩ = some (.int .i64 t.id) ∧ w'.cell? ⟨ab, 2, none⟩ = some (.int .u64 t.F) ∧ w'.cell? ⟨ab, 3, none⟩ = some (.int .u64 t.H) ∧ w'.cell? ⟨ab, 4, none⟩ = some (.int .i64 t.Y) ∧ w'.cell? ⟨ab, 5, none⟩ = some (.int .i64 t.X))) (by kernel_rfl) hS (fun _ => ?_)
          refine' ordS_take (i := 0) (oi := { dst := some 88, op := Op.move (Operand.tmp 3), type := 33, pos := _, after := #[], guard := none }) (v := _) rfl (by kernel_rfl) (by kernel_rfl) (by kernel_rfl) (by kernel_rfl) (fun _ _ _ h => h) (by assumption) (Or.inl ⟨by rfl, ?hy82⟩) (fun _ => rfl) ?rest82
          case hy82 => (intro w hSw; (try dsimp only at hSw); go_simp; try with_reducible rfl)
          try simp only [Act.put, List.setIfInBounds_toArray, List.set_cons_zero, List.set_cons_succ]
          refine' ordS_take (i := 1) (oi := { dst := some 89, op := Op.fieldAddr 41 (Operand.tmp 6) 1, type := 0, pos := _, after := #[], guard := none }) (v := _) rfl (by kernel_rfl) (by kernel_rfl) (by kernel_rfl) (by kernel_rfl) (fun _ _ _ h => h) (by assumption) (Or.inl ⟨by rfl, ?hy83⟩) (fun _ => rfl) ?rest83
          case hy83 => (intro w hSw; (try dsimp only at hSw); go_simp; try with_reducible rfl)
          try simp only [Act.put, List.setIfInBounds_toArray, List.set_cons_zero, List.set_cons_succ]
          refine' ordS_take (i := 2) (oi := { dst := some 90, op := Op.load 3 (Operand.tmp 89), type := 3, pos := _, after := #[{ on := 1, ground := Ground.data }], guard := none }) (v := _) rfl (by kernel_rfl) (by kernel_rfl) (by kernel_rfl) (by kernel_rfl) (fun _ _ _ h => h) (by assumption) (Or.inl ⟨by rfl, ?hy84⟩) (fun _ => rfl) ?rest84
          case hy84 => (intro w hSw; (try dsimp only at hSw); go_simp; try with_reducible rfl)
          try simp only [Act.put, List.setIfInBounds_toArray, List.set_cons_zero, List.set_cons_succ]
          refine' ordS_take (i := 3) (oi := { dst := some 91, op := Op.fieldAddr 41 (Operand.tmp 6) 2, type := 0, pos := _, after := #[], guard := none }) (v := _) rfl (by kernel_rfl) (by kernel_rfl) (by kernel_rfl) (by kernel_rfl) (fun _ _ _ h => h) (by assumption) (Or.inl ⟨by rfl, ?hy85⟩) (fun _ => rfl) ?rest85
          case hy85 => (intro w hSw; (try dsimp only at hSw); go_simp; try with_reducible rfl)
          try simp only [Act.put, List.setIfInBounds_toArray, List.set_cons_zero, List.set_cons_succ]
          refine' ordS_take (i := 4) (oi := { dst := some 92, op := Op.load 24 (Operand.tmp 91), type := 24, pos := _, after := #[{ on := 3, ground := Ground.data }], guard := none }) (v := _) rfl (by kernel_rfl) (by kernel_rfl) (by kernel_rfl) (by kernel_rfl) (fun _ _ _ h => h) (by assumption) (Or.inl ⟨by rfl, ?hy86⟩) (fun _ => rfl) ?rest86
          case hy86 => (intro w hSw; (try dsimp only at hSw); go_simp; try with_reducible rfl)
          try simp only [Act.put, List.setIfInBounds_toArray, List.set_cons_zero, List.set_cons_succ]
          refine' ordS_take (i := 6) (oi := { dst := some 94, op := Op.move (Operand.tmp 4), type := 35, pos := _, after := #[], guard := none }) (v := _) rfl (by kernel_rfl) (by kernel_rfl) (by kernel_rfl) (by kernel_rfl) (fun _ _ _ h => h) (by assumption) (Or.inl ⟨by rfl, ?hy87⟩) (fun _ => rfl) ?rest87
          case hy87 => (intro w hSw; (try dsimp only at hSw); go_simp; try with_reducible rfl)
          try simp only [Act.put, List.setIfInBounds_toArray, List.set_cons_zero, List.set_cons_succ]
          refine' ordS_take (i := 7) (oi := { dst := some 95, op := Op.fieldAddr 41 (Operand.tmp 6) 1, type := 0, pos := _, after := #[], guard := none }) (v := _) rfl (by kernel_rfl) (by kernel_rfl) (by kernel_rfl) (by kernel_rfl) (fun _ _ _ h => h) (by assumption) (Or.inl ⟨by rfl, ?hy88⟩) (fun _ => rfl) ?rest88
          case hy88 => (intro w hSw; (try dsimp only at hSw); go_simp; try with_reducible rfl)
          try simp only [Act.put, List.setIfInBounds_toArray, List.set_cons_zero, List.set_cons_succ]
          refine' ordS_take (i := 8) (oi := { dst := some 96, op := Op.load 3 (Operand.tmp 95), type := 3, pos := _, after := #[{ on := 7, ground := Ground.data }], guard := none }) (v := _) rfl (by kernel_rfl) (by kernel_rfl) (by kernel_rfl) (by kernel_rfl) (fun _ _ _ h => h) (by assumption) (Or.inl ⟨by rfl, ?hy89⟩) (fun _ => rfl) ?rest89
          case hy89 => (intro w hSw; (try dsimp only at hSw); go_simp; try with_reducible rfl)
          try simp only [Act.put, List.setIfInBounds_toArray, List.set_cons_zero, List.set_cons_succ]
          refine' ordS_take (i := 9) (oi := { dst := some 97, op := Op.fieldAddr 41 (Operand.tmp 6) 2, type := 0, pos := _, after := #[], guard := none }) (v := _) rfl (by kernel_rfl) (by kernel_rfl) (by kernel_rfl) (by kernel_rfl) (fun _ _ _ h => h) (by assumption) (Or.inl ⟨by rfl, ?hy90⟩) (fun _ => rfl) ?rest90
          case hy90 => (intro w hSw; (try dsimp only at hSw); go_simp; try with_reducible rfl)
          try simp only [Act.put, List.setIfInBounds_toArray, List.set_cons_zero, List.set_cons_succ]
          refine' ordS_take (i := 10) (oi := { dst := some 98, op := Op.load 24 (Operand.tmp 97), type := 24, pos := _, after := #[{ on := 9, ground := Ground.data }], guard := none }) (v := _) rfl (by kernel_rfl) (by kernel_rfl) (by kernel_rfl) (by kernel_rfl) (fun _ _ _ h => h) (by assumption) (Or.inl ⟨by rfl, ?hy91⟩) (fun _ => rfl) ?rest91
          case hy91 => (intro w hSw; (try dsimp only at hSw); go_simp; try with_reducible rfl)
          try simp only [Act.put, List.setIfInBounds_toArray, List.set_cons_zero, List.set_cons_succ]
          refine ordS_one (i := 5) (o := { dst := some 93, op := Op.call { callee := Callee.value (Operand.func 16), args := #[Operand.tmp 88, Operand.tmp 90, Operand.tmp 92], argTypes := #[33, 3, 24] }, type := 42, pos := _, after := #[{ on := 0, ground := Ground.data }, { on := 2, ground := Ground.data }, { on := 4, ground := Ground.data }], guard := none }) (by kernel_rfl) rfl (by rfl) (fun K hK => ?_)
          go_simp
          refine ⟨trivial, (callsIn_wide.2 (hc5)).mono ?_⟩
          rintro e w9 ⟨rfl, h5, hb⟩
          replace hA4 := hA4.trans hb
          clear hc5 hb h4 hS
          have hS := HSA.out _ [CellsO q #[u, v] 39, RowO 3 1 u m.length (cellsI (m.map Th.id)), RowO 28 4 v m.length (flatK m), HeapO p (lowerM m t)] h5
          refine hK _ _ hS ?_
          clear hK K
          try simp only [Act.put, List.setIfInBounds_toArray, List.set_cons_zero, List.set_cons_succ]
          refine ordS_one (i := 11) (o := { dst := some 99, op := Op.call { callee := Callee.value (Operand.func 11), args := #[Operand.tmp 98], argTypes := #[24] }, type := 28, pos := _, after := #[{ on := 10, ground := Ground.data }, { on := 5, ground := Ground.chain }], guard := none }) (by kernel_rfl) rfl (by rfl) (fun K hK => ?_)
          go_simp
          refine ⟨trivial, (callsIn_wide.2 (plain_any t _)).mono ?_⟩
          rintro e w9 ⟨rfl, hb⟩
          replace h5 := h5.below hb
          replace hA4 := bl_tr hA4 hb
          clear hb hS
          have hS := HSA.out _ [CellsO q #[u, v] 39, RowO 3 1 u m.length (cellsI (m.map Th.id)), RowO 28 4 v m.length (flatK m), HeapO p (lowerM m t)] h5
          have hc12 := lower_ref (l := [HeapO p (lowerM m t), CellsO ab #[.int .i64 d, .int .i64 t.id, .int .u64 t.F, .int .u64 t.H, .int .i64 t.Y, .int .i64 t.X] 41]) t h5 (by omega) hnd
          refine hK _ _ hS ?_
          clear hK K
          try simp only [Act.put, List.setIfInBounds_toArray, List.set_cons_zero, List.set_cons_succ]
          refine ordS_one (i := 12) (o := { dst := some 100, op := Op.call { callee := Callee.value (Operand.func 17), args := #[Operand.tmp 94, Operand.tmp 96, Operand.tmp 99], argTypes := #[35, 3, 28] }, type := 42, pos := _, after := #[{ on := 6, ground := Ground.data }, { on := 8, ground := Ground.data }, { on := 11, ground := Ground.data }, { on := 11, ground := Ground.chain }], guard := none }) (by kernel_rfl) rfl (by rfl) (fun K hK => ?_)
          go_simp
          refine ⟨trivial, (callsIn_wide.2 (hc12)).mono ?_⟩
          rintro e w9 ⟨rfl, ⟨u2, v2, h6⟩, hb⟩
          replace hA4 := hA4.trans hb
          clear hc12 hb h5 hS
          have hS := HSA.out _ [CellsO q #[u2, v2] 39, RowO 3 1 u2 (lowerM m t).length (cellsI ((lowerM m t).map Th.id)), RowO 28 4 v2 (lowerM m t).length (flatK (lowerM m t)), HeapO p (lowerM m t)] h6
          refine hK _ _ hS ?_
          clear hK K
          try simp only [Act.put, List.setIfInBounds_toArray, List.set_cons_zero, List.set_cons_succ]
          refine ordS_one (i := 13) (o := { dst := some 101, op := Op.binOp BinOp.neq 42 (Operand.tmp 93) (Operand.tmp 100) 42, type := 4, pos := _, after := #[{ on := 5, ground := Ground.data }, { on := 12, ground := Ground.data }], guard := none }) (by kernel_rfl) rfl (by rfl) (fun K hK => ?_)
          go_simp
          refine hK _ _ hS ?_
          clear hK K hS
          try simp only [Act.put, List.setIfInBounds_toArray, List.set_cons_zero, List.set_cons_succ]
          refine ordS_done (by kernel_rfl) ?_
          have hml2 : (lowerM m t).length ≤ k + 1 := by have := lowerM_len m t; omega
          generalize lowerM m t = m2 at *
          clear hnd hne
          obtain ⟨ru, capu, rfl, hru⟩ := Sep.shape (l1 := [CellsO q #[u2, v2] 39]) h6
          obtain ⟨rv, capv, rfl, hrv⟩ := Sep.shape (l1 := [CellsO q #[(.slice ru m2.length capu), v2] 39, RowO 3 1 (.slice ru m2.length capu) m2.length (cellsI (m2.map Th.id))]) h6
          have hc := key_sep (l1 := [CellsO q #[(.slice ru m2.length capu), (.slice rv m2.length capv)] 39, RowO 3 1 (.slice ru m2.length capu) m2.length (cellsI (m2.map Th.id)), RowO 28 4 (.slice rv m2.length capv) m2.length (flatK m2)]) (l2 := [CellsO ab #[.int .i64 d, .int .i64 t.id, .int .u64 t.F, .int .u64 t.H, .int .i64 t.Y, .int .i64 t.X] 41]) t.id h6 hwt
          obtain ⟨kk, hkk⟩ : ∃ kk, keyA m2 t.id = kk := ⟨_, rfl⟩
          obtain ⟨is, his⟩ : ∃ is, (findT m2 t.id).isSome = is := ⟨_, rfl⟩
          rw [hkk, his] at hc
          have HKK := Lib.hid hkk
          have HIS := Lib.hid his
          obtain ⟨b1, _⟩ := HSA.out _ [CellsO q #[(.slice ru m2.length capu), (.slice rv m2.length capv)] 39, RowO 3 1 (.slice ru m2.length capu) m2.length (cellsI (m2.map Th.id)), RowO 28 4 (.slice rv m2.length capv) m2.length (flatK m2), HeapO p m2] h6
          clear hkk his hru
          go_wp2_with fail
          refine hc.mono ?_
          rintro e w10 ⟨rfl, h7, hb⟩
          obtain ⟨kb, hkb⟩ : ∃ kb, w10.heap.size = kb := ⟨_, rfl⟩
          replace h7 := h7.box #[.int .u64 kk.F, .int .u64 kk.H, .int .i64 kk.Y, .int .i64 kk.X] 24
          rw [hkb] at h7
          replace h7 : Sep (w10.alloc (.cells #[.int .u64 kk.F, .int .u64 kk.H, .int .i64 kk.Y, .int .i64 kk.X] 24)) w.heap.size [CellsO q #[(.slice ru m2.length capu), (.slice rv m2.length capv)] 39, RowO 3 1 (.slice ru m2.length capu) m2.length (cellsI (m2.map Th.id)), RowO 28 4 (.slice rv m2.length capv) m2.length (flatK m2), HeapO p m2, CellsO ab #[.int .i64 d, .int .i64 t.id, .int .u64 t.F, .int .u64 t.H, .int .i64 t.Y, .int .i64 t.X] 41, CellsO kb #[.int .u64 kk.F, .int .u64 kk.H, .int .i64 kk.Y, .int .i64 kk.X] 24] := h7
          have hA7 := bl_al (bl_tr hA4 hb) (.cells #[.int .u64 kk.F, .int .u64 kk.H, .int .i64 kk.Y, .int .i64 kk.X] 24)
          clear hc hb b1 h6 hA4
          go_upto_region 21 with fail
          generalize hw11 : w10.alloc (.cells #[.int .u64 kk.F, .int .u64 kk.H, .int .i64 kk.Y, .int .i64 kk.X] 24) = w11 at *
          clear hw11 hkb
          obtain ⟨rt, _⟩ := Sep.cells (l1 := [CellsO q #[(.slice ru m2.length capu), (.slice rv m2.length capv)] 39, RowO 3 1 (.slice ru m2.length capu) m2.length (cellsI (m2.map Th.id)), RowO 28 4 (.slice rv m2.length capv) m2.length (flatK m2), HeapO p m2]) (l2 := [CellsO kb #[.int .u64 kk.F, .int .u64 kk.H, .int .i64 kk.Y, .int .i64 kk.X] 24]) h7
          have b1 : w11.cell? ⟨ab, 1, none⟩ = some (.int .i64 t.id) := by simp [World.cell?, rt]
          have hc := find_ref (l := [HeapO p m2, CellsO ab #[.int .i64 d, .int .i64 t.id, .int .u64 t.F, .int .u64 t.H, .int .i64 t.Y, .int .i64 t.X] 41, CellsO kb #[.int .u64 kk.F, .int .u64 kk.H, .int .i64 kk.Y, .int .i64 kk.X] 24]) t.id h7 (by omega)
          clear rt
          go_wp2_with fail
          refine hc.mono ?_
          rintro e w12 ⟨r, rfl, hF, hb⟩
          have h8 := h7.below hb
          have hA8 := bl_tr hA7 hb
          clear hc hb b1 h7 hA7
          go_upto_region 22 with fail
          have hD := bl_dr (bl0 w12)
          have h9 := h8.below hD
          have hA9 := bl_tr hA8 hD
          clear h8 hA8 hD
          obtain ⟨rq, _⟩ := Sep.cells (l1 := []) h9
          obtain ⟨rk, _⟩ := Sep.cells (l1 := [CellsO q #[(.slice ru m2.length capu), (.slice rv m2.length capv)] 39, RowO 3 1 (.slice ru m2.length capu) m2.length (cellsI (m2.map Th.id)), RowO 28 4 (.slice rv m2.length capv) m2.length (flatK m2), HeapO p m2, CellsO ab #[.int .i64 d, .int .i64 t.id, .int .u64 t.F, .int .u64 t.H, .int .i64 t.Y, .int .i64 t.X] 41]) (l2 := []) h9
          rcases hF with ⟨rfl, hf⟩ | ⟨j, rfl, hj, _, hf⟩
          · obtain rfl : kk = ⟨0, 0, 0, 0, 0⟩ := by rw [← HKK.out]; unfold keyA; rw [hf]; rfl
            obtain rfl : is = false := by rw [← HIS.out, hf]; rfl
            replace h9 : Sep w12.drew w.heap.size [CellsO q #[(.slice ru m2.length capu), (.slice rv m2.length capv)] 39, RowO 3 1 (.slice ru m2.length capu) m2.length (cellsI (m2.map Th.id)), RowO 28 4 (.slice rv m2.length capv) m2.length (flatK m2), HeapO p m2, CellsO ab #[.int .i64 d, .int .i64 t.id, .int .u64 t.F, .int .u64 t.H, .int .i64 t.Y, .int .i64 t.X] 41, CellsO kb #[.int .u64 0, .int .u64 0, .int .i64 0, .int .i64 0] 24] := h9
            have heq : ∀ w : World, _ := fun w => eql_key ⟨0, 0, 0, 0, 0⟩ ⟨0, 0, 0, 0, 0⟩ w
            rw [show sameK ⟨0, 0, 0, 0, 0⟩ ⟨0, 0, 0, 0, 0⟩ = true from by decide] at heq
            dsimp only at heq
            have hneg : decide ((0 : Int) ≤ -1) = false := by decide
            have hS : (fun w' : World => w'.cell? ⟨q, 0, none⟩ = some (.slice ru m2.length capu) ∧ w'.cell? ⟨kb, 0, none⟩ = some (.int .u64 0) ∧ w'.cell? ⟨kb, 1, none⟩ = some (.int .u64 0) ∧ w'.cell? ⟨kb, 2, none⟩ = some (.int .i64 0) ∧ w'.cell? ⟨kb, 3, none⟩ = some (.int .i64 0)) w12.drew := ⟨by simp [World.cell?, rq], by simp [World.cell?, rk], by simp [World.cell?, rk], by simp [World.cell?, rk], by simp [World.cell?, rk]⟩
            have hc := len_sep (l1 := [CellsO q #[(.slice ru m2.length capu), (.slice rv m2.length capv)] 39, RowO 3 1 (.slice ru m2.length capu) m2.length (cellsI (m2.map Th.id)), RowO 28 4 (.slice rv m2.length capv) m2.length (flatK m2)]) (l2 := [CellsO ab #[.int .i64 d, .int .i64 t.id, .int .u64 t.F, .int .u64 t.H, .int .i64 t.Y, .int .i64 t.X] 41, CellsO kb #[.int .u64 0, .int .u64 0, .int .i64 0, .int .i64 0] 24]) h9
            clear rq rk hf hrv
            refine (wpIn_wide (n := 11)).1 ?_
            refine ordS_begin (S := (fun w' : World => w'.cell? ⟨q, 0, none⟩ = some (.slice ru m2.length capu) ∧ w'.cell? ⟨kb, 0, none⟩ = some (.int .u64 0) ∧ w'.cell? ⟨kb, 1, none⟩ = some (.int .u64 0) ∧ w'.cell? ⟨kb, 2, none⟩ = some (.int .i64 0) ∧ w'.cell? ⟨kb, 3, none⟩ = some (.int .i64 0))) (by kernel_rfl) hS (fun _ => ?_)
            refine' ordS_take (i := 0) (oi := { dst := some 113, op := Op.move (Operand.tmp 3), type := 33, pos := _, after := #[], guard := none }) (v := _) rfl (by kernel_rfl) (by kernel_rfl) (by kernel_rfl) (by kernel_rfl) (fun _ _ _ h => h) (by assumption) (Or.inl ⟨by rfl, ?hy92⟩) (fun _ => rfl) ?rest92
            case hy92 => (intro w hSw; (try dsimp only at hSw); go_simp; try with_reducible rfl)
            try simp only [Act.put, List.setIfInBounds_toArray, List.set_cons_zero, List.set_cons_succ]
            refine' ordS_take (i := 2) (oi := { dst := some 115, op := Op.move (Operand.tmp 4), type := 35, pos := _, after := #[], guard := none }) (v := _) rfl (by kernel_rfl) (by kernel_rfl) (by kernel_rfl) (by kernel_rfl) (fun _ _ _ h => h) (by assumption) (Or.inl ⟨by rfl, ?hy93⟩) (fun _ => rfl) ?rest93
            case hy93 => (intro w hSw; (try dsimp only at hSw); go_simp; try with_reducible rfl)
            try simp only [Act.put, List.setIfInBounds_toArray, List.set_cons_zero, List.set_cons_succ]
            refine' ordS_take (i := 3) (oi := { dst := some 116, op := Op.nilCheck (Operand.tmp 115), type := 0, pos := _, after := #[{ on := 2, ground := Ground.data }], guard := none }) (v := _) rfl (by kernel_rfl) (by kernel_rfl) (by kernel_rfl) (by kernel_rfl) (fun _ _ _ h => h) (by assumption) (Or.inl ⟨by rfl, ?hy94⟩) (fun _ => rfl) ?rest94
            case hy94 => (intro w hSw; (try dsimp only at hSw); go_simp; try with_reducible rfl)
            try simp only [Act.put, List.setIfInBounds_toArray, List.set_cons_zero, List.set_cons_succ]
            refine' ordS_take (i := 4) (oi := { dst := some 117, op := Op.fieldAddr 39 (Operand.tmp 116) 0, type := 0, pos := _, after := #[{ on := 3, ground := Ground.data }], guard := none }) (v := _) rfl (by kernel_rfl) (by kernel_rfl) (by kernel_rfl) (by kernel_rfl) (fun _ _ _ h => h) (by assumption) (Or.inl ⟨by rfl, ?hy95⟩) (fun _ => rfl) ?rest95
            case hy95 => (intro w hSw; (try dsimp only at hSw); go_simp; try with_reducible rfl)
            try simp only [Act.put, List.setIfInBounds_toArray, List.set_cons_zero, List.set_cons_succ]
            refine' ordS_take (i := 5) (oi := { dst := some 118, op := Op.load 36 (Operand.tmp 117), type := 36, pos := _, after := #[{ on := 4, ground := Ground.data }], guard := none }) (v := _) rfl (by kernel_rfl) (by kernel_rfl) (by kernel_rfl) (by kernel_rfl) (fun _ _ _ h => h) (by assumption) (Or.inl ⟨by rfl, ?hy96⟩) (fun _ => rfl) ?rest96
            case hy96 => (intro w hSw; (try dsimp only at hSw); go_simp; try with_reducible rfl)
            try simp only [Act.put, List.setIfInBounds_toArray, List.set_cons_zero, List.set_cons_succ]
            refine' ordS_take (i := 6) (oi := { dst := some 119, op := Op.call { callee := Callee.builtin Builtin.len, args := #[Operand.tmp 118], argTypes := #[36] }, type := 3, pos := _, after := #[{ on := 5, ground := Ground.data }], guard := none }) (v := _) rfl (by kernel_rfl) (by kernel_rfl) (by kernel_rfl) (by kernel_rfl) (fun _ _ _ h => h) (by assumption) (Or.inl ⟨by rfl, ?hy97⟩) (fun _ => rfl) ?rest97
            case hy97 => (intro w hSw; (try dsimp only at hSw); go_simp; try with_reducible rfl)
            try simp only [Act.put, List.setIfInBounds_toArray, List.set_cons_zero, List.set_cons_succ]
            refine ordS_one (i := 1) (o := { dst := some 114, op := Op.call { callee := Callee.value (Operand.func 23), args := #[Operand.tmp 113], argTypes := #[33] }, type := 3, pos := _, after := #[{ on := 0, ground := Ground.data }], guard := none }) (by kernel_rfl) rfl (by rfl) (fun K hK => ?_)
            go_simp
            refine ⟨trivial, (callsIn_wide.2 (hc)).mono ?_⟩
            rintro e w9 ⟨rfl, rfl⟩
            clear hc
            refine hK _ _ hS ?_
            clear hK K
            try simp only [Act.put, List.setIfInBounds_toArray, List.set_cons_zero, List.set_cons_succ]
            refine' ordS_take (i := 7) (oi := { dst := some 120, op := Op.binOp BinOp.neq 3 (Operand.tmp 114) (Operand.tmp 119) 3, type := 4, pos := _, after := #[{ on := 1, ground := Ground.data }, { on := 6, ground := Ground.data }], guard := none }) (v := _) rfl (by kernel_rfl) (by kernel_rfl) (by kernel_rfl) (by kernel_rfl) (fun _ _ _ h => h) (by assumption) (Or.inl ⟨by rfl, ?hy98⟩) (fun _ => rfl) ?rest98
            case hy98 => (intro w hSw; (try dsimp only at hSw); go_simp; try with_reducible rfl)
            try simp only [Act.put, List.setIfInBounds_toArray, List.set_cons_zero, List.set_cons_succ]
            refine' ordS_take (i := 8) (oi := { dst := some 121, op := Op.move (Operand.tmp 120), type := 4, pos := _, after := #[{ on := 7, ground := Ground.data }, { on := 1, ground := Ground.chain }], guard := none }) (v := _) rfl (by kernel_rfl) (by kernel_rfl) (by kernel_rfl) (by kernel_rfl) (fun _ _ _ h => h) (by assumption) (Or.inl ⟨by rfl, ?hy99⟩) (fun _ => rfl) ?rest99
            case hy99 => (intro w hSw; (try dsimp only at hSw); go_simp; try with_reducible rfl)
            try simp only [Act.put, List.setIfInBounds_toArray, List.set_cons_zero, List.set_cons_succ]
            refine' ordS_take (i := 9) (oi := { dst := some 122, op := Op.move (Operand.tmp 14), type := 4, pos := _, after := #[{ on := 8, ground := Ground.guard }], guard := some (8, false) }) (v := _) rfl (by kernel_rfl) (by kernel_rfl) (by kernel_rfl) (by kernel_rfl) (fun _ _ _ h => h) (by assumption) (Or.inl ⟨by rfl, ?hy100⟩) (fun _ => rfl) ?rest100
            case hy100 => (intro w hSw; (try dsimp only at hSw); go_simp; try with_reducible rfl)
            try simp only [Act.put, List.setIfInBounds_toArray, List.set_cons_zero, List.set_cons_succ]
            refine' ordS_take (i := 10) (oi := { dst := some 123, op := Op.move (Operand.tmp 15), type := 3, pos := _, after := #[{ on := 8, ground := Ground.guard }], guard := some (8, false) }) (v := _) rfl (by kernel_rfl) (by kernel_rfl) (by kernel_rfl) (by kernel_rfl) (fun _ _ _ h => h) (by assumption) (Or.inl ⟨by rfl, ?hy101⟩) (fun _ => rfl) ?rest101
            case hy101 => (intro w hSw; (try dsimp only at hSw); go_simp; try with_reducible rfl)
            try simp only [Act.put, List.setIfInBounds_toArray, List.set_cons_zero, List.set_cons_succ]
            refine' ordS_take (i := 11) (oi := { dst := some 124, op := Op.binOp BinOp.geq 3 (Operand.tmp 123) (Operand.const (Value.int IntKind.i64 0)) 3, type := 4, pos := _, after := #[{ on := 10, ground := Ground.data }, { on := 8, ground := Ground.guard }], guard := some (8, false) }) (v := _) rfl (by kernel_rfl) (by kernel_rfl) (by kernel_rfl) (by kernel_rfl) (fun _ _ _ h => h) (by assumption) (Or.inl ⟨by rfl, ?hy102⟩) (fun _ => rfl) ?rest102
            case hy102 => (intro w hSw; (try dsimp only at hSw); go_simp; try with_reducible rfl)
            try simp only [Act.put, List.setIfInBounds_toArray, List.set_cons_zero, List.set_cons_succ]
            refine' ordS_take (i := 12) (oi := { dst := some 125, op := Op.binOp BinOp.neq 4 (Operand.tmp 122) (Operand.tmp 124) 4, type := 4, pos := _, after := #[{ on := 9, ground := Ground.data }, { on := 11, ground := Ground.data }, { on := 8, ground := Ground.guard }], guard := some (8, false) }) (v := _) rfl (by kernel_rfl) (by kernel_rfl) (by kernel_rfl) (by kernel_rfl) (fun _ _ _ h => h) (by assumption) (Or.inl ⟨by rfl, ?hy103⟩) (fun _ => rfl) ?rest103
            case hy103 => (intro w hSw; (try dsimp only at hSw); go_simp; try with_reducible rfl)
            try simp only [Act.put, List.setIfInBounds_toArray, List.set_cons_zero, List.set_cons_succ]
            refine' ordS_take (i := 13) (oi := { dst := some 126, op := Op.pick (Operand.tmp 121) (Operand.const (Value.bool true)) (Operand.tmp 125), type := 4, pos := _, after := #[{ on := 8, ground := Ground.data }, { on := 12, ground := Ground.data }], guard := none }) (v := _) rfl (by kernel_rfl) (by kernel_rfl) (by kernel_rfl) (by kernel_rfl) (fun _ _ _ h => h) (by assumption) (Or.inl ⟨by rfl, ?hy104⟩) (fun _ => rfl) ?rest104
            case hy104 => (intro w hSw; (try dsimp only at hSw); go_simp; try with_reducible rfl)
            try simp only [Act.put, List.setIfInBounds_toArray, List.set_cons_zero, List.set_cons_succ]
            refine' ordS_take (i := 14) (oi := { dst := some 127, op := Op.move (Operand.tmp 126), type := 4, pos := _, after := #[{ on := 13, ground := Ground.data }, { on := 8, ground := Ground.chain }], guard := none }) (v := _) rfl (by kernel_rfl) (by kernel_rfl) (by kernel_rfl) (by kernel_rfl) (fun _ _ _ h => h) (by assumption) (Or.inl ⟨by rfl, ?hy105⟩) (fun _ => rfl) ?rest105
            case hy105 => (intro w hSw; (try dsimp only at hSw); go_simp; try with_reducible rfl)
            try simp only [Act.put, List.setIfInBounds_toArray, List.set_cons_zero, List.set_cons_succ]
            refine' ordS_take (i := 15) (oi := { dst := some 128, op := Op.move (Operand.tmp 14), type := 4, pos := _, after := #[{ on := 14, ground := Ground.guard }], guard := some (14, false) }) (v := _) rfl (by kernel_rfl) (by kernel_rfl) (by kernel_rfl) (by kernel_rfl) (fun _ _ _ h => h) (by assumption) (Or.inl ⟨by rfl, ?hy106⟩) (fun _ => rfl) ?rest106
            case hy106 => (intro w hSw; (try dsimp only at hSw); go_simp; try with_reducible rfl)
            try simp only [Act.put, List.setIfInBounds_toArray, List.set_cons_zero, List.set_cons_succ]
            refine' ordS_take (i := 16) (oi := { dst := some 129, op := Op.move (Operand.tmp 128), type := 4, pos := _, after := #[{ on := 15, ground := Ground.data }, { on := 14, ground := Ground.chain }, { on := 14, ground := Ground.guard }], guard := some (14, false) }) (v := _) rfl (by kernel_rfl) (by kernel_rfl) (by kernel_rfl) (by kernel_rfl) (fun _ _ _ h => h) (by assumption) (Or.inl ⟨by rfl, ?hy107⟩) (fun _ => rfl) ?rest107
            case hy107 => (intro w hSw; (try dsimp only at hSw); go_simp; try with_reducible rfl)
            try simp only [Act.put, List.setIfInBounds_toArray, List.set_cons_zero, List.set_cons_succ]
            refine ordS_take (i := 17) (oi := { dst := some 130, op := Op.load 24 (Operand.tmp 13), type := 24, pos := _, after := #[{ on := 16, ground := Ground.guard }], guard := some (16, true) }) (v := undef) rfl (by kernel_rfl) (by kernel_rfl) (by kernel_rfl) (by kernel_rfl) (fun _ _ _ h => h) (by assumption) (Or.inr ⟨by rfl, rfl⟩) (fun _ => rfl) ?_
            try simp only [Act.put, List.setIfInBounds_toArray, List.set_cons_zero, List.set_cons_succ]
            refine ordS_take (i := 18) (oi := { dst := some 131, op := Op.move (Operand.tmp 4), type := 35, pos := _, after := #[{ on := 16, ground := Ground.guard }], guard := some (16, true) }) (v := undef) rfl (by kernel_rfl) (by kernel_rfl) (by kernel_rfl) (by kernel_rfl) (fun _ _ _ h => h) (by assumption) (Or.inr ⟨by rfl, rfl⟩) (fun _ => rfl) ?_
            try simp only [Act.put, List.setIfInBounds_toArray, List.set_cons_zero, List.set_cons_succ]
            refine ordS_take (i := 19) (oi := { dst := some 132, op := Op.nilCheck (Operand.tmp 131), type := 0, pos := _, after := #[{ on := 18, ground := Ground.data }, { on := 16, ground := Ground.guard }], guard := some (16, true) }) (v := undef) rfl (by kernel_rfl) (by kernel_rfl) (by kernel_rfl) (by kernel_rfl) (fun _ _ _ h => h) (by assumption) (Or.inr ⟨by rfl, rfl⟩) (fun _ => rfl) ?_
            try simp only [Act.put, List.setIfInBounds_toArray, List.set_cons_zero, List.set_cons_succ]
            refine ordS_take (i := 20) (oi := { dst := some 133, op := Op.fieldAddr 39 (Operand.tmp 132) 1, type := 0, pos := _, after := #[{ on := 19, ground := Ground.data }, { on := 16, ground := Ground.guard }], guard := some (16, true) }) (v := undef) rfl (by kernel_rfl) (by kernel_rfl) (by kernel_rfl) (by kernel_rfl) (fun _ _ _ h => h) (by assumption) (Or.inr ⟨by rfl, rfl⟩) (fun _ => rfl) ?_
            try simp only [Act.put, List.setIfInBounds_toArray, List.set_cons_zero, List.set_cons_succ]
            refine ordS_take (i := 21) (oi := { dst := some 134, op := Op.load 37 (Operand.tmp 133), type := 37, pos := _, after := #[{ on := 20, ground := Ground.data }, { on := 16, ground := Ground.guard }], guard := some (16, true) }) (v := undef) rfl (by kernel_rfl) (by kernel_rfl) (by kernel_rfl) (by kernel_rfl) (fun _ _ _ h => h) (by assumption) (Or.inr ⟨by rfl, rfl⟩) (fun _ => rfl) ?_
            try simp only [Act.put, List.setIfInBounds_toArray, List.set_cons_zero, List.set_cons_succ]
            refine ordS_take (i := 22) (oi := { dst := some 135, op := Op.move (Operand.tmp 15), type := 3, pos := _, after := #[{ on := 16, ground := Ground.guard }], guard := some (16, true) }) (v := undef) rfl (by kernel_rfl) (by kernel_rfl) (by kernel_rfl) (by kernel_rfl) (fun _ _ _ h => h) (by assumption) (Or.inr ⟨by rfl, rfl⟩) (fun _ => rfl) ?_
            try simp only [Act.put, List.setIfInBounds_toArray, List.set_cons_zero, List.set_cons_succ]
            refine ordS_take (i := 23) (oi := { dst := some 136, op := Op.indexAddr 37 (Operand.tmp 134) (Operand.tmp 135), type := 0, pos := _, after := #[{ on := 21, ground := Ground.data }, { on := 22, ground := Ground.data }, { on := 16, ground := Ground.guard }], guard := some (16, true) }) (v := undef) rfl (by kernel_rfl) (by kernel_rfl) (by kernel_rfl) (by kernel_rfl) (fun _ _ _ h => h) (by assumption) (Or.inr ⟨by rfl, rfl⟩) (fun _ => rfl) ?_
            try simp only [Act.put, List.setIfInBounds_toArray, List.set_cons_zero, List.set_cons_succ]
            refine ordS_take (i := 24) (oi := { dst := some 137, op := Op.load 28 (Operand.tmp 136), type := 28, pos := _, after := #[{ on := 23, ground := Ground.data }, { on := 16, ground := Ground.guard }], guard := some (16, true) }) (v := undef) rfl (by kernel_rfl) (by kernel_rfl) (by kernel_rfl) (by kernel_rfl) (fun _ _ _ h => h) (by assumption) (Or.inr ⟨by rfl, rfl⟩) (fun _ => rfl) ?_
            try simp only [Act.put, List.setIfInBounds_toArray, List.set_cons_zero, List.set_cons_succ]
            refine ordS_skip (i := 25) (o := { dst := some 138, op := Op.call { callee := Callee.value (Operand.func 20), args := #[Operand.tmp 130, Operand.tmp 137], argTypes := #[24, 28] }, type := 4, pos := _, after := #[{ on := 17, ground := Ground.data }, { on := 24, ground := Ground.data }, { on := 16, ground := Ground.chain }, { on := 16, ground := Ground.guard }], guard := some (16, true) }) (by kernel_rfl) rfl (by rfl) (fun _ => trivial) (by assumption) ?_
            try simp only [Act.put, List.setIfInBounds_toArray, List.set_cons_zero, List.set_cons_succ]
            refine ordS_take (i := 26) (oi := { dst := some 139, op := Op.unOp UnOp.not 4 (Operand.tmp 138), type := 4, pos := _, after := #[{ on := 25, ground := Ground.data }, { on := 16, ground := Ground.guard }], guard := some (16, true) }) (v := undef) rfl (by kernel_rfl) (by kernel_rfl) (by kernel_rfl) (by kernel_rfl) (fun _ _ _ h => h) (by assumption) (Or.inr ⟨by rfl, rfl⟩) (fun _ => rfl) ?_
            try simp only [Act.put, List.setIfInBounds_toArray, List.set_cons_zero, List.set_cons_succ]
            refine' ordS_take (i := 27) (oi := { dst := some 140, op := Op.pick (Operand.tmp 129) (Operand.tmp 139) (Operand.const (Value.bool false)), type := 4, pos := _, after := #[{ on := 16, ground := Ground.data }, { on := 26, ground := Ground.data }, { on := 14, ground := Ground.guard }], guard := some (14, false) }) (v := _) rfl (by kernel_rfl) (by kernel_rfl) (by kernel_rfl) (by kernel_rfl) (fun _ _ _ h => h) (by assumption) (Or.inl ⟨by rfl, ?hy117⟩) (fun _ => rfl) ?rest117
            case hy117 => (intro w hSw; (try dsimp only at hSw); go_simp; try with_reducible rfl)
            try simp only [Act.put, List.setIfInBounds_toArray, List.set_cons_zero, List.set_cons_succ]
            refine' ordS_take (i := 28) (oi := { dst := some 141, op := Op.pick (Operand.tmp 127) (Operand.const (Value.bool true)) (Operand.tmp 140), type := 4, pos := _, after := #[{ on := 14, ground := Ground.data }, { on := 27, ground := Ground.data }], guard := none }) (v := _) rfl (by kernel_rfl) (by kernel_rfl) (by kernel_rfl) (by kernel_rfl) (fun _ _ _ h => h) (by assumption) (Or.inl ⟨by rfl, ?hy118⟩) (fun _ => rfl) ?rest118
            case hy118 => (intro w hSw; (try dsimp only at hSw); go_simp; try with_reducible rfl)
            try simp only [Act.put, List.setIfInBounds_toArray, List.set_cons_zero, List.set_cons_succ]
            refine' ordS_take (i := 29) (oi := { dst := some 142, op := Op.move (Operand.tmp 141), type := 4, pos := _, after := #[{ on := 28, ground := Ground.data }, { on := 25, ground := Ground.chain }], guard := none }) (v := _) rfl (by kernel_rfl) (by kernel_rfl) (by kernel_rfl) (by kernel_rfl) (fun _ _ _ h => h) (by assumption) (Or.inl ⟨by rfl, ?hy119⟩) (fun _ => rfl) ?rest119
            case hy119 => (intro w hSw; (try dsimp only at hSw); go_simp; try with_reducible rfl)
            try simp only [Act.put, List.setIfInBounds_toArray, List.set_cons_zero, List.set_cons_succ]
            refine' ordS_take (i := 30) (oi := { dst := some 143, op := Op.move (Operand.tmp 14), type := 4, pos := _, after := #[{ on := 29, ground := Ground.guard }], guard := some (29, false) }) (v := _) rfl (by kernel_rfl) (by kernel_rfl) (by kernel_rfl) (by kernel_rfl) (fun _ _ _ h => h) (by assumption) (Or.inl ⟨by rfl, ?hy120⟩) (fun _ => rfl) ?rest120
            case hy120 => (intro w hSw; (try dsimp only at hSw); go_simp; try with_reducible rfl)
            try simp only [Act.put, List.setIfInBounds_toArray, List.set_cons_zero, List.set_cons_succ]
            refine' ordS_take (i := 31) (oi := { dst := some 144, op := Op.unOp UnOp.not 4 (Operand.tmp 143), type := 4, pos := _, after := #[{ on := 30, ground := Ground.data }, { on := 29, ground := Ground.guard }], guard := some (29, false) }) (v := _) rfl (by kernel_rfl) (by kernel_rfl) (by kernel_rfl) (by kernel_rfl) (fun _ _ _ h => h) (by assumption) (Or.inl ⟨by rfl, ?hy121⟩) (fun _ => rfl) ?rest121
            case hy121 => (intro w hSw; (try dsimp only at hSw); go_simp; try with_reducible rfl)
            try simp only [Act.put, List.setIfInBounds_toArray, List.set_cons_zero, List.set_cons_succ]
            refine' ordS_take (i := 32) (oi := { dst := some 145, op := Op.move (Operand.tmp 144), type := 4, pos := _, after := #[{ on := 31, ground := Ground.data }, { on := 29, ground := Ground.chain }, { on := 29, ground := Ground.guard }], guard := some (29, false) }) (v := _) rfl (by kernel_rfl) (by kernel_rfl) (by kernel_rfl) (by kernel_rfl) (fun _ _ _ h => h) (by assumption) (Or.inl ⟨by rfl, ?hy122⟩) (fun _ => rfl) ?rest122
            case hy122 => (intro w hSw; (try dsimp only at hSw); go_simp; try with_reducible rfl)
            try simp only [Act.put, List.setIfInBounds_toArray, List.set_cons_zero, List.set_cons_succ]
            refine' ordS_take (i := 33) (oi := { dst := some 146, op := Op.load 24 (Operand.tmp 13), type := 24, pos := _, after := #[{ on := 32, ground := Ground.guard }], guard := some (32, true) }) (v := _) rfl (by kernel_rfl) (by kernel_rfl) (by kernel_rfl) (by kernel_rfl) (fun _ _ _ h => h) (by assumption) (Or.inl ⟨by rfl, ?hy123⟩) (fun _ => rfl) ?rest123
            case hy123 => (intro w hSw; (try dsimp only at hSw); go_simp; try with_reducible rfl)
            try simp only [Act.put, List.setIfInBounds_toArray, List.set_cons_zero, List.set_cons_succ]
            refine' ordS_take (i := 34) (oi := { dst := some 147, op := Op.build 24 #[], type := 24, pos := _, after := #[{ on := 32, ground := Ground.guard }], guard := some (32, true) }) (v := _) rfl (by kernel_rfl) (by kernel_rfl) (by kernel_rfl) (by kernel_rfl) (fun _ _ _ h => h) (by assumption) (Or.inl ⟨by rfl, ?hy124⟩) (fun _ => rfl) ?rest124
            case hy124 => (intro w hSw; (try dsimp only at hSw); go_simp; try with_reducible rfl)
            try simp only [Act.put, List.setIfInBounds_toArray, List.set_cons_zero, List.set_cons_succ]
            refine ordS_one (i := 35) (o := { dst := some 148, op := Op.binOp BinOp.neq 24 (Operand.tmp 146) (Operand.tmp 147) 24, type := 4, pos := _, after := #[{ on := 33, ground := Ground.data }, { on := 34, ground := Ground.data }, { on := 32, ground := Ground.guard }], guard := some (32, true) }) (by kernel_rfl) rfl (by rfl) (fun K hK => ?_)
            go_simp
            refine hK _ _ hS ?_
            clear hK K
            try simp only [Act.put, List.setIfInBounds_toArray, List.set_cons_zero, List.set_cons_succ]
            refine' ordS_take (i := 36) (oi := { dst := some 149, op := Op.pick (Operand.tmp 145) (Operand.tmp 148) (Operand.const (Value.bool false)), type := 4, pos := _, after := #[{ on := 32, ground := Ground.data }, { on := 35, ground := Ground.data }, { on := 29, ground := Ground.guard }], guard := some (29, false) }) (v := _) rfl (by kernel_rfl) (by kernel_rfl) (by kernel_rfl) (by kernel_rfl) (fun _ _ _ h => h) (by assumption) (Or.inl ⟨by rfl, ?hy125⟩) (fun _ => rfl) ?rest125
            case hy125 => (intro w hSw; (try dsimp only at hSw); go_simp; try with_reducible rfl)
            try simp only [Act.put, List.setIfInBounds_toArray, List.set_cons_zero, List.set_cons_succ]
            refine' ordS_take (i := 37) (oi := { dst := some 150, op := Op.pick (Operand.tmp 142) (Operand.const (Value.bool true)) (Operand.tmp 149), type := 4, pos := _, after := #[{ on := 29, ground := Ground.data }, { on := 36, ground := Ground.data }], guard := none }) (v := _) rfl (by kernel_rfl) (by kernel_rfl) (by kernel_rfl) (by kernel_rfl) (fun _ _ _ h => h) (by assumption) (Or.inl ⟨by rfl, ?hy126⟩) (fun _ => rfl) ?rest126
            case hy126 => (intro w hSw; (try dsimp only at hSw); go_simp; try with_reducible rfl)
            try simp only [Act.put, List.setIfInBounds_toArray, List.set_cons_zero, List.set_cons_succ]
            refine ordS_done (by kernel_rfl) ?_
            clear heq
            have HSE := Lib.hid (Sep.drop (l1 := [CellsO q #[(.slice ru m2.length capu), (.slice rv m2.length capv)] 39, RowO 3 1 (.slice ru m2.length capu) m2.length (cellsI (m2.map Th.id)), RowO 28 4 (.slice rv m2.length capv) m2.length (flatK m2), HeapO p m2]) (l2 := []) (Sep.drop (l1 := [CellsO q #[(.slice ru m2.length capu), (.slice rv m2.length capv)] 39, RowO 3 1 (.slice ru m2.length capu) m2.length (cellsI (m2.map Th.id)), RowO 28 4 (.slice rv m2.length capv) m2.length (flatK m2), HeapO p m2, CellsO ab #[.int .i64 d, .int .i64 t.id, .int .u64 t.F, .int .u64 t.H, .int .i64 t.Y, .int .i64 t.X] 41]) (l2 := []) h9))
            have HAE := Lib.hid hA9
            clear h9 hA9 hS
            go_wp2
            go_roundw
            case rel => exact ⟨k + 1, m2, _, _, by omega, by go_num, hml2, HSE.out, HAE.out⟩
            case measure => simp [intOf]; omega
          · obtain rfl : is = true := by rw [← HIS.out, hf]; rfl
            obtain ⟨gv, rfl⟩ : ∃ g, rv = some ⟨g, 0, none⟩ := by
              rcases hrv with ⟨_, e, _⟩ | h
              · omega
              · exact h
            have ek : atT m2 j = kk := by rw [← HKK.out]; unfold keyA; rw [hf]; rfl
            obtain ⟨hv, _, _, _, _⟩ := Sep.row (l1 := [CellsO q #[(.slice ru m2.length capu), (.slice (some ⟨gv, 0, none⟩) m2.length capv)] 39, RowO 3 1 (.slice ru m2.length capu) m2.length (cellsI (m2.map Th.id))]) h9
            obtain ⟨e0, e1, e2, e3⟩ := flatK_at m2 j hj
            rw [ek] at e0 e1 e2 e3
            have hS : (fun w' : World => w'.cell? ⟨q, 0, none⟩ = some (.slice ru m2.length capu) ∧ w'.cell? ⟨q, 1, none⟩ = some (.slice (some ⟨gv, 0, none⟩) m2.length capv) ∧ w'.cell? ⟨kb, 0, none⟩ = some (.int .u64 kk.F) ∧ w'.cell? ⟨kb, 1, none⟩ = some (.int .u64 kk.H) ∧ w'.cell? ⟨kb, 2, none⟩ = some (.int .i64 kk.Y) ∧ w'.cell? ⟨kb, 3, none⟩ = some (.int .i64 kk.X) ∧ w'.cell? ⟨gv, j * 4, none⟩ = some (.int .u64 kk.F) ∧ w'.cell? ⟨gv, j * 4 + 1, none⟩ = some (.int .u64 kk.H) ∧ w'.cell? ⟨gv, j * 4 + 2, none⟩ = some (.int .i64 kk.Y) ∧ w'.cell? ⟨gv, j * 4 + 3, none⟩ = some (.int .i64 kk.X)) w12.drew := ⟨by simp [World.cell?, rq], by simp [World.cell?, rq], by simp [World.cell?, rk], by simp [World.cell?, rk], by simp [World.cell?, rk], by simp [World.cell?, rk], hv _ _ e0, hv _ _ e1, hv _ _ e2, hv _ _ e3⟩
            have hj0 : (0 : Int) ≤ (j : Int) := by omega
            have hjI : (j : Int) < (m2.length : Int) := by omega
            have hge0 : decide ((0 : Int) ≤ (j : Int)) = true := decide_eq_true hj0
            have hc := len_sep (l1 := [CellsO q #[(.slice ru m2.length capu), (.slice (some ⟨gv, 0, none⟩) m2.length capv)] 39, RowO 3 1 (.slice ru m2.length capu) m2.length (cellsI (m2.map Th.id)), RowO 28 4 (.slice (some ⟨gv, 0, none⟩) m2.length capv) m2.length (flatK m2)]) (l2 := [CellsO ab #[.int .i64 d, .int .i64 t.id, .int .u64 t.F, .int .u64 t.H, .int .i64 t.Y, .int .i64 t.X] 41, CellsO kb #[.int .u64 kk.F, .int .u64 kk.H, .int .i64 kk.Y, .int .i64 kk.X] 24]) h9
            have hs25 := fun w => same_any kk kk w
            have hss : sameK kk kk = true := by unfold sameK; simp
            simp only [hss] at hs25
            clear rq rk hf hrv ek hv e0 e1 e2 e3 hss
            refine (wpIn_wide (n := 11)).1 ?_
            refine ordS_begin (S := (fun w' : World => w'.cell? ⟨q, 0, none⟩ = some (.slice ru m2.length capu) ∧ w'.cell? ⟨q, 1, none⟩ = some (.slice (some ⟨gv, 0, none⟩) m2.length capv) ∧ w'.cell? ⟨kb, 0, none⟩ = some (.int .u64 kk.F) ∧ w'.cell? ⟨kb, 1, none⟩ = some (.int .u64 kk.H) ∧ w'.cell? ⟨kb, 2, none⟩ = some (.int .i64 kk.Y) ∧ w'.cell? ⟨kb, 3, none⟩ = some (.int .i64 kk.X) ∧ w'.cell? ⟨gv, j * 4, none⟩ = some (.int .u64 kk.F) ∧ w'.cell? ⟨gv, j * 4 + 1, none⟩ = some (.int .u64 kk.H) ∧ w'.cell? ⟨gv, j * 4 + 2, none⟩ = some (.int .i64 kk.Y) ∧ w'.cell? ⟨gv, j * 4 + 3, none⟩ = some (.int .i64 kk.X))) (by kernel_rfl) hS (fun _ => ?_)
            refine' ordS_take (i := 0) (oi := { dst := some 113, op := Op.move (Operand.tmp 3), type := 33, pos := _, after := #[], guard := none }) (v := _) rfl (by kernel_rfl) (by kernel_rfl) (by kernel_rfl) (by kernel_rfl) (fun _ _ _ h => h) (by assumption) (Or.inl ⟨by rfl, ?hy127⟩) (fun _ => rfl) ?rest127
            case hy127 => (intro w hSw; (try dsimp only at hSw); go_simp; try with_reducible rfl)
            try simp only [Act.put, List.setIfInBounds_toArray, List.set_cons_zero, List.set_cons_succ]
            refine' ordS_take (i := 2) (oi := { dst := some 115, op := Op.move (Operand.tmp 4), type := 35, pos := _, after := #[], guard := none }) (v := _) rfl (by kernel_rfl) (by kernel_rfl) (by kernel_rfl) (by kernel_rfl) (fun _ _ _ h => h) (by assumption) (Or.inl ⟨by rfl, ?hy128⟩) (fun _ => rfl) ?rest128
            case hy128 => (intro w hSw; (try dsimp only at hSw); go_simp; try with_reducible rfl)
            try simp only [Act.put, List.setIfInBounds_toArray, List.set_cons_zero, List.set_cons_succ]
            refine' ordS_take (i := 3) (oi := { dst := some 116, op := Op.nilCheck (Operand.tmp 115), type := 0, pos := _, after := #[{ on := 2, ground := Ground.data }], guard := none }) (v := _) rfl (by kernel_rfl) (by kernel_rfl) (by kernel_rfl) (by kernel_rfl) (fun _ _ _ h => h) (by assumption) (Or.inl ⟨by rfl, ?hy129⟩) (fun _ => rfl) ?rest129
            case hy129 => (intro w hSw; (try dsimp only at hSw); go_simp; try with_reducible rfl)
            try simp only [Act.put, List.setIfInBounds_toArray, List.set_cons_zero, List.set_cons_succ]
            refine' ordS_take (i := 4) (oi := { dst := some 117, op := Op.fieldAddr 39 (Operand.tmp 116) 0, type := 0, pos := _, after := #[{ on := 3, ground := Ground.data }], guard := none }) (v := _) rfl (by kernel_rfl) (by kernel_rfl) (by kernel_rfl) (by kernel_rfl) (fun _ _ _ h => h) (by assumption) (Or.inl ⟨by rfl, ?hy130⟩) (fun _ => rfl) ?rest130
            case hy130 => (intro w hSw; (try dsimp only at hSw); go_simp; try with_reducible rfl)
            try simp only [Act.put, List.setIfInBounds_toArray, List.set_cons_zero, List.set_cons_succ]
            refine' ordS_take (i := 5) (oi := { dst := some 118, op := Op.load 36 (Operand.tmp 117), type := 36, pos := _, after := #[{ on := 4, ground := Ground.data }], guard := none }) (v := _) rfl (by kernel_rfl) (by kernel_rfl) (by kernel_rfl) (by kernel_rfl) (fun _ _ _ h => h) (by assumption) (Or.inl ⟨by rfl, ?hy131⟩) (fun _ => rfl) ?rest131
            case hy131 => (intro w hSw; (try dsimp only at hSw); go_simp; try with_reducible rfl)
            try simp only [Act.put, List.setIfInBounds_toArray, List.set_cons_zero, List.set_cons_succ]
            refine' ordS_take (i := 6) (oi := { dst := some 119, op := Op.call { callee := Callee.builtin Builtin.len, args := #[Operand.tmp 118], argTypes := #[36] }, type := 3, pos := _, after := #[{ on := 5, ground := Ground.data }], guard := none }) (v := _) rfl (by kernel_rfl) (by kernel_rfl) (by kernel_rfl) (by kernel_rfl) (fun _ _ _ h => h) (by assumption) (Or.inl ⟨by rfl, ?hy132⟩) (fun _ => rfl) ?rest132
            case hy132 => (intro w hSw; (try dsimp only at hSw); go_simp; try with_reducible rfl)
            try simp only [Act.put, List.setIfInBounds_toArray, List.set_cons_zero, List.set_cons_succ]
            refine ordS_one (i := 1) (o := { dst := some 114, op := Op.call { callee := Callee.value (Operand.func 23), args := #[Operand.tmp 113], argTypes := #[33] }, type := 3, pos := _, after := #[{ on := 0, ground := Ground.data }], guard := none }) (by kernel_rfl) rfl (by rfl) (fun K hK => ?_)
            go_simp
            refine ⟨trivial, (callsIn_wide.2 (hc)).mono ?_⟩
            rintro e w9 ⟨rfl, rfl⟩
            clear hc
            refine hK _ _ hS ?_
            clear hK K
            try simp only [Act.put, List.setIfInBounds_toArray, List.set_cons_zero, List.set_cons_succ]
            refine' ordS_take (i := 7) (oi := { dst := some 120, op := Op.binOp BinOp.neq 3 (Operand.tmp 114) (Operand.tmp 119) 3, type := 4, pos := _, after := #[{ on := 1, ground := Ground.data }, { on := 6, ground := Ground.data }], guard := none }) (v := _) rfl (by kernel_rfl) (by kernel_rfl) (by kernel_rfl) (by kernel_rfl) (fun _ _ _ h => h) (by assumption) (Or.inl ⟨by rfl, ?hy133⟩) (fun _ => rfl) ?rest133
            case hy133 => (intro w hSw; (try dsimp only at hSw); go_simp; try with_reducible rfl)
            try simp only [Act.put, List.setIfInBounds_toArray, List.set_cons_zero, List.set_cons_succ]
            refine' ordS_take (i := 8) (oi := { dst := some 121, op := Op.move (Operand.tmp 120), type := 4, pos := _, after := #[{ on := 7, ground := Ground.data }, { on := 1, ground := Ground.chain }], guard := none }) (v := _) rfl (by kernel_rfl) (by kernel_rfl) (by kernel_rfl) (by kernel_rfl) (fun _ _ _ h => h) (by assumption) (Or.inl ⟨by rfl, ?hy134⟩) (fun _ => rfl) ?rest134
            case hy134 => (intro w hSw; (try dsimp only at hSw); go_simp; try with_reducible rfl)
            try simp only [Act.put, List.setIfInBounds_toArray, List.set_cons_zero, List.set_cons_succ]
            refine' ordS_take (i := 9) (oi := { dst := some 122, op := Op.move (Operand.tmp 14), type := 4, pos := _, after := #[{ on := 8, ground := Ground.guard }], guard := some (8, false) }) (v := _) rfl (by kernel_rfl) (by kernel_rfl) (by kernel_rfl) (by kernel_rfl) (fun _ _ _ h => h) (by assumption) (Or.inl ⟨by rfl, ?hy135⟩) (fun _ => rfl) ?rest135
            case hy135 => (intro w hSw; (try dsimp only at hSw); go_simp; try with_reducible rfl)
            try simp only [Act.put, List.setIfInBounds_toArray, List.set_cons_zero, List.set_cons_succ]
            refine' ordS_take (i := 10) (oi := { dst := some 123, op := Op.move (Operand.tmp 15), type := 3, pos := _, after := #[{ on := 8, ground := Ground.guard }], guard := some (8, false) }) (v := _) rfl (by kernel_rfl) (by kernel_rfl) (by kernel_rfl) (by kernel_rfl) (fun _ _ _ h => h) (by assumption) (Or.inl ⟨by rfl, ?hy136⟩) (fun _ => rfl) ?rest136
            case hy136 => (intro w hSw; (try dsimp only at hSw); go_simp; try with_reducible rfl)
            try simp only [Act.put, List.setIfInBounds_toArray, List.set_cons_zero, List.set_cons_succ]
            refine' ordS_take (i := 11) (oi := { dst := some 124, op := Op.binOp BinOp.geq 3 (Operand.tmp 123) (Operand.const (Value.int IntKind.i64 0)) 3, type := 4, pos := _, after := #[{ on := 10, ground := Ground.data }, { on := 8, ground := Ground.guard }], guard := some (8, false) }) (v := _) rfl (by kernel_rfl) (by kernel_rfl) (by kernel_rfl) (by kernel_rfl) (fun _ _ _ h => h) (by assumption) (Or.inl ⟨by rfl, ?hy137⟩) (fun _ => rfl) ?rest137
            case hy137 => (intro w hSw; (try dsimp only at hSw); go_simp; try with_reducible rfl)
            try simp only [Act.put, List.setIfInBounds_toArray, List.set_cons_zero, List.set_cons_succ]
            refine' ordS_take (i := 12) (oi := { dst := some 125, op := Op.binOp BinOp.neq 4 (Operand.tmp 122) (Operand.tmp 124) 4, type := 4, pos := _, after := #[{ on := 9, ground := Ground.data }, { on := 11, ground := Ground.data }, { on := 8, ground := Ground.guard }], guard := some (8, false) }) (v := _) rfl (by kernel_rfl) (by kernel_rfl) (by kernel_rfl) (by kernel_rfl) (fun _ _ _ h => h) (by assumption) (Or.inl ⟨by rfl, ?hy138⟩) (fun _ => rfl) ?rest138
            case hy138 => (intro w hSw; (try dsimp only at hSw); go_simp; try with_reducible rfl)
            try simp only [Act.put, List.setIfInBounds_toArray, List.set_cons_zero, List.set_cons_succ]
            refine' ordS_take (i := 13) (oi := { dst := some 126, op := Op.pick (Operand.tmp 121) (Operand.const (Value.bool true)) (Operand.tmp 125), type := 4, pos := _, after := #[{ on := 8, ground := Ground.data }, { on := 12, ground := Ground.data }], guard := none }) (v := _) rfl (by kernel_rfl) (by kernel_rfl) (by kernel_rfl) (by kernel_rfl) (fun _ _ _ h => h) (by assumption) (Or.inl ⟨by rfl, ?hy139⟩) (fun _ => rfl) ?rest139
            case hy139 => (intro w hSw; (try dsimp only at hSw); go_simp; try with_reducible rfl)
            try simp only [Act.put, List.setIfInBounds_toArray, List.set_cons_zero, List.set_cons_succ]
            refine' ordS_take (i := 14) (oi := { dst := some 127, op := Op.move (Operand.tmp 126), type := 4, pos := _, after := #[{ on := 13, ground := Ground.data }, { on := 8, ground := Ground.chain }], guard := none }) (v := _) rfl (by kernel_rfl) (by kernel_rfl) (by kernel_rfl) (by kernel_rfl) (fun _ _ _ h => h) (by assumption) (Or.inl ⟨by rfl, ?hy140⟩) (fun _ => rfl) ?rest140
            case hy140 => (intro w hSw; (try dsimp only at hSw); go_simp; try with_reducible rfl)
            try simp only [Act.put, List.setIfInBounds_toArray, List.set_cons_zero, List.set_cons_succ]
            refine' ordS_take (i := 15) (oi := { dst := some 128, op := Op.move (Operand.tmp 14), type := 4, pos := _, after := #[{ on := 14, ground := Ground.guard }], guard := some (14, false) }) (v := _) rfl (by kernel_rfl) (by kernel_rfl) (by kernel_rfl) (by kernel_rfl) (fun _ _ _ h => h) (by assumption) (Or.inl ⟨by rfl, ?hy141⟩) (fun _ => rfl) ?rest141
            case hy141 => (intro w hSw; (try dsimp only at hSw); go_simp; try with_reducible rfl)
            try simp only [Act.put, List.setIfInBounds_toArray, List.set_cons_zero, List.set_cons_succ]
            refine' ordS_take (i := 16) (oi := { dst := some 129, op := Op.move (Operand.tmp 128), type := 4, pos := _, after := #[{ on := 15, ground := Ground.data }, { on := 14, ground := Ground.chain }, { on := 14, ground := Ground.guard }], guard := some (14, false) }) (v := _) rfl (by kernel_rfl) (by kernel_rfl) (by kernel_rfl) (by kernel_rfl) (fun _ _ _ h => h) (by assumption) (Or.inl ⟨by rfl, ?hy142⟩) (fun _ => rfl) ?rest142
            case hy142 => (intro w hSw; (try dsimp only at hSw); go_simp; try with_reducible rfl)
            try simp only [Act.put, List.setIfInBounds_toArray, List.set_cons_zero, List.set_cons_succ]
            refine' ordS_take (i := 17) (oi := { dst := some 130, op := Op.load 24 (Operand.tmp 13), type := 24, pos := _, after := #[{ on := 16, ground := Ground.guard }], guard := some (16, true) }) (v := _) rfl (by kernel_rfl) (by kernel_rfl) (by kernel_rfl) (by kernel_rfl) (fun _ _ _ h => h) (by assumption) (Or.inl ⟨by rfl, ?hy143⟩) (fun _ => rfl) ?rest143
            case hy143 => (intro w hSw; (try dsimp only at hSw); go_simp; try with_reducible rfl)
            try simp only [Act.put, List.setIfInBounds_toArray, List.set_cons_zero, List.set_cons_succ]
            refine' ordS_take (i := 18) (oi := { dst := some 131, op := Op.move (Operand.tmp 4), type := 35, pos := _, after := #[{ on := 16, ground := Ground.guard }], guard := some (16, true) }) (v := _) rfl (by kernel_rfl) (by kernel_rfl) (by kernel_rfl) (by kernel_rfl) (fun _ _ _ h => h) (by assumption) (Or.inl ⟨by rfl, ?hy144⟩) (fun _ => rfl) ?rest144
            case hy144 => (intro w hSw; (try dsimp only at hSw); go_simp; try with_reducible rfl)
            try simp only [Act.put, List.setIfInBounds_toArray, List.set_cons_zero, List.set_cons_succ]
            refine' ordS_take (i := 19) (oi := { dst := some 132, op := Op.nilCheck (Operand.tmp 131), type := 0, pos := _, after := #[{ on := 18, ground := Ground.data }, { on := 16, ground := Ground.guard }], guard := some (16, true) }) (v := _) rfl (by kernel_rfl) (by kernel_rfl) (by kernel_rfl) (by kernel_rfl) (fun _ _ _ h => h) (by assumption) (Or.inl ⟨by rfl, ?hy145⟩) (fun _ => rfl) ?rest145
            case hy145 => (intro w hSw; (try dsimp only at hSw); go_simp; try with_reducible rfl)
            try simp only [Act.put, List.setIfInBounds_toArray, List.set_cons_zero, List.set_cons_succ]
            refine' ordS_take (i := 20) (oi := { dst := some 133, op := Op.fieldAddr 39 (Operand.tmp 132) 1, type := 0, pos := _, after := #[{ on := 19, ground := Ground.data }, { on := 16, ground := Ground.guard }], guard := some (16, true) }) (v := _) rfl (by kernel_rfl) (by kernel_rfl) (by kernel_rfl) (by kernel_rfl) (fun _ _ _ h => h) (by assumption) (Or.inl ⟨by rfl, ?hy146⟩) (fun _ => rfl) ?rest146
            case hy146 => (intro w hSw; (try dsimp only at hSw); go_simp; try with_reducible rfl)
            try simp only [Act.put, List.setIfInBounds_toArray, List.set_cons_zero, List.set_cons_succ]
            refine' ordS_take (i := 21) (oi := { dst := some 134, op := Op.load 37 (Operand.tmp 133), type := 37, pos := _, after := #[{ on := 20, ground := Ground.data }, { on := 16, ground := Ground.guard }], guard := some (16, true) }) (v := _) rfl (by kernel_rfl) (by kernel_rfl) (by kernel_rfl) (by kernel_rfl) (fun _ _ _ h => h) (by assumption) (Or.inl ⟨by rfl, ?hy147⟩) (fun _ => rfl) ?rest147
            case hy147 => (intro w hSw; (try dsimp only at hSw); go_simp; try with_reducible rfl)
            try simp only [Act.put, List.setIfInBounds_toArray, List.set_cons_zero, List.set_cons_succ]
            refine' ordS_take (i := 22) (oi := { dst := some 135, op := Op.move (Operand.tmp 15), type := 3, pos := _, after := #[{ on := 16, ground := Ground.guard }], guard := some (16, true) }) (v := _) rfl (by kernel_rfl) (by kernel_rfl) (by kernel_rfl) (by kernel_rfl) (fun _ _ _ h => h) (by assumption) (Or.inl ⟨by rfl, ?hy148⟩) (fun _ => rfl) ?rest148
            case hy148 => (intro w hSw; (try dsimp only at hSw); go_simp; try with_reducible rfl)
            try simp only [Act.put, List.setIfInBounds_toArray, List.set_cons_zero, List.set_cons_succ]
            refine' ordS_take (i := 23) (oi := { dst := some 136, op := Op.indexAddr 37 (Operand.tmp 134) (Operand.tmp 135), type := 0, pos := _, after := #[{ on := 21, ground := Ground.data }, { on := 22, ground := Ground.data }, { on := 16, ground := Ground.guard }], guard := some (16, true) }) (v := _) rfl (by kernel_rfl) (by kernel_rfl) (by kernel_rfl) (by kernel_rfl) (fun _ _ _ h => h) (by assumption) (Or.inl ⟨by rfl, ?hy149⟩) (fun _ => rfl) ?rest149
            case hy149 => (intro w hSw; (try dsimp only at hSw); go_simp; try with_reducible rfl)
            try simp only [Act.put, List.setIfInBounds_toArray, List.set_cons_zero, List.set_cons_succ]
            refine' ordS_take (i := 24) (oi := { dst := some 137, op := Op.load 28 (Operand.tmp 136), type := 28, pos := _, after := #[{ on := 23, ground := Ground.data }, { on := 16, ground := Ground.guard }], guard := some (16, true) }) (v := _) rfl (by kernel_rfl) (by kernel_rfl) (by kernel_rfl) (by kernel_rfl) (fun _ _ _ h => h) (by assumption) (Or.inl ⟨by rfl, ?hy150⟩) (fun _ => rfl) ?rest150
            case hy150 => (intro w hSw; (try dsimp only at hSw); go_simp; try with_reducible rfl)
            try simp only [Act.put, List.setIfInBounds_toArray, List.set_cons_zero, List.set_cons_succ]
            refine ordS_one (i := 25) (o := { dst := some 138, op := Op.call { callee := Callee.value (Operand.func 20), args := #[Operand.tmp 130, Operand.tmp 137], argTypes := #[24, 28] }, type := 4, pos := _, after := #[{ on := 17, ground := Ground.data }, { on := 24, ground := Ground.data }, { on := 16, ground := Ground.chain }, { on := 16, ground := Ground.guard }], guard := some (16, true) }) (by kernel_rfl) rfl (by rfl) (fun K hK => ?_)
            go_simp
            refine ⟨trivial, (callsIn_wide.2 (hs25 _)).mono ?_⟩
            rintro e w9 ⟨rfl, hb⟩
            replace h9 := h9.below hb
            replace hA9 := bl_tr hA9 hb
            replace hS : (fun w' : World => w'.cell? ⟨q, 0, none⟩ = some (.slice ru m2.length capu) ∧ w'.cell? ⟨q, 1, none⟩ = some (.slice (some ⟨gv, 0, none⟩) m2.length capv) ∧ w'.cell? ⟨kb, 0, none⟩ = some (.int .u64 kk.F) ∧ w'.cell? ⟨kb, 1, none⟩ = some (.int .u64 kk.H) ∧ w'.cell? ⟨kb, 2, none⟩ = some (.int .i64 kk.Y) ∧ w'.cell? ⟨kb, 3, none⟩ = some (.int .i64 kk.X) ∧ w'.cell? ⟨gv, j * 4, none⟩ = some (.int .u64 kk.F) ∧ w'.cell? ⟨gv, j * 4 + 1, none⟩ = some (.int .u64 kk.H) ∧ w'.cell? ⟨gv, j * 4 + 2, none⟩ = some (.int .i64 kk.Y) ∧ w'.cell? ⟨gv, j * 4 + 3, none⟩ = some (.int .i64 kk.X)) w9 := by
              obtain ⟨g0, g1, g2, g3, g4, g5, g6, g7, g8, g9⟩ := hS
              exact ⟨cell_later hb g0, cell_later hb g1, cell_later hb g2, cell_later hb g3, cell_later hb g4, cell_later hb g5, cell_later hb g6, cell_later hb g7, cell_later hb g8, cell_later hb g9⟩
            clear hb
            refine hK _ _ hS ?_
            clear hK K
            try simp only [Act.put, List.setIfInBounds_toArray, List.set_cons_zero, List.set_cons_succ]
            refine' ordS_take (i := 26) (oi := { dst := some 139, op := Op.unOp UnOp.not 4 (Operand.tmp 138), type := 4, pos := _, after := #[{ on := 25, ground := Ground.data }, { on := 16, ground := Ground.guard }], guard := some (16, true) }) (v := _) rfl (by kernel_rfl) (by kernel_rfl) (by kernel_rfl) (by kernel_rfl) (fun _ _ _ h => h) (by assumption) (Or.inl ⟨by rfl, ?hy151⟩) (fun _ => rfl) ?rest151
            case hy151 => (intro w hSw; (try dsimp only at hSw); go_simp; try with_reducible rfl)
            try simp only [Act.put, List.setIfInBounds_toArray, List.set_cons_zero, List.set_cons_succ]
            refine' ordS_take (i := 27) (oi := { dst := some 140, op := Op.pick (Operand.tmp 129) (Operand.tmp 139) (Operand.const (Value.bool false)), type := 4, pos := _, after := #[{ on := 16, ground := Ground.data }, { on := 26, ground := Ground.data }, { on := 14, ground := Ground.guard }], guard := some (14, false) }) (v := _) rfl (by kernel_rfl) (by kernel_rfl) (by kernel_rfl) (by kernel_rfl) (fun _ _ _ h => h) (by assumption) (Or.inl ⟨by rfl, ?hy152⟩) (fun _ => rfl) ?rest152
            case hy152 => (intro w hSw; (try dsimp only at hSw); go_simp; try with_reducible rfl)
            try simp only [Act.put, List.setIfInBounds_toArray, List.set_cons_zero, List.set_cons_succ]
            refine' ordS_take (i := 28) (oi := { dst := some 141, op := Op.pick (Operand.tmp 127) (Operand.const (Value.bool true)) (Operand.tmp 140), type := 4, pos := _, after := #[{ on := 14, ground := Ground.data }, { on := 27, ground := Ground.data }], guard := none }) (v := _) rfl (by kernel_rfl) (by kernel_rfl) (by kernel_rfl) (by kernel_rfl) (fun _ _ _ h => h) (by assumption) (Or.inl ⟨by rfl, ?hy153⟩) (fun _ => rfl) ?rest153
            case hy153 => (intro w hSw; (try dsimp only at hSw); go_simp; try with_reducible rfl)
            try simp only [Act.put, List.setIfInBounds_toArray, List.set_cons_zero, List.set_cons_succ]
            refine' ordS_take (i := 29) (oi := { dst := some 142, op := Op.move (Operand.tmp 141), type := 4, pos := _, after := #[{ on := 28, ground := Ground.data }, { on := 25, ground := Ground.chain }], guard := none }) (v := _) rfl (by kernel_rfl) (by kernel_rfl) (by kernel_rfl) (by kernel_rfl) (fun _ _ _ h => h) (by assumption) (Or.inl ⟨by rfl, ?hy154⟩) (fun _ => rfl) ?rest154
            case hy154 => (intro w hSw; (try dsimp only at hSw); go_simp; try with_reducible rfl)
            try simp only [Act.put, List.setIfInBounds_toArray, List.set_cons_zero, List.set_cons_succ]
            refine' ordS_take (i := 30) (oi := { dst := some 143, op := Op.move (Operand.tmp 14), type := 4, pos := _, after := #[{ on := 29, ground := Ground.guard }], guard := some (29, false) }) (v := _) rfl (by kernel_rfl) (by kernel_rfl) (by kernel_rfl) (by kernel_rfl) (fun _ _ _ h => h) (by assumption) (Or.inl ⟨by rfl, ?hy155⟩) (fun _ => rfl) ?rest155
            case hy155 => (intro w hSw; (try dsimp only at hSw); go_simp; try with_reducible rfl)
            try simp only [Act.put, List.setIfInBounds_toArray, List.set_cons_zero, List.set_cons_succ]
            refine' ordS_take (i := 31) (oi := { dst := some 144, op := Op.unOp UnOp.not 4 (Operand.tmp 143), type := 4, pos := _, after := #[{ on := 30, ground := Ground.data }, { on := 29, ground := Ground.guard }], guard := some (29, false) }) (v := _) rfl (by kernel_rfl) (by kernel_rfl) (by kernel_rfl) (by kernel_rfl) (fun _ _ _ h => h) (by assumption) (Or.inl ⟨by rfl, ?hy156⟩) (fun _ => rfl) ?rest156
            case hy156 => (intro w hSw; (try dsimp only at hSw); go_simp; try with_reducible rfl)
            try simp only [Act.put, List.setIfInBounds_toArray, List.set_cons_zero, List.set_cons_succ]
            refine' ordS_take (i := 32) (oi := { dst := some 145, op := Op.move (Operand.tmp 144), type := 4, pos := _, after := #[{ on := 31, ground := Ground.data }, { on := 29, ground := Ground.chain }, { on := 29, ground := Ground.guard }], guard := some (29, false) }) (v := _) rfl (by kernel_rfl) (by kernel_rfl) (by kernel_rfl) (by kernel_rfl) (fun _ _ _ h => h) (by assumption) (Or.inl ⟨by rfl, ?hy157⟩) (fun _ => rfl) ?rest157
            case hy157 => (intro w hSw; (try dsimp only at hSw); go_simp; try with_reducible rfl)
            try simp only [Act.put, List.setIfInBounds_toArray, List.set_cons_zero, List.set_cons_succ]
            refine ordS_take (i := 33) (oi := { dst := some 146, op := Op.load 24 (Operand.tmp 13), type := 24, pos := _, after := #[{ on := 32, ground := Ground.guard }], guard := some (32, true) }) (v := undef) rfl (by kernel_rfl) (by kernel_rfl) (by kernel_rfl) (by kernel_rfl) (fun _ _ _ h => h) (by assumption) (Or.inr ⟨by rfl, rfl⟩) (fun _ => rfl) ?_
            try simp only [Act.put, List.setIfInBounds_toArray, List.set_cons_zero, List.set_cons_succ]
            refine ordS_take (i := 34) (oi := { dst := some 147, op := Op.build 24 #[], type := 24, pos := _, after := #[{ on := 32, ground := Ground.guard }], guard := some (32, true) }) (v := undef) rfl (by kernel_rfl) (by kernel_rfl) (by kernel_rfl) (by kernel_rfl) (fun _ _ _ h => h) (by assumption) (Or.inr ⟨by rfl, rfl⟩) (fun _ => rfl) ?_
            try simp only [Act.put, List.setIfInBounds_toArray, List.set_cons_zero, List.set_cons_succ]
            refine ordS_take (i := 35) (oi := { dst := some 148, op := Op.binOp BinOp.neq 24 (Operand.tmp 146) (Operand.tmp 147) 24, type := 4, pos := _, after := #[{ on := 33, ground := Ground.data }, { on := 34, ground := Ground.data }, { on := 32, ground := Ground.guard }], guard := some (32, true) }) (v := undef) rfl (by kernel_rfl) (by kernel_rfl) (by kernel_rfl) (by kernel_rfl) (fun _ _ _ h => h) (by assumption) (Or.inr ⟨by rfl, rfl⟩) (fun _ => rfl) ?_
            try simp only [Act.put, List.setIfInBounds_toArray, List.set_cons_zero, List.set_cons_succ]
            refine' ordS_take (i := 36) (oi := { dst := some 149, op := Op.pick (Operand.tmp 145) (Operand.tmp 148) (Operand.const (Value.bool false)), type := 4, pos := _, after := #[{ on := 32, ground := Ground.data }, { on := 35, ground := Ground.data }, { on := 29, ground := Ground.guard }], guard := some (29, false) }) (v := _) rfl (by kernel_rfl) (by kernel_rfl) (by kernel_rfl) (by kernel_rfl) (fun _ _ _ h => h) (by assumption) (Or.inl ⟨by rfl, ?hy161⟩) (fun _ => rfl) ?rest161
            case hy161 => (intro w hSw; (try dsimp only at hSw); go_simp; try with_reducible rfl)
            try simp only [Act.put, List.setIfInBounds_toArray, List.set_cons_zero, List.set_cons_succ]
            refine' ordS_take (i := 37) (oi := { dst := some 150, op := Op.pick (Operand.tmp 142) (Operand.const (Value.bool true)) (Operand.tmp 149), type := 4, pos := _, after := #[{ on := 29, ground := Ground.data }, { on := 36, ground := Ground.data }], guard := none }) (v := _) rfl (by kernel_rfl) (by kernel_rfl) (by kernel_rfl) (by kernel_rfl) (fun _ _ _ h => h) (by assumption) (Or.inl ⟨by rfl, ?hy162⟩) (fun _ => rfl) ?rest162
            case hy162 => (intro w hSw; (try dsimp only at hSw); go_simp; try with_reducible rfl)
            try simp only [Act.put, List.setIfInBounds_toArray, List.set_cons_zero, List.set_cons_succ]
            refine ordS_done (by kernel_rfl) ?_
            have HSE := Lib.hid (Sep.drop (l1 := [CellsO q #[(.slice ru m2.length capu), (.slice (some ⟨gv, 0, none⟩) m2.length capv)] 39, RowO 3 1 (.slice ru m2.length capu) m2.length (cellsI (m2.map Th.id)), RowO 28 4 (.slice (some ⟨gv, 0, none⟩) m2.length capv) m2.length (flatK m2), HeapO p m2]) (l2 := []) (Sep.drop (l1 := [CellsO q #[(.slice ru m2.length capu), (.slice (some ⟨gv, 0, none⟩) m2.length capv)] 39, RowO 3 1 (.slice ru m2.length capu) m2.length (cellsI (m2.map Th.id)), RowO 28 4 (.slice (some ⟨gv, 0, none⟩) m2.length capv) m2.length (flatK m2), HeapO p m2, CellsO ab #[.int .i64 d, .int .i64 t.id, .int .u64 t.F, .int .u64 t.H, .int .i64 t.Y, .int .i64 t.X] 41]) (l2 := []) h9))
            have HAE := Lib.hid hA9
            clear h9 hA9 hS
            go_wp2
            go_roundw
            case rel => exact ⟨k + 1, m2, _, _, by omega, by go_num, hml2, HSE.out, HAE.out⟩
            case measure => simp [intOf]; omega
        · have nd1 : (d == 1) = false := by rw [beq_eq_false_iff_ne]; exact hd1
          have hnd := sep_nodup (l1 := [CellsO q #[u, v] 39, RowO 3 1 u m.length (cellsI (m.map Th.id)), RowO 28 4 v m.length (flatK m)]) (l2 := [CellsO ab #[.int .i64 d, .int .i64 t.id, .int .u64 t.F, .int .u64 t.H, .int .i64 t.Y, .int .i64 t.X] 41]) h3
          have hc := pop_sep (l1 := [CellsO q #[u, v] 39, RowO 3 1 u m.length (cellsI (m.map Th.id)), RowO 28 4 v m.length (flatK m)]) (l2 := [CellsO ab #[.int .i64 d, .int .i64 t.id, .int .u64 t.F, .int .u64 t.H, .int .i64 t.Y, .int .i64 t.X] 41]) h3 (by omega)
          obtain ⟨f, hf⟩ : ∃ f, firstT m = f := ⟨_, rfl⟩
          obtain ⟨em, hem⟩ : ∃ em, m.isEmpty = em := ⟨_, rfl⟩
          rw [hf, hem] at hc
          have HFF := Lib.hid hf
          have HEM := Lib.hid hem
          clear hf hem
          go_wp2_with fail
          refine hc.mono ?_
          rintro e w4 ⟨rfl, h4, hb⟩
          obtain ⟨x1, hx1⟩ : ∃ x1, w4.heap.size = x1 := ⟨_, rfl⟩
          replace h4 := h4.box #[.int .u64 f.F, .int .u64 f.H, .int .i64 f.Y, .int .i64 f.X] 24
          rw [hx1] at h4
          have hA4 := bl_al (hA3.trans hb) (.cells #[.int .u64 f.F, .int .u64 f.H, .int .i64 f.Y, .int .i64 f.X] 24)
          clear hc hb h3 hA3
          replace h4 : Sep (w4.alloc (.cells #[.int .u64 f.F, .int .u64 f.H, .int .i64 f.Y, .int .i64 f.X] 24)) w.heap.size [CellsO q #[u, v] 39, RowO 3 1 u m.length (cellsI (m.map Th.id)), RowO 28 4 v m.length (flatK m), HeapO p (popM m), CellsO ab #[.int .i64 d, .int .i64 t.id, .int .u64 t.F, .int .u64 t.H, .int .i64 t.Y, .int .i64 t.X] 41, CellsO x1 #[.int .u64 f.F, .int .u64 f.H, .int .i64 f.Y, .int .i64 f.X] 24] := h4
          have hc := pop_ref (l := [HeapO p (popM m), CellsO ab #[.int .i64 d, .int .i64 t.id, .int .u64 t.F, .int .u64 t.H, .int .i64 t.Y, .int .i64 t.X] 41, CellsO x1 #[.int .u64 f.F, .int .u64 f.H, .int .i64 f.Y, .int .i64 f.X] 24]) h4 (by omega) hnd
          rw [HFF.out, HEM.out] at hc
          go_wp2_with fail
          refine hc.mono ?_
          rintro e w5 ⟨rfl, ⟨u2, v2, h5⟩, hb⟩
          obtain ⟨x2, hx2⟩ : ∃ x2, w5.heap.size = x2 := ⟨_, rfl⟩
          replace h5 := h5.box #[.int .u64 f.F, .int .u64 f.H, .int .i64 f.Y, .int .i64 f.X] 28
          rw [hx2] at h5
          have hA5 := bl_al (hA4.trans hb) (.cells #[.int .u64 f.F, .int .u64 f.H, .int .i64 f.Y, .int .i64 f.X] 28)
          clear hc hb h4 hA4
          have hml2 : (popM m).length ≤ m.length := popM_len m
          replace h5 : Sep (w5.alloc (.cells #[.int .u64 f.F, .int .u64 f.H, .int .i64 f.Y, .int .i64 f.X] 28)) w.heap.size [CellsO q #[u2, v2] 39, RowO 3 1 u2 (popM m).length (cellsI ((popM m).map Th.id)), RowO 28 4 v2 (popM m).length (flatK (popM m)), HeapO p (popM m), CellsO ab #[.int .i64 d, .int .i64 t.id, .int .u64 t.F, .int .u64 t.H, .int .i64 t.Y, .int .i64 t.X] 41, CellsO x1 #[.int .u64 f.F, .int .u64 f.H, .int .i64 f.Y, .int .i64 f.X] 24, CellsO x2 #[.int .u64 f.F, .int .u64 f.H, .int .i64 f.Y, .int .i64 f.X] 28] := h5
          go_upto_region 12 with fail
          generalize hw6 : w5.alloc (.cells #[.int .u64 f.F, .int .u64 f.H, .int .i64 f.Y, .int .i64 f.X] 28) = w6 at *
          clear hw6 hx1 hx2
          obtain ⟨r1, _⟩ := Sep.cells (l1 := [CellsO q #[u2, v2] 39, RowO 3 1 u2 (popM m).length (cellsI ((popM m).map Th.id)), RowO 28 4 v2 (popM m).length (flatK (popM m)), HeapO p (popM m), CellsO ab #[.int .i64 d, .int .i64 t.id, .int .u64 t.F, .int .u64 t.H, .int .i64 t.Y, .int .i64 t.X] 41]) (l2 := [CellsO x2 #[.int .u64 f.F, .int .u64 f.H, .int .i64 f.Y, .int .i64 f.X] 28]) h5
          obtain ⟨r2, _⟩ := Sep.cells (l1 := [CellsO q #[u2, v2] 39, RowO 3 1 u2 (popM m).length (cellsI ((popM m).map Th.id)), RowO 28 4 v2 (popM m).length (flatK (popM m)), HeapO p (popM m), CellsO ab #[.int .i64 d, .int .i64 t.id, .int .u64 t.F, .int .u64 t.H, .int .i64 t.Y, .int .i64 t.X] 41, CellsO x1 #[.int .u64 f.F, .int .u64 f.H, .int .i64 f.Y, .int .i64 f.X] 24]) (l2 := []) h5
          have y0 : w6.cell? ⟨x1, 0, none⟩ = some (.int .u64 f.F) := by simp [World.cell?, r1]
          have y1 : w6.cell? ⟨x1, 1, none⟩ = some (.int .u64 f.H) := by simp [World.cell?, r1]
          have y2 : w6.cell? ⟨x1, 2, none⟩ = some (.int .i64 f.Y) := by simp [World.cell?, r1]
          have y3 : w6.cell? ⟨x1, 3, none⟩ = some (.int .i64 f.X) := by simp [World.cell?, r1]
          have z0 : w6.cell? ⟨x2, 0, none⟩ = some (.int .u64 f.F) := by simp [World.cell?, r2]
          have z1 : w6.cell? ⟨x2, 1, none⟩ = some (.int .u64 f.H) := by simp [World.cell?, r2]
          have z2 : w6.cell? ⟨x2, 2, none⟩ = some (.int .i64 f.Y) := by simp [World.cell?, r2]
          have z3 : w6.cell? ⟨x2, 3, none⟩ = some (.int .i64 f.X) := by simp [World.cell?, r2]
          have hss : sameK f f = true := by unfold sameK; simp
          have hc := same_any f f w6
          rw [hss] at hc
          have h6 := Sep.drop (l1 := [CellsO q #[u2, v2] 39, RowO 3 1 u2 (popM m).length (cellsI ((popM m).map Th.id)), RowO 28 4 v2 (popM m).length (flatK (popM m)), HeapO p (popM m), CellsO ab #[.int .i64 d, .int .i64 t.id, .int .u64 t.F, .int .u64 t.H, .int .i64 t.Y, .int .i64 t.X] 41]) (l2 := []) (Sep.drop (l1 := [CellsO q #[u2, v2] 39, RowO 3 1 u2 (popM m).length (cellsI ((popM m).map Th.id)), RowO 28 4 v2 (popM m).length (flatK (popM m)), HeapO p (popM m), CellsO ab #[.int .i64 d, .int .i64 t.id, .int .u64 t.F, .int .u64 t.H, .int .i64 t.Y, .int .i64 t.X] 41, CellsO x1 #[.int .u64 f.F, .int .u64 f.H, .int .i64 f.Y, .int .i64 f.X] 24]) (l2 := []) h5)
          clear r1 r2 h5 hss
          go_wp2_with fail
          refine hc.mono ?_
          rintro e w7 ⟨rfl, hb⟩
          replace h6 := h6.below hb
          have hA6 := bl_tr hA5 hb
          clear hc hb hA5 y0 y1 y2 y3 z0 z1 z2 z3 hnd
          replace h6 : Sep w7 w.heap.size [CellsO q #[u2, v2] 39, RowO 3 1 u2 (popM m).length (cellsI ((popM m).map Th.id)), RowO 28 4 v2 (popM m).length (flatK (popM m)), HeapO p (popM m), CellsO ab #[.int .i64 d, .int .i64 t.id, .int .u64 t.F, .int .u64 t.H, .int .i64 t.Y, .int .i64 t.X] 41] := h6
          replace hml2 : (popM m).length ≤ k + 1 := by omega
          obtain ⟨hA4⟩ : ∃ _ : Below w.heap.size w w7, True := ⟨hA6, trivial⟩
          clear hA6
          generalize popM m = m2 at *
          obtain ⟨ru, capu, rfl, hru⟩ := Sep.shape (l1 := [CellsO q #[u2, v2] 39]) h6
          obtain ⟨rv, capv, rfl, hrv⟩ := Sep.shape (l1 := [CellsO q #[(.slice ru m2.length capu), v2] 39, RowO 3 1 (.slice ru m2.length capu) m2.length (cellsI (m2.map Th.id))]) h6
          have hc := key_sep (l1 := [CellsO q #[(.slice ru m2.length capu), (.slice rv m2.length capv)] 39, RowO 3 1 (.slice ru m2.length capu) m2.length (cellsI (m2.map Th.id)), RowO 28 4 (.slice rv m2.length capv) m2.length (flatK m2)]) (l2 := [CellsO ab #[.int .i64 d, .int .i64 t.id, .int .u64 t.F, .int .u64 t.H, .int .i64 t.Y, .int .i64 t.X] 41]) t.id h6 hwt
          obtain ⟨kk, hkk⟩ : ∃ kk, keyA m2 t.id = kk := ⟨_, rfl⟩
          obtain ⟨is, his⟩ : ∃ is, (findT m2 t.id).isSome = is := ⟨_, rfl⟩
          rw [hkk, his] at hc
          have HKK := Lib.hid hkk
          have HIS := Lib.hid his
          obtain ⟨b1, _⟩ := HSA.out _ [CellsO q #[(.slice ru m2.length capu), (.slice rv m2.length capv)] 39, RowO 3 1 (.slice ru m2.length capu) m2.length (cellsI (m2.map Th.id)), RowO 28 4 (.slice rv m2.length capv) m2.length (flatK m2), HeapO p m2] h6
          clear hkk his hru
          go_wp2_with fail
          refine hc.mono ?_
          rintro e w10 ⟨rfl, h7, hb⟩
          obtain ⟨kb, hkb⟩ : ∃ kb, w10.heap.size = kb := ⟨_, rfl⟩
          replace h7 := h7.box #[.int .u64 kk.F, .int .u64 kk.H, .int .i64 kk.Y, .int .i64 kk.X] 24
          rw [hkb] at h7
          replace h7 : Sep (w10.alloc (.cells #[.int .u64 kk.F, .int .u64 kk.H, .int .i64 kk.Y, .int .i64 kk.X] 24)) w.heap.size [CellsO q #[(.slice ru m2.length capu), (.slice rv m2.length capv)] 39, RowO 3 1 (.slice ru m2.length capu) m2.length (cellsI (m2.map Th.id)), RowO 28 4 (.slice rv m2.length capv) m2.length (flatK m2), HeapO p m2, CellsO ab #[.int .i64 d, .int .i64 t.id, .int .u64 t.F, .int .u64 t.H, .int .i64 t.Y, .int .i64 t.X] 41, CellsO kb #[.int .u64 kk.F, .int .u64 kk.H, .int .i64 kk.Y, .int .i64 kk.X] 24] := h7
          have hA7 := bl_al (bl_tr hA4 hb) (.cells #[.int .u64 kk.F, .int .u64 kk.H, .int .i64 kk.Y, .int .i64 kk.X] 24)
          clear hc hb b1 h6 hA4
          go_upto_region 21 with fail
          generalize hw11 : w10.alloc (.cells #[.int .u64 kk.F, .int .u64 kk.H, .int .i64 kk.Y, .int .i64 kk.X] 24) = w11 at *
          clear hw11 hkb
          obtain ⟨rt, _⟩ := Sep.cells (l1 := [CellsO q #[(.slice ru m2.length capu), (.slice rv m2.length capv)] 39, RowO 3 1 (.slice ru m2.length capu) m2.length (cellsI (m2.map Th.id)), RowO 28 4 (.slice rv m2.length capv) m2.length (flatK m2), HeapO p m2]) (l2 := [CellsO kb #[.int .u64 kk.F, .int .u64 kk.H, .int .i64 kk.Y, .int .i64 kk.X] 24]) h7
          have b1 : w11.cell? ⟨ab, 1, none⟩ = some (.int .i64 t.id) := by simp [World.cell?, rt]
          have hc := find_ref (l := [HeapO p m2, CellsO ab #[.int .i64 d, .int .i64 t.id, .int .u64 t.F, .int .u64 t.H, .int .i64 t.Y, .int .i64 t.X] 41, CellsO kb #[.int .u64 kk.F, .int .u64 kk.H, .int .i64 kk.Y, .int .i64 kk.X] 24]) t.id h7 (by omega)
          clear rt
          go_wp2_with fail
          refine hc.mono ?_
          rintro e w12 ⟨r, rfl, hF, hb⟩
          have h8 := h7.below hb
          have hA8 := bl_tr hA7 hb
          clear hc hb b1 h7 hA7
          go_upto_region 22 with fail
          have hD := bl_dr (bl0 w12)
          have h9 := h8.below hD
          have hA9 := bl_tr hA8 hD
          clear h8 hA8 hD
          obtain ⟨rq, _⟩ := Sep.cells (l1 := []) h9
          obtain ⟨rk, _⟩ := Sep.cells (l1 := [CellsO q #[(.slice ru m2.length capu), (.slice rv m2.length capv)] 39, RowO 3 1 (.slice ru m2.length capu) m2.length (cellsI (m2.map Th.id)), RowO 28 4 (.slice rv m2.length capv) m2.length (flatK m2), HeapO p m2, CellsO ab #[.int .i64 d, .int .i64 t.id, .int .u64 t.F, .int .u64 t.H, .int .i64 t.Y, .int .i64 t.X] 41]) (l2 := []) h9
          rcases hF with ⟨rfl, hf⟩ | ⟨j, rfl, hj, _, hf⟩
          · obtain rfl : kk = ⟨0, 0, 0, 0, 0⟩ := by rw [← HKK.out]; unfold keyA; rw [hf]; rfl
            obtain rfl : is = false := by rw [← HIS.out, hf]; rfl
            replace h9 : Sep w12.drew w.heap.size [CellsO q #[(.slice ru m2.length capu), (.slice rv m2.length capv)] 39, RowO 3 1 (.slice ru m2.length capu) m2.length (cellsI (m2.map Th.id)), RowO 28 4 (.slice rv m2.length capv) m2.length (flatK m2), HeapO p m2, CellsO ab #[.int .i64 d, .int .i64 t.id, .int .u64 t.F, .int .u64 t.H, .int .i64 t.Y, .int .i64 t.X] 41, CellsO kb #[.int .u64 0, .int .u64 0, .int .i64 0, .int .i64 0] 24] := h9
            have heq : ∀ w : World, _ := fun w => eql_key ⟨0, 0, 0, 0, 0⟩ ⟨0, 0, 0, 0, 0⟩ w
            rw [show sameK ⟨0, 0, 0, 0, 0⟩ ⟨0, 0, 0, 0, 0⟩ = true from by decide] at heq
            dsimp only at heq
            have hneg : decide ((0 : Int) ≤ -1) = false := by decide
            have hS : (fun w' : World => w'.cell? ⟨q, 0, none⟩ = some (.slice ru m2.length capu) ∧ w'.cell? ⟨kb, 0, none⟩ = some (.int .u64 0) ∧ w'.cell? ⟨kb, 1, none⟩ = some (.int .u64 0) ∧ w'.cell? ⟨kb, 2, none⟩ = some (.int .i64 0) ∧ w'.cell? ⟨kb, 3, none⟩ = some (.int .i64 0)) w12.drew := ⟨by simp [World.cell?, rq], by simp [World.cell?, rk], by simp [World.cell?, rk], by simp [World.cell?, rk], by simp [World.cell?, rk]⟩
            have hc := len_sep (l1 := [CellsO q #[(.slice ru m2.length capu), (.slice rv m2.length capv)] 39, RowO 3 1 (.slice ru m2.length capu) m2.length (cellsI (m2.map Th.id)), RowO 28 4 (.slice rv m2.length capv) m2.length (flatK m2)]) (l2 := [CellsO ab #[.int .i64 d, .int .i64 t.id, .int .u64 t.F, .int .u64 t.H, .int .i64 t.Y, .int .i64 t.X] 41, CellsO kb #[.int .u64 0, .int .u64 0, .int .i64 0, .int .i64 0] 24]) h9
            clear rq rk hf hrv
            refine (wpIn_wide (n := 11)).1 ?_
            refine ordS_begin (S := (fun w' : World => w'.cell? ⟨q, 0, none⟩ = some (.slice ru m2.length capu) ∧ w'.cell? ⟨kb, 0, none⟩ = some (.int .u64 0) ∧ w'.cell? ⟨kb, 1, none⟩ = some (.int .u64 0) ∧ w'.cell? ⟨kb, 2, none⟩ = some (.int .i64 0) ∧ w'.cell? ⟨kb, 3, none⟩ = some (.int .i64 0))) (by kernel_rfl) hS (fun _ => ?_)
            refine' ordS_take (i := 0) (oi := { dst := some 113, op := Op.move (Operand.tmp 3), type := 33, pos := _, after := #[], guard := none }) (v := _) rfl (by kernel_rfl) (by kernel_rfl) (by kernel_rfl) (by kernel_rfl) (fun _ _ _ h => h) (by assumption) (Or.inl ⟨by rfl, ?hy163⟩) (fun _ => rfl) ?rest163
            case hy163 => (intro w hSw; (try dsimp only at hSw); go_simp; try with_reducible rfl)
            try simp only [Act.put, List.setIfInBounds_toArray, List.set_cons_zero, List.set_cons_succ]
            refine' ordS_take (i := 2) (oi := { dst := some 115, op := Op.move (Operand.tmp 4), type := 35, pos := _, after := #[], guard := none }) (v := _) rfl (by kernel_rfl) (by kernel_rfl) (by kernel_rfl) (by kernel_rfl) (fun _ _ _ h => h) (by assumption) (Or.inl ⟨by rfl, ?hy164⟩) (fun _ => rfl) ?rest164
            case hy164 => (intro w hSw; (try dsimp only at hSw); go_simp; try with_reducible rfl)
            try simp only [Act.put, List.setIfInBounds_toArray, List.set_cons_zero, List.set_cons_succ]
            refine' ordS_take (i := 3) (oi := { dst := some 116, op := Op.nilCheck (Operand.tmp 115), type := 0, pos := _, after := #[{ on := 2, ground := Ground.data }], guard := none }) (v := _) rfl (by kernel_rfl) (by kernel_rfl) (by kernel_rfl) (by kernel_rfl) (fun _ _ _ h => h) (by assumption) (Or.inl ⟨by rfl, ?hy165⟩) (fun _ => rfl) ?rest165
            case hy165 => (intro w hSw; (try dsimp only at hSw); go_simp; try with_reducible rfl)
            try simp only [Act.put, List.setIfInBounds_toArray, List.set_cons_zero, List.set_cons_succ]
            refine' ordS_take (i := 4) (oi := { dst := some 117, op := Op.fieldAddr 39 (Operand.tmp 116) 0, type := 0, pos := _, after := #[{ on := 3, ground := Ground.data }], guard := none }) (v := _) rfl (by kernel_rfl) (by kernel_rfl) (by kernel_rfl) (by kernel_rfl) (fun _ _ _ h => h) (by assumption) (Or.inl ⟨by rfl, ?hy166⟩) (fun _ => rfl) ?rest166
            case hy166 => (intro w hSw; (try dsimp only at hSw); go_simp; try with_reducible rfl)
            try simp only [Act.put, List.setIfInBounds_toArray, List.set_cons_zero, List.set_cons_succ]
            refine' ordS_take (i := 5) (oi := { dst := some 118, op := Op.load 36 (Operand.tmp 117), type := 36, pos := _, after := #[{ on := 4, ground := Ground.data }], guard := none }) (v := _) rfl (by kernel_rfl) (by kernel_rfl) (by kernel_rfl) (by kernel_rfl) (fun _ _ _ h => h) (by assumption) (Or.inl ⟨by rfl, ?hy167⟩) (fun _ => rfl) ?rest167
            case hy167 => (intro w hSw; (try dsimp only at hSw); go_simp; try with_reducible rfl)
            try simp only [Act.put, List.setIfInBounds_toArray, List.set_cons_zero, List.set_cons_succ]
            refine' ordS_take (i := 6) (oi := { dst := some 119, op := Op.call { callee := Callee.builtin Builtin.len, args := #[Operand.tmp 118], argTypes := #[36] }, type := 3, pos := _, after := #[{ on := 5, ground := Ground.data }], guard := none }) (v := _) rfl (by kernel_rfl) (by kernel_rfl) (by kernel_rfl) (by kernel_rfl) (fun _ _ _ h => h) (by assumption) (Or.inl ⟨by rfl, ?hy168⟩) (fun _ => rfl) ?rest168
            case hy168 => (intro w hSw; (try dsimp only at hSw); go_simp; try with_reducible rfl)
            try simp only [Act.put, List.setIfInBounds_toArray, List.set_cons_zero, List.set_cons_succ]
            refine ordS_one (i := 1) (o := { dst := some 114, op := Op.call { callee := Callee.value (Operand.func 23), args := #[Operand.tmp 113], argTypes := #[33] }, type := 3, pos := _, after := #[{ on := 0, ground := Ground.data }], guard := none }) (by kernel_rfl) rfl (by rfl) (fun K hK => ?_)
            go_simp
            refine ⟨trivial, (callsIn_wide.2 (hc)).mono ?_⟩
            rintro e w9 ⟨rfl, rfl⟩
            clear hc
            refine hK _ _ hS ?_
            clear hK K
            try simp only [Act.put, List.setIfInBounds_toArray, List.set_cons_zero, List.set_cons_succ]
            refine' ordS_take (i := 7) (oi := { dst := some 120, op := Op.binOp BinOp.neq 3 (Operand.tmp 114) (Operand.tmp 119) 3, type := 4, pos := _, after := #[{ on := 1, ground := Ground.data }, { on := 6, ground := Ground.data }], guard := none }) (v := _) rfl (by kernel_rfl) (by kernel_rfl) (by kernel_rfl) (by kernel_rfl) (fun _ _ _ h => h) (by assumption) (Or.inl ⟨by rfl, ?hy169⟩) (fun _ => rfl) ?rest169
            case hy169 => (intro w hSw; (try dsimp only at hSw); go_simp; try with_reducible rfl)
            try simp only [Act.put, List.setIfInBounds_toArray, List.set_cons_zero, List.set_cons_succ]
            refine' ordS_take (i := 8) (oi := { dst := some 121, op := Op.move (Operand.tmp 120), type := 4, pos := _, after := #[{ on := 7, ground := Ground.data }, { on := 1, ground := Ground.chain }], guard := none }) (v := _) rfl (by kernel_rfl) (by kernel_rfl) (by kernel_rfl) (by kernel_rfl) (fun _ _ _ h => h) (by assumption) (Or.inl ⟨by rfl, ?hy170⟩) (fun _ => rfl) ?rest170
            case hy170 => (intro w hSw; (try dsimp only at hSw); go_simp; try with_reducible rfl)
            try simp only [Act.put, List.setIfInBounds_toArray, List.set_cons_zero, List.set_cons_succ]
            refine' ordS_take (i := 9) (oi := { dst := some 122, op := Op.move (Operand.tmp 14), type := 4, pos := _, after := #[{ on := 8, ground := Ground.guard }], guard := some (8, false) }) (v := _) rfl (by kernel_rfl) (by kernel_rfl) (by kernel_rfl) (by kernel_rfl) (fun _ _ _ h => h) (by assumption) (Or.inl ⟨by rfl, ?hy171⟩) (fun _ => rfl) ?rest171
            case hy171 => (intro w hSw; (try dsimp only at hSw); go_simp; try with_reducible rfl)
            try simp only [Act.put, List.setIfInBounds_toArray, List.set_cons_zero, List.set_cons_succ]
            refine' ordS_take (i := 10) (oi := { dst := some 123, op := Op.move (Operand.tmp 15), type := 3, pos := _, after := #[{ on := 8, ground := Ground.guard }], guard := some (8, false) }) (v := _) rfl (by kernel_rfl) (by kernel_rfl) (by kernel_rfl) (by kernel_rfl) (fun _ _ _ h => h) (by assumption) (Or.inl ⟨by rfl, ?hy172⟩) (fun _ => rfl) ?rest172
            case hy172 => (intro w hSw; (try dsimp only at hSw); go_simp; try with_reducible rfl)
            try simp only [Act.put, List.setIfInBounds_toArray, List.set_cons_zero, List.set_cons_succ]
            refine' ordS_take (i := 11) (oi := { dst := some 124, op := Op.binOp BinOp.geq 3 (Operand.tmp 123) (Operand.const (Value.int IntKind.i64 0)) 3, type := 4, pos := _, after := #[{ on := 10, ground := Ground.data }, { on := 8, ground := Ground.guard }], guard := some (8, false) }) (v := _) rfl (by kernel_rfl) (by kernel_rfl) (by kernel_rfl) (by kernel_rfl) (fun _ _ _ h => h) (by assumption) (Or.inl ⟨by rfl, ?hy173⟩) (fun _ => rfl) ?rest173
            case hy173 => (intro w hSw; (try dsimp only at hSw); go_simp; try with_reducible rfl)
            try simp only [Act.put, List.setIfInBounds_toArray, List.set_cons_zero, List.set_cons_succ]
            refine' ordS_take (i := 12) (oi := { dst := some 125, op := Op.binOp BinOp.neq 4 (Operand.tmp 122) (Operand.tmp 124) 4, type := 4, pos := _, after := #[{ on := 9, ground := Ground.data }, { on := 11, ground := Ground.data }, { on := 8, ground := Ground.guard }], guard := some (8, false) }) (v := _) rfl (by kernel_rfl) (by kernel_rfl) (by kernel_rfl) (by kernel_rfl) (fun _ _ _ h => h) (by assumption) (Or.inl ⟨by rfl, ?hy174⟩) (fun _ => rfl) ?rest174
            case hy174 => (intro w hSw; (try dsimp only at hSw); go_simp; try with_reducible rfl)
            try simp only [Act.put, List.setIfInBounds_toArray, List.set_cons_zero, List.set_cons_succ]
            refine' ordS_take (i := 13) (oi := { dst := some 126, op := Op.pick (Operand.tmp 121) (Operand.const (Value.bool true)) (Operand.tmp 125), type := 4, pos := _, after := #[{ on := 8, ground := Ground.data }, { on := 12, ground := Ground.data }], guard := none }) (v := _) rfl (by kernel_rfl) (by kernel_rfl) (by kernel_rfl) (by kernel_rfl) (fun _ _ _ h => h) (by assumption) (Or.inl ⟨by rfl, ?hy175⟩) (fun _ => rfl) ?rest175
            case hy175 => (intro w hSw; (try dsimp only at hSw); go_simp; try with_reducible rfl)
            try simp only [Act.put, List.setIfInBounds_toArray, List.set_cons_zero, List.set_cons_succ]
            refine' ordS_take (i := 14) (oi := { dst := some 127, op := Op.move (Operand.tmp 126), type := 4, pos := _, after := #[{ on := 13, ground := Ground.data }, { on := 8, ground := Ground.chain }], guard := none }) (v := _) rfl (by kernel_rfl) (by kernel_rfl) (by kernel_rfl) (by kernel_rfl) (fun _ _ _ h => h) (by assumption) (Or.inl ⟨by rfl, ?hy176⟩) (fun _ => rfl) ?rest176
            case hy176 => (intro w hSw; (try dsimp only at hSw); go_simp; try with_reducible rfl)
            try simp only [Act.put, List.setIfInBounds_toArray, List.set_cons_zero, List.set_cons_succ]
            refine' ordS_take (i := 15) (oi := { dst := some 128, op := Op.move (Operand.tmp 14), type := 4, pos := _, after := #[{ on := 14, ground := Ground.guard }], guard := some (14, false) }) (v := _) rfl (by kernel_rfl) (by kernel_rfl) (by kernel_rfl) (by kernel_rfl) (fun _ _ _ h => h) (by assumption) (Or.inl ⟨by rfl, ?hy177⟩) (fun _ => rfl) ?rest177
            case hy177 => (intro w hSw; (try dsimp only at hSw); go_simp; try with_reducible rfl)
            try simp only [Act.put, List.setIfInBounds_toArray, List.set_cons_zero, List.set_cons_succ]
            refine' ordS_take (i := 16) (oi := { dst := some 129, op := Op.move (Operand.tmp 128), type := 4, pos := _, after := #[{ on := 15, ground := Ground.data }, { on := 14, ground := Ground.chain }, { on := 14, ground := Ground.guard }], guard := some (14, false) }) (v := _) rfl (by kernel_rfl) (by kernel_rfl) (by kernel_rfl) (by kernel_rfl) (fun _ _ _ h => h) (by assumption) (Or.inl ⟨by rfl, ?hy178⟩) (fun _ => rfl) ?rest178
            case hy178 => (intro w hSw; (try dsimp only at hSw); go_simp; try with_reducible rfl)
            try simp only [Act.put, List.setIfInBounds_toArray, List.set_cons_zero, List.set_cons_succ]
            refine ordS_take (i := 17) (oi := { dst := some 130, op := Op.load 24 (Operand.tmp 13), type := 24, pos := _, after := #[{ on := 16, ground := Ground.guard }], guard := some (16, true) }) (v := undef) rfl (by kernel_rfl) (by kernel_rfl) (by kernel_rfl) (by kernel_rfl) (fun _ _ _ h => h) (by assumption) (Or.inr ⟨by rfl, rfl⟩) (fun _ => rfl) ?_
            try simp only [Act.put, List.setIfInBounds_toArray, List.set_cons_zero, List.set_cons_succ]
            refine ordS_take (i := 18) (oi := { dst := some 131, op := Op.move (Operand.tmp 4), type := 35, pos := _, after := #[{ on := 16, ground := Ground.guard }], guard := some (16, true) }) (v := undef) rfl (by kernel_rfl) (by kernel_rfl) (by kernel_rfl) (by kernel_rfl) (fun _ _ _ h => h) (by assumption) (Or.inr ⟨by rfl, rfl⟩) (fun _ => rfl) ?_
            try simp only [Act.put, List.setIfInBounds_toArray, List.set_cons_zero, List.set_cons_succ]
            refine ordS_take (i := 19) (oi := { dst := some 132, op := Op.nilCheck (Operand.tmp 131), type := 0, pos := _, after := #[{ on := 18, ground := Ground.data }, { on := 16, ground := Ground.guard }], guard := some (16, true) }) (v := undef) rfl (by kernel_rfl) (by kernel_rfl) (by kernel_rfl) (by kernel_rfl) (fun _ _ _ h => h) (by assumption) (Or.inr ⟨by rfl, rfl⟩) (fun _ => rfl) ?_
            try simp only [Act.put, List.setIfInBounds_toArray, List.set_cons_zero, List.set_cons_succ]
            refine ordS_take (i := 20) (oi := { dst := some 133, op := Op.fieldAddr 39 (Operand.tmp 132) 1, type := 0, pos := _, after := #[{ on := 19, ground := Ground.data }, { on := 16, ground := Ground.guard }], guard := some (16, true) }) (v := undef) rfl (by kernel_rfl) (by kernel_rfl) (by kernel_rfl) (by kernel_rfl) (fun _ _ _ h => h) (by assumption) (Or.inr ⟨by rfl, rfl⟩) (fun _ => rfl) ?_
            try simp only [Act.put, List.setIfInBounds_toArray, List.set_cons_zero, List.set_cons_succ]
            refine ordS_take (i := 21) (oi := { dst := some 134, op := Op.load 37 (Operand.tmp 133), type := 37, pos := _, after := #[{ on := 20, ground := Ground.data }, { on := 16, ground := Ground.guard }], guard := some (16, true) }) (v := undef) rfl (by kernel_rfl) (by kernel_rfl) (by kernel_rfl) (by kernel_rfl) (fun _ _ _ h => h) (by assumption) (Or.inr ⟨by rfl, rfl⟩) (fun _ => rfl) ?_
            try simp only [Act.put, List.setIfInBounds_toArray, List.set_cons_zero, List.set_cons_succ]
            refine ordS_take (i := 22) (oi := { dst := some 135, op := Op.move (Operand.tmp 15), type := 3, pos := _, after := #[{ on := 16, ground := Ground.guard }], guard := some (16, true) }) (v := undef) rfl (by kernel_rfl) (by kernel_rfl) (by kernel_rfl) (by kernel_rfl) (fun _ _ _ h => h) (by assumption) (Or.inr ⟨by rfl, rfl⟩) (fun _ => rfl) ?_
            try simp only [Act.put, List.setIfInBounds_toArray, List.set_cons_zero, List.set_cons_succ]
            refine ordS_take (i := 23) (oi := { dst := some 136, op := Op.indexAddr 37 (Operand.tmp 134) (Operand.tmp 135), type := 0, pos := _, after := #[{ on := 21, ground := Ground.data }, { on := 22, ground := Ground.data }, { on := 16, ground := Ground.guard }], guard := some (16, true) }) (v := undef) rfl (by kernel_rfl) (by kernel_rfl) (by kernel_rfl) (by kernel_rfl) (fun _ _ _ h => h) (by assumption) (Or.inr ⟨by rfl, rfl⟩) (fun _ => rfl) ?_
            try simp only [Act.put, List.setIfInBounds_toArray, List.set_cons_zero, List.set_cons_succ]
            refine ordS_take (i := 24) (oi := { dst := some 137, op := Op.load 28 (Operand.tmp 136), type := 28, pos := _, after := #[{ on := 23, ground := Ground.data }, { on := 16, ground := Ground.guard }], guard := some (16, true) }) (v := undef) rfl (by kernel_rfl) (by kernel_rfl) (by kernel_rfl) (by kernel_rfl) (fun _ _ _ h => h) (by assumption) (Or.inr ⟨by rfl, rfl⟩) (fun _ => rfl) ?_
            try simp only [Act.put, List.setIfInBounds_toArray, List.set_cons_zero, List.set_cons_succ]
            refine ordS_skip (i := 25) (o := { dst := some 138, op := Op.call { callee := Callee.value (Operand.func 20), args := #[Operand.tmp 130, Operand.tmp 137], argTypes := #[24, 28] }, type := 4, pos := _, after := #[{ on := 17, ground := Ground.data }, { on := 24, ground := Ground.data }, { on := 16, ground := Ground.chain }, { on := 16, ground := Ground.guard }], guard := some (16, true) }) (by kernel_rfl) rfl (by rfl) (fun _ => trivial) (by assumption) ?_
            try simp only [Act.put, List.setIfInBounds_toArray, List.set_cons_zero, List.set_cons_succ]
            refine ordS_take (i := 26) (oi := { dst := some 139, op := Op.unOp UnOp.not 4 (Operand.tmp 138), type := 4, pos := _, after := #[{ on := 25, ground := Ground.data }, { on := 16, ground := Ground.guard }], guard := some (16, true) }) (v := undef) rfl (by kernel_rfl) (by kernel_rfl) (by kernel_rfl) (by kernel_rfl) (fun _ _ _ h => h) (by assumption) (Or.inr ⟨by rfl, rfl⟩) (fun _ => rfl) ?_
            try simp only [Act.put, List.setIfInBounds_toArray, List.set_cons_zero, List.set_cons_succ]
            refine' ordS_take (i := 27) (oi := { dst := some 140, op := Op.pick (Operand.tmp 129) (Operand.tmp 139) (Operand.const (Value.bool false)), type := 4, pos := _, after := #[{ on := 16, ground := Ground.data }, { on := 26, ground := Ground.data }, { on := 14, ground := Ground.guard }], guard := some (14, false) }) (v := _) rfl (by kernel_rfl) (by kernel_rfl) (by kernel_rfl) (by kernel_rfl) (fun _ _ _ h => h) (by assumption) (Or.inl ⟨by rfl, ?hy188⟩) (fun _ => rfl) ?rest188
            case hy188 => (intro w hSw; (try dsimp only at hSw); go_simp; try with_reducible rfl)
            try simp only [Act.put, List.setIfInBounds_toArray, List.set_cons_zero, List.set_cons_succ]
            refine' ordS_take (i := 28) (oi := { dst := some 141, op := Op.pick (Operand.tmp 127) (Operand.const (Value.bool true)) (Operand.tmp 140), type := 4, pos := _, after := #[{ on := 14, ground := Ground.data }, { on := 27, ground := Ground.data }], guard := none }) (v := _) rfl (by kernel_rfl) (by kernel_rfl) (by kernel_rfl) (by kernel_rfl) (fun _ _ _ h => h) (by assumption) (Or.inl ⟨by rfl, ?hy189⟩) (fun _ => rfl) ?rest189
            case hy189 => (intro w hSw; (try dsimp only at hSw); go_simp; try with_reducible rfl)
            try simp only [Act.put, List.setIfInBounds_toArray, List.set_cons_zero, List.set_cons_succ]
            refine' ordS_take (i := 29) (oi := { dst := some 142, op := Op.move (Operand.tmp 141), type := 4, pos := _, after := #[{ on := 28, ground := Ground.data }, { on := 25, ground := Ground.chain }], guard := none }) (v := _) rfl (by kernel_rfl) (by kernel_rfl) (by kernel_rfl) (by kernel_rfl) (fun _ _ _ h => h) (by assumption) (Or.inl ⟨by rfl, ?hy190⟩) (fun _ => rfl) ?rest190
            case hy190 => (intro w hSw; (try dsimp only at hSw); go_simp; try with_reducible rfl)
            try simp only [Act.put, List.setIfInBounds_toArray, List.set_cons_zero, List.set_cons_succ]
            refine' ordS_take (i := 30) (oi := { dst := some 143, op := Op.move (Operand.tmp 14), type := 4, pos := _, after := #[{ on := 29, ground := Ground.guard }], guard := some (29, false) }) (v := _) rfl (by kernel_rfl) (by kernel_rfl) (by kernel_rfl) (by kernel_rfl) (fun _ _ _ h => h) (by assumption) (Or.inl ⟨by rfl, ?hy191⟩) (fun _ => rfl) ?rest191
            case hy191 => (intro w hSw; (try dsimp only at hSw); go_simp; try with_reducible rfl)
            try simp only [Act.put, List.setIfInBounds_toArray, List.set_cons_zero, List.set_cons_succ]
            refine' ordS_take (i := 31) (oi := { dst := some 144, op := Op.unOp UnOp.not 4 (Operand.tmp 143), type := 4, pos := _, after := #[{ on := 30, ground := Ground.data }, { on := 29, ground := Ground.guard }], guard := some (29, false) }) (v := _) rfl (by kernel_rfl) (by kernel_rfl) (by kernel_rfl) (by kernel_rfl) (fun _ _ _ h => h) (by assumption) (Or.inl ⟨by rfl, ?hy192⟩) (fun _ => rfl) ?rest192
            case hy192 => (intro w hSw; (try dsimp only at hSw); go_simp; try with_reducible rfl)
            try simp only [Act.put, List.setIfInBounds_toArray, List.set_cons_zero, List.set_cons_succ]
            refine' ordS_take (i := 32) (oi := { dst := some 145, op := Op.move (Operand.tmp 144), type := 4, pos := _, after := #[{ on := 31, ground := Ground.data }, { on := 29, ground := Ground.chain }, { on := 29, ground := Ground.guard }], guard := some (29, false) }) (v := _) rfl (by kernel_rfl) (by kernel_rfl) (by kernel_rfl) (by kernel_rfl) (fun _ _ _ h => h) (by assumption) (Or.inl ⟨by rfl, ?hy193⟩) (fun _ => rfl) ?rest193
            case hy193 => (intro w hSw; (try dsimp only at hSw); go_simp; try with_reducible rfl)
            try simp only [Act.put, List.setIfInBounds_toArray, List.set_cons_zero, List.set_cons_succ]
            refine' ordS_take (i := 33) (oi := { dst := some 146, op := Op.load 24 (Operand.tmp 13), type := 24, pos := _, after := #[{ on := 32, ground := Ground.guard }], guard := some (32, true) }) (v := _) rfl (by kernel_rfl) (by kernel_rfl) (by kernel_rfl) (by kernel_rfl) (fun _ _ _ h => h) (by assumption) (Or.inl ⟨by rfl, ?hy194⟩) (fun _ => rfl) ?rest194
            case hy194 => (intro w hSw; (try dsimp only at hSw); go_simp; try with_reducible rfl)
            try simp only [Act.put, List.setIfInBounds_toArray, List.set_cons_zero, List.set_cons_succ]
            refine' ordS_take (i := 34) (oi := { dst := some 147, op := Op.build 24 #[], type := 24, pos := _, after := #[{ on := 32, ground := Ground.guard }], guard := some (32, true) }) (v := _) rfl (by kernel_rfl) (by kernel_rfl) (by kernel_rfl) (by kernel_rfl) (fun _ _ _ h => h) (by assumption) (Or.inl ⟨by rfl, ?hy195⟩) (fun _ => rfl) ?rest195
            case hy195 => (intro w hSw; (try dsimp only at hSw); go_simp; try with_reducible rfl)
            try simp only [Act.put, List.setIfInBounds_toArray, List.set_cons_zero, List.set_cons_succ]
            refine ordS_one (i := 35) (o := { dst := some 148, op := Op.binOp BinOp.neq 24 (Operand.tmp 146) (Operand.tmp 147) 24, type := 4, pos := _, after := #[{ on := 33, ground := Ground.data }, { on := 34, ground := Ground.data }, { on := 32, ground := Ground.guard }], guard := some (32, true) }) (by kernel_rfl) rfl (by rfl) (fun K hK => ?_)
            go_simp
            refine hK _ _ hS ?_
            clear hK K
            try simp only [Act.put, List.setIfInBounds_toArray, List.set_cons_zero, List.set_cons_succ]
            refine' ordS_take (i := 36) (oi := { dst := some 149, op := Op.pick (Operand.tmp 145) (Operand.tmp 148) (Operand.const (Value.bool false)), type := 4, pos := _, after := #[{ on := 32, ground := Ground.data }, { on := 35, ground := Ground.data }, { on := 29, ground := Ground.guard }], guard := some (29, false) }) (v := _) rfl (by kernel_rfl) (by kernel_rfl) (by kernel_rfl) (by kernel_rfl) (fun _ _ _ h => h) (by assumption) (Or.inl ⟨by rfl, ?hy196⟩) (fun _ => rfl) ?rest196
            case hy196 => (intro w hSw; (try dsimp only at hSw); go_simp; try with_reducible rfl)
            try simp only [Act.put, List.setIfInBounds_toArray, List.set_cons_zero, List.set_cons_succ]
            refine' ordS_take (i := 37) (oi := { dst := some 150, op := Op.pick (Operand.tmp 142) (Operand.const (Value.bool true)) (Operand.tmp 149), type := 4, pos := _, after := #[{ on := 29, ground := Ground.data }, { on := 36, ground := Ground.data }], guard := none }) (v := _) rfl (by kernel_rfl) (by kernel_rfl) (by kernel_rfl) (by kernel_rfl) (fun _ _ _ h => h) (by assumption) (Or.inl ⟨by rfl, ?hy197⟩) (fun _ => rfl) ?rest197
            case hy197 => (intro w hSw; (try dsimp only at hSw); go_simp; try with_reducible rfl)
            try simp only [Act.put, List.setIfInBounds_toArray, List.set_cons_zero, List.set_cons_succ]
            refine ordS_done (by kernel_rfl) ?_
            clear heq
            have HSE := Lib.hid (Sep.drop (l1 := [CellsO q #[(.slice ru m2.length capu), (.slice rv m2.length capv)] 39, RowO 3 1 (.slice ru m2.length capu) m2.length (cellsI (m2.map Th.id)), RowO 28 4 (.slice rv m2.length capv) m2.length (flatK m2), HeapO p m2]) (l2 := []) (Sep.drop (l1 := [CellsO q #[(.slice ru m2.length capu), (.slice rv m2.length capv)] 39, RowO 3 1 (.slice ru m2.length capu) m2.length (cellsI (m2.map Th.id)), RowO 28 4 (.slice rv m2.length capv) m2.length (flatK m2), HeapO p m2, CellsO ab #[.int .i64 d, .int .i64 t.id, .int .u64 t.F, .int .u64 t.H, .int .i64 t.Y, .int .i64 t.X] 41]) (l2 := []) h9))
            have HAE := Lib.hid hA9
            clear h9 hA9 hS
            go_wp2
            go_roundw
            case rel => exact ⟨k + 1, m2, _, _, by omega, by go_num, hml2, HSE.out, HAE.out⟩
            case measure => simp [intOf]; omega
          · obtain rfl : is = true := by rw [← HIS.out, hf]; rfl
            obtain ⟨gv, rfl⟩ : ∃ g, rv = some ⟨g, 0, none⟩ := by
              rcases hrv with ⟨_, e, _⟩ | h
              · omega
              · exact h
            have ek : atT m2 j = kk := by rw [← HKK.out]; unfold keyA; rw [hf]; rfl
            obtain ⟨hv, _, _, _, _⟩ := Sep.row (l1 := [CellsO q #[(.slice ru m2.length capu), (.slice (some ⟨gv, 0, none⟩) m2.length capv)] 39, RowO 3 1 (.slice ru m2.length capu) m2.length (cellsI (m2.map Th.id))]) h9
            obtain ⟨e0, e1, e2, e3⟩ := flatK_at m2 j hj
            rw [ek] at e0 e1 e2 e3
            have hS : (fun w' : World => w'.cell? ⟨q, 0, none⟩ = some (.slice ru m2.length capu) ∧ w'.cell? ⟨q, 1, none⟩ = some (.slice (some ⟨gv, 0, none⟩) m2.length capv) ∧ w'.cell? ⟨kb, 0, none⟩ = some (.int .u64 kk.F) ∧ w'.cell? ⟨kb, 1, none⟩ = some (.int .u64 kk.H) ∧ w'.cell? ⟨kb, 2, none⟩ = some (.int .i64 kk.Y) ∧ w'.cell? ⟨kb, 3, none⟩ = some (.int .i64 kk.X) ∧ w'.cell? ⟨gv, j * 4, none⟩ = some (.int .u64 kk.F) ∧ w'.cell? ⟨gv, j * 4 + 1, none⟩ = some (.int .u64 kk.H) ∧ w'.cell? ⟨gv, j * 4 + 2, none⟩ = some (.int .i64 kk.Y) ∧ w'.cell? ⟨gv, j * 4 + 3, none⟩ = some (.int .i64 kk.X)) w12.drew := ⟨by simp [World.cell?, rq], by simp [World.cell?, rq], by simp [World.cell?, rk], by simp [World.cell?, rk], by simp [World.cell?, rk], by simp [World.cell?, rk], hv _ _ e0, hv _ _ e1, hv _ _ e2, hv _ _ e3⟩
            have hj0 : (0 : Int) ≤ (j : Int) := by omega
            have hjI : (j : Int) < (m2.length : Int) := by omega
            have hge0 : decide ((0 : Int) ≤ (j : Int)) = true := decide_eq_true hj0
            have hc := len_sep (l1 := [CellsO q #[(.slice ru m2.length capu), (.slice (some ⟨gv, 0, none⟩) m2.length capv)] 39, RowO 3 1 (.slice ru m2.length capu) m2.length (cellsI (m2.map Th.id)), RowO 28 4 (.slice (some ⟨gv, 0, none⟩) m2.length capv) m2.length (flatK m2)]) (l2 := [CellsO ab #[.int .i64 d, .int .i64 t.id, .int .u64 t.F, .int .u64 t.H, .int .i64 t.Y, .int .i64 t.X] 41, CellsO kb #[.int .u64 kk.F, .int .u64 kk.H, .int .i64 kk.Y, .int .i64 kk.X] 24]) h9
            have hs25 := fun w => same_any kk kk w
            have hss : sameK kk kk = true := by unfold sameK; simp
            simp only [hss] at hs25
            clear rq rk hf hrv ek hv e0 e1 e2 e3 hss
            refine (wpIn_wide (n := 11)).1 ?_
            refine ordS_begin (S := (fun w' : World => w'.cell? ⟨q, 0, none⟩ = some (.slice ru m2.length capu) ∧ w'.cell? ⟨q, 1, none⟩ = some (.slice (some ⟨gv, 0, none⟩) m2.length capv) ∧ w'.cell? ⟨kb, 0, none⟩ = some (.int .u64 kk.F) ∧ w'.cell? ⟨kb, 1, none⟩ = some (.int .u64 kk.H) ∧ w'.cell? ⟨kb, 2, none⟩ = some (.int .i64 kk.Y) ∧ w'.cell? ⟨kb, 3, none⟩ = some (.int .i64 kk.X) ∧ w'.cell? ⟨gv, j * 4, none⟩ = some (.int .u64 kk.F) ∧ w'.cell? ⟨gv, j * 4 + 1, none⟩ = some (.int .u64 kk.H) ∧ w'.cell? ⟨gv, j * 4 + 2, none⟩ = some (.int .i64 kk.Y) ∧ w'.cell? ⟨gv, j * 4 + 3, none⟩ = some (.int .i64 kk.X))) (by kernel_rfl) hS (fun _ => ?_)
            refine' ordS_take (i := 0) (oi := { dst := some 113, op := Op.move (Operand.tmp 3), type := 33, pos := _, after := #[], guard := none }) (v := _) rfl (by kernel_rfl) (by kernel_rfl) (by kernel_rfl) (by kernel_rfl) (fun _ _ _ h => h) (by assumption) (Or.inl ⟨by rfl, ?hy198⟩) (fun _ => rfl) ?rest198
            case hy198 => (intro w hSw; (try dsimp only at hSw); go_simp; try with_reducible rfl)
            try simp only [Act.put, List.setIfInBounds_toArray, List.set_cons_zero, List.set_cons_succ]
            refine' ordS_take (i := 2) (oi := { dst := some 115, op := Op.move (Operand.tmp 4), type := 35, pos := _, after := #[], guard := none }) (v := _) rfl (by kernel_rfl) (by kernel_rfl) (by kernel_rfl) (by kernel_rfl) (fun _ _ _ h => h) (by assumption) (Or.inl ⟨by rfl, ?hy199⟩) (fun _ => rfl) ?rest199
            case hy199 => (intro w hSw; (try dsimp only at hSw); go_simp; try with_reducible rfl)
            try simp only [Act.put, List.setIfInBounds_toArray, List.set_cons_zero, List.set_cons_succ]
            refine' ordS_take (i := 3) (oi := { dst := some 116, op := Op.nilCheck (Operand.tmp 115), type := 0, pos := _, after := #[{ on := 2, ground := Ground.data }], guard := none }) (v := _) rfl (by kernel_rfl) (by kernel_rfl) (by kernel_rfl) (by kernel_rfl) (fun _ _ _ h => h) (by assumption) (Or.inl ⟨by rfl, ?hy200⟩) (fun _ => rfl) ?rest200
            case hy200 => (intro w hSw; (try dsimp only at hSw); go_simp; try with_reducible rfl)
            try simp only [Act.put, List.setIfInBounds_toArray, List.set_cons_zero, List.set_cons_succ]
            refine' ordS_take (i := 4) (oi := { dst := some 117, op := Op.fieldAddr 39 (Operand.tmp 116) 0, type := 0, pos := _, after := #[{ on := 3, ground := Ground.data }], guard := none }) (v := _) rfl (by kernel_rfl) (by kernel_rfl) (by kernel_rfl) (by kernel_rfl) (fun _ _ _ h => h) (by assumption) (Or.inl ⟨by rfl, ?hy201⟩) (fun _ => rfl) ?rest201
            case hy201 => (intro w hSw; (try dsimp only at hSw); go_simp; try with_reducible rfl)
            try simp only [Act.put, List.setIfInBounds_toArray, List.set_cons_zero, List.set_cons_succ]
            refine' ordS_take (i := 5) (oi := { dst := some 118, op := Op.load 36 (Operand.tmp 117), type := 36, pos := _, after := #[{ on := 4, ground := Ground.data }], guard := none }) (v := _) rfl (by kernel_rfl) (by kernel_rfl) (by kernel_rfl) (by kernel_rfl) (fun _ _ _ h => h) (by assumption) (Or.inl ⟨by rfl, ?hy202⟩) (fun _ => rfl) ?rest202
            case hy202 => (intro w hSw; (try dsimp only at hSw); go_simp; try with_reducible rfl)
            try simp only [Act.put, List.setIfInBounds_toArray, List.set_cons_zero, List.set_cons_succ]
            refine' ordS_take (i := 6) (oi := { dst := some 119, op := Op.call { callee := Callee.builtin Builtin.len, args := #[Operand.tmp 118], argTypes := #[36] }, type := 3, pos := _, after := #[{ on := 5, ground := Ground.data }], guard := none }) (v := _) rfl (by kernel_rfl) (by kernel_rfl) (by kernel_rfl) (by kernel_rfl) (fun _ _ _ h => h) (by assumption) (Or.inl ⟨by rfl, ?hy203⟩) (fun _ => rfl) ?rest203
            case hy203 => (intro w hSw; (try dsimp only at hSw); go_simp; try with_reducible rfl)
            try simp only [Act.put, List.setIfInBounds_toArray, List.set_cons_zero, List.set_cons_succ]
            refine ordS_one (i := 1) (o := { dst := some 114, op := Op.call { callee := Callee.value (Operand.func 23), args := #[Operand.tmp 113], argTypes := #[33] }, type := 3, pos := _, after := #[{ on := 0, ground := Ground.data }], guard := none }) (by kernel_rfl) rfl (by rfl) (fun K hK => ?_)
            go_simp
            refine ⟨trivial, (callsIn_wide.2 (hc)).mono ?_⟩
            rintro e w9 ⟨rfl, rfl⟩
            clear hc
            refine hK _ _ hS ?_
            clear hK K
            try simp only [Act.put, List.setIfInBounds_toArray, List.set_cons_zero, List.set_cons_succ]
            refine' ordS_take (i := 7) (oi := { dst := some 120, op := Op.binOp BinOp.neq 3 (Operand.tmp 114) (Operand.tmp 119) 3, type := 4, pos := _, after := #[{ on := 1, ground := Ground.data }, { on := 6, ground := Ground.data }], guard := none }) (v := _) rfl (by kernel_rfl) (by kernel_rfl) (by kernel_rfl) (by kernel_rfl) (fun _ _ _ h => h) (by assumption) (Or.inl ⟨by rfl, ?hy204⟩) (fun _ => rfl) ?rest204
            case hy204 => (intro w hSw; (try dsimp only at hSw); go_simp; try with_reducible rfl)
            try simp only [Act.put, List.setIfInBounds_toArray, List.set_cons_zero, List.set_cons_succ]
            refine' ordS_take (i := 8) (oi := { dst := some 121, op := Op.move (Operand.tmp 120), type := 4, pos := _, after := #[{ on := 7, ground := Ground.data }, { on := 1, ground := Ground.chain }], guard := none }) (v := _) rfl (by kernel_rfl) (by kernel_rfl) (by kernel_rfl) (by kernel_rfl) (fun _ _ _ h => h) (by assumption) (Or.inl ⟨by rfl, ?hy205⟩) (fun _ => rfl) ?rest205
            case hy205 => (intro w hSw; (try dsimp only at hSw); go_simp; try with_reducible rfl)
            try simp only [Act.put, List.setIfInBounds_toArray, List.set_cons_zero, List.set_cons_succ]
            refine' ordS_take (i := 9) (oi := { dst := some 122, op := Op.move (Operand.tmp 14), type := 4, pos := _, after := #[{ on := 8, ground := Ground.guard }], guard := some (8, false) }) (v := _) rfl (by kernel_rfl) (by kernel_rfl) (by kernel_rfl) (by kernel_rfl) (fun _ _ _ h => h) (by assumption) (Or.inl ⟨by rfl, ?hy206⟩) (fun _ => rfl) ?rest206
            case hy206 => (intro w hSw; (try dsimp only at hSw); go_simp; try with_reducible rfl)
            try simp only [Act.put, List.setIfInBounds_toArray, List.set_cons_zero, List.set_cons_succ]
            refine' ordS_take (i := 10) (oi := { dst := some 123, op := Op.move (Operand.tmp 15), type := 3, pos := _, after := #[{ on := 8, ground := Ground.guard }], guard := some (8, false) }) (v := _) rfl (by kernel_rfl) (by kernel_rfl) (by kernel_rfl) (by kernel_rfl) (fun _ _ _ h => h) (by assumption) (Or.inl ⟨by rfl, ?hy207⟩) (fun _ => rfl) ?rest207
            case hy207 => (intro w hSw; (try dsimp only at hSw); go_simp; try with_reducible rfl)
            try simp only [Act.put, List.setIfInBounds_toArray, List.set_cons_zero, List.set_cons_succ]
            refine' ordS_take (i := 11) (oi := { dst := some 124, op := Op.binOp BinOp.geq 3 (Operand.tmp 123) (Operand.const (Value.int IntKind.i64 0)) 3, type := 4, pos := _, after := #[{ on := 10, ground := Ground.data }, { on := 8, ground := Ground.guard }], guard := some (8, false) }) (v := _) rfl (by kernel_rfl) (by kernel_rfl) (by kernel_rfl) (by kernel_rfl) (fun _ _ _ h => h) (by assumption) (Or.inl ⟨by rfl, ?hy208⟩) (fun _ => rfl) ?rest208
            case hy208 => (intro w hSw; (try dsimp only at hSw); go_simp; try with_reducible rfl)
            try simp only [Act.put, List.setIfInBounds_toArray, List.set_cons_zero, List.set_cons_succ]
            refine' ordS_take (i := 12) (oi := { dst := some 125, op := Op.binOp BinOp.neq 4 (Operand.tmp 122) (Operand.tmp 124) 4, type := 4, pos := _, after := #[{ on := 9, ground := Ground.data }, { on := 11, ground := Ground.data }, { on := 8, ground := Ground.guard }], guard := some (8, false) }) (v := _) rfl (by kernel_rfl) (by kernel_rfl) (by kernel_rfl) (by kernel_rfl) (fun _ _ _ h => h) (by assumption) (Or.inl ⟨by rfl, ?hy209⟩) (fun _ => rfl) ?rest209
            case hy209 => (intro w hSw; (try dsimp only at hSw); go_simp; try with_reducible rfl)
            try simp only [Act.put, List.setIfInBounds_toArray, List.set_cons_zero, List.set_cons_succ]
            refine' ordS_take (i := 13) (oi := { dst := some 126, op := Op.pick (Operand.tmp 121) (Operand.const (Value.bool true)) (Operand.tmp 125), type := 4, pos := _, after := #[{ on := 8, ground := Ground.data }, { on := 12, ground := Ground.data }], guard := none }) (v := _) rfl (by kernel_rfl) (by kernel_rfl) (by kernel_rfl) (by kernel_rfl) (fun _ _ _ h => h) (by assumption) (Or.inl ⟨by rfl, ?hy210⟩) (fun _ => rfl) ?rest210
            case hy210 => (intro w hSw; (try dsimp only at hSw); go_simp; try with_reducible rfl)
            try simp only [Act.put, List.setIfInBounds_toArray, List.set_cons_zero, List.set_cons_succ]
            refine' ordS_take (i := 14) (oi := { dst := some 127, op := Op.move (Operand.tmp 126), type := 4, pos := _, after := #[{ on := 13, ground := Ground.data }, { on := 8, ground := Ground.chain }], guard := none }) (v := _) rfl (by kernel_rfl) (by kernel_rfl) (by kernel_rfl) (by kernel_rfl) (fun _ _ _ h => h) (by assumption) (Or.inl ⟨by rfl, ?hy211⟩) (fun _ => rfl) ?rest211
            case hy211 => (intro w hSw; (try dsimp only at hSw); go_simp; try with_reducible rfl)
            try simp only [Act.put, List.setIfInBounds_toArray, List.set_cons_zero, List.set_cons_succ]
            refine' ordS_take (i := 15) (oi := { dst := some 128, op := Op.move (Operand.tmp 14), type := 4, pos := _, after := #[{ on := 14, ground := Ground.guard }], guard := some (14, false) }) (v := _) rfl (by kernel_rfl) (by kernel_rfl) (by kernel_rfl) (by kernel_rfl) (fun _ _ _ h => h) (by assumption) (Or.inl ⟨by rfl, ?hy212⟩) (fun _ => rfl) ?rest212
            case hy212 => (intro w hSw; (try dsimp only at hSw); go_simp; try with_reducible rfl)
            try simp only [Act.put, List.setIfInBounds_toArray, List.set_cons_zero, List.set_cons_succ]
            refine' ordS_take (i := 16) (oi := { dst := some 129, op := Op.move (Operand.tmp 128), type := 4, pos := _, after := #[{ on := 15, ground := Ground.data }, { on := 14, ground := Ground.chain }, { on := 14, ground := Ground.guard }], guard := some (14, false) }) (v := _) rfl (by kernel_rfl) (by kernel_rfl) (by kernel_rfl) (by kernel_rfl) (fun _ _ _ h => h) (by assumption) (Or.inl ⟨by rfl, ?hy213⟩) (fun _ => rfl) ?rest213
            case hy213 => (intro w hSw; (try dsimp only at hSw); go_simp; try with_reducible rfl)
            try simp only [Act.put, List.setIfInBounds_toArray, List.set_cons_zero, List.set_cons_succ]
            refine' ordS_take (i := 17) (oi := { dst := some 130, op := Op.load 24 (Operand.tmp 13), type := 24, pos := _, after := #[{ on := 16, ground := Ground.guard }], guard := some (16, true) }) (v := _) rfl (by kernel_rfl) (by kernel_rfl) (by kernel_rfl) (by kernel_rfl) (fun _ _ _ h => h) (by assumption) (Or.inl ⟨by rfl, ?hy214⟩) (fun _ => rfl) ?rest214
            case hy214 => (intro w hSw; (try dsimp only at hSw); go_simp; try with_reducible rfl)
            try simp only [Act.put, List.setIfInBounds_toArray, List.set_cons_zero, List.set_cons_succ]
            refine' ordS_take (i := 18) (oi := { dst := some 131, op := Op.move (Operand.tmp 4), type := 35, pos := _, after := #[{ on := 16, ground := Ground.guard }], guard := some (16, true) }) (v := _) rfl (by kernel_rfl) (by kernel_rfl) (by kernel_rfl) (by kernel_rfl) (fun _ _ _ h => h) (by assumption) (Or.inl ⟨by rfl, ?hy215⟩) (fun _ => rfl) ?rest215
            case hy215 => (intro w hSw; (try dsimp only at hSw); go_simp; try with_reducible rfl)
            try simp only [Act.put, List.setIfInBounds_toArray, List.set_cons_zero, List.set_cons_succ]
            refine' ordS_take (i := 19) (oi := { dst := some 132, op := Op.nilCheck (Operand.tmp 131), type := 0, pos := _, after := #[{ on := 18, ground := Ground.data }, { on := 16, ground := Ground.guard }], guard := some (16, true) }) (v := _) rfl (by kernel_rfl) (by kernel_rfl) (by kernel_rfl) (by kernel_rfl) (fun _ _ _ h => h) (by assumption) (Or.inl ⟨by rfl, ?hy216⟩) (fun _ => rfl) ?rest216
            case hy216 => (intro w hSw; (try dsimp only at hSw); go_simp; try with_reducible rfl)
            try simp only [Act.put, List.setIfInBounds_toArray, List.set_cons_zero, List.set_cons_succ]
            refine' ordS_take (i := 20) (oi := { dst := some 133, op := Op.fieldAddr 39 (Operand.tmp 132) 1, type := 0, pos := _, after := #[{ on := 19, ground := Ground.data }, { on := 16, ground := Ground.guard }], guard := some (16, true) }) (v := _) rfl (by kernel_rfl) (by kernel_rfl) (by kernel_rfl) (by kernel_rfl) (fun _ _ _ h => h) (by assumption) (Or.inl ⟨by rfl, ?hy217⟩) (fun _ => rfl) ?rest217
            case hy217 => (intro w hSw; (try dsimp only at hSw); go_simp; try with_reducible rfl)
            try simp only [Act.put, List.setIfInBounds_toArray, List.set_cons_zero, List.set_cons_succ]
            refine' ordS_take (i := 21) (oi := { dst := some 134, op := Op.load 37 (Operand.tmp 133), type := 37, pos := _, after := #[{ on := 20, ground := Ground.data }, { on := 16, ground := Ground.guard }], guard := some (16, true) }) (v := _) rfl (by kernel_rfl) (by kernel_rfl) (by kernel_rfl) (by kernel_rfl) (fun _ _ _ h => h) (by assumption) (Or.inl ⟨by rfl, ?hy218⟩) (fun _ => rfl) ?rest218
            case hy218 => (intro w hSw; (try dsimp only at hSw); go_simp; try with_reducible rfl)
            try simp only [Act.put, List.setIfInBounds_toArray, List.set_cons_zero, List.set_cons_succ]
            refine' ordS_take (i := 22) (oi := { dst := some 135, op := Op.move (Operand.tmp 15), type := 3, pos := _, after := #[{ on := 16, ground := Ground.guard }], guard := some (16, true) }) (v := _) rfl (by kernel_rfl) (by kernel_rfl) (by kernel_rfl) (by kernel_rfl) (fun _ _ _ h => h) (by assumption) (Or.inl ⟨by rfl, ?hy219⟩) (fun _ => rfl) ?rest219
            case hy219 => (intro w hSw; (try dsimp only at hSw); go_simp; try with_reducible rfl)
            try simp only [Act.put, List.setIfInBounds_toArray, List.set_cons_zero, List.set_cons_succ]
            refine' ordS_take (i := 23) (oi := { dst := some 136, op := Op.indexAddr 37 (Operand.tmp 134) (Operand.tmp 135), type := 0, pos := _, after := #[{ on := 21, ground := Ground.data }, { on := 22, ground := Ground.data }, { on := 16, ground := Ground.guard }], guard := some (16, true) }) (v := _) rfl (by kernel_rfl) (by kernel_rfl) (by kernel_rfl) (by kernel_rfl) (fun _ _ _ h => h) (by assumption) (Or.inl ⟨by rfl, ?hy220⟩) (fun _ => rfl) ?rest220
            case hy220 => (intro w hSw; (try dsimp only at hSw); go_simp; try with_reducible rfl)
            try simp only [Act.put, List.setIfInBounds_toArray, List.set_cons_zero, List.set_cons_succ]
            refine' ordS_take (i := 24) (oi := { dst := some 137, op := Op.load 28 (Operand.tmp 136), type := 28, pos := _, after := #[{ on := 23, ground := Ground.data }, { on := 16, ground := Ground.guard }], guard := some (16, true) }) (v := _) rfl (by kernel_rfl) (by kernel_rfl) (by kernel_rfl) (by kernel_rfl) (fun _ _ _ h => h) (by assumption) (Or.inl ⟨by rfl, ?hy221⟩) (fun _ => rfl) ?rest221
            case hy221 => (intro w hSw; (try dsimp only at hSw); go_simp; try with_reducible rfl)
            try simp only [Act.put, List.setIfInBounds_toArray, List.set_cons_zero, List.set_cons_succ]
            refine ordS_one (i := 25) (o := { dst := some 138, op := Op.call { callee := Callee.value (Operand.func 20), args := #[Operand.tmp 130, Operand.tmp 137], argTypes := #[24, 28] }, type := 4, pos := _, after := #[{ on := 17, ground := Ground.data }, { on := 24, ground := Ground.data }, { on := 16, ground := Ground.chain }, { on := 16, ground := Ground.guard }], guard := some (16, true) }) (by kernel_rfl) rfl (by rfl) (fun K hK => ?_)
            go_simp
            refine ⟨trivial, (callsIn_wide.2 (hs25 _)).mono ?_⟩
            rintro e w9 ⟨rfl, hb⟩
            replace h9 := h9.below hb
            replace hA9 := bl_tr hA9 hb
            replace hS : (fun w' : World => w'.cell? ⟨q, 0, none⟩ = some (.slice ru m2.length capu) ∧ w'.cell? ⟨q, 1, none⟩ = some (.slice (some ⟨gv, 0, none⟩) m2.length capv) ∧ w'.cell? ⟨kb, 0, none⟩ = some (.int .u64 kk.F) ∧ w'.cell? ⟨kb, 1, none⟩ = some (.int .u64 kk.H) ∧ w'.cell? ⟨kb, 2, none⟩ = some (.int .i64 kk.Y) ∧ w'.cell? ⟨kb, 3, none⟩ = some (.int .i64 kk.X) ∧ w'.cell? ⟨gv, j * 4, none⟩ = some (.int .u64 kk.F) ∧ w'.cell? ⟨gv, j * 4 + 1, none⟩ = some (.int .u64 kk.H) ∧ w'.cell? ⟨gv, j * 4 + 2, none⟩ = some (.int .i64 kk.Y) ∧ w'.cell? ⟨gv, j * 4 + 3, none⟩ = some (.int .i64 kk.X)) w9 := by
              obtain ⟨g0, g1, g2, g3, g4, g5, g6, g7, g8, g9⟩ := hS
              exact ⟨cell_later hb g0, cell_later hb g1, cell_later hb g2, cell_later hb g3, cell_later hb g4, cell_later hb g5, cell_later hb g6, cell_later hb g7, cell_later hb g8, cell_later hb g9⟩
            clear hb
            refine hK _ _ hS ?_
            clear hK K
            try simp only [Act.put, List.setIfInBounds_toArray, List.set_cons_zero, List.set_cons_succ]
            refine' ordS_take (i := 26) (oi := { dst := some 139, op := Op.unOp UnOp.not 4 (Operand.tmp 138), type := 4, pos := _, after := #[{ on := 25, ground := Ground.data }, { on := 16, ground := Ground.guard }], guard := some (16, true) }) (v := _) rfl (by kernel_rfl) (by kernel_rfl) (by kernel_rfl) (by kernel_rfl) (fun _ _ _ h => h) (by assumption) (Or.inl ⟨by rfl, ?hy222⟩) (fun _ => rfl) ?rest222
            case hy222 => (intro w hSw; (try dsimp only at hSw); go_simp; try with_reducible rfl)
            try simp only [Act.put, List.setIfInBounds_toArray, List.set_cons_zero, List.set_cons_succ]
            refine' ordS_take (i := 27) (oi := { dst := some 140, op := Op.pick (Operand.tmp 129) (Operand.tmp 139) (Operand.const (Value.bool false)), type := 4, pos := _, after := #[{ on := 16, ground := Ground.data }, { on := 26, ground := Ground.data }, { on := 14, ground := Ground.guard }], guard := some (14, false) }) (v := _) rfl (by kernel_rfl) (by kernel_rfl) (by kernel_rfl) (by kernel_rfl) (fun _ _ _ h => h) (by assumption) (Or.inl ⟨by rfl, ?hy223⟩) (fun _ => rfl) ?rest223
            case hy223 => (intro w hSw; (try dsimp only at hSw); go_simp; try with_reducible rfl)
            try simp only [Act.put, List.setIfInBounds_toArray, List.set_cons_zero, List.set_cons_succ]
            refine' ordS_take (i := 28) (oi := { dst := some 141, op := Op.pick (Operand.tmp 127) (Operand.const (Value.bool true)) (Operand.tmp 140), type := 4, pos := _, after := #[{ on := 14, ground := Ground.data }, { on := 27, ground := Ground.data }], guard := none }) (v := _) rfl (by kernel_rfl) (by kernel_rfl) (by kernel_rfl) (by kernel_rfl) (fun _ _ _ h => h) (by assumption) (Or.inl ⟨by rfl, ?hy224⟩) (fun _ => rfl) ?rest224
            case hy224 => (intro w hSw; (try dsimp only at hSw); go_simp; try with_reducible rfl)
            try simp only [Act.put, List.setIfInBounds_toArray, List.set_cons_zero, List.set_cons_succ]
            refine' ordS_take (i := 29) (oi := { dst := some 142, op := Op.move (Operand.tmp 141), type := 4, pos := _, after := #[{ on := 28, ground := Ground.data }, { on := 25, ground := Ground.chain }], guard := none }) (v := _) rfl (by kernel_rfl) (by kernel_rfl) (by kernel_rfl) (by kernel_rfl) (fun _ _ _ h => h) (by assumption) (Or.inl ⟨by rfl, ?hy225⟩) (fun _ => rfl) ?rest225
            case hy225 => (intro w hSw; (try dsimp only at hSw); go_simp; try with_reducible rfl)
            try simp only [Act.put, List.setIfInBounds_toArray, List.set_cons_zero, List.set_cons_succ]
            refine' ordS_take (i := 30) (oi := { dst := some 143, op := Op.move (Operand.tmp 14), type := 4, pos := _, after := #[{ on := 29, ground := Ground.guard }], guard := some (29, false) }) (v := _) rfl (by kernel_rfl) (by kernel_rfl) (by kernel_rfl) (by kernel_rfl) (fun _ _ _ h => h) (by assumption) (Or.inl ⟨by rfl, ?hy226⟩) (fun _ => rfl) ?rest226
            case hy226 => (intro w hSw; (try dsimp only at hSw); go_simp; try with_reducible rfl)
            try simp only [Act.put, List.setIfInBounds_toArray, List.set_cons_zero, List.set_cons_succ]
            refine' ordS_take (i := 31) (oi := { dst := some 144, op := Op.unOp UnOp.not 4 (Operand.tmp 143), type := 4, pos := _, after := #[{ on := 30, ground := Ground.data }, { on := 29, ground := Ground.guard }], guard := some (29, false) }) (v := _) rfl (by kernel_rfl) (by kernel_rfl) (by kernel_rfl) (by kernel_rfl) (fun _ _ _ h => h) (by assumption) (Or.inl ⟨by rfl, ?hy227⟩) (fun _ => rfl) ?rest227
            case hy227 => (intro w hSw; (try dsimp only at hSw); go_simp; try with_reducible rfl)
            try simp only [Act.put, List.setIfInBounds_toArray, List.set_cons_zero, List.set_cons_succ]
            refine' ordS_take (i := 32) (oi := { dst := some 145, op := Op.move (Operand.tmp 144), type := 4, pos := _, after := #[{ on := 31, ground := Ground.data }, { on := 29, ground := Ground.chain }, { on := 29, ground := Ground.guard }], guard := some (29, false) }) (v := _) rfl (by kernel_rfl) (by kernel_rfl) (by kernel_rfl) (by kernel_rfl) (fun _ _ _ h => h) (by assumption) (Or.inl ⟨by rfl, ?hy228⟩) (fun _ => rfl) ?rest228
            case hy228 => (intro w hSw; (try dsimp only at hSw); go_simp; try with_reducible rfl)
            try simp only [Act.put, List.setIfInBounds_toArray, List.set_cons_zero, List.set_cons_succ]
            refine ordS_take (i := 33) (oi := { dst := some 146, op := Op.load 24 (Operand.tmp 13), type := 24, pos := _, after := #[{ on := 32, ground := Ground.guard }], guard := some (32, true) }) (v := undef) rfl (by kernel_rfl) (by kernel_rfl) (by kernel_rfl) (by kernel_rfl) (fun _ _ _ h => h) (by assumption) (Or.inr ⟨by rfl, rfl⟩) (fun _ => rfl) ?_
            try simp only [Act.put, List.setIfInBounds_toArray, List.set_cons_zero, List.set_cons_succ]
            refine ordS_take (i := 34) (oi := { dst := some 147, op := Op.build 24 #[], type := 24, pos := _, after := #[{ on := 32, ground := Ground.guard }], guard := some (32, true) }) (v := undef) rfl (by kernel_rfl) (by kernel_rfl) (by kernel_rfl) (by kernel_rfl) (fun _ _ _ h => h) (by assumption) (Or.inr ⟨by rfl, rfl⟩) (fun _ => rfl) ?_
            try simp only [Act.put, List.setIfInBounds_toArray, List.set_cons_zero, List.set_cons_succ]
            refine ordS_take (i := 35) (oi := { dst := some 148, op := Op.binOp BinOp.neq 24 (Operand.tmp 146) (Operand.tmp 147) 24, type := 4, pos := _, after := #[{ on := 33, ground := Ground.data }, { on := 34, ground := Ground.data }, { on := 32, ground := Ground.guard }], guard := some (32, true) }) (v := undef) rfl (by kernel_rfl) (by kernel_rfl) (by kernel_rfl) (by kernel_rfl) (fun _ _ _ h => h) (by assumption) (Or.inr ⟨by rfl, rfl⟩) (fun _ => rfl) ?_
            try simp only [Act.put, List.setIfInBounds_toArray, List.set_cons_zero, List.set_cons_succ]
            refine' ordS_take (i := 36) (oi := { dst := some 149, op := Op.pick (Operand.tmp 145) (Operand.tmp 148) (Operand.const (Value.bool false)), type := 4, pos := _, after := #[{ on := 32, ground := Ground.data }, { on := 35, ground := Ground.data }, { on := 29, ground := Ground.guard }], guard := some (29, false) }) (v := _) rfl (by kernel_rfl) (by kernel_rfl) (by kernel_rfl) (by kernel_rfl) (fun _ _ _ h => h) (by assumption) (Or.inl ⟨by rfl, ?hy232⟩) (fun _ => rfl) ?rest232
            case hy232 => (intro w hSw; (try dsimp only at hSw); go_simp; try with_reducible rfl)
            try simp only [Act.put, List.setIfInBounds_toArray, List.set_cons_zero, List.set_cons_succ]
            refine' ordS_take (i := 37) (oi := { dst := some 150, op := Op.pick (Operand.tmp 142) (Operand.const (Value.bool true)) (Operand.tmp 149), type := 4, pos := _, after := #[{ on := 29, ground := Ground.data }, { on := 36, ground := Ground.data }], guard := none }) (v := _) rfl (by kernel_rfl) (by kernel_rfl) (by kernel_rfl) (by kernel_rfl) (fun _ _ _ h => h) (by assumption) (Or.inl ⟨by rfl, ?hy233⟩) (fun _ => rfl) ?rest233
            case hy233 => (intro w hSw; (try dsimp only at hSw); go_simp; try with_reducible rfl)
            try simp only [Act.put, List.setIfInBounds_toArray, List.set_cons_zero, List.set_cons_succ]
            refine ordS_done (by kernel_rfl) ?_
            have HSE := Lib.hid (Sep.drop (l1 := [CellsO q #[(.slice ru m2.length capu), (.slice (some ⟨gv, 0, none⟩) m2.length capv)] 39, RowO 3 1 (.slice ru m2.length capu) m2.length (cellsI (m2.map Th.id)), RowO 28 4 (.slice (some ⟨gv, 0, none⟩) m2.length capv) m2.length (flatK m2), HeapO p m2]) (l2 := []) (Sep.drop (l1 := [CellsO q #[(.slice ru m2.length capu), (.slice (some ⟨gv, 0, none⟩) m2.length capv)] 39, RowO 3 1 (.slice ru m2.length capu) m2.length (cellsI (m2.map Th.id)), RowO 28 4 (.slice (some ⟨gv, 0, none⟩) m2.length capv) m2.length (flatK m2), HeapO p m2, CellsO ab #[.int .i64 d, .int .i64 t.id, .int .u64 t.F, .int .u64 t.H, .int .i64 t.Y, .int .i64 t.X] 41]) (l2 := []) h9))
            have HAE := Lib.hid hA9
            clear h9 hA9 hS
            go_wp2
            go_roundw
            case rel => exact ⟨k + 1, m2, _, _, by omega, by go_num, hml2, HSE.out, HAE.out⟩
            case measure => simp [intOf]; omega
    · have hge : (ls.length : Int) ≤ (k : Int) := by omega
      clear hlt
      have hdec : decide ((k : Int) < (ls.length : Int)) = false := decide_eq_false (by omega)
      have hdecN : decide (k < ls.length) = false := decide_eq_false (by omega)
      have hm150 : m.length ≤ 150 := by omega
      clear hml
      go_wp2
      go_loopw [] (fun wr => ∃ (m : List Th) (u v : Value), m.length ≤ 150 ∧ Sep wr w.heap.size [CellsO q #[u, v] 39, RowO 3 1 u m.length (cellsI (m.map Th.id)), RowO 28 4 v m.length (flatK m), HeapO p m] ∧ Below w.heap.size w wr) (fun wr => lenAt wr q)
      case atStart => exact ⟨m, u, v, hm150, hS0, hAr⟩
      case round =>
        clear hm150 hS0 hAr
        obtain ⟨m, u, v, hm150, hS0, hAr⟩ := hrel
        obtain ⟨ru, capu, rfl, _⟩ := Sep.shape (l1 := [CellsO q #[u, v] 39]) hS0
        obtain ⟨rc, _⟩ := Sep.cells (l1 := []) hS0
        have c0 : wr.cell? ⟨q, 0, none⟩ = some (.slice ru m.length capu) := by simp [World.cell?, rc]
        have HLEN : Hid (lenAt wr q = m.length) := Lib.hid (by unfold lenAt; rw [c0])
        clear rc
        by_cases hm0 : 0 < m.length
        · have hm0I : (0 : Int) < (m.length : Int) := by omega
          have HNE : Hid (m.isEmpty = false) := Lib.hid (by cases m with | nil => simp at hm0 | cons => rfl)
          have HLT := Lib.hid (pop_perm (sep_nodup (l1 := [CellsO q #[(.slice ru m.length capu), v] 39, RowO 3 1 (.slice ru m.length capu) m.length (cellsI (m.map Th.id)), RowO 28 4 v m.length (flatK m)]) (l2 := []) hS0) (by rintro rfl; simp at hm0)).length_eq
          have hnd := sep_nodup (l1 := [CellsO q #[(.slice ru m.length capu), v] 39, RowO 3 1 (.slice ru m.length capu) m.length (cellsI (m.map Th.id)), RowO 28 4 v m.length (flatK m)]) (l2 := []) hS0
          have hc := pop_sep (l1 := [CellsO q #[(.slice ru m.length capu), v] 39, RowO 3 1 (.slice ru m.length capu) m.length (cellsI (m.map Th.id)), RowO 28 4 v m.length (flatK m)]) (l2 := []) hS0 (by omega)
          obtain ⟨f, hf⟩ : ∃ f, firstT m = f := ⟨_, rfl⟩
          obtain ⟨em, hem⟩ : ∃ em, m.isEmpty = em := ⟨_, rfl⟩
          rw [hf, hem] at hc
          have HFF := Lib.hid hf
          have HEM := Lib.hid hem
          clear hf hem
          go_wp2_with fail
          refine hc.mono ?_
          rintro e w4 ⟨rfl, h4, hb⟩
          obtain ⟨x1, hx1⟩ : ∃ x1, w4.heap.size = x1 := ⟨_, rfl⟩
          replace h4 := h4.box #[.int .u64 f.F, .int .u64 f.H, .int .i64 f.Y, .int .i64 f.X] 24
          rw [hx1] at h4
          have hA4 := bl_al (hAr.trans hb) (.cells #[.int .u64 f.F, .int .u64 f.H, .int .i64 f.Y, .int .i64 f.X] 24)
          clear hc hb hS0 hAr
          replace h4 : Sep (w4.alloc (.cells #[.int .u64 f.F, .int .u64 f.H, .int .i64 f.Y, .int .i64 f.X] 24)) w.heap.size [CellsO q #[(.slice ru m.length capu), v] 39, RowO 3 1 (.slice ru m.length capu) m.length (cellsI (m.map Th.id)), RowO 28 4 v m.length (flatK m), HeapO p (popM m), CellsO x1 #[.int .u64 f.F, .int .u64 f.H, .int .i64 f.Y, .int .i64 f.X] 24] := h4
          have hc := pop_ref (l := [HeapO p (popM m), CellsO x1 #[.int .u64 f.F, .int .u64 f.H, .int .i64 f.Y, .int .i64 f.X] 24]) h4 (by omega) hnd
          rw [HFF.out, HEM.out] at hc
          go_wp2_with fail
          refine hc.mono ?_
          rintro e w5 ⟨rfl, ⟨u2, v2, h5⟩, hb⟩
          obtain ⟨x2, hx2⟩ : ∃ x2, w5.heap.size = x2 := ⟨_, rfl⟩
          replace h5 := h5.box #[.int .u64 f.F, .int .u64 f.H, .int .i64 f.Y, .int .i64 f.X] 28
          rw [hx2] at h5
          have hA5 := bl_al (hA4.trans hb) (.cells #[.int .u64 f.F, .int .u64 f.H, .int .i64 f.Y, .int .i64 f.X] 28)
          clear hc hb h4 hA4
          have hml2 : (popM m).length ≤ m.length := popM_len m
          replace h5 : Sep (w5.alloc (.cells #[.int .u64 f.F, .int .u64 f.H, .int .i64 f.Y, .int .i64 f.X] 28)) w.heap.size [CellsO q #[u2, v2] 39, RowO 3 1 u2 (popM m).length (cellsI ((popM m).map Th.id)), RowO 28 4 v2 (popM m).length (flatK (popM m)), HeapO p (popM m), CellsO x1 #[.int .u64 f.F, .int .u64 f.H, .int .i64 f.Y, .int .i64 f.X] 24, CellsO x2 #[.int .u64 f.F, .int .u64 f.H, .int .i64 f.Y, .int .i64 f.X] 28] := h5
          go_upto_region 27 with fail
          generalize hw6 : w5.alloc (.cells #[.int .u64 f.F, .int .u64 f.H, .int .i64 f.Y, .int .i64 f.X] 28) = w6 at *
          clear hw6 hx1 hx2
          obtain ⟨r1, _⟩ := Sep.cells (l1 := [CellsO q #[u2, v2] 39, RowO 3 1 u2 (popM m).length (cellsI ((popM m).map Th.id)), RowO 28 4 v2 (popM m).length (flatK (popM m)), HeapO p (popM m)]) (l2 := [CellsO x2 #[.int .u64 f.F, .int .u64 f.H, .int .i64 f.Y, .int .i64 f.X] 28]) h5
          obtain ⟨r2, _⟩ := Sep.cells (l1 := [CellsO q #[u2, v2] 39, RowO 3 1 u2 (popM m).length (cellsI ((popM m).map Th.id)), RowO 28 4 v2 (popM m).length (flatK (popM m)), HeapO p (popM m), CellsO x1 #[.int .u64 f.F, .int .u64 f.H, .int .i64 f.Y, .int .i64 f.X] 24]) (l2 := []) h5
          have y0 : w6.cell? ⟨x1, 0, none⟩ = some (.int .u64 f.F) := by simp [World.cell?, r1]
          have y1 : w6.cell? ⟨x1, 1, none⟩ = some (.int .u64 f.H) := by simp [World.cell?, r1]
          have y2 : w6.cell? ⟨x1, 2, none⟩ = some (.int .i64 f.Y) := by simp [World.cell?, r1]
          have y3 : w6.cell? ⟨x1, 3, none⟩ = some (.int .i64 f.X) := by simp [World.cell?, r1]
          have z0 : w6.cell? ⟨x2, 0, none⟩ = some (.int .u64 f.F) := by simp [World.cell?, r2]
          have z1 : w6.cell? ⟨x2, 1, none⟩ = some (.int .u64 f.H) := by simp [World.cell?, r2]
          have z2 : w6.cell? ⟨x2, 2, none⟩ = some (.int .i64 f.Y) := by simp [World.cell?, r2]
          have z3 : w6.cell? ⟨x2, 3, none⟩ = some (.int .i64 f.X) := by simp [World.cell?, r2]
          have hss : sameK f f = true := by unfold sameK; simp
          have hc := same_any f f w6
          rw [hss] at hc
          have h6 := Sep.drop (l1 := [CellsO q #[u2, v2] 39, RowO 3 1 u2 (popM m).length (cellsI ((popM m).map Th.id)), RowO 28 4 v2 (popM m).length (flatK (popM m)), HeapO p (popM m)]) (l2 := []) (Sep.drop (l1 := [CellsO q #[u2, v2] 39, RowO 3 1 u2 (popM m).length (cellsI ((popM m).map Th.id)), RowO 28 4 v2 (popM m).length (flatK (popM m)), HeapO p (popM m), CellsO x1 #[.int .u64 f.F, .int .u64 f.H, .int .i64 f.Y, .int .i64 f.X] 24]) (l2 := []) h5)
          clear r1 r2 h5 hss
          go_wp2_with fail
          refine hc.mono ?_
          rintro e w7 ⟨rfl, hb⟩
          replace h6 := h6.below hb
          have hA6 := bl_tr hA5 hb
          clear hc hb hA5 y0 y1 y2 y3 z0 z1 z2 z3 hnd
          obtain rfl : em = false := HEM.out.symm.trans HNE.out
          have HLE2 : Hid (lenAt w7 q = (popM m).length) := Lib.hid (by
            obtain ⟨ru2, capu2, rfl, _⟩ := Sep.shape (l1 := [CellsO q #[u2, v2] 39]) h6
            obtain ⟨rc2, _⟩ := Sep.cells (l1 := []) h6
            unfold lenAt
            rw [show w7.cell? ⟨q, 0, none⟩ = some (.slice ru2 (popM m).length capu2) by simp [World.cell?, rc2]])
          have H6 := Lib.hid h6
          have HA6 := Lib.hid hA6
          have hml3 : (popM m).length ≤ 150 := by omega
          clear h6 hA6
          go_wp2
          go_roundw
          case rel => exact ⟨popM m, u2, v2, hml3, H6.out, HA6.out⟩
          case measure =>
            rw [HLE2.out, HLEN.out]
            have h := HLT.out
            simp only [List.length_cons] at h
            omega
        · obtain rfl : m = [] := List.eq_nil_of_length_eq_zero (by omega)
          have hc := pop_sep (l1 := [CellsO q #[(.slice ru ([] : List Th).length capu), v] 39, RowO 3 1 (.slice ru ([] : List Th).length capu) ([] : List Th).length (cellsI (([] : List Th).map Th.id)), RowO 28 4 v ([] : List Th).length (flatK ([] : List Th))]) (l2 := []) hS0 (by simp)
          rw [show firstT [] = ⟨0, 0, 0, 0, 0⟩ from rfl, show popM [] = [] from rfl, show (!([] : List Th).isEmpty) = false from rfl] at hc
          dsimp only at hc
          have c0' : wr.cell? ⟨q, 0, none⟩ = some (.slice ru 0 capu) := c0
          clear hm0 HLEN c0
          go_wp2_with fail
          refine hc.mono ?_
          rintro e w4 ⟨rfl, h4, hb⟩
          have h5 := h4.below (bl_al (bl0 w4) (.cells #[.int .u64 0, .int .u64 0, .int .i64 0, .int .i64 0] 24))
          have hA := bl_al (hAr.trans hb) (.cells #[.int .u64 0, .int .u64 0, .int .i64 0, .int .i64 0] 24)
          have hc2 := len_sep (l1 := [CellsO q #[(.slice ru ([] : List Th).length capu), v] 39, RowO 3 1 (.slice ru ([] : List Th).length capu) ([] : List Th).length (cellsI (([] : List Th).map Th.id)), RowO 28 4 v ([] : List Th).length (flatK ([] : List Th))]) (l2 := []) h5
          rw [show (([] : List Th).length : Int) = 0 from rfl] at hc2
          clear hc hb h4 hS0 hAr
          go_wp2_with fail
          refine hc2.mono ?_
          rintro e w5 ⟨rfl, rfl⟩
          clear hc2 h5
          go_wp2_with fail
          refine (hawake _).mono ?_
          rintro e w9 ⟨rfl, hb⟩
          have HA := Lib.hid (bl_tr hA hb)
          clear hA hb
          go_wp2
          go_ret
          exact ⟨rfl, HA.out⟩
end Go.Proofs.Ytgcncimeedoplaa
