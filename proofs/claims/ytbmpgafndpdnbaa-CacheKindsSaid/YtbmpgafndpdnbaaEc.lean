/- Cache: equal, the place of a key. -/
import Derived.Test.YtbmpgafndpdnbaaEb
import Derived.Test.YtbmpgafndpdnbaaOz
import Derived.Defers
import Derived.Recover
import Derived.Laws.Pointers
import Derived.RangeFuncCalls
import Derived.Deep.Cut
namespace Go.Proofs.Ytbmpgafndpdnbaa
open Go.RowKit Go.Maps

/-- The caches of numbers. -/
abbrev Try.c1 : CTy := ⟨72, 73, 76, fun x => [.int .i64 x.1, .int .i64 x.2]⟩

theorem eq_idle (p : Addr) (w : World) :
    CallsD Try.prog 54 #[.pointer (some p)] .returning w fun e u' w' => e = .returned (.tuple #[]) ∧ u' = .returning ∧ w' = w := by
  refine callsD_of_wpS Try.func54 rfl fun c₀ cs hu => ?_
  apply wpS_seq
  apply wpS_region
  simp [wpOpsS, go_sem, recoverD, hu, Try.ntmps54, Exit.thenS]
  refine wpS_cond (t := false) (by simp [Act.eval, Array.replicate]) ?_
  simp only [Bool.false_eq_true, if_false]
  refine wpS_of_wp (wp_skip ?_)
  cases c₀
  simp_all [bodyPostS, results, Try.results54]

set_option maxRecDepth 100000 in
theorem equal_any (a b : Int) (w : World) :
    Calls Try.prog 49 #[.int .i64 a, .int .i64 b] w fun e w' => e = .returned (.bool (decide (a = b))) ∧ Below w.heap.size w w' := by
  have hmf : ∀ (fn : Fn) (first cap : Array Value) (w : World), (Instr.makeFunc fn first cap).run Try.prog w = .ok (.func fn first cap) w := fun _ _ _ _ => rfl
  obtain ⟨t, ht⟩ : ∃ t, decide (a = b) = t := ⟨_, rfl⟩
  have h1 : (a == b) = t := by rw [← ht]; rfl
  rw [ht]
  clear ht
  go_enter_defers Try.func49, Try.ntmps49
  go_wp2
  refine leaves_cons (f := 54) (args := #[.pointer (some ⟨w.heap.size, 0, none⟩)]) (by simp) (by simp [go_sem]) ?_
  refine (eq_idle ⟨w.heap.size, 0, none⟩ _).mono ?_
  rintro e u' w'' ⟨rfl, rfl, rfl⟩
  simp [Leaves, settle, results, Try.results49, go_sem]
  exact bl_al (bl0 w) _
set_option maxRecDepth 100000 in
set_option maxHeartbeats 4000000 in
theorem place1_any (k : Int) (b q : Nat) (x : IT) (w : World) (hb : ∀ j u, (Try.c1.cf x)[j]? = some u → w.cell? ⟨b, j, none⟩ = some u) (hq : w.cell? ⟨q, 0, none⟩ = some (.int .i64 k)) :
    Calls Try.prog 48 #[ptrV b, .pointer (some ⟨q, 0, none⟩)] w fun e w' => e = .returned (.bool (decide (x.1 = k))) ∧ Below w.heap.size w w' := by
  have c0 := hb 0 (.int .i64 x.1) rfl
  have hbd := bl_dr (bl0 w)
  go_enter Try.func48, Try.ntmps48
  go_upto_region 1 with fail
  refine (wpIn_wide (n := 11)).1 ?_
  refine ordS_begin (S := (fun W : World => W.cell? ⟨b, 0, none⟩ = some (.int .i64 x.1) ∧ W.cell? ⟨q, 0, none⟩ = some (.int .i64 k))) (by kernel_rfl) ⟨cell_later hbd c0, cell_later hbd hq⟩ (fun hH => ?_)
  refine' ordS_take (i := 0) (oi := { dst := some 4, op := Op.move (Operand.tmp 0), type := 73, pos := _, after := #[], guard := none }) (v := _) rfl (by kernel_rfl) (by kernel_rfl) (by kernel_rfl) (by kernel_rfl) (fun _ _ _ h => h) (by assumption) (Or.inl ⟨by rfl, ?hy1⟩) (fun _ => rfl) ?rest1
  case hy1 => (intro w hSw; (try dsimp only at hSw); go_simp; try with_reducible rfl)
  try simp only [Act.put, List.setIfInBounds_toArray, List.set_cons_zero, List.set_cons_succ]
  refine' ordS_take (i := 1) (oi := { dst := some 5, op := Op.nilCheck (Operand.tmp 4), type := 0, pos := _, after := #[{ on := 0, ground := Ground.data }], guard := none }) (v := _) rfl (by kernel_rfl) (by kernel_rfl) (by kernel_rfl) (by kernel_rfl) (fun _ _ _ h => h) (by assumption) (Or.inl ⟨by rfl, ?hy2⟩) (fun _ => rfl) ?rest2
  case hy2 => (intro w hSw; (try dsimp only at hSw); go_simp; try with_reducible rfl)
  try simp only [Act.put, List.setIfInBounds_toArray, List.set_cons_zero, List.set_cons_succ]
  refine' ordS_take (i := 2) (oi := { dst := some 6, op := Op.fieldAddr 76 (Operand.tmp 5) 0, type := 0, pos := _, after := #[{ on := 1, ground := Ground.data }], guard := none }) (v := _) rfl (by kernel_rfl) (by kernel_rfl) (by kernel_rfl) (by kernel_rfl) (fun _ _ _ h => h) (by assumption) (Or.inl ⟨by rfl, ?hy3⟩) (fun _ => rfl) ?rest3
  case hy3 => (intro w hSw; (try dsimp only at hSw); go_simp; try with_reducible rfl)
  try simp only [Act.put, List.setIfInBounds_toArray, List.set_cons_zero, List.set_cons_succ]
  refine' ordS_take (i := 3) (oi := { dst := some 7, op := Op.load 3 (Operand.tmp 6), type := 3, pos := _, after := #[{ on := 2, ground := Ground.data }], guard := none }) (v := _) rfl (by kernel_rfl) (by kernel_rfl) (by kernel_rfl) (by kernel_rfl) (fun _ _ _ h => h) (by assumption) (Or.inl ⟨by rfl, ?hy4⟩) (fun _ => rfl) ?rest4
  case hy4 => (intro w hSw; (try dsimp only at hSw); go_simp; try with_reducible rfl)
  try simp only [Act.put, List.setIfInBounds_toArray, List.set_cons_zero, List.set_cons_succ]
  refine' ordS_take (i := 4) (oi := { dst := some 8, op := Op.load 3 (Operand.tmp 1), type := 3, pos := _, after := #[], guard := none }) (v := _) rfl (by kernel_rfl) (by kernel_rfl) (by kernel_rfl) (by kernel_rfl) (fun _ _ _ h => h) (by assumption) (Or.inl ⟨by rfl, ?hy5⟩) (fun _ => rfl) ?rest5
  case hy5 => (intro w hSw; (try dsimp only at hSw); go_simp; try with_reducible rfl)
  try simp only [Act.put, List.setIfInBounds_toArray, List.set_cons_zero, List.set_cons_succ]
  refine ordS_one (i := 5) (o := { dst := some 9, op := Op.call { callee := Callee.value (Operand.func 49), args := #[Operand.tmp 7, Operand.tmp 8], argTypes := #[3, 3] }, type := 4, pos := _, after := #[{ on := 3, ground := Ground.data }, { on := 4, ground := Ground.data }], guard := none }) (by kernel_rfl) rfl (by rfl) (fun K hK => ?_)
  go_simp
  refine ⟨trivial, ?_⟩
  refine callsIn_wide.2 ((equal_any x.1 k _).mono ?_)
  rintro e W1 ⟨rfl, hb2⟩
  have HB2 := Lib.hid (bl_tr hbd hb2)
  have hS2 : W1.cell? ⟨b, 0, none⟩ = some (.int .i64 x.1) ∧ W1.cell? ⟨q, 0, none⟩ = some (.int .i64 k) := ⟨cell_later (bl_tr hbd hb2) c0, cell_later (bl_tr hbd hb2) hq⟩
  refine hK _ _ hS2 ?_
  clear hK K hH c0 hq hb2
  try simp only [Act.put, List.setIfInBounds_toArray, List.set_cons_zero, List.set_cons_succ]
  refine ordS_one (i := 6) (o := { dst := some 3, op := Op.assign (Operand.tmp 9), type := 4, pos := _, after := #[{ on := 5, ground := Ground.data }, { on := 5, ground := Ground.chain }, { on := 0, ground := Ground.phase }, { on := 1, ground := Ground.phase }, { on := 2, ground := Ground.phase }, { on := 3, ground := Ground.phase }, { on := 4, ground := Ground.phase }, { on := 5, ground := Ground.phase }], guard := none }) (by kernel_rfl) rfl (by rfl) (fun K hK => ?_)
  go_simp
  refine hK _ _ hS2 ?_
  clear hK K hS2
  try simp only [Act.put, List.setIfInBounds_toArray, List.set_cons_zero, List.set_cons_succ]
  refine ordS_done (by kernel_rfl) ?_
  go_wp2
  go_ret
  exact ⟨rfl, HB2.out⟩
end Go.Proofs.Ytbmpgafndpdnbaa
