/- Package sat: what costs are together: contracts of Add, Times, Sum, Least; rows of costs in memory. -/
import Derived.Test.YtgkeifjnnpcleabUm
import Derived.Test.YtgkeifjnnpcleabShelf
import Derived.WalkKit
import Derived.WalkSpells
import Derived.WalkLawsBesides
import Derived.Laws.Externs
import Derived.LoopTactic
import Derived.Deep.QuietTactic
import Derived.BigQuiet
import Derived.Deep.RegionHeld3
import Derived.Lib.Hide
import Derived.OwnWalk
import Derived.Laws.AppendOwn
import Derived.Laws.Rows
namespace Go.Proofs.Ytgkeifjnnpcleab
open Go.RowKit

theorem ret_bool {a b : Bool} (h : a = b) : Ending.returned (.bool a) = .returned (.bool b) := by rw [h]
theorem ret_int {k : IntKind} {a b : Int} (h : a = b) : Ending.returned (.int k a) = .returned (.int k b) := by rw [h]
theorem bcell {W w1 : World} (hb : Below W.heap.size W w1) : (∀ b o, b < W.heap.size → w1.cell? ⟨b, o, none⟩ = W.cell? ⟨b, o, none⟩) ∧ (∀ b o, b < W.heap.size → w1.frozen? ⟨b, o, none⟩ = W.frozen? ⟨b, o, none⟩) :=
  ⟨fun b o h => hb.cell (p := ⟨b, o, none⟩) h, fun b o h => hb.frozen (p := ⟨b, o, none⟩) h⟩
theorem bl0 (w : World) : Below w.heap.size w w := Below.refl _ _
theorem bl_al {w a : World} (h : Below w.heap.size w a) (o : Obj) : Below w.heap.size w (a.alloc o) := h.alloc h.size o
theorem bl_tr {w a b : World} (h : Below w.heap.size w a) (k : Below a.heap.size a b) : Below w.heap.size w b := h.trans (k.mono h.size)
theorem bl_st {w a : World} (h : Below w.heap.size w a) {b o : Nat} (hp : w.heap.size ≤ b) (u : Value) : Below w.heap.size w (a.setCell ⟨b, o, none⟩ u) := h.setCell (p := ⟨b, o, none⟩) hp u
theorem bl_dr {w a : World} (h : Below w.heap.size w a) : Below w.heap.size w a.drew := h.drew
theorem bl_drn (w : World) (n : Nat) : Below w.heap.size w (w.drewN n) := ⟨rfl, rfl, rfl, Nat.le_refl _, fun _ _ => rfl⟩
theorem blk_lt {w : World} {b o : Nat} {v : Value} (h : w.cell? ⟨b, o, none⟩ = some v) : b < w.heap.size := World.block_lt_of_cell? _ _ h
theorem frozen_later {V w : World} (hb : Below V.heap.size V w) {b o : Nat} {v : Value} (h : V.cell? ⟨b, o, none⟩ = some v) (hf : V.frozen? ⟨b, o, none⟩ = false) : w.frozen? ⟨b, o, none⟩ = false :=
  (hb.frozen (p := ⟨b, o, none⟩) (blk_lt h)).trans hf

theorem run_add (a b : Int) (ha : inU a) (hb : inU b) (w : World) :
    (callFunc 23 #[.int .u64 a, .int .u64 b, .int .u64 0]).run Try.prog w = .ok (.value (.tuple #[.int .u64 ((a + b) % 18446744073709551616), .int .u64 ((a + b) / 18446744073709551616)])) w := by
  rw [run_callFunc_extern Try.func23 (by kernel_rfl) (by kernel_rfl) (by kernel_rfl) (e := add64Entry) (by kernel_rfl), run_add64 a b 0 ha.1 hb.1 (by omega) (by omega)]
  simp [Result.andThen]

theorem add_over {a b : Int} (h : ¬ a + b ≤ 18446744073709551615) (ha : inU a) (hb : inU b) : ((a + b) / 18446744073709551616 == (0 : Int)) = false ∧ ((a + b) / 18446744073709551616 != (0 : Int)) = true := by
  unfold inU at *
  have : (a + b) / 18446744073709551616 = 1 := by omega
  rw [this]; exact ⟨rfl, rfl⟩
theorem add_under {a b : Int} (h : a + b ≤ 18446744073709551615) (ha : inU a) (hb : inU b) : ((a + b) / 18446744073709551616 == (0 : Int)) = true ∧ ((a + b) / 18446744073709551616 != (0 : Int)) = false ∧ (a + b) % 18446744073709551616 = a + b := by
  unfold inU at *
  have e : (a + b) / 18446744073709551616 = 0 := by omega
  rw [e]; exact ⟨rfl, rfl, by omega⟩

set_option maxHeartbeats 400000 in
theorem add_any (a b : Int) (w : World) (ha : inU a) (hb : inU b) :
    Calls Try.prog 12 #[.int .u64 a, .int .u64 b] w fun e w' => e = .returned (.int .u64 (addC a b)) ∧ w = w' := by
  have hr := run_add a b ha hb
  have HC : a + b ≤ 18446744073709551615 ∨ ¬ a + b ≤ 18446744073709551615 := by omega
  rcases HC with h | h
  · obtain ⟨h1, h2, h3⟩ := add_under h ha hb
    have he : addC a b = a + b := by unfold addC; rw [if_pos h]
    have HE := Lib.hid he
    have H3 := Lib.hid h3
    clear he h3 h ha hb
    generalize (a + b) / 18446744073709551616 = o at *
    generalize (a + b) % 18446744073709551616 = s at *
    go_enter Try.func12, Try.ntmps12
    go_wp2_with (simp only [hr])
    go_ret
    exact ⟨ret_int (by rw [HE.out, H3.out]), rfl⟩
  · obtain ⟨h1, h2⟩ := add_over h ha hb
    have he : addC a b = 18446744073709551615 := by unfold addC; rw [if_neg h]
    have HE := Lib.hid he
    clear he h ha hb
    generalize (a + b) / 18446744073709551616 = o at *
    generalize (a + b) % 18446744073709551616 = s at *
    go_enter Try.func12, Try.ntmps12
    go_wp2_with (simp only [hr])
    go_ret
    exact ⟨ret_int (by rw [HE.out]), rfl⟩
end Go.Proofs.Ytgkeifjnnpcleab
