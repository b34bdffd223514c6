/- Package mask: Add, Keep, Same of nil, and of sets of two sizes. -/
import Derived.Test.YtgkeifjnnpcleaaKg
namespace Go.Proofs.Ytgkeifjnnpcleaa
open Go.RowKit

set_option maxHeartbeats 1600000 in
theorem cut_nil (v : Option Addr) (f : Value) (w : World) :
    Calls Try.prog 45 #[.pointer none, .pointer v, f] w fun e w' => e = .returned (.tuple #[.int .i64 0, .int .i64 2]) ∧ Below w.heap.size w w' := by
  go_enter Try.func45, Try.ntmps45
  go_wp2
  go_ret2
  exact ⟨rfl, bl0 w⟩

set_option maxHeartbeats 1600000 in
theorem cut_nil2 (b : Nat) (f : Value) (w : World) :
    Calls Try.prog 45 #[.pointer (some ⟨b, 0, none⟩), .pointer none, f] w fun e w' => e = .returned (.tuple #[.int .i64 0, .int .i64 2]) ∧ Below w.heap.size w w' := by
  go_enter Try.func45, Try.ntmps45
  go_wp2
  go_ret2
  exact ⟨rfl, bl0 w⟩

set_option maxHeartbeats 1600000 in
theorem cut_other (b h b2 h2 : Nat) (X Y U V : Int) (cs ds : List Nat) (f : Value) (w : World) (hm : MaskAt w b h X Y cs) (hm2 : MaskAt w b2 h2 U V ds) (hne : ¬ (X = U ∧ Y = V)) :
    Calls Try.prog 45 #[.pointer (some ⟨b, 0, none⟩), .pointer (some ⟨b2, 0, none⟩), f] w fun e w' => e = .returned (.tuple #[.int .i64 0, .int .i64 1]) ∧ Below w.heap.size w w' := by
  have c0 := hm.c0
  have c1 := hm.c1
  have d0 := hm2.c0
  have d1 := hm2.c1
  clear hm hm2
  by_cases hx : X = U
  · have hy : ¬ Y = V := fun h => hne ⟨hx, h⟩
    subst hx
    clear hne
    go_enter Try.func45, Try.ntmps45
    go_wp2
    go_region
    all_goals go_wp2
    go_ret2
    exact ⟨rfl, bl_dr (bl0 w)⟩
  · clear hne
    go_enter Try.func45, Try.ntmps45
    go_wp2
    go_region
    all_goals go_wp2
    go_ret2
    exact ⟨rfl, bl_dr (bl0 w)⟩

set_option maxHeartbeats 400000 in
theorem add_nil (v : Option Addr) (w : World) :
    Calls Try.prog 31 #[.pointer none, .pointer v] w fun e w' => e = .returned (.tuple #[.int .i64 0, .int .i64 2]) ∧ Below w.heap.size w w' := by
  go_enter Try.func31, Try.ntmps31
  go_wp2_with fail
  refine (cut_nil v _ _).mono ?_
  rintro e w' ⟨rfl, hb⟩
  go_wp2
  go_ret2
  exact ⟨rfl, hb⟩

set_option maxHeartbeats 400000 in
theorem add_nil2 (b : Nat) (w : World) :
    Calls Try.prog 31 #[.pointer (some ⟨b, 0, none⟩), .pointer none] w fun e w' => e = .returned (.tuple #[.int .i64 0, .int .i64 2]) ∧ Below w.heap.size w w' := by
  go_enter Try.func31, Try.ntmps31
  go_wp2_with fail
  refine (cut_nil2 b _ _).mono ?_
  rintro e w' ⟨rfl, hb⟩
  go_wp2
  go_ret2
  exact ⟨rfl, hb⟩

set_option maxHeartbeats 400000 in
theorem add_other (b h b2 h2 : Nat) (X Y U V : Int) (cs ds : List Nat) (w : World) (hm : MaskAt w b h X Y cs) (hm2 : MaskAt w b2 h2 U V ds) (hne : ¬ (X = U ∧ Y = V)) :
    Calls Try.prog 31 #[.pointer (some ⟨b, 0, none⟩), .pointer (some ⟨b2, 0, none⟩)] w fun e w' => e = .returned (.tuple #[.int .i64 0, .int .i64 1]) ∧ Below w.heap.size w w' := by
  go_enter Try.func31, Try.ntmps31
  go_wp2_with fail
  refine (cut_other b h b2 h2 X Y U V cs ds _ _ hm hm2 hne).mono ?_
  rintro e w' ⟨rfl, hb⟩
  go_wp2
  go_ret2
  exact ⟨rfl, hb⟩

set_option maxHeartbeats 400000 in
theorem keep_nil (v : Option Addr) (w : World) :
    Calls Try.prog 32 #[.pointer none, .pointer v] w fun e w' => e = .returned (.tuple #[.int .i64 0, .int .i64 2]) ∧ Below w.heap.size w w' := by
  go_enter Try.func32, Try.ntmps32
  go_wp2_with fail
  refine (cut_nil v _ _).mono ?_
  rintro e w' ⟨rfl, hb⟩
  go_wp2
  go_ret2
  exact ⟨rfl, hb⟩

set_option maxHeartbeats 400000 in
theorem keep_nil2 (b : Nat) (w : World) :
    Calls Try.prog 32 #[.pointer (some ⟨b, 0, none⟩), .pointer none] w fun e w' => e = .returned (.tuple #[.int .i64 0, .int .i64 2]) ∧ Below w.heap.size w w' := by
  go_enter Try.func32, Try.ntmps32
  go_wp2_with fail
  refine (cut_nil2 b _ _).mono ?_
  rintro e w' ⟨rfl, hb⟩
  go_wp2
  go_ret2
  exact ⟨rfl, hb⟩

set_option maxHeartbeats 400000 in
theorem keep_other (b h b2 h2 : Nat) (X Y U V : Int) (cs ds : List Nat) (w : World) (hm : MaskAt w b h X Y cs) (hm2 : MaskAt w b2 h2 U V ds) (hne : ¬ (X = U ∧ Y = V)) :
    Calls Try.prog 32 #[.pointer (some ⟨b, 0, none⟩), .pointer (some ⟨b2, 0, none⟩)] w fun e w' => e = .returned (.tuple #[.int .i64 0, .int .i64 1]) ∧ Below w.heap.size w w' := by
  go_enter Try.func32, Try.ntmps32
  go_wp2_with fail
  refine (cut_other b h b2 h2 X Y U V cs ds _ _ hm hm2 hne).mono ?_
  rintro e w' ⟨rfl, hb⟩
  go_wp2
  go_ret2
  exact ⟨rfl, hb⟩

set_option maxHeartbeats 1600000 in
theorem same_nil (w : World) :
    Calls Try.prog 33 #[.pointer none, .pointer none] w fun e w' => e = .returned (.bool true) ∧ Below w.heap.size w w' := by
  go_enter Try.func33, Try.ntmps33
  go_wp2
  go_ret
  exact ⟨rfl, bl0 w⟩

set_option maxHeartbeats 1600000 in
theorem same_nil1 (b : Nat) (w : World) :
    Calls Try.prog 33 #[.pointer none, .pointer (some ⟨b, 0, none⟩)] w fun e w' => e = .returned (.bool false) ∧ Below w.heap.size w w' := by
  have hq : ∀ w : World, (binOp .eql 27 (.pointer none) (.pointer (some ⟨b, 0, none⟩))).run Try.prog w = .ok (.bool false) w := fun w => by kernel_rfl
  go_enter Try.func33, Try.ntmps33
  go_wp2
  go_ret
  exact ⟨rfl, bl0 w⟩

set_option maxHeartbeats 1600000 in
theorem same_nil2 (b : Nat) (w : World) :
    Calls Try.prog 33 #[.pointer (some ⟨b, 0, none⟩), .pointer none] w fun e w' => e = .returned (.bool false) ∧ Below w.heap.size w w' := by
  go_enter Try.func33, Try.ntmps33
  go_wp2
  go_ret
  exact ⟨rfl, bl0 w⟩

end Go.Proofs.Ytgkeifjnnpcleaa
