/- Package mask: Add, Keep and Same. -/
import Derived.Test.YtgkeifjnnpcleaaKf
namespace Go.Proofs.Ytgkeifjnnpcleaa
open Go.RowKit

set_option maxHeartbeats 800000 in
theorem add_any (b h b2 h2 : Nat) (X Y : Int) (cs ds : List Nat) (w : World) (hm : MaskAt w b h X Y cs) (hm2 : MaskAt w b2 h2 X Y ds) (gc : Good X Y cs) (gd : Good X Y ds) (n1 : b ≠ h) (n2 : b2 ≠ h) (n3 : h2 ≠ h) :
    Calls Try.prog 31 #[.pointer (some ⟨b, 0, none⟩), .pointer (some ⟨b2, 0, none⟩)] w fun e w' => e = .returned (.tuple #[.int .i64 (turnK (fun a b => a ||| b) cs ds cs.length : Nat), .int .i64 0]) ∧ MaskAt w' b h X Y (joinB (fun a b => a ||| b) cs ds) ∧ w.grownBy w' (some h) := by
  have hl : cs.length = ds.length := by have := gc.2.1; have := gd.2.1; omega
  have hl6 : cs.length ≤ 65536 := gc.small
  go_enter Try.func31, Try.ntmps31
  go_wp2_with fail
  refine (cut_or _ rfl b h b2 h2 X Y cs ds _ hm hm2 gc.2.2.1 gd.2.2.1 hl hl6 n1 n2 n3).mono ?_
  rintro e w' ⟨rfl, ha, hg⟩
  have HA := Lib.hid ha
  have HG := Lib.hid hg
  clear ha hg hl
  go_wp2
  go_ret2
  exact ⟨rfl, HA.out, HG.out⟩

set_option maxHeartbeats 800000 in
theorem keep_any (b h b2 h2 : Nat) (X Y : Int) (cs ds : List Nat) (w : World) (hm : MaskAt w b h X Y cs) (hm2 : MaskAt w b2 h2 X Y ds) (gc : Good X Y cs) (gd : Good X Y ds) (n1 : b ≠ h) (n2 : b2 ≠ h) (n3 : h2 ≠ h) :
    Calls Try.prog 32 #[.pointer (some ⟨b, 0, none⟩), .pointer (some ⟨b2, 0, none⟩)] w fun e w' => e = .returned (.tuple #[.int .i64 (turnK (fun a b => a &&& b) cs ds cs.length : Nat), .int .i64 0]) ∧ MaskAt w' b h X Y (joinB (fun a b => a &&& b) cs ds) ∧ w.grownBy w' (some h) := by
  have hl : cs.length = ds.length := by have := gc.2.1; have := gd.2.1; omega
  have hl6 : cs.length ≤ 65536 := gc.small
  go_enter Try.func32, Try.ntmps32
  go_wp2_with fail
  refine (cut_and _ rfl b h b2 h2 X Y cs ds _ hm hm2 gc.2.2.1 gd.2.2.1 hl hl6 n1 n2 n3).mono ?_
  rintro e w' ⟨rfl, ha, hg⟩
  have HA := Lib.hid ha
  have HG := Lib.hid hg
  clear ha hg hl
  go_wp2
  go_ret2
  exact ⟨rfl, HA.out, HG.out⟩

theorem MaskAt.bytesIn {W : World} {b h : Nat} {X Y : Int} {bs : List Nat} (m : MaskAt W b h X Y bs) : Lib.BytesIn W (some ⟨h, 0, none⟩) bs.length (bs.map (fun x : Nat => (x : Int))) := by
  refine Lib.BytesIn.of_cells fun i hi => ?_
  have hadd : (⟨h, 0, none⟩ : Addr).add i = ⟨h, i, none⟩ := by unfold Addr.add; split <;> simp_all
  rw [hadd, m.at (List.getElem?_eq_getElem hi)]
  simp [List.getD_eq_getElem?_getD, hi]
theorem bytesOf_inj {cs ds : List Nat} (hc : IsBytes cs) (hd : IsBytes ds) : (Lib.bytesOf (cs.map (fun x : Nat => (x : Int))) == Lib.bytesOf (ds.map (fun x : Nat => (x : Int)))) = decide (cs = ds) := by
  rw [Bool.eq_iff_iff, beq_iff_eq, decide_eq_true_eq]
  constructor
  · intro h
    unfold Lib.bytesOf at h
    rw [List.map_map, List.map_map] at h
    have hl : cs.length = ds.length := by simpa using congrArg List.length h
    apply List.ext_getElem hl
    intro i h1 h2
    have := congrArg (fun l => l[i]?) h
    simp [h1, h2] at this
    have a := hc _ (List.getElem_mem h1)
    have b := hd _ (List.getElem_mem h2)
    have e := congrArg UInt8.toNat this
    simpa [Nat.mod_eq_of_lt a, Nat.mod_eq_of_lt b] using e
  · rintro rfl; rfl

set_option maxHeartbeats 800000 in
theorem same_any (b h b2 h2 : Nat) (X Y : Int) (cs ds : List Nat) (w : World) (hm : MaskAt w b h X Y cs) (hm2 : MaskAt w b2 h2 X Y ds) (hc : IsBytes cs) (hd : IsBytes ds) :
    Calls Try.prog 33 #[.pointer (some ⟨b, 0, none⟩), .pointer (some ⟨b2, 0, none⟩)] w fun e w' => e = .returned (.bool (decide (cs = ds))) ∧ Below w.heap.size w w' := by
  have c0 := hm.c0
  have c1 := hm.c1
  have c2 := hm.c2
  have d0 := hm2.c0
  have d1 := hm2.c1
  have d2 := hm2.c2
  have hE : ∀ n, Calls Try.prog 48 #[.slice (some ⟨h, 0, none⟩) cs.length cs.length, .slice (some ⟨h2, 0, none⟩) ds.length ds.length] (w.drewN n) fun e w' => e = .returned (.bool (decide (cs = ds))) ∧ w' = w.drewN n := fun n => by
    have hq := Try.bytes_Equal_all (some ⟨h, 0, none⟩) (some ⟨h2, 0, none⟩) cs.length cs.length ds.length ds.length _ _ (w.drewN n) (by simp) (by simp) (hm.below (bl_drn w n)).bytesIn (hm2.below (bl_drn w n)).bytesIn
    rw [bytesOf_inj hc hd] at hq
    exact hq
  clear hm hm2 hc hd
  go_enter Try.func33, Try.ntmps33
  go_wp2
  go_quiet ((go_at_call 48; exact Calls.quiet_of_same (hE _)))
  go_wp2
  go_ret
  exact ⟨rfl, bl_drn _ _⟩
end Go.Proofs.Ytgkeifjnnpcleaa
