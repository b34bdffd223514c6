/- Package mask: Of, of what is wrong. -/
import Derived.Test.YtgkeifjnnpcleaaJo
namespace Go.Proofs.Ytgkeifjnnpcleaa
open Go.RowKit

set_option maxHeartbeats 1600000 in
theorem of_no (X Y : Int) (v : Option Addr) (n c : Nat) (w : World) (hm : mayB X Y = false) :
    Calls Try.prog 25 #[.agg #[.int .i64 X, .int .i64 Y], .slice v n c] w fun e w' => e = .returned (.tuple #[.pointer none, .int .i64 10]) ∧ Below w.heap.size w w' := by
  go_enter Try.func25, Try.ntmps25
  go_wp2_with fail
  have hb0 := bl_al (bl0 w) (.cells #[.int .i64 X, .int .i64 Y] 23)
  refine (new_no X Y _ hm).mono ?_
  rintro e w1 ⟨rfl, hb⟩
  go_wp2
  go_ret2
  exact ⟨rfl, bl_tr hb0 hb⟩

set_option maxRecDepth 100000 in
set_option maxHeartbeats 4000000 in
theorem of_spare (X Y : Int) (bs : List Nat) (h o c : Nat) (w : World) (hm : mayB X Y = true) (hlen : (bs.length : Int) = (X * Y + 7) / 8) (hcell : BytesAt w h o bs) (hsp : spareB X Y bs = true) :
    Calls Try.prog 25 #[.agg #[.int .i64 X, .int .i64 Y], .slice (some ⟨h, o, none⟩) bs.length c] w fun e w' => e = .returned (.tuple #[.pointer none, .int .i64 11]) ∧ Below w.heap.size w w' := by
  obtain ⟨h1, h2, h3, h4⟩ := mayB_iff.1 hm
  obtain ⟨m1, m2⟩ : 1 ≤ X * Y ∧ X * Y ≤ 65536 := ⟨by have := Int.mul_pos (show 0 < X by omega) (show 0 < Y by omega); omega, by have a : X * Y ≤ 256 * Y := Int.mul_le_mul_of_nonneg_right h2 (by omega); omega⟩
  obtain ⟨n, hn⟩ : ∃ n : Nat, bs.length = n := ⟨_, rfl⟩
  rw [hn] at hlen
  have hx := List.getElem?_eq_getElem (l := bs) (i := n - 1) (by omega)
  obtain ⟨x, hxe⟩ : ∃ x, bs[n - 1]'(by omega) = x := ⟨_, rfl⟩
  rw [hxe] at hx
  have hgd : bs.getD (bs.length - 1) 0 = x := by rw [hn, List.getD_eq_getElem?_getD, hx]; rfl
  unfold spareB at hsp
  rw [hgd] at hsp
  have hrep : ((X * Y + 7) / 8).toNat = n := by omega
  have k0 : (0 : Int) ≤ (n : Int) - 1 := by omega
  have k1 : (n : Int) - 1 < (n : Int) := by omega
  have k3 : (n : Int) ≤ 65536 := by omega
  have k4 : (1 : Int) ≤ (n : Int) := by omega
  have k6 : 0 < n := by omega
  have k7 : 1 ≤ n := by omega
  have k8 : (0 : Int) < (n : Int) := by omega
  have k9 : ¬ (n : Int) - 1 < 0 := by omega
  have k10 : n ≠ 0 := by omega
  have k5 : IntKind.i64.wrap ((n : Int) - 1) = (n : Int) - 1 := IntWalk.i64_in _ (by omega)
  have HL := Lib.hid hn
  have hA := bl0 w
  clear hxe
  clear hlen
  go_enter Try.func25, Try.ntmps25
  rw [hn]
  go_wp2_with fail
  have hb0 := bl_al (bl0 w) (.cells #[.int .i64 X, .int .i64 Y] 23)
  have s0 : (w.alloc (.cells #[.int .i64 X, .int .i64 Y] 23)).cell? ⟨w.heap.size, 0, none⟩ = some (.int .i64 X) := by simp [go_sem]
  have s1 : (w.alloc (.cells #[.int .i64 X, .int .i64 Y] 23)).cell? ⟨w.heap.size, 1, none⟩ = some (.int .i64 Y) := by simp [go_sem]
  refine (new_yes X Y _ hm).mono ?_
  rintro e w1 ⟨b, g, rfl, hma, hb1, hg1, hbg, hb⟩
  rw [World.size_alloc] at hb1 hg1
  have hA := bl_tr hb0 hb
  replace s0 := cell_later hb s0
  replace s1 := cell_later hb s1
  have hcell1 := hcell.below hA
  rw [hrep] at hma
  have q := hcell1 (n - 1) x hx
  have c2 := hma.c2
  rw [List.length_replicate] at c2
  clear hb hb0
  go_wp2_with fail
  have hB := bl_dr (bl0 w1)
  have hg1' := hma.lt
  go_region_held3 (fun w2 => w2.cell? ⟨w.heap.size, 0, none⟩ = some (.int .i64 X) ∧ w2.cell? ⟨w.heap.size, 1, none⟩ = some (.int .i64 Y) ∧ w2.cell? ⟨b, 2, none⟩ = some (.slice (some ⟨g, 0, none⟩) n n) ∧ w2.cell? ⟨h, o + (n - 1), none⟩ = some (.int .u8 (x : Int)))
    (exact ⟨cell_later hB s0, cell_later hB s1, cell_later hB c2, cell_later hB q⟩)
    ((go_at_call 44; refine (spare_any _ _ _ _ hm).mono ?_; rintro e W2 ⟨rfl, hb⟩; rw [hsp]; replace hB := bl_tr hB hb; clear hb))
  have hfin := bl_tr hA hB
  go_wp2
  go_ret2
  exact ⟨rfl, hfin⟩
end Go.Proofs.Ytgkeifjnnpcleaa
