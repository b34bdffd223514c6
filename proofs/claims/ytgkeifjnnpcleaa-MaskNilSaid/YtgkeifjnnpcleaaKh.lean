/- The statements' own helpers over sets: made, inside, joined, both, Small. -/
import Derived.Test.YtgkeifjnnpcleaaKg
import Derived.Test.YtgkeifjnnpcleaaRa
import Derived.OwnWalk
import Derived.LoopTactic
import Derived.Deep.CutRange
namespace Go.Proofs.Ytgkeifjnnpcleaa
open Go.RowKit

/-- A row of cells in memory. -/
def RowC (W : World) (a : Option Addr) (zs : List (Int × Int)) : Prop :=
  zs = [] ∨ ∃ b o, a = some ⟨b, o, none⟩ ∧ ∀ i z, zs[i]? = some z → W.cell? ⟨b, o + i * 2, none⟩ = some (.int .i64 z.1) ∧ W.cell? ⟨b, o + i * 2 + 1, none⟩ = some (.int .i64 z.2)
theorem RowC.below {W W' : World} {a : Option Addr} {zs : List (Int × Int)} (h : RowC W a zs) (hb : Below W.heap.size W W') : RowC W' a zs := by
  rcases h with h | ⟨b, o, h1, h2⟩
  · exact .inl h
  · exact .inr ⟨b, o, h1, fun i z hz => ⟨cell_later hb (h2 i z hz).1, cell_later hb (h2 i z hz).2⟩⟩

/-- All cells put in, one by one. -/
def setAll (X : Int) (bs : List Nat) (zs : List (Int × Int)) : List Nat := zs.foldl (fun bs p => setB bs (p.2 * X + p.1).toNat true) bs
theorem setAll_succ (X : Int) (bs : List Nat) (zs : List (Int × Int)) (k : Nat) (hk : k < zs.length) : setAll X bs (zs.take (k + 1)) = setB (setAll X bs (zs.take k)) (zs[k].2 * X + zs[k].1).toNat true := by
  unfold setAll
  rw [List.take_succ_eq_append_getElem hk, List.foldl_append]
  rfl
theorem good_zero {X Y : Int} (h : mayB X Y = true) : Good X Y (List.replicate ((X * Y + 7) / 8).toNat 0) := by
  obtain ⟨h1, h2, h3, h4⟩ := mayB_iff.1 h
  have m1 : 0 ≤ X * Y := Int.mul_nonneg (by omega) (by omega)
  refine ⟨h, by simp; omega, fun x hx => by rw [(List.mem_replicate.1 hx).2]; omega, fun i _ => ?_⟩
  unfold bitAt
  rw [List.getD_eq_getElem?_getD, List.getElem?_replicate]
  split <;> simp
theorem Good.setAll {X Y : Int} {bs : List Nat} (g : Good X Y bs) : ∀ (zs : List (Int × Int)), (∀ z ∈ zs, inB X Y z.1 z.2 = true) → Good X Y (setAll X bs zs)
  | [], _ => g
  | z :: zs, h => Good.setAll (bs := setB bs (z.2 * X + z.1).toNat true) (g.set (h z (by simp)) true) zs (fun y hy => h y (by simp [hy]))

set_option maxHeartbeats 1600000 in
theorem made_yes (X Y : Int) (a : Option Addr) (cap : Nat) (zs : List (Int × Int)) (w : World) (hm : mayB X Y = true) (hr : RowC w a zs) (hl : zs.length ≤ 1048576) (hin : ∀ z ∈ zs, inB X Y z.1 z.2 = true) :
    Calls Try.prog 28 #[.agg #[.int .i64 X, .int .i64 Y], .slice a zs.length cap] w fun e w' => ∃ b h, e = .returned (.tuple #[.pointer (some ⟨b, 0, none⟩), .bool true]) ∧ MaskAt w' b h X Y (setAll X (List.replicate ((X * Y + 7) / 8).toNat 0) zs) ∧ w.heap.size ≤ b ∧ w.heap.size ≤ h ∧ b ≠ h ∧ Below w.heap.size w w' := by
  have hl2 : (zs.length : Int) ≤ 1048576 := by omega
  have hA := bl0 w
  go_enter Try.func28, Try.ntmps28
  go_wp2_with fail
  refine (new_yes X Y _ hm).mono ?_
  rintro e w1 ⟨b, h, rfl, hmk, hb1, hh1, hne, hb⟩
  have hA1 := bl_tr (bl_al hA (.cells #[.int .i64 X, .int .i64 Y] 23)) hb
  have hb2 : w.heap.size ≤ b := by have : (w.alloc (.cells #[.int .i64 X, .int .i64 Y] 23)).heap.size = w.heap.size + 1 := World.size_alloc _ _
                                   omega
  have hh2 : w.heap.size ≤ h := by have : (w.alloc (.cells #[.int .i64 X, .int .i64 Y] 23)).heap.size = w.heap.size + 1 := World.size_alloc _ _
                                   omega
  clear hb hb1 hh1 hA
  go_wp2
  go_loopw [8] (fun i wr => ∃ k : Nat, k ≤ zs.length ∧ i = .int .i64 k ∧ MaskAt wr b h X Y (setAll X (List.replicate ((X * Y + 7) / 8).toNat 0) (zs.take k)) ∧ Below w.heap.size w wr) (fun i _ => zs.length - (intOf i).toNat)
  case atStart => exact ⟨0, Nat.zero_le _, rfl, hmk, hA1⟩
  case round =>
    obtain ⟨k, hk, rfl, hmr, hAr⟩ := hrel
    clear hmk hA1
    by_cases hlt : k < zs.length
    · have hlt2 : (k : Int) < (zs.length : Int) := by omega
      have hk0 : (0 : Int) ≤ (k : Int) := by omega
      rcases hr with rfl | ⟨gb, go, rfl, hcell⟩
      · simp at hlt
      obtain ⟨q0, q1⟩ := hcell k _ (List.getElem?_eq_getElem hlt)
      replace q0 := cell_later hAr q0
      replace q1 := cell_later hAr q1
      have hi := hin _ (List.getElem_mem hlt)
      have hg := (good_zero hm).setAll (zs.take k) (fun z hz => hin z (List.mem_of_mem_take hz))
      have HS := Lib.hid (setAll_succ X (List.replicate ((X * Y + 7) / 8).toNat 0) zs k hlt)
      clear hcell
      go_wp2_with fail
      refine (set_yes b h X Y _ _ _ true _ hmr hg hne hi).mono ?_
      rintro e w2 ⟨rfl, hm2, hg2⟩
      rw [← HS.out] at hm2
      have hA2 := hAr.grown hg2 hAr.size (fun r e => by cases e; exact hh2)
      clear hg2 hmr hAr q0 q1 HS
      go_wp2
      go_roundw
      case rel => exact ⟨k + 1, by omega, by go_num, hm2, hA2⟩
      case measure => simp [intOf]; omega
    · obtain rfl : k = zs.length := by omega
      rw [List.take_length] at hmr
      go_wp2
      go_ret2
      exact ⟨b, h, rfl, hmr, hb2, hh2, hne, hAr⟩
end Go.Proofs.Ytgkeifjnnpcleaa
