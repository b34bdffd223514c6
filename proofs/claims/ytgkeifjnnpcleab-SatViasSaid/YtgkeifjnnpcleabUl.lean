/- The chapter's examples hold. -/
import Derived.Test.YtgkeifjnnpcleabUk
namespace Go.Proofs.Ytgkeifjnnpcleab
open Go.RowKit

def zs3 : List Int := [3, 1, 1]
def xs2 : List Int := [1, 5]
def ts2 (b : Nat) : List (Option Addr × Nat × List Int) := [(some ⟨b, 0, none⟩, 2, [7, 18446744073709551615]), (some ⟨b + 1, 0, none⟩, 2, [2, 4])]
theorem zs3_all : AllU zs3 := by intro z hz; simp [zs3] at hz; unfold inU; omega
theorem xs2_all : AllU xs2 := by intro z hz; simp [xs2] at hz; unfold inU; omega
theorem ts2_all (b : Nat) : AllT (rowsT (ts2 b)) := by
  intro r hr z hz
  simp [ts2, rowsT] at hr
  unfold inU
  rcases hr with rfl | rfl <;> (simp at hz; omega)
theorem ts2_even (b : Nat) : evenT (rowsT (ts2 b)) = true := rfl
theorem zs3_least : leastC zs3 = (1, true) := by decide
theorem ts2_via (b : Nat) : viaC xs2 (rowsT (ts2 b)) = [7, 9] := by
  show viaC xs2 [[7, 18446744073709551615], [2, 4]] = _
  decide
theorem rowU_two {W : World} {b : Nat} {x y : Int} (h0 : W.cell? ⟨b, 0, none⟩ = some (.int .u64 x)) (h1 : W.cell? ⟨b, 1, none⟩ = some (.int .u64 y)) : RowU W (some ⟨b, 0, none⟩) [x, y] := by
  refine .inr ⟨b, 0, rfl, fun i z hz => ?_⟩
  match i, hz with
  | 0, hz => simp at hz; subst hz; exact h0
  | 1, hz => simp at hz; subst hz; exact h1
theorem rowU_three {W : World} {b : Nat} {x y u : Int} (h0 : W.cell? ⟨b, 0, none⟩ = some (.int .u64 x)) (h1 : W.cell? ⟨b, 1, none⟩ = some (.int .u64 y)) (h2 : W.cell? ⟨b, 2, none⟩ = some (.int .u64 u)) : RowU W (some ⟨b, 0, none⟩) [x, y, u] := by
  refine .inr ⟨b, 0, rfl, fun i z hz => ?_⟩
  match i, hz with
  | 0, hz => simp at hz; subst hz; exact h0
  | 1, hz => simp at hz; subst hz; exact h1
  | 2, hz => simp at hz; subst hz; exact h2
theorem tabU_two {W : World} {b n c0 c1 : Nat} {a0 a1 : Option Addr} {r0 r1 : List Int} (h0 : W.cell? ⟨b, 0, none⟩ = some (.slice a0 r0.length c0)) (h1 : W.cell? ⟨b, 1, none⟩ = some (.slice a1 r1.length c1)) (k0 : RowU W a0 r0) (k1 : RowU W a1 r1) (_ : n = n) :
    TabU W (some ⟨b, 0, none⟩) [(a0, c0, r0), (a1, c1, r1)] := by
  refine .inr ⟨b, 0, rfl, fun i z hz => ?_⟩
  match i, hz with
  | 0, hz => simp at hz; subst hz; exact ⟨h0, k0⟩
  | 1, hz => simp at hz; subst hz; exact ⟨h1, k1⟩

set_option maxRecDepth 100000 in
set_option maxHeartbeats 1600000 in
theorem awake_any (w : World) : Calls Try.prog 9 #[] w fun e w' => e = .returned (.bool true) ∧ Below w.heap.size w w' := by
  have HM := hmf
  go_enter Try.func9, Try.ntmps9
  go_wp2_with fail
  obtain ⟨w1, hw1⟩ : ∃ w1, w.alloc (.cells #[.int .u64 3, .int .u64 1, .int .u64 1] 23) = w1 := ⟨_, rfl⟩
  have hA : Below w.heap.size w w1 := by rw [← hw1]; exact bl_al (bl0 w) _
  have hr : RowU w1 (some ⟨w.heap.size, 0, none⟩) zs3 := by rw [← hw1]; exact rowU_three (by simp [go_sem]) (by simp [go_sem]) (by simp [go_sem])
  rw [hw1]
  clear hw1
  refine (least_any (some ⟨w.heap.size, 0, none⟩) 3 zs3 w1 hr zs3_all (by decide)).mono ?_
  rintro e w' ⟨rfl, rfl⟩
  rw [zs3_least]
  clear hr
  go_wp2_with fail
  obtain ⟨w2, hw2⟩ : ∃ w2, (((w1.alloc (.cells #[.int .u64 1, .int .u64 5] 23)).alloc (.cells #[.int .u64 7, .int .u64 18446744073709551615] 23)).alloc (.cells #[.int .u64 2, .int .u64 4] 23)).alloc
      (.cells #[.slice (some ⟨w1.heap.size + 1, 0, none⟩) 2 2, .slice (some ⟨w1.heap.size + 1 + 1, 0, none⟩) 2 2] 22) = w2 := ⟨_, rfl⟩
  have hB2 : Below w1.heap.size w1 w2 := by rw [← hw2]; exact bl_al (bl_al (bl_al (bl_al (bl0 w1) _) _) _) _
  have hrx : RowU w2 (some ⟨w1.heap.size, 0, none⟩) xs2 := by rw [← hw2]; exact rowU_two (by simp [go_sem]) (by simp [go_sem])
  have hr0 : RowU w2 (some ⟨w1.heap.size + 1, 0, none⟩) [7, 18446744073709551615] := by rw [← hw2]; exact rowU_two (by simp [go_sem]) (by simp [go_sem])
  have hr1 : RowU w2 (some ⟨w1.heap.size + 1 + 1, 0, none⟩) [2, 4] := by rw [← hw2]; exact rowU_two (by simp [go_sem]) (by simp [go_sem])
  have htt : TabU w2 (some ⟨w1.heap.size + 1 + 1 + 1, 0, none⟩) (ts2 (w1.heap.size + 1)) := tabU_two (n := 0) (by rw [← hw2]; simp [go_sem]) (by rw [← hw2]; simp [go_sem]) hr0 hr1 rfl
  rw [hw2]
  clear hw2 hr0 hr1
  refine (via_yes (some ⟨w1.heap.size, 0, none⟩) (some ⟨w1.heap.size + 1 + 1 + 1, 0, none⟩) 2 2 xs2 (ts2 (w1.heap.size + 1)) w2 (by decide) (show 2 ≤ 1048576 by decide) rfl (ts2_even _) hrx htt xs2_all (ts2_all _)).mono ?_
  rintro e w3 ⟨z, rfl, hz, hB3⟩
  rw [ts2_via] at hz ⊢
  have HZ := Lib.hid hz
  replace hA := bl_tr (bl_tr hA hB2) hB3
  clear hz hB2 hB3 hrx htt
  have hadd : addC 18446744073709551615 1 = 18446744073709551615 := by decide
  have htim : timesC 9223372036854775808 2 = 18446744073709551615 := by decide
  have ha := (add_any 18446744073709551615 1 w3 inU_inf ⟨by decide, by decide⟩)
  rw [hadd] at ha
  have ht := (times_any 9223372036854775808 2 w3 ⟨by decide, by decide⟩ (by decide))
  rw [htim] at ht
  clear hadd htim
  have HA := Lib.hid ha
  have HT := Lib.hid ht
  clear ha ht
  go_wp2_with fail
  refine HA.out.mono ?_
  rintro e w' ⟨rfl, rfl⟩
  go_wp2_with fail
  refine HT.out.mono ?_
  rintro e w' ⟨rfl, rfl⟩
  go_wp2_with fail
  have hrow : RowU (w3.alloc (.cells #[.int .u64 7, .int .u64 9] 23)) (some ⟨w3.heap.size, 0, none⟩) [7, 9] := rowU_two (by simp [go_sem]) (by simp [go_sem])
  have hZ2 := HZ.out.below (bl_al (bl0 w3) (.cells #[.int .u64 7, .int .u64 9] 23))
  refine (same_any z (some ⟨w3.heap.size, 0, none⟩) 2 2 [7, 9] [7, 9] _ hZ2 hrow (by decide)).mono ?_
  rintro e w4 ⟨rfl, hb⟩
  replace hA := bl_tr (bl_al hA _) hb
  clear hrow hZ2 hb
  go_wp2
  go_ret
  exact ⟨rfl, hA⟩
end Go.Proofs.Ytgkeifjnnpcleab
