/- Texts joined: Tk. -/
import Derived.Test.YtmcgkoleaomjlaaQ2
import Derived.Test.YtmcgkoleaomjlaaQ1
/- Fog: Explored. -/
namespace Go.Proofs.Ytmcgkoleaomjlaa
open Go.RowKit

/-- The bytes of the cells that were seen, behind k cells. -/
def explK (ms : List (Option Int)) (bs : List Nat) (k : Nat) : List Nat := (List.range k).foldl (fun bs i => if (ms[i]?).join.isSome = true then setB bs i true else bs) bs
theorem explK_succ (ms : List (Option Int)) (bs : List Nat) (k : Nat) : explK ms bs (k + 1) = if (ms[k]?).join.isSome = true then setB (explK ms bs k) k true else explK ms bs k := by
  unfold explK
  rw [List.range_succ, List.foldl_append]
  rfl

theorem num_in {X Y : Int} (hm : mayB X Y = true) {n : Nat} (hn : (n : Int) < X * Y) : atB X Y n = true ∧ inB X Y ((n : Int) % X) ((n : Int) / X) = true ∧ ((n : Int) / X * X + (n : Int) % X) = n := by
  obtain ⟨h1, h2, h3, h4⟩ := mayB_iff.1 hm
  have e := Int.emod_add_mul_ediv (n : Int) X
  have q0 := Int.emod_nonneg (n : Int) (show X ≠ 0 by omega)
  have q1 := Int.emod_lt_of_pos (n : Int) (show 0 < X by omega)
  have q2 : 0 ≤ (n : Int) / X := Int.ediv_nonneg (by omega) (by omega)
  have q3 : (n : Int) / X < Y := Int.ediv_lt_of_lt_mul (by omega) (by rw [Int.mul_comm]; exact hn)
  refine ⟨atB_iff.2 ⟨h1, h2, h3, h4, by omega, hn⟩, inB_iff.2 ⟨h1, h2, h3, h4, q0, q1, q2, q3⟩, ?_⟩
  rw [Int.mul_comm]
  omega
theorem Good.explK {X Y : Int} {ms : List (Option Int)} {bs : List Nat} (g : Good X Y bs) (hl : (ms.length : Int) = X * Y) : ∀ k, k ≤ ms.length → Good X Y (explK ms bs k)
  | 0, _ => g
  | k + 1, h => by
    have ih := Good.explK g hl k (by omega)
    rw [explK_succ]
    split
    · obtain ⟨_, h2, h3⟩ := num_in g.1 (n := k) (by omega)
      have h4 := ih.set h2 true
      rw [h3] at h4
      simpa using h4
    · exact ih

set_option maxHeartbeats 800000 in
theorem expl_nil (w : World) :
    Calls Try.prog 21 #[.pointer none] w fun e w' => e = .returned (.pointer none) ∧ w' = w := by
  go_enter Try.func21, Try.ntmps21
  go_wp2
  go_ret
  exact ⟨rfl, rfl⟩

set_option maxRecDepth 100000 in
set_option maxHeartbeats 3200000 in
theorem expl_any (B g h cap : Nat) (X Y : Int) (ms : List (Option Int)) (k : Int) (w : World) (m : FogAt w B g h cap X Y ms k) (hm : mayB X Y = true) (hl : (ms.length : Int) = X * Y) :
    Calls Try.prog 21 #[.pointer (some ⟨g, 0, none⟩)] w fun e w' => ∃ b hb, e = .returned (.pointer (some ⟨b, 0, none⟩)) ∧ MaskAt w' b hb X Y (explK ms (List.replicate ((X * Y + 7) / 8).toNat 0) ms.length) ∧ w.heap.size ≤ b ∧ w.heap.size ≤ hb ∧ b ≠ hb ∧ Below w.heap.size w w' := by
  have hA := bl0 w
  have hgz := good_zero0 hm
  have har := area_bd hm
  obtain ⟨z0, hz0⟩ : ∃ z0, List.replicate ((X * Y + 7) / 8).toNat 0 = z0 := ⟨_, rfl⟩
  rw [hz0] at hgz ⊢
  have HZ := Lib.hid hz0
  have HL := Lib.hid hl
  have hl2 : ms.length ≤ 65536 := by omega
  clear hz0 hl
  have c0 := m.c0
  have c1 := m.c1
  have c2 := m.c2
  go_enter Try.func21, Try.ntmps21
  go_wp2_with fail
  refine (new_yes X Y _ hm).mono ?_
  rintro e w1 ⟨b, hb, rfl, hmk, hb1, hh1, hne, hbw⟩
  rw [HZ.out] at hmk
  replace c0 := cell_later hbw c0
  replace c1 := cell_later hbw c1
  replace c2 := cell_later hbw c2
  have hr := (m.below hbw).row
  have hlt := (m.below hbw).lt
  have hml := m.lt
  have hA1 := bl_tr hA hbw
  clear hA hbw m
  go_wp2
  go_loopw [5, 6, 7, 8, 24] (fun _ _ _ _ i wr => ∃ j : Nat, j ≤ ms.length ∧ i = .int .i64 j ∧ MaskAt wr b hb X Y (explK ms z0 j) ∧ w1.grownBy wr (some hb)) (fun _ _ _ _ i _ => ms.length - (intOf i).toNat)
  case atStart => exact ⟨0, Nat.zero_le _, rfl, hmk, World.grownBy.refl _ _⟩
  case round =>
    obtain ⟨j, hj, rfl, hmr, hg⟩ := hrel
    by_cases hlt' : j < ms.length
    · have hlt2 : (j : Int) < (ms.length : Int) := by omega
      have hj0 : (0 : Int) ≤ (j : Int) := by omega
      have hl3 : (ms.length : Int) ≤ 65536 := by omega
      obtain ⟨b', o', e, q0, q1⟩ := hr.cell hlt'
      cases e
      rw [Nat.zero_add] at q0 q1
      replace q0 := hg.cell q0 (by simp; omega)
      replace q1 := hg.cell q1 (by simp; omega)
      have C0 := hg.cell c0 (by simp; omega)
      have C1 := hg.cell c1 (by simp; omega)
      obtain ⟨n1, n2, n3⟩ := num_in hm (n := j) (by rw [← HL.out]; exact hlt2)
      have hgd := Good.explK hgz HL.out j hj
      have hsu : explK ms z0 (j + 1) = if ms[j].isSome = true then setB (explK ms z0 j) j true else explK ms z0 j := by
        have h9 := explK_succ ms z0 j
        rw [List.getElem?_eq_getElem hlt'] at h9
        exact h9
      have HG := Lib.hid hg
      have HM := Lib.hid hmr
      have HC := Lib.hid (And.intro C0 C1)
      have zq := blk_lt q0
      have zC := blk_lt C0
      clear hg hmr hr c0 c1 c2 hmk hA1 hb1 hh1
      obtain ⟨y, hy⟩ : ∃ y, ms[j].getD 0 = y := ⟨_, rfl⟩
      rw [hy] at q1
      clear hy
      obtain ⟨s, hs⟩ : ∃ s, ms[j].isSome = s := ⟨_, rfl⟩
      rw [hs] at q0 hsu
      clear hs
      cases s with
      | false =>
        rw [if_neg (by decide)] at hsu
        have HS := Lib.hid hsu
        clear hsu C0 C1 n1 n2 n3
        go_wp2
        refine ⟨⟨j + 1, by omega, by go_num, ?_, HG.out.trans (grown_al _ _ _)⟩, by simp [intOf]; omega⟩
        rw [HS.out]
        exact HM.out.below (bl_al (bl0 _) _)
      | true =>
        rw [if_pos rfl] at hsu
        have HS := Lib.hid hsu
        have HN := Lib.hid n3
        clear hsu n3
        go_wp2_with fail
        refine (at_yes X Y j _ n1).mono ?_
        rintro e w5 ⟨rfl, hb5⟩
        have hb5' := bl_tr (bl_al (bl0 wr) (.cells #[.bool true, .int .u16 y] 92)) hb5
        clear hb5 C0 C1 q0 q1
        go_wp2_with fail
        have hb6 := bl_tr hb5' (bl_al (bl0 w5) (.cells #[.int .i64 ((j : Int) % X), .int .i64 ((j : Int) / X)] 26))
        refine (set_yes b hb X Y _ _ _ true _ (HM.out.below hb6) hgd hne n2).mono ?_
        rintro e w6 ⟨rfl, hm6, hg6⟩
        rw [HN.out, Int.toNat_natCast] at hm6
        have HM6 := Lib.hid hm6
        have HG6 := Lib.hid ((HG.out.trans (grown_weak (grown_of_below hb6) _)).trans hg6)
        clear hm6 hg6 hb6 hb5' n1 n2
        go_wp2
        refine ⟨⟨j + 1, by omega, by go_num, ?_, HG6.out⟩, by simp [intOf]; omega⟩
        rw [HS.out]
        exact HM6.out
    · have hge : (ms.length : Int) ≤ (j : Int) := by omega
      obtain rfl : j = ms.length := by omega
      have HM := Lib.hid hmr
      have HA := Lib.hid (hA1.grown hg hA1.size (fun r e => by cases e; omega))
      clear hmr hg hmk
      go_wp2
      go_ret
      exact ⟨b, hb, rfl, HM.out, hb1, hh1, hne, HA.out⟩
end Go.Proofs.Ytmcgkoleaomjlaa
