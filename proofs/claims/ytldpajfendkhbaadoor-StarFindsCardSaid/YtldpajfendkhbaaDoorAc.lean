/- Paths: what the maps' calls tell, each by one contract; a cell's cost. -/
import Derived.Test.YtldpajfendkhbaaDoorAcg
import Derived.Test.YtldpajfendkhbaaDoorVf
import Derived.Test.YtldpajfendkhbaaDoorWr
import Derived.Test.YtldpajfendkhbaaDoorOh
import Derived.Deep.RegionHeld3
namespace Go.Proofs.YtldpajfendkhbaaDoor
open Go.RowKit

theorem costAt_at {A B : Int} {zs : List Int} {c : IC} (hi : onB A B c = true) (hn : (zs.length : Int) = A * B) : ∃ j : Nat, c.2 * A + c.1 = j ∧ ∃ h : j < zs.length, zs[j] = costAt A zs c := by
  obtain ⟨h1, h2, h3, h4, h5, h6, h7, h8⟩ := inB_iff.1 hi
  obtain ⟨m1, m2⟩ := mul_bd h7 (by omega) h1 h2
  have e : (c.2 + 1) * A ≤ B * A := Int.mul_le_mul_of_nonneg_right (by omega) (by omega)
  rw [Int.add_mul, Int.one_mul, Int.mul_comm B A] at e
  refine ⟨(c.2 * A + c.1).toNat, by omega, by omega, ?_⟩
  unfold costAt
  rw [List.getD_eq_getElem?_getD, List.getElem?_eq_getElem (by omega)]
  rfl
set_option maxRecDepth 100000 in
set_option maxHeartbeats 2000000 in
theorem rcost_any (A B : Int) (a : Option Addr) (cap : Nat) (zs : List Int) (c : IC) (w : World) (hr : RowH w a zs) (hn : (zs.length : Int) = A * B) :
    Calls Tryd.prog 30 #[.agg #[.int .i64 A, .int .i64 B, .slice a zs.length cap], .agg #[.int .i64 c.1, .int .i64 c.2]] w fun e w' => e = .returned (.tuple #[.int .u16 (valC A B zs c), .int .i64 (errC A B zs c)]) ∧ Below w.heap.size w w' := by
  have hA := bl0 w
  cases hi : onB A B c
  · have e1 : errC A B zs c = 10 := by unfold errC; rw [if_neg (by rw [hi]; decide)]
    have e2 : valC A B zs c = 0 := by unfold valC; rw [if_neg (by rw [e1]; decide)]
    rw [e1, e2]
    go_enter Tryd.func30, Tryd.ntmps30
    go_wp2_with fail
    refine (index_no _ _ _ _ _ hi).mono ?_
    rintro e w1 ⟨rfl, hb⟩
    have hk : Below w.heap.size w w1 := by first | exact hb | exact bl_tr (bl_al (bl0 _) _) hb | exact bl_tr (bl_dr (bl_al (bl0 _) _)) hb | exact bl_tr (bl_al (bl_al (bl0 _) _) _) hb | exact bl_tr (bl_dr (bl_al (bl_al (bl0 _) _) _)) hb | exact bl_tr (bl_al (bl_al (bl_al (bl0 _) _) _) _) hb | exact bl_tr (bl_dr (bl_al (bl_al (bl_al (bl0 _) _) _) _)) hb | exact bl_tr (bl_al (bl_al (bl_al (bl_al (bl0 _) _) _) _) _) hb | exact bl_tr (bl_dr (bl_al (bl_al (bl_al (bl_al (bl0 _) _) _) _) _)) hb | exact bl_tr (bl_al (bl_al (bl_al (bl_al (bl_al (bl0 _) _) _) _) _) _) hb | exact bl_tr (bl_dr (bl_al (bl_al (bl_al (bl_al (bl_al (bl0 _) _) _) _) _) _)) hb | exact bl_tr (bl_al (bl_al (bl_al (bl_al (bl_al (bl_al (bl0 _) _) _) _) _) _) _) hb | exact bl_tr (bl_dr (bl_al (bl_al (bl_al (bl_al (bl_al (bl_al (bl0 _) _) _) _) _) _) _)) hb | exact bl_tr (bl_dr (bl0 _)) hb
    replace hA := bl_tr hA hk
    clear hb hk
    go_wp2
    go_ret2
    exact ⟨rfl, hA⟩
  · obtain ⟨j, hj, hl, hz⟩ := costAt_at hi hn
    have hj0 : (0 : Int) ≤ (j : Int) := by omega
    have hl2 : (j : Int) < (zs.length : Int) := by omega
    have e0 : errC A B zs c = if costAt A zs c = 0 then 21 else 0 := by unfold errC; rw [if_pos hi]
    by_cases h0 : costAt A zs c = 0
    · have e1 : errC A B zs c = 21 := by rw [e0, if_pos h0]
      have e2 : valC A B zs c = 0 := by unfold valC; rw [if_neg (by rw [e1]; decide)]
      rw [e1, e2]
      rw [h0] at hz
      clear e0 e1 e2
      go_enter Tryd.func30, Tryd.ntmps30
      go_wp2_with fail
      refine (index_yes _ _ _ _ _ hi).mono ?_
      rintro e w1 ⟨rfl, hb⟩
      have hk : Below w.heap.size w w1 := by first | exact hb | exact bl_tr (bl_al (bl0 _) _) hb | exact bl_tr (bl_dr (bl_al (bl0 _) _)) hb | exact bl_tr (bl_al (bl_al (bl0 _) _) _) hb | exact bl_tr (bl_dr (bl_al (bl_al (bl0 _) _) _)) hb | exact bl_tr (bl_al (bl_al (bl_al (bl0 _) _) _) _) hb | exact bl_tr (bl_dr (bl_al (bl_al (bl_al (bl0 _) _) _) _)) hb | exact bl_tr (bl_al (bl_al (bl_al (bl_al (bl0 _) _) _) _) _) hb | exact bl_tr (bl_dr (bl_al (bl_al (bl_al (bl_al (bl0 _) _) _) _) _)) hb | exact bl_tr (bl_al (bl_al (bl_al (bl_al (bl_al (bl0 _) _) _) _) _) _) hb | exact bl_tr (bl_dr (bl_al (bl_al (bl_al (bl_al (bl_al (bl0 _) _) _) _) _) _)) hb | exact bl_tr (bl_al (bl_al (bl_al (bl_al (bl_al (bl_al (bl0 _) _) _) _) _) _) _) hb | exact bl_tr (bl_dr (bl_al (bl_al (bl_al (bl_al (bl_al (bl_al (bl0 _) _) _) _) _) _) _)) hb | exact bl_tr (bl_dr (bl0 _)) hb
      replace hA := bl_tr hA hk
      have a0 := cell_later hb (v := .int .i64 A) (a := ⟨w.heap.size, 0, none⟩) (by simp [go_sem])
      have a1 := cell_later hb (v := .int .i64 B) (a := ⟨w.heap.size, 1, none⟩) (by simp [go_sem])
      have a2 := cell_later hb (v := .slice a zs.length cap) (a := ⟨w.heap.size, 2, none⟩) (by simp [go_sem])
      clear hb hk
      have za0 := blk_lt a0
      have za1 := blk_lt a1
      have za2 := blk_lt a2
      rw [hj]
      have hr1 := hr.below hA
      obtain ⟨gb, go, rfl, q⟩ := hr1.cell hl
      rw [hz] at q
      clear hj hi hn hr hr1 hz h0
      go_wp2
      go_ret2
      exact ⟨rfl, hA⟩
    · have e1 : errC A B zs c = 0 := by rw [e0, if_neg h0]
      have e2 : valC A B zs c = costAt A zs c := by unfold valC; rw [if_pos e1]
      rw [e1, e2]
      obtain ⟨z, hzz⟩ : ∃ z, costAt A zs c = z := ⟨_, rfl⟩
      rw [hzz] at hz h0 ⊢
      have h1 : (z == 0) = false := by rw [beq_eq_false_iff_ne]; exact h0
      clear e0 e1 e2 hzz h0
      go_enter Tryd.func30, Tryd.ntmps30
      go_wp2_with fail
      refine (index_yes _ _ _ _ _ hi).mono ?_
      rintro e w1 ⟨rfl, hb⟩
      have hk : Below w.heap.size w w1 := by first | exact hb | exact bl_tr (bl_al (bl0 _) _) hb | exact bl_tr (bl_dr (bl_al (bl0 _) _)) hb | exact bl_tr (bl_al (bl_al (bl0 _) _) _) hb | exact bl_tr (bl_dr (bl_al (bl_al (bl0 _) _) _)) hb | exact bl_tr (bl_al (bl_al (bl_al (bl0 _) _) _) _) hb | exact bl_tr (bl_dr (bl_al (bl_al (bl_al (bl0 _) _) _) _)) hb | exact bl_tr (bl_al (bl_al (bl_al (bl_al (bl0 _) _) _) _) _) hb | exact bl_tr (bl_dr (bl_al (bl_al (bl_al (bl_al (bl0 _) _) _) _) _)) hb | exact bl_tr (bl_al (bl_al (bl_al (bl_al (bl_al (bl0 _) _) _) _) _) _) hb | exact bl_tr (bl_dr (bl_al (bl_al (bl_al (bl_al (bl_al (bl0 _) _) _) _) _) _)) hb | exact bl_tr (bl_al (bl_al (bl_al (bl_al (bl_al (bl_al (bl0 _) _) _) _) _) _) _) hb | exact bl_tr (bl_dr (bl_al (bl_al (bl_al (bl_al (bl_al (bl_al (bl0 _) _) _) _) _) _) _)) hb | exact bl_tr (bl_dr (bl0 _)) hb
      replace hA := bl_tr hA hk
      have a0 := cell_later hb (v := .int .i64 A) (a := ⟨w.heap.size, 0, none⟩) (by simp [go_sem])
      have a1 := cell_later hb (v := .int .i64 B) (a := ⟨w.heap.size, 1, none⟩) (by simp [go_sem])
      have a2 := cell_later hb (v := .slice a zs.length cap) (a := ⟨w.heap.size, 2, none⟩) (by simp [go_sem])
      clear hb hk
      have za0 := blk_lt a0
      have za1 := blk_lt a1
      have za2 := blk_lt a2
      rw [hj]
      have hr1 := hr.below hA
      obtain ⟨gb, go, rfl, q⟩ := hr1.cell hl
      rw [hz] at q
      clear hj hi hn hr hr1 hz
      go_wp2
      go_ret2
      exact ⟨rfl, hA⟩
end Go.Proofs.YtldpajfendkhbaaDoor
