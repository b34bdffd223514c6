/- Parts: the reference's clusters beside one. -/
import Derived.Test.YtdajddcladapaaaDoorDs
namespace Go.Proofs.YtdajddcladapaaaDoor
open Go.RowKit

/-- What the reference finds in a direction. -/
def refZ (W H S : Int) (p : IC) (d : Int) : Int := if toP W H S p d = true then numP W S (stepI p d) else -1
theorem crn_bd {W H S : Int} {p : IC} {d : Int} (hr : rightP W H S = true) (h1 : 0 ≤ p.1) (h2 : p.1 < lieN W S) (h3 : 0 ≤ p.2) (h4 : p.2 < lieN H S) : 0 ≤ (crnP W H S p d).1 ∧ (crnP W H S p d).1 ≤ 600 ∧ 0 ≤ (crnP W H S p d).2 ∧ (crnP W H S p d).2 ≤ 600 := by
  obtain ⟨⟨t1, t2, t3, t4⟩, ⟨t5, t6, t7, t8⟩, t9, t10⟩ := bx_bd hr h1 h2 h3 h4
  unfold crnP
  refine ⟨?_, ?_, ?_, ?_⟩ <;> simp only <;> split <;> omega
theorem refZ_none {W H S : Int} {p : IC} {d : Int} (hr : rightP W H S = true) : (refZ W H S p d < 0 ↔ toP W H S p d = false) := by
  unfold refZ
  cases h : toP W H S p d
  · simp
  · simp only [if_true]
    have := (toP_iff hr).1 h
    unfold numP
    have m := Int.mul_nonneg this.2.2.1 (show 0 ≤ lieN W S by omega)
    simp; omega

def RbsR (l : List Int) (w : World) (e : Ending) (w' : World) : Prop := ∃ b c, e = .returned (.slice b l.length c) ∧ RowN w' b l ∧ Below w.heap.size w w'
set_option maxRecDepth 100000 in
set_option maxHeartbeats 8000000 in
theorem beside11 (W H S : Int) (a : Option Addr) (cap k : Nat) (w : World) (hr : rightP W H S = true) (hk : k < cntN W H S) (hrow : RowPP w a (boxL W H S)) :
    Calls Tryd.prog 20 #[.slice a (cntN W H S) cap, .int .i64 k] w fun e w' => RbsR (besP W H S k 4) w e w' := by
  obtain ⟨i0, hi, hz0, hz1, hz2⟩ := info_parts Tryd.infoN
  have hA := bl0 w
  obtain ⟨hn, n1, n2⟩ := cntN_eq hr
  obtain ⟨p1, p2, p3, p4, _⟩ := plc_in (id := (k : Int)) hr (by omega) (by omega)
  have HS8 := Lib.hid (fun (d : Int) (h0 : 0 ≤ d) (h4 : d < 4) w => (show Calls Tryd.prog 25 #[.agg #[.int .i64 (crnP W H S (plcP W S k) d).1, .int .i64 (crnP W H S (plcP W S k) d).2], .int .i64 d] w fun e w' => e = .returned (.agg #[.int .i64 (stepI (crnP W H S (plcP W S k) d) d).1, .int .i64 (stepI (crnP W H S (plcP W S k) d) d).2]) ∧ Below w.heap.size w w' by
    have b := crn_bd (d := d) hr p1 p2 p3 p4
    exact step8_p _ _ d w (by omega) h0 h4))
  have HOF := Lib.hid (fun (d : Int) (h0 : 0 ≤ d) (h4 : d < 4) b c w (h : RowPP w b (boxL W H S)) => (show Calls Tryd.prog 18 #[.slice b (cntN W H S) c, .agg #[.int .i64 (stepI (crnP W H S (plcP W S k) d) d).1, .int .i64 (stepI (crnP W H S (plcP W S k) d) d).2]] w fun e w' => e = .returned (.int .i64 (refZ W H S (plcP W S k) d)) ∧ Below w.heap.size w w' by
    have bb := crn_bd (d := d) hr p1 p2 p3 p4
    have hx : -2 ≤ (stepI (crnP W H S (plcP W S k) d) d).1 ∧ (stepI (crnP W H S (plcP W S k) d) d).1 ≤ 1000 ∧ -2 ≤ (stepI (crnP W H S (plcP W S k) d) d).2 ∧ (stepI (crnP W H S (plcP W S k) d) d).2 ≤ 1000 := by
      unfold stepI dxI dyI
      refine ⟨?_, ?_, ?_, ?_⟩ <;> simp only <;> (repeat' split) <;> omega
    have h := of11 W H S b c (stepI (crnP W H S (plcP W S k) d) d) w hr ⟨⟨by omega, by omega⟩, by omega, by omega⟩ h
    rw [bes_eq hr p1 p2 p3 p4 h0 h4] at h
    exact h))
  have HSN := Lib.hid (fun (j : Nat) => (show besP W H S k (j + 1) = besP W H S k j ++ (if refZ W H S (plcP W S k) j < 0 then [] else [refZ W H S (plcP W S k) j]) by
    rw [besP]
    by_cases ht : toP W H S (plcP W S k) j = true
    · rw [if_pos ht, if_neg (fun h => by have := (refZ_none hr).1 h; rw [ht] at this; cases this)]
      unfold refZ
      rw [if_pos ht]
    · rw [if_neg ht, if_pos ((refZ_none hr).2 (by simpa using ht))]))
  have HLN := Lib.hid (besP_len W H S k)
  have HZ := Lib.hid (fun j (h : j < (boxL W H S).length) => boxL_at h)
  have HBL := Lib.hid (boxL_len W H S)
  obtain ⟨⟨t1, t2, t3, t4⟩, ⟨t5, t6, t7, t8⟩, t9, t10⟩ := bx_bd hr p1 p2 p3 p4
  have hbx : bxF W H S k = ((bxX S (plcP W S k), bxY S (plcP W S k)), (bxW W S (plcP W S k), bxH H S (plcP W S k))) := rfl
  have HC0 := Lib.hid (show crnP W H S (plcP W S k) 0 = (bxX S (plcP W S k), bxY S (plcP W S k)) by rfl)
  have HC1 := Lib.hid (show crnP W H S (plcP W S k) 1 = (bxX S (plcP W S k) + bxW W S (plcP W S k) - 1, bxY S (plcP W S k)) by rfl)
  have HC2 := Lib.hid (show crnP W H S (plcP W S k) 2 = (bxX S (plcP W S k), bxY S (plcP W S k) + bxH H S (plcP W S k) - 1) by rfl)
  have HC3 := Lib.hid (show crnP W H S (plcP W S k) 3 = (bxX S (plcP W S k), bxY S (plcP W S k)) by rfl)
  have hw1 : IntKind.i64.wrap (bxX S (plcP W S k) + bxW W S (plcP W S k)) = bxX S (plcP W S k) + bxW W S (plcP W S k) := IntWalk.i64_in _ (by omega)
  have hw2 : IntKind.i64.wrap (bxX S (plcP W S k) + bxW W S (plcP W S k) - 1) = bxX S (plcP W S k) + bxW W S (plcP W S k) - 1 := IntWalk.i64_in _ (by omega)
  have hw3 : IntKind.i64.wrap (bxY S (plcP W S k) + bxH H S (plcP W S k)) = bxY S (plcP W S k) + bxH H S (plcP W S k) := IntWalk.i64_in _ (by omega)
  have hw4 : IntKind.i64.wrap (bxY S (plcP W S k) + bxH H S (plcP W S k) - 1) = bxY S (plcP W S k) + bxH H S (plcP W S k) - 1 := IntWalk.i64_in _ (by omega)
  obtain ⟨n, hnn⟩ : ∃ n, cntN W H S = n := ⟨_, rfl⟩
  rw [hnn] at HOF hk HBL ⊢
  have HBX := Lib.hid hbx
  obtain ⟨F, hF⟩ : ∃ F, besP W H S k = F := ⟨_, rfl⟩
  rw [hF] at HSN HLN ⊢
  have HNIL := Lib.hid (show F 0 = [] by rw [← hF]; rfl)
  have hk0 : (0 : Int) ≤ (k : Int) := by omega
  have hk2 : (k : Int) < (n : Int) := by omega
  generalize crnP W H S (plcP W S k) = cr at *
  generalize refZ W H S (plcP W S k) = rz at *
  generalize bxX S (plcP W S k) = X at *
  generalize bxY S (plcP W S k) = Y at *
  generalize bxW W S (plcP W S k) = U at *
  generalize bxH H S (plcP W S k) = V at *
  have HROW := Lib.hid hrow
  clear hn n1 n2 hnn hF hbx p1 p2 p3 p4 hr hrow
  go_enter Tryd.func20, Tryd.ntmps20
  go_wp2_with fail
  go_loopw [5, 6, 7, 8] (fun v i _ _ wr => ∃ j : Nat, j ≤ 4 ∧ i = .int .i64 j ∧ wr.ownsRow w.heap.size 3 1 v (F j).length (cellsN (F j)) ∧ Below w.heap.size w wr) (fun _ i _ _ _ => 4 - (intOf i).toNat)
  case atStart =>
    refine ⟨0, by omega, rfl, ?_, bl_al hA _⟩
    rw [HNIL.out]
    exact ⟨rfl, .inr ⟨w.heap.size, 0, #[], rfl, Nat.le_refl _, heap_alloc_new w _, Nat.le_refl _, Nat.zero_le _, rfl, rfl⟩⟩
  case round =>
    clear hA
    obtain ⟨j, hj, rfl, hown, hA⟩ := hrel
    obtain ⟨va, vc, rfl, hcp⟩ := own_shape hown
    by_cases hlt : j < 4
    · obtain ⟨gb, go, rfl, ⟨q0, q1⟩, q2, q3⟩ := (HROW.out.below hA).cell (k := k) (by rw [HBL.out]; exact hk)
      rw [HZ.out, HBX.out] at q0 q1 q2 q3
      simp only at q0 q1 q2 q3
      have hrow := HROW.out.below hA
      have zq := blk_lt q0
      obtain rfl | rfl | rfl | rfl : j = 0 ∨ j = 1 ∨ j = 2 ∨ j = 3 := by omega
      · have H8 := Lib.hid (HS8.out 0 (by omega) (by omega))
        have HO := Lib.hid (HOF.out 0 (by omega) (by omega))
        obtain ⟨st, hst⟩ : ∃ st, stepI (cr 0) 0 = st := ⟨_, rfl⟩
        rw [hst] at H8 HO
        rw [HC0.out] at H8
        clear hst
        go_upto_region 5 with fail
        go_region
        go_wp2_with fail
        refine (H8.out _).mono ?_
        rintro e w3 ⟨rfl, hb⟩
        have hk : Below wr.heap.size wr w3 := bl_tr (bl_dr (bl_al (bl0 _) _)) hb
        replace hA := bl_tr hA hk
        replace hown := own_later hown hk
        replace hrow := hrow.below hk
        clear hb hk q0 q1 q2 q3 zq
        go_wp2_with fail
        refine (HO.out _ _ _ hrow).mono ?_
        rintro e w4 ⟨rfl, hb⟩
        replace hA := bl_tr hA hb
        replace hown := own_later hown hb
        clear hb hrow
        have hsn := HSN.out 0
        have hln := HLN.out 0
        obtain ⟨z, hz⟩ : ∃ z, rz ((0 : Nat) : Int) = z := ⟨_, rfl⟩
        rw [hz] at hsn
        have hz' : rz 0 = z := hz
        rw [hz']
        clear hz hz'
        by_cases hzn : z < 0
        · have hz3 : ¬ 0 ≤ z := by omega
          rw [if_pos hzn, List.append_nil] at hsn
          have HS3 := Lib.hid hsn
          clear hsn
          go_wp2
          go_roundw
          case rel => exact ⟨0 + 1, by omega, rfl, by rw [HS3.out]; exact hown, hA⟩
          case measure => simp [intOf]
        · have hz3 : 0 ≤ z := by omega
          rw [if_neg hzn] at hsn
          have HS3 := Lib.hid hsn
          obtain ⟨m, hm⟩ : ∃ m, (F 0).length = m := ⟨_, rfl⟩
          rw [hm] at hown hcp hln ⊢
          have HM := Lib.hid hm
          clear hsn hm
          go_wp2_with (at_builtin; refine wpList_append_own _ rfl _ _ 38 rfl w.heap.size 3 i0 (.int .i64 0) 1 8 Tryd.underlying38 hi hz0 hz1 hz2 rfl (by decide) _ _ _ rfl (hown.alloc _) ⟨w4.heap.size, 0, none⟩ 1 1 [.int .i64 z] rfl rfl ?e01 ?e02 ?e03 ?e04 ?e05 ?_)
          try case e01 => exact cell_one _ _ _
          case e02 => (first | rfl | (intro u hu; simp at hu; rcases hu with rfl; rfl))
          case e03 => unfold maxLen; omega
          case e04 => omega
          case e05 => (have := hA.size; simp; omega)
          intro v' w5 hown' hgrow _
          have hB5 : Below w.heap.size w w5 := (bl_al hA (.cells #[.int .i64 z] 3)).grown hgrow (by have := hA.size; simp; omega) (fun j hj => by have := (hown.lt j hj).1; omega)
          rw [← cellsN_snoc, ← HS3.out] at hown'
          have hlen : m + 1 = (F (0 + 1)).length := by rw [HS3.out, List.length_append, HM.out]; rfl
          rw [hlen] at hown'
          clear hgrow hown hA hlen
          go_wp2
          go_roundw
          case rel => exact ⟨0 + 1, by omega, rfl, hown', hB5⟩
          case measure => simp [intOf]
      · have H8 := Lib.hid (HS8.out 1 (by omega) (by omega))
        have HO := Lib.hid (HOF.out 1 (by omega) (by omega))
        obtain ⟨st, hst⟩ : ∃ st, stepI (cr 1) 1 = st := ⟨_, rfl⟩
        rw [hst] at H8 HO
        rw [HC1.out] at H8
        clear hst
        go_upto_region 5 with fail
        go_region
        all_goals go_upto_region 7 with fail
        all_goals go_region
        go_wp2_with fail
        refine (H8.out _).mono ?_
        rintro e w3 ⟨rfl, hb⟩
        have hk : Below wr.heap.size wr w3 := by first | exact bl_tr (bl_dr (bl_dr (bl_al (bl0 _) _))) hb | exact bl_tr (bl_dr (bl_al (bl0 _) _)) hb | exact bl_tr (bl_al (bl_dr (bl_dr (bl0 _))) _) hb | exact bl_tr (bl_al (bl_drn _ _) _) hb
        replace hA := bl_tr hA hk
        replace hown := own_later hown hk
        replace hrow := hrow.below hk
        clear hb hk q0 q1 q2 q3 zq
        go_wp2_with fail
        refine (HO.out _ _ _ hrow).mono ?_
        rintro e w4 ⟨rfl, hb⟩
        replace hA := bl_tr hA hb
        replace hown := own_later hown hb
        clear hb hrow
        have hsn := HSN.out 1
        have hln := HLN.out 1
        obtain ⟨z, hz⟩ : ∃ z, rz ((1 : Nat) : Int) = z := ⟨_, rfl⟩
        rw [hz] at hsn
        have hz' : rz 1 = z := hz
        rw [hz']
        clear hz hz'
        by_cases hzn : z < 0
        · have hz3 : ¬ 0 ≤ z := by omega
          rw [if_pos hzn, List.append_nil] at hsn
          have HS3 := Lib.hid hsn
          clear hsn
          go_wp2
          go_roundw
          case rel => exact ⟨1 + 1, by omega, rfl, by rw [HS3.out]; exact hown, hA⟩
          case measure => simp [intOf]
        · have hz3 : 0 ≤ z := by omega
          rw [if_neg hzn] at hsn
          have HS3 := Lib.hid hsn
          obtain ⟨m, hm⟩ : ∃ m, (F 1).length = m := ⟨_, rfl⟩
          rw [hm] at hown hcp hln ⊢
          have HM := Lib.hid hm
          clear hsn hm
          go_wp2_with (at_builtin; refine wpList_append_own _ rfl _ _ 38 rfl w.heap.size 3 i0 (.int .i64 0) 1 8 Tryd.underlying38 hi hz0 hz1 hz2 rfl (by decide) _ _ _ rfl (hown.alloc _) ⟨w4.heap.size, 0, none⟩ 1 1 [.int .i64 z] rfl rfl ?e11 ?e12 ?e13 ?e14 ?e15 ?_)
          try case e11 => exact cell_one _ _ _
          case e12 => (first | rfl | (intro u hu; simp at hu; rcases hu with rfl; rfl))
          case e13 => unfold maxLen; omega
          case e14 => omega
          case e15 => (have := hA.size; simp; omega)
          intro v' w5 hown' hgrow _
          have hB5 : Below w.heap.size w w5 := (bl_al hA (.cells #[.int .i64 z] 3)).grown hgrow (by have := hA.size; simp; omega) (fun j hj => by have := (hown.lt j hj).1; omega)
          rw [← cellsN_snoc, ← HS3.out] at hown'
          have hlen : m + 1 = (F (1 + 1)).length := by rw [HS3.out, List.length_append, HM.out]; rfl
          rw [hlen] at hown'
          clear hgrow hown hA hlen
          go_wp2
          go_roundw
          case rel => exact ⟨1 + 1, by omega, rfl, hown', hB5⟩
          case measure => simp [intOf]
      · have H8 := Lib.hid (HS8.out 2 (by omega) (by omega))
        have HO := Lib.hid (HOF.out 2 (by omega) (by omega))
        obtain ⟨st, hst⟩ : ∃ st, stepI (cr 2) 2 = st := ⟨_, rfl⟩
        rw [hst] at H8 HO
        rw [HC2.out] at H8
        clear hst
        go_upto_region 5 with fail
        go_region
        all_goals go_upto_region 9 with fail
        all_goals go_region
        go_wp2_with fail
        refine (H8.out _).mono ?_
        rintro e w3 ⟨rfl, hb⟩
        have hk : Below wr.heap.size wr w3 := by first | exact bl_tr (bl_dr (bl_dr (bl_al (bl0 _) _))) hb | exact bl_tr (bl_dr (bl_al (bl0 _) _)) hb | exact bl_tr (bl_al (bl_dr (bl_dr (bl0 _))) _) hb | exact bl_tr (bl_al (bl_drn _ _) _) hb
        replace hA := bl_tr hA hk
        replace hown := own_later hown hk
        replace hrow := hrow.below hk
        clear hb hk q0 q1 q2 q3 zq
        go_wp2_with fail
        refine (HO.out _ _ _ hrow).mono ?_
        rintro e w4 ⟨rfl, hb⟩
        replace hA := bl_tr hA hb
        replace hown := own_later hown hb
        clear hb hrow
        have hsn := HSN.out 2
        have hln := HLN.out 2
        obtain ⟨z, hz⟩ : ∃ z, rz ((2 : Nat) : Int) = z := ⟨_, rfl⟩
        rw [hz] at hsn
        have hz' : rz 2 = z := hz
        rw [hz']
        clear hz hz'
        by_cases hzn : z < 0
        · have hz3 : ¬ 0 ≤ z := by omega
          rw [if_pos hzn, List.append_nil] at hsn
          have HS3 := Lib.hid hsn
          clear hsn
          go_wp2
          go_roundw
          case rel => exact ⟨2 + 1, by omega, rfl, by rw [HS3.out]; exact hown, hA⟩
          case measure => simp [intOf]
        · have hz3 : 0 ≤ z := by omega
          rw [if_neg hzn] at hsn
          have HS3 := Lib.hid hsn
          obtain ⟨m, hm⟩ : ∃ m, (F 2).length = m := ⟨_, rfl⟩
          rw [hm] at hown hcp hln ⊢
          have HM := Lib.hid hm
          clear hsn hm
          go_wp2_with (at_builtin; refine wpList_append_own _ rfl _ _ 38 rfl w.heap.size 3 i0 (.int .i64 0) 1 8 Tryd.underlying38 hi hz0 hz1 hz2 rfl (by decide) _ _ _ rfl (hown.alloc _) ⟨w4.heap.size, 0, none⟩ 1 1 [.int .i64 z] rfl rfl ?e21 ?e22 ?e23 ?e24 ?e25 ?_)
          try case e21 => exact cell_one _ _ _
          case e22 => (first | rfl | (intro u hu; simp at hu; rcases hu with rfl; rfl))
          case e23 => unfold maxLen; omega
          case e24 => omega
          case e25 => (have := hA.size; simp; omega)
          intro v' w5 hown' hgrow _
          have hB5 : Below w.heap.size w w5 := (bl_al hA (.cells #[.int .i64 z] 3)).grown hgrow (by have := hA.size; simp; omega) (fun j hj => by have := (hown.lt j hj).1; omega)
          rw [← cellsN_snoc, ← HS3.out] at hown'
          have hlen : m + 1 = (F (2 + 1)).length := by rw [HS3.out, List.length_append, HM.out]; rfl
          rw [hlen] at hown'
          clear hgrow hown hA hlen
          go_wp2
          go_roundw
          case rel => exact ⟨2 + 1, by omega, rfl, hown', hB5⟩
          case measure => simp [intOf]
      · have H8 := Lib.hid (HS8.out 3 (by omega) (by omega))
        have HO := Lib.hid (HOF.out 3 (by omega) (by omega))
        obtain ⟨st, hst⟩ : ∃ st, stepI (cr 3) 3 = st := ⟨_, rfl⟩
        rw [hst] at H8 HO
        rw [HC3.out] at H8
        clear hst
        go_upto_region 5 with fail
        go_region
        go_wp2_with fail
        refine (H8.out _).mono ?_
        rintro e w3 ⟨rfl, hb⟩
        have hk : Below wr.heap.size wr w3 := bl_tr (bl_dr (bl_al (bl0 _) _)) hb
        replace hA := bl_tr hA hk
        replace hown := own_later hown hk
        replace hrow := hrow.below hk
        clear hb hk q0 q1 q2 q3 zq
        go_wp2_with fail
        refine (HO.out _ _ _ hrow).mono ?_
        rintro e w4 ⟨rfl, hb⟩
        replace hA := bl_tr hA hb
        replace hown := own_later hown hb
        clear hb hrow
        have hsn := HSN.out 3
        have hln := HLN.out 3
        obtain ⟨z, hz⟩ : ∃ z, rz ((3 : Nat) : Int) = z := ⟨_, rfl⟩
        rw [hz] at hsn
        have hz' : rz 3 = z := hz
        rw [hz']
        clear hz hz'
        by_cases hzn : z < 0
        · have hz3 : ¬ 0 ≤ z := by omega
          rw [if_pos hzn, List.append_nil] at hsn
          have HS3 := Lib.hid hsn
          clear hsn
          go_wp2
          go_roundw
          case rel => exact ⟨3 + 1, by omega, rfl, by rw [HS3.out]; exact hown, hA⟩
          case measure => simp [intOf]
        · have hz3 : 0 ≤ z := by omega
          rw [if_neg hzn] at hsn
          have HS3 := Lib.hid hsn
          obtain ⟨m, hm⟩ : ∃ m, (F 3).length = m := ⟨_, rfl⟩
          rw [hm] at hown hcp hln ⊢
          have HM := Lib.hid hm
          clear hsn hm
          go_wp2_with (at_builtin; refine wpList_append_own _ rfl _ _ 38 rfl w.heap.size 3 i0 (.int .i64 0) 1 8 Tryd.underlying38 hi hz0 hz1 hz2 rfl (by decide) _ _ _ rfl (hown.alloc _) ⟨w4.heap.size, 0, none⟩ 1 1 [.int .i64 z] rfl rfl ?e31 ?e32 ?e33 ?e34 ?e35 ?_)
          try case e31 => exact cell_one _ _ _
          case e32 => (first | rfl | (intro u hu; simp at hu; rcases hu with rfl; rfl))
          case e33 => unfold maxLen; omega
          case e34 => omega
          case e35 => (have := hA.size; simp; omega)
          intro v' w5 hown' hgrow _
          have hB5 : Below w.heap.size w w5 := (bl_al hA (.cells #[.int .i64 z] 3)).grown hgrow (by have := hA.size; simp; omega) (fun j hj => by have := (hown.lt j hj).1; omega)
          rw [← cellsN_snoc, ← HS3.out] at hown'
          have hlen : m + 1 = (F (3 + 1)).length := by rw [HS3.out, List.length_append, HM.out]; rfl
          rw [hlen] at hown'
          clear hgrow hown hA hlen
          go_wp2
          go_roundw
          case rel => exact ⟨3 + 1, by omega, rfl, hown', hB5⟩
          case measure => simp [intOf]
    · obtain rfl : j = 4 := by omega
      have hrow := rowN_of_own hown
      have HR := Lib.hid (show ∀ e, e = Ending.returned (.slice va (F 4).length vc) → RbsR (F 4) w e wr from fun e he => ⟨va, vc, he, hrow, hA⟩)
      go_wp2
      go_ret
      exact HR.out _ rfl
end Go.Proofs.YtdajddcladapaaaDoor
