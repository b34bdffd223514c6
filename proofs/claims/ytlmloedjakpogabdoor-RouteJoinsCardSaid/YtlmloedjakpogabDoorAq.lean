/- Paths: the document's answer: Moves. -/
import Derived.Test.YtlmloedjakpogabDoorAo
import Derived.Test.YtlmloedjakpogabDoorAm
namespace Go.Proofs.YtlmloedjakpogabDoor
open Go.RowKit

theorem movAt_no {l : List IC} {k : Nat} (h : plB (cK l k) = false) : movAt l k = 10 := by
  cases k with
  | zero => rw [movAt_zero, if_neg (by rw [h]; decide)]
  | succ k => rw [movAt_succ, if_neg (by rw [h]; decide)]
theorem movL_snoc {l : List IC} {m : Nat} (h : m + 1 < l.length) : (movL l).take (m + 1) = (movL l).take m ++ [besI (cK l m) (cK l (m + 1))] := by
  unfold movL
  rw [← List.map_take, ← List.map_take, pairsF_snoc h, List.map_append]
  rfl

set_option maxRecDepth 100000 in
set_option maxHeartbeats 4000000 in
theorem rmoves9_any (b : Option Addr) (cap2 : Nat) (l : List IC) (w : World) (hrc : RowC w b l) (hl : l.length ≤ 1048576) :
    Calls Tryd.prog 15 #[.slice b l.length cap2] w fun e w' => ∃ v, e = .returned (.tuple #[v, .int .i64 (movE l)]) ∧ w'.ownsRow w.heap.size 5 1 v (movR l).length (cellsB (movR l)) ∧ Below w.heap.size w w' := by
  have hA := bl0 w
  by_cases hl0 : l = []
  · have h1 : movE l = 11 := by unfold movE; rw [if_pos hl0]
    have h2 : movR l = [] := by unfold movR; rw [if_neg (by rw [h1]; decide)]
    rw [h1, h2]
    subst hl0
    clear h1 h2
    go_enter Tryd.func15, Tryd.ntmps15
    go_wp2
    go_ret2
    exact ⟨_, rfl, World.ownsRow_nil _ _ _ _, hA⟩
  · have hme := movE_pos hl0
    have hp0 := List.length_pos_iff.2 hl0
    have hL0 : ((l.length : Int) == 0) = false := by rw [beq_eq_false_iff_ne]; omega
    obtain ⟨i0, hi, hz0, hz1, hz2⟩ := info_parts Tryd.infoU8
    have HME := Lib.hid hme
    clear hl0 hme
    go_enter Tryd.func15, Tryd.ntmps15
    go_wp2
    go_loopw [4, 5, 6] (fun v i _ wr => ∃ k : Nat, k ≤ l.length ∧ i = .int .i64 k ∧ firstE (movAt l) k = 0 ∧ wr.ownsRow w.heap.size 5 1 v ((movL l).take (k - 1)).length (cellsB ((movL l).take (k - 1))) ∧ Below w.heap.size w wr) (fun _ i _ _ => l.length - (intOf i).toNat)
    case atStart =>
      refine ⟨0, Nat.zero_le _, rfl, rfl, ⟨rfl, .inr ⟨w.heap.size, 0, #[], rfl, Nat.le_refl _, heap_alloc_new _ _, Nat.le_refl _, Nat.zero_le _, rfl, rfl⟩⟩, bl_al hA _⟩
    case round =>
      clear hA
      obtain ⟨k, hk, rfl, hfe, hown, hB⟩ := hrel
      by_cases hlt : k < l.length
      · have hlt2 : (k : Int) < (l.length : Int) := by omega
        have hk0 : (0 : Int) ≤ (k : Int) := by omega
        have hrc1 := hrc.below hB
        obtain ⟨gb, go, hbb, q0, q1⟩ := hrc1.two hlt
        have hnx : firstE (movAt l) (k + 1) = movAt l k := firstE_next hfe
        have hst : movAt l k ≠ 0 → firstE (movAt l) l.length = movAt l k := fun h => firstE_at hfe hlt h
        have hno := @movAt_no l k
        obtain ⟨E, hE⟩ : ∃ E, movAt l k = E := ⟨_, rfl⟩
        obtain ⟨c, hc⟩ : ∃ c, cK l k = c := ⟨_, rfl⟩
        rw [hE] at hnx hst hno
        rw [hc] at hno q0 q1
        cases hon : plB c
        · have hE10 := hno hon
          have hend := hst (by rw [hE10]; decide)
          rw [hE10] at hend
          have hme2 : movE l = 10 := HME.out.trans hend
          have hmr : movR l = [] := by unfold movR; rw [if_neg (by rw [hme2]; decide)]
          have HE := Lib.hid hme2; have HR := Lib.hid hmr
          have HON := Lib.hid (show plainB c.1 c.2 = false from hon)
          clear hno hnx hst hon hfe hE hc hE10 hend hrc1 hrc hme2 hmr hown
          subst hbb
          go_wp2_with fail
          refine (rplain9_any _ _ _).mono ?_
          rintro e wz ⟨rfl, hb⟩
          rw [HON.out]
          have hfin := bl_tr hB hb
          clear hb
          go_wp2
          go_ret2
          exact ⟨_, (by rw [HE.out]; rfl), by rw [HR.out]; exact World.ownsRow_nil _ _ _ _, hfin⟩
        · have HON := Lib.hid (show plainB c.1 c.2 = true from hon)
          have HST := Lib.hid hst
          subst hbb
          by_cases hk0' : k = 0
          · have hE2 : E = 0 := by rw [← hE, hk0', movAt_zero, if_pos (by rw [← hk0', hc]; exact hon)]
            have hf2 : firstE (movAt l) (k + 1) = 0 := by rw [hnx, hE2]
            have hd1 : decide ((0 : Int) < (k : Int)) = false := decide_eq_false (by omega)
            have hd2 : decide (0 < k) = false := decide_eq_false (by omega)
            have hkk : k + 1 - 1 = k - 1 := by omega
            have HF := Lib.hid hf2; have HKK := Lib.hid hkk
            clear hE2 hE hc hfe hk0' hon hno hnx hst hf2 hkk
            go_wp2_with fail
            refine (rplain9_any _ _ _).mono ?_
            rintro e wz ⟨rfl, hb⟩
            rw [HON.out]
            have hB2 := bl_tr hB hb
            have hown2 := own_later hown hb
            clear hb hown q0 q1
            go_wp2
            go_roundw
            case rel => exact ⟨k + 1, by omega, by go_num, HF.out, by rw [HKK.out]; exact hown2, hB2⟩
            case measure => simp [intOf]; omega
          · obtain ⟨m, hm⟩ : ∃ m, k = m + 1 := ⟨k - 1, by omega⟩
            have hd1 : decide ((0 : Int) < (k : Int)) = true := decide_eq_true (by omega)
            have hd2 : decide (0 < k) = true := decide_eq_true (by omega)
            have hpm : movAt l m = 0 := firstE_zero.1 hfe m (by omega)
            obtain ⟨gb', go', hh, p0, p1⟩ := hrc1.two (k := m) (by omega)
            cases hh
            have e5 : IntKind.i64.wrap ((k : Int) - 1) = (m : Int) := by rw [hm]; rw [show ((m + 1 : Nat) : Int) - 1 = m by omega]; exact IntWalk.i64_in _ (by omega)
            have hm0 : (0 : Int) ≤ (m : Int) := by omega
            have hm1 : (m : Int) < (l.length : Int) := by omega
            have hEE : E = if besI (cK l m) c = -1 then 11 else 0 := by rw [← hE, hm, movAt_succ, ← hm, hc, if_pos hon]
            have hplm := movAt_pl hpm
            have hbin := bes_in (cK l m) c
            have hcb := fun W => rbes_any (cK l m) c W hplm
            have hsn : (movL l).take (k + 1 - 1) = (movL l).take m ++ [besI (cK l m) c] := by
              rw [← hc, hm]
              exact movL_snoc (by omega)
            rw [show k - 1 = m by omega] at hown
            have hml : ((movL l).take m).length ≤ 1048576 := by rw [List.length_take, movL_len]; omega
            generalize cK l m = p at *
            generalize besI p c = d at *
            generalize (movL l).take m = ms at *
            have HEE := Lib.hid hEE; have HCB := Lib.hid hcb; have HSN := Lib.hid hsn
            have HNX := Lib.hid hnx
            clear hcb hm hpm hplm hE hc hfe hk0' hon hEE hsn hno hnx hst
            go_wp2_with fail
            refine (rplain9_any _ _ _).mono ?_
            rintro e wz ⟨rfl, hb⟩
            rw [HON.out]
            replace p0 := cell_later hb p0; replace p1 := cell_later hb p1; replace q0 := cell_later hb q0; replace q1 := cell_later hb q1
            have hB2 := bl_tr hB hb
            have hown2 := own_later hown hb
            clear hb hown hB
            have hk1 := bl0 wz
            have HP := Lib.hid (show ∀ W', Below wz.heap.size wz W' → W'.cell? ⟨gb, go + m * 2, none⟩ = some (.int .i64 p.1) ∧ W'.cell? ⟨gb, go + m * 2 + 1, none⟩ = some (.int .i64 p.2) ∧ W'.cell? ⟨gb, go + k * 2, none⟩ = some (.int .i64 c.1) ∧ W'.cell? ⟨gb, go + k * 2 + 1, none⟩ = some (.int .i64 c.2) from fun W' h => ⟨cell_later h p0, cell_later h p1, cell_later h q0, cell_later h q1⟩)
            go_upto_region 10 with fail
            go_region_held3 (fun W' => W'.cell? ⟨gb, go + m * 2, none⟩ = some (.int .i64 p.1) ∧ W'.cell? ⟨gb, go + m * 2 + 1, none⟩ = some (.int .i64 p.2) ∧ W'.cell? ⟨gb, go + k * 2, none⟩ = some (.int .i64 c.1) ∧ W'.cell? ⟨gb, go + k * 2 + 1, none⟩ = some (.int .i64 c.2))
              (first | exact HP.out _ hk1 | exact HP.out _ (bl_dr hk1))
              ((go_at_call 23; (with_reducible refine (HCB.out _).mono ?_); rintro e wy ⟨rfl, hb⟩; replace hk1 := bl_tr (bl_dr hk1) hb; clear hb))
            have hB3 := bl_tr hB2 hk1
            have hown3 := own_later hown2 hk1
            clear hk1 hB2 hown2 p0 p1 q0 q1 HP
            by_cases hd : d = -1
            · have hE2 := HEE.out
              rw [if_pos hd] at hE2
              have hme2 : movE l = 11 := HME.out.trans (by rw [HST.out (by rw [hE2]; decide), hE2])
              have hmr : movR l = [] := by unfold movR; rw [if_neg (by rw [hme2]; decide)]
              have HE := Lib.hid hme2; have HR := Lib.hid hmr
              have hd4 : d < 0 := by omega
              clear hE2 hd hbin hme2 hmr hown3
              go_wp2
              go_ret2
              exact ⟨_, (by rw [HE.out]; rfl), by rw [HR.out]; exact World.ownsRow_nil _ _ _ _, hB3⟩
            · have hE2 := HEE.out
              rw [if_neg hd] at hE2
              have hf2 : firstE (movAt l) (k + 1) = 0 := by rw [HNX.out, hE2]
              have HF := Lib.hid hf2
              have hd4 : ¬ d < 0 := by omega
              have e6 : IntKind.u8.wrap d = d := by rw [IntKind.wrap_u8]; omega
              clear hE2 hd hbin hf2
              go_wp2_with (at_builtin; refine wpList_append_own _ rfl _ _ 38 rfl w.heap.size 5 i0 (.int .u8 0) 1 1 Tryd.underlying38 hi hz0 hz1 hz2 rfl (by decide) _ _ _ rfl (hown3.alloc _) ⟨_, 0, none⟩ 1 1 [.int .u8 d] rfl rfl ?c1 ?c2 ?c3 ?c4 ?c5 ?_)
              case c2 => rfl
              case c3 => unfold maxLen; omega
              case c4 => omega
              case c5 => have := hB3.size; omega
              intro v' w5 hown' hgrow _
              have hB4 : Below w.heap.size w w5 := (bl_al hB3 _).grown hgrow (by have := hB3.size; simp; omega) (fun j hj => by have := (hown3.lt j hj).1; omega)
              have hown5 : w5.ownsRow w.heap.size 5 1 v' ((movL l).take (k + 1 - 1)).length (cellsB ((movL l).take (k + 1 - 1))) := by
                rw [HSN.out, cellsB_snoc, List.length_append]
                exact hown'
              clear hgrow hown3 hown'
              go_wp2
              go_roundw
              case rel => exact ⟨k + 1, by omega, by go_num, HF.out, hown5, hB4⟩
              case measure => simp [intOf]; omega
      · obtain rfl : k = l.length := by omega
        have hme2 : movE l = 0 := HME.out.trans hfe
        have hmr : movR l = movL l := by unfold movR; rw [if_pos hme2]
        rw [List.take_of_length_le (by rw [movL_len]; omega)] at hown
        have HE := Lib.hid hme2; have HR := Lib.hid hmr
        clear hfe hme2 hmr
        have hge : ¬ (l.length : Int) < (l.length : Int) := by omega
        go_wp2
        go_ret2
        exact ⟨_, (by rw [HE.out]; rfl), by rw [HR.out]; exact hown, hB⟩
end Go.Proofs.YtlmloedjakpogabDoor
