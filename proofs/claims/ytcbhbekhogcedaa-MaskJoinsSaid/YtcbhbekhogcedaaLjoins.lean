/- MaskJoins: the law's walk. -/
import Derived.Test.YtcbhbekhogcedaaKo
import Derived.Test.YtcbhbekhogcedaaOh
import Derived.RangeFuncCalls
namespace Go.Proofs.Ytcbhbekhogcedaa
open Go.RowKit

set_option maxRecDepth 100000 in
set_option maxHeartbeats 4000000 in
theorem joins_walk (A B : Int) (a0 a1 : Option Addr) (c0 c1 : Nat) (z0 z1 : List (Int × Int)) (x y : Int) (w : World) (r0 : RowC w a0 z0) (r1 : RowC w a1 z1) :
    Calls Try.prog 5 #[.agg #[.int .i64 A, .int .i64 B], .agg #[.slice a0 z0.length c0, .slice a1 z1.length c1], .agg #[.int .i64 x, .int .i64 y]] w fun e w' => e = .returned (.bool true) ∧ Below w.heap.size w w' := by
  have hA := bl0 w
  go_enter Try.func5, Try.ntmps5
  go_wp2_with fail
  refine (small_any _ _ _).mono ?_
  rintro e w1 ⟨rfl, hb⟩
  have hk : Below w.heap.size w w1 := by first | exact hb | exact bl_tr (bl_al (bl0 _) _) hb | exact bl_tr (bl_dr (bl_al (bl0 _) _)) hb | exact bl_tr (bl_al (bl_al (bl0 _) _) _) hb | exact bl_tr (bl_dr (bl_al (bl_al (bl0 _) _) _)) hb | exact bl_tr (bl_al (bl_al (bl_al (bl0 _) _) _) _) hb | exact bl_tr (bl_dr (bl_al (bl_al (bl_al (bl0 _) _) _) _)) hb | exact bl_tr (bl_al (bl_al (bl_al (bl_al (bl0 _) _) _) _) _) hb | exact bl_tr (bl_dr (bl_al (bl_al (bl_al (bl_al (bl0 _) _) _) _) _)) hb | exact bl_tr (bl_al (bl_al (bl_al (bl_al (bl_al (bl0 _) _) _) _) _) _) hb | exact bl_tr (bl_dr (bl_al (bl_al (bl_al (bl_al (bl_al (bl0 _) _) _) _) _) _)) hb | exact bl_tr (bl_al (bl_al (bl_al (bl_al (bl_al (bl_al (bl0 _) _) _) _) _) _) _) hb | exact bl_tr (bl_dr (bl_al (bl_al (bl_al (bl_al (bl_al (bl_al (bl0 _) _) _) _) _) _) _)) hb | exact bl_tr (bl_dr (bl0 _)) hb
  replace hA := bl_tr hA hk
  have s0 := cell_later hb (v := .int .i64 A) (a := ⟨w.heap.size, 0, none⟩) (by simp [go_sem])
  have s1 := cell_later hb (v := .int .i64 B) (a := ⟨w.heap.size, 1, none⟩) (by simp [go_sem])
  have t0 := cell_later hb (v := .slice a0 z0.length c0) (a := ⟨w.heap.size + 1, 0, none⟩) (by simp [go_sem])
  have t1 := cell_later hb (v := .slice a1 z1.length c1) (a := ⟨w.heap.size + 1, 1, none⟩) (by simp [go_sem])
  have p0 := cell_later hb (v := .int .i64 x) (a := ⟨w.heap.size + 1 + 1, 0, none⟩) (by simp [go_sem])
  have p1 := cell_later hb (v := .int .i64 y) (a := ⟨w.heap.size + 1 + 1, 1, none⟩) (by simp [go_sem])
  clear hb hk
  have zs0 := blk_lt s0
  have zs1 := blk_lt s1
  have zt0 := blk_lt t0
  have zt1 := blk_lt t1
  have zp0 := blk_lt p0
  have zp1 := blk_lt p1
  cases hsm : smallB A B
  case' false =>
    go_wp2_with fail
    refine (awake_any _).mono ?_
    rintro e w9 ⟨rfl, hb⟩
    have hA9 := bl_tr hA hb
    clear hb
    go_wp2
    go_ret
    exact ⟨rfl, hA9⟩
  case' true =>
    by_cases l0 : (100 : Int) < (z0.length : Int)
    case' pos =>
      go_wp2_with fail
      refine (awake_any _).mono ?_
      rintro e w9 ⟨rfl, hb⟩
      have hA9 := bl_tr hA hb
      clear hb
      go_wp2
      go_ret
      exact ⟨rfl, hA9⟩
    case' neg =>
      by_cases l1 : (100 : Int) < (z1.length : Int)
      case' pos =>
        go_wp2_with fail
        refine (awake_any _).mono ?_
        rintro e w9 ⟨rfl, hb⟩
        have hA9 := bl_tr hA hb
        clear hb
        go_wp2
        go_ret
        exact ⟨rfl, hA9⟩
      case' neg =>
        go_wp2_with fail
        refine (may_any _ _ _).mono ?_
        rintro e wk ⟨rfl, hb⟩
        have hk : Below w1.heap.size w1 wk := by first | exact hb | exact bl_tr (bl_al (bl0 _) _) hb | exact bl_tr (bl_dr (bl_al (bl0 _) _)) hb | exact bl_tr (bl_al (bl_al (bl0 _) _) _) hb | exact bl_tr (bl_dr (bl_al (bl_al (bl0 _) _) _)) hb | exact bl_tr (bl_al (bl_al (bl_al (bl0 _) _) _) _) hb | exact bl_tr (bl_dr (bl_al (bl_al (bl_al (bl0 _) _) _) _)) hb | exact bl_tr (bl_al (bl_al (bl_al (bl_al (bl0 _) _) _) _) _) hb | exact bl_tr (bl_dr (bl_al (bl_al (bl_al (bl_al (bl0 _) _) _) _) _)) hb | exact bl_tr (bl_al (bl_al (bl_al (bl_al (bl_al (bl0 _) _) _) _) _) _) hb | exact bl_tr (bl_dr (bl_al (bl_al (bl_al (bl_al (bl_al (bl0 _) _) _) _) _) _)) hb | exact bl_tr (bl_al (bl_al (bl_al (bl_al (bl_al (bl_al (bl0 _) _) _) _) _) _) _) hb | exact bl_tr (bl_dr (bl_al (bl_al (bl_al (bl_al (bl_al (bl_al (bl0 _) _) _) _) _) _) _)) hb | exact bl_tr (bl_dr (bl0 _)) hb
        replace hA := bl_tr hA hk
        replace s0 := cell_later hk s0
        replace s1 := cell_later hk s1
        replace t0 := cell_later hk t0
        replace t1 := cell_later hk t1
        replace p0 := cell_later hk p0
        replace p1 := cell_later hk p1
        clear hb hk
        have zs0 := blk_lt s0
        have zs1 := blk_lt s1
        have zt0 := blk_lt t0
        have zt1 := blk_lt t1
        have zp0 := blk_lt p0
        have zp1 := blk_lt p1
        cases hma : mayB A B
        case' false =>
          go_wp2_with fail
          refine (awake_any _).mono ?_
          rintro e w9 ⟨rfl, hb⟩
          have hA9 := bl_tr hA hb
          clear hb
          go_wp2
          go_ret
          exact ⟨rfl, hA9⟩
        case' true =>
          clear hsm
          go_upto_region 3 with fail
          have hb := bl_dr (bl0 wk)
          replace hA := bl_tr hA hb; replace s0 := cell_later hb s0; replace s1 := cell_later hb s1; replace t0 := cell_later hb t0; replace t1 := cell_later hb t1; replace p0 := cell_later hb p0; replace p1 := cell_later hb p1; clear hb
          go_region_held3 (fun w' => w'.cell? ⟨w.heap.size, 0, none⟩ = some (.int .i64 A) ∧ w'.cell? ⟨w.heap.size, 1, none⟩ = some (.int .i64 B) ∧ w'.cell? ⟨w.heap.size + 1, 0, none⟩ = some (.slice a0 z0.length c0))
            (exact ⟨s0, s1, t0⟩)
            (first
              | (go_at_call 29; (with_reducible refine (inside_any A B a0 c0 z0 _ (r0.below hA) (by omega)).mono ?_); rintro e wk ⟨a9, cap9, rfl, hrc, hb⟩; have HRC := Lib.hid hrc; replace hA := bl_tr hA hb; replace s0 := cell_later hb s0; replace s1 := cell_later hb s1; replace t0 := cell_later hb t0; replace t1 := cell_later hb t1; replace p0 := cell_later hb p0; replace p1 := cell_later hb p1; clear hb; clear hrc)
              | (go_at_call 28; (with_reducible refine (made_yes A B a9 cap9 (onMap A B z0) _ hma HRC.out (Nat.le_trans (onMap_le _ _ _) (by omega)) (onMap_in A B z0)).mono ?_); rintro e wk ⟨b0, h0, rfl, m0, o0, o0', n0, hb⟩; replace hA := bl_tr hA hb; replace s0 := cell_later hb s0; replace s1 := cell_later hb s1; replace t0 := cell_later hb t0; replace t1 := cell_later hb t1; replace p0 := cell_later hb p0; replace p1 := cell_later hb p1; clear hb))
          have m0' : MaskAt wk b0 h0 A B (setOf A B z0) := m0
          clear m0
          have m0 := m0'
          clear m0' HRC
          have l0b := m0.lt
          go_upto_region 4 with fail
          have hb := bl_dr (bl0 wk)
          replace hA := bl_tr hA hb; replace s0 := cell_later hb s0; replace s1 := cell_later hb s1; replace t0 := cell_later hb t0; replace t1 := cell_later hb t1; replace p0 := cell_later hb p0; replace p1 := cell_later hb p1; replace m0 := m0.below hb; clear hb
          go_region_held3 (fun w' => w'.cell? ⟨w.heap.size, 0, none⟩ = some (.int .i64 A) ∧ w'.cell? ⟨w.heap.size, 1, none⟩ = some (.int .i64 B) ∧ w'.cell? ⟨w.heap.size + 1, 1, none⟩ = some (.slice a1 z1.length c1))
            (exact ⟨s0, s1, t1⟩)
            (first
              | (go_at_call 29; (with_reducible refine (inside_any A B a1 c1 z1 _ (r1.below hA) (by omega)).mono ?_); rintro e wk ⟨a9, cap9, rfl, hrc, hb⟩; have HRC := Lib.hid hrc; replace hA := bl_tr hA hb; replace s0 := cell_later hb s0; replace s1 := cell_later hb s1; replace t0 := cell_later hb t0; replace t1 := cell_later hb t1; replace p0 := cell_later hb p0; replace p1 := cell_later hb p1; replace m0 := m0.below hb; clear hb; clear hrc)
              | (go_at_call 28; (with_reducible refine (made_yes A B a9 cap9 (onMap A B z1) _ hma HRC.out (Nat.le_trans (onMap_le _ _ _) (by omega)) (onMap_in A B z1)).mono ?_); rintro e wk ⟨b1, h1, rfl, m1, o1, o1', n1, hb⟩; replace hA := bl_tr hA hb; replace s0 := cell_later hb s0; replace s1 := cell_later hb s1; replace t0 := cell_later hb t0; replace t1 := cell_later hb t1; replace p0 := cell_later hb p0; replace p1 := cell_later hb p1; replace m0 := m0.below hb; clear hb))
          have m1' : MaskAt wk b1 h1 A B (setOf A B z1) := m1
          clear m1
          have m1 := m1'
          clear m1' HRC
          have g0 := setOf_good hma z0
          have g1 := setOf_good hma z1
          have HZ := Lib.hid (show setOf A B z1 = setOf A B z1 from rfl)
          obtain ⟨ds, hds⟩ : ∃ ds, setOf A B z1 = ds := ⟨_, rfl⟩
          have HDS := Lib.hid hds
          rw [hds] at m1 g1
          clear hds HZ
          generalize setOf A B z0 = cs at m0 g0
          have q0 := m0.lt
          have q1 := m1.lt
          have zp := blk_lt p0
          go_wp2_with fail
          refine (clone_any b0 h0 A B cs _ m0 g0.small).mono ?_
          rintro e wk ⟨b2, h2, rfl, m2, o2, o2', n2, hb⟩
          have d1 : b0 ≠ h2 := by omega
          have d2 : h0 ≠ h2 := by omega
          have d3 : b1 ≠ h2 := by omega
          have d4 : h1 ≠ h2 := by omega
          have d5 : w.heap.size + 1 + 1 < h2 := by omega
          replace hA := bl_tr hA hb; replace s0 := cell_later hb s0; replace s1 := cell_later hb s1; replace t0 := cell_later hb t0; replace t1 := cell_later hb t1; replace p0 := cell_later hb p0; replace p1 := cell_later hb p1; replace m0 := m0.below hb; replace m1 := m1.below hb; clear hb
          clear q0 q1 zp o2 o2'
          have q0 := m0.lt
          have q1 := m1.lt
          have q2 := m2.lt
          have zp := blk_lt p0
          go_wp2_with fail
          refine (clone_any b0 h0 A B cs _ m0 g0.small).mono ?_
          rintro e wk ⟨b3, h3, rfl, m3, o3, o3', n3, hb⟩
          have e1 : b0 ≠ h3 := by omega
          have e2 : h0 ≠ h3 := by omega
          have e3 : b1 ≠ h3 := by omega
          have e4 : h1 ≠ h3 := by omega
          have e5 : w.heap.size + 1 + 1 < h3 := by omega
          have e6 : b2 ≠ h3 := by omega
          have e7 : h2 ≠ h3 := by omega
          have e8 : b3 ≠ h2 := by omega
          have e9 : h3 ≠ h2 := by omega
          replace hA := bl_tr hA hb; replace s0 := cell_later hb s0; replace s1 := cell_later hb s1; replace t0 := cell_later hb t0; replace t1 := cell_later hb t1; replace p0 := cell_later hb p0; replace p1 := cell_later hb p1; replace m0 := m0.below hb; replace m1 := m1.below hb; replace m2 := m2.below hb; clear hb
          clear q0 q1 q2 zp o3 o3'
          have g2 := g0.and g1
          have g3 := g0.or g1
          obtain ⟨so, bo, ca, cb, n, k, hso, hbo, hca, hcb, hn, hk, ⟨so0, so1⟩, ⟨bo0, bo1⟩, ⟨ca0, ca1⟩, ⟨cb0, cb1⟩, ⟨n0', n1'⟩, ⟨k0, k1⟩, f1, f2, f3⟩ := joins_numbers g0 g1
          have F1 : (so != ca + n) = false := by simp [f1]
          have F2 : (bo != ca - k) = false := by simp [f2]
          have F3 : (so + bo != ca + cb) = false := by simp [f3]
          have HSO := Lib.hid hso
          have HBO := Lib.hid hbo
          have HCA := Lib.hid hca
          have HCB := Lib.hid hcb
          have HNN := Lib.hid hn
          have HKK := Lib.hid hk
          have x1 : ca + n ≤ 1200000 := by omega
          have x2 : -600000 ≤ ca - k := by omega
          clear hso hbo hca hcb hn hk f1 f2 f3
          go_wp2_with fail
          refine (add_as n b3 h3 b1 h1 A B cs ds _ m3 m1 g0 g1 n3 e3 e4 HNN.out).mono ?_
          clear m3
          rintro e wk ⟨rfl, m3, hg⟩
          replace hA := hA.grown hg hA.size (fun r e => by cases e; omega)
          replace s0 := hg.cell s0 (by simp; omega)
          replace s1 := hg.cell s1 (by simp; omega)
          replace t0 := hg.cell t0 (by simp; omega)
          replace t1 := hg.cell t1 (by simp; omega)
          replace p0 := hg.cell p0 (by simp; omega)
          replace p1 := hg.cell p1 (by simp; omega)
          replace m0 := m0.row hg (by omega) (by omega)
          replace m1 := m1.row hg (by omega) (by omega)
          replace m2 := m2.row hg (by omega) (by omega)
          clear hg
          go_wp2_with fail
          refine (keep_as k b2 h2 b1 h1 A B cs ds _ m2 m1 g0 g1 n2 d3 d4 HKK.out).mono ?_
          clear m2
          rintro e wk ⟨rfl, m2, hg⟩
          replace hA := hA.grown hg hA.size (fun r e => by cases e; omega)
          replace s0 := hg.cell s0 (by simp; omega)
          replace s1 := hg.cell s1 (by simp; omega)
          replace t0 := hg.cell t0 (by simp; omega)
          replace t1 := hg.cell t1 (by simp; omega)
          replace p0 := hg.cell p0 (by simp; omega)
          replace p1 := hg.cell p1 (by simp; omega)
          replace m0 := m0.row hg (by omega) (by omega)
          replace m1 := m1.row hg (by omega) (by omega)
          replace m3 := m3.row hg (by omega) (by omega)
          clear hg
          go_wp2_with fail
          refine (count_as so b3 h3 A B _ _ m3 g3 HSO.out).mono ?_
          rintro e w9 ⟨rfl, rfl⟩
          go_wp2_with fail
          refine (count_as ca b0 h0 A B _ _ m0 g0 HCA.out).mono ?_
          rintro e w9 ⟨rfl, rfl⟩
          go_wp2_with fail
          refine (count_as bo b2 h2 A B _ _ m2 g2 HBO.out).mono ?_
          rintro e w9 ⟨rfl, rfl⟩
          go_wp2_with fail
          refine (count_as ca b0 h0 A B _ _ m0 g0 HCA.out).mono ?_
          rintro e w9 ⟨rfl, rfl⟩
          go_wp2_with fail
          refine (count_as so b3 h3 A B _ _ m3 g3 HSO.out).mono ?_
          rintro e w9 ⟨rfl, rfl⟩
          go_wp2_with fail
          refine (count_as bo b2 h2 A B _ _ m2 g2 HBO.out).mono ?_
          rintro e w9 ⟨rfl, rfl⟩
          go_wp2_with fail
          refine (count_as ca b0 h0 A B _ _ m0 g0 HCA.out).mono ?_
          rintro e w9 ⟨rfl, rfl⟩
          go_wp2_with fail
          refine (count_as cb b1 h1 A B _ _ m1 g1 HCB.out).mono ?_
          rintro e w9 ⟨rfl, rfl⟩
          go_upto_region 13 with fail
          clear F1 F2 F3 x1 x2
          go_cut [142] from 117 to 142 (fun s wx => s = .bool false ∧ Below wk.heap.size wk wx)
          case first =>
            have v3 := hasV_or g0 g1 x y
            have v2 := hasV_and g0 g1 x y
            obtain ⟨p, hp⟩ : ∃ p, hasV A B cs x y = p := ⟨_, rfl⟩
            obtain ⟨q, hq⟩ : ∃ q, hasV A B ds x y = q := ⟨_, rfl⟩
            rw [hp, hq] at v3 v2
            have hk := bl_dr (bl0 wk)
            have hb := bl_dr (bl0 wk)
            replace hA := bl_tr hA hb; replace s0 := cell_later hb s0; replace s1 := cell_later hb s1; replace t0 := cell_later hb t0; replace t1 := cell_later hb t1; replace p0 := cell_later hb p0; replace p1 := cell_later hb p1; replace m0 := m0.below hb; replace m1 := m1.below hb; replace m2 := m2.below hb; replace m3 := m3.below hb; clear hb
            cases p <;> cases q
            all_goals
              simp only [Bool.or_false, Bool.or_true, Bool.and_false, Bool.and_true] at v3 v2
              have V0 := Lib.hid hp
              have V1 := Lib.hid hq
              have V2 := Lib.hid v2
              have V3 := Lib.hid v3
              clear hp hq v2 v3
            · refine (wpIn_wide (n := 11)).1 ?_
              refine ordS_begin (S := (fun w' => w'.cell? ⟨w.heap.size + 1 + 1, 0, none⟩ = some (.int .i64 x) ∧ w'.cell? ⟨w.heap.size + 1 + 1, 1, none⟩ = some (.int .i64 y))) (by kernel_rfl) ⟨p0, p1⟩ (fun hH => ?_)
              first
                | (refine' ordS_take (i := 0) (oi := { dst := some 117, op := Op.move (Operand.tmp 12), type := 27, pos := _, after := #[], guard := none }) (v := _) rfl (by kernel_rfl) (by kernel_rfl) (by kernel_rfl) (by kernel_rfl) (fun _ _ _ h => h) (by assumption) (Or.inl ⟨by rfl, ?hy1⟩) (fun _ => rfl) ?rest1
                   case hy1 => (intro w hSw; (try dsimp only at hSw); go_simp; try with_reducible rfl))
                | (refine ordS_take (i := 0) (oi := { dst := some 117, op := Op.move (Operand.tmp 12), type := 27, pos := _, after := #[], guard := none }) (v := undef) rfl (by kernel_rfl) (by kernel_rfl) (by kernel_rfl) (by kernel_rfl) (fun _ _ _ h => h) (by assumption) (Or.inr ⟨by rfl, rfl⟩) (fun _ => rfl) ?_)
              try simp only [Act.put, List.setIfInBounds_toArray, List.set_cons_zero, List.set_cons_succ]
              first
                | (refine' ordS_take (i := 1) (oi := { dst := some 118, op := Op.load 36 (Operand.tmp 5), type := 36, pos := _, after := #[], guard := none }) (v := _) rfl (by kernel_rfl) (by kernel_rfl) (by kernel_rfl) (by kernel_rfl) (fun _ _ _ h => h) (by assumption) (Or.inl ⟨by rfl, ?hy2⟩) (fun _ => rfl) ?rest2
                   case hy2 => (intro w hSw; (try dsimp only at hSw); go_simp; try with_reducible rfl))
                | (refine ordS_take (i := 1) (oi := { dst := some 118, op := Op.load 36 (Operand.tmp 5), type := 36, pos := _, after := #[], guard := none }) (v := undef) rfl (by kernel_rfl) (by kernel_rfl) (by kernel_rfl) (by kernel_rfl) (fun _ _ _ h => h) (by assumption) (Or.inr ⟨by rfl, rfl⟩) (fun _ => rfl) ?_)
              try simp only [Act.put, List.setIfInBounds_toArray, List.set_cons_zero, List.set_cons_succ]
              first
                | (refine' ordS_take (i := 3) (oi := { dst := some 120, op := Op.move (Operand.tmp 7), type := 27, pos := _, after := #[], guard := none }) (v := _) rfl (by kernel_rfl) (by kernel_rfl) (by kernel_rfl) (by kernel_rfl) (fun _ _ _ h => h) (by assumption) (Or.inl ⟨by rfl, ?hy3⟩) (fun _ => rfl) ?rest3
                   case hy3 => (intro w hSw; (try dsimp only at hSw); go_simp; try with_reducible rfl))
                | (refine ordS_take (i := 3) (oi := { dst := some 120, op := Op.move (Operand.tmp 7), type := 27, pos := _, after := #[], guard := none }) (v := undef) rfl (by kernel_rfl) (by kernel_rfl) (by kernel_rfl) (by kernel_rfl) (fun _ _ _ h => h) (by assumption) (Or.inr ⟨by rfl, rfl⟩) (fun _ => rfl) ?_)
              try simp only [Act.put, List.setIfInBounds_toArray, List.set_cons_zero, List.set_cons_succ]
              first
                | (refine' ordS_take (i := 4) (oi := { dst := some 121, op := Op.load 36 (Operand.tmp 5), type := 36, pos := _, after := #[], guard := none }) (v := _) rfl (by kernel_rfl) (by kernel_rfl) (by kernel_rfl) (by kernel_rfl) (fun _ _ _ h => h) (by assumption) (Or.inl ⟨by rfl, ?hy4⟩) (fun _ => rfl) ?rest4
                   case hy4 => (intro w hSw; (try dsimp only at hSw); go_simp; try with_reducible rfl))
                | (refine ordS_take (i := 4) (oi := { dst := some 121, op := Op.load 36 (Operand.tmp 5), type := 36, pos := _, after := #[], guard := none }) (v := undef) rfl (by kernel_rfl) (by kernel_rfl) (by kernel_rfl) (by kernel_rfl) (fun _ _ _ h => h) (by assumption) (Or.inr ⟨by rfl, rfl⟩) (fun _ => rfl) ?_)
              try simp only [Act.put, List.setIfInBounds_toArray, List.set_cons_zero, List.set_cons_succ]
              refine ordS_one (i := 2) (o := { dst := some 119, op := Op.call { callee := Callee.value (Operand.func 16), args := #[Operand.tmp 117, Operand.tmp 118], argTypes := #[27, 36] }, type := 4, pos := _, after := #[{ on := 0, ground := Ground.data }, { on := 1, ground := Ground.data }], guard := none }) (by kernel_rfl) rfl (by rfl) (fun K hK => ?_)
              go_simp
              refine ⟨trivial, (callsIn_wide.2 (has_as _ b3 h3 A B x y _ _ m3 g3 V3.out)).mono ?_⟩
              rintro e w9 ⟨rfl, hb⟩
              replace hk := bl_tr hk hb
              replace hA := bl_tr hA hb; replace s0 := cell_later hb s0; replace s1 := cell_later hb s1; replace t0 := cell_later hb t0; replace t1 := cell_later hb t1; replace p0 := cell_later hb p0; replace p1 := cell_later hb p1; replace m0 := m0.below hb; replace m1 := m1.below hb; replace m2 := m2.below hb; replace m3 := m3.below hb; clear hb
              have hS9 : (fun w' => w'.cell? ⟨w.heap.size + 1 + 1, 0, none⟩ = some (.int .i64 x) ∧ w'.cell? ⟨w.heap.size + 1 + 1, 1, none⟩ = some (.int .i64 y)) w9 := ⟨p0, p1⟩
              refine hK _ _ hS9 ?_
              clear hK K
              try simp only [Act.put, List.setIfInBounds_toArray, List.set_cons_zero, List.set_cons_succ]
              refine ordS_one (i := 5) (o := { dst := some 122, op := Op.call { callee := Callee.value (Operand.func 16), args := #[Operand.tmp 120, Operand.tmp 121], argTypes := #[27, 36] }, type := 4, pos := _, after := #[{ on := 3, ground := Ground.data }, { on := 4, ground := Ground.data }, { on := 2, ground := Ground.chain }], guard := none }) (by kernel_rfl) rfl (by rfl) (fun K hK => ?_)
              go_simp
              refine ⟨trivial, (callsIn_wide.2 (has_as _ b0 h0 A B x y _ _ m0 g0 V0.out)).mono ?_⟩
              rintro e w9 ⟨rfl, hb⟩
              replace hk := bl_tr hk hb
              replace hA := bl_tr hA hb; replace s0 := cell_later hb s0; replace s1 := cell_later hb s1; replace t0 := cell_later hb t0; replace t1 := cell_later hb t1; replace p0 := cell_later hb p0; replace p1 := cell_later hb p1; replace m0 := m0.below hb; replace m1 := m1.below hb; replace m2 := m2.below hb; replace m3 := m3.below hb; clear hb
              have hS9 : (fun w' => w'.cell? ⟨w.heap.size + 1 + 1, 0, none⟩ = some (.int .i64 x) ∧ w'.cell? ⟨w.heap.size + 1 + 1, 1, none⟩ = some (.int .i64 y)) w9 := ⟨p0, p1⟩
              refine hK _ _ hS9 ?_
              clear hK K
              try simp only [Act.put, List.setIfInBounds_toArray, List.set_cons_zero, List.set_cons_succ]
              first
                | (refine' ordS_take (i := 6) (oi := { dst := some 123, op := Op.move (Operand.tmp 122), type := 4, pos := _, after := #[{ on := 5, ground := Ground.data }, { on := 5, ground := Ground.chain }], guard := none }) (v := _) rfl (by kernel_rfl) (by kernel_rfl) (by kernel_rfl) (by kernel_rfl) (fun _ _ _ h => h) (by assumption) (Or.inl ⟨by rfl, ?hy5⟩) (fun _ => rfl) ?rest5
                   case hy5 => (intro w hSw; (try dsimp only at hSw); go_simp; try with_reducible rfl))
                | (refine ordS_take (i := 6) (oi := { dst := some 123, op := Op.move (Operand.tmp 122), type := 4, pos := _, after := #[{ on := 5, ground := Ground.data }, { on := 5, ground := Ground.chain }], guard := none }) (v := undef) rfl (by kernel_rfl) (by kernel_rfl) (by kernel_rfl) (by kernel_rfl) (fun _ _ _ h => h) (by assumption) (Or.inr ⟨by rfl, rfl⟩) (fun _ => rfl) ?_)
              try simp only [Act.put, List.setIfInBounds_toArray, List.set_cons_zero, List.set_cons_succ]
              first
                | (refine' ordS_take (i := 7) (oi := { dst := some 124, op := Op.move (Operand.tmp 9), type := 27, pos := _, after := #[{ on := 6, ground := Ground.guard }], guard := some (6, false) }) (v := _) rfl (by kernel_rfl) (by kernel_rfl) (by kernel_rfl) (by kernel_rfl) (fun _ _ _ h => h) (by assumption) (Or.inl ⟨by rfl, ?hy6⟩) (fun _ => rfl) ?rest6
                   case hy6 => (intro w hSw; (try dsimp only at hSw); go_simp; try with_reducible rfl))
                | (refine ordS_take (i := 7) (oi := { dst := some 124, op := Op.move (Operand.tmp 9), type := 27, pos := _, after := #[{ on := 6, ground := Ground.guard }], guard := some (6, false) }) (v := undef) rfl (by kernel_rfl) (by kernel_rfl) (by kernel_rfl) (by kernel_rfl) (fun _ _ _ h => h) (by assumption) (Or.inr ⟨by rfl, rfl⟩) (fun _ => rfl) ?_)
              try simp only [Act.put, List.setIfInBounds_toArray, List.set_cons_zero, List.set_cons_succ]
              first
                | (refine' ordS_take (i := 8) (oi := { dst := some 125, op := Op.load 36 (Operand.tmp 5), type := 36, pos := _, after := #[{ on := 6, ground := Ground.guard }], guard := some (6, false) }) (v := _) rfl (by kernel_rfl) (by kernel_rfl) (by kernel_rfl) (by kernel_rfl) (fun _ _ _ h => h) (by assumption) (Or.inl ⟨by rfl, ?hy7⟩) (fun _ => rfl) ?rest7
                   case hy7 => (intro w hSw; (try dsimp only at hSw); go_simp; try with_reducible rfl))
                | (refine ordS_take (i := 8) (oi := { dst := some 125, op := Op.load 36 (Operand.tmp 5), type := 36, pos := _, after := #[{ on := 6, ground := Ground.guard }], guard := some (6, false) }) (v := undef) rfl (by kernel_rfl) (by kernel_rfl) (by kernel_rfl) (by kernel_rfl) (fun _ _ _ h => h) (by assumption) (Or.inr ⟨by rfl, rfl⟩) (fun _ => rfl) ?_)
              try simp only [Act.put, List.setIfInBounds_toArray, List.set_cons_zero, List.set_cons_succ]
              refine ordS_one (i := 9) (o := { dst := some 126, op := Op.call { callee := Callee.value (Operand.func 16), args := #[Operand.tmp 124, Operand.tmp 125], argTypes := #[27, 36] }, type := 4, pos := _, after := #[{ on := 7, ground := Ground.data }, { on := 8, ground := Ground.data }, { on := 6, ground := Ground.chain }, { on := 6, ground := Ground.guard }], guard := some (6, false) }) (by kernel_rfl) rfl (by rfl) (fun K hK => ?_)
              go_simp
              refine ⟨trivial, (callsIn_wide.2 (has_as _ b1 h1 A B x y _ _ m1 g1 V1.out)).mono ?_⟩
              rintro e w9 ⟨rfl, hb⟩
              replace hk := bl_tr hk hb
              replace hA := bl_tr hA hb; replace s0 := cell_later hb s0; replace s1 := cell_later hb s1; replace t0 := cell_later hb t0; replace t1 := cell_later hb t1; replace p0 := cell_later hb p0; replace p1 := cell_later hb p1; replace m0 := m0.below hb; replace m1 := m1.below hb; replace m2 := m2.below hb; replace m3 := m3.below hb; clear hb
              have hS9 : (fun w' => w'.cell? ⟨w.heap.size + 1 + 1, 0, none⟩ = some (.int .i64 x) ∧ w'.cell? ⟨w.heap.size + 1 + 1, 1, none⟩ = some (.int .i64 y)) w9 := ⟨p0, p1⟩
              refine hK _ _ hS9 ?_
              clear hK K
              try simp only [Act.put, List.setIfInBounds_toArray, List.set_cons_zero, List.set_cons_succ]
              first
                | (refine' ordS_take (i := 10) (oi := { dst := some 127, op := Op.pick (Operand.tmp 123) (Operand.const (Value.bool true)) (Operand.tmp 126), type := 4, pos := _, after := #[{ on := 6, ground := Ground.data }, { on := 9, ground := Ground.data }], guard := none }) (v := _) rfl (by kernel_rfl) (by kernel_rfl) (by kernel_rfl) (by kernel_rfl) (fun _ _ _ h => h) (by assumption) (Or.inl ⟨by rfl, ?hy8⟩) (fun _ => rfl) ?rest8
                   case hy8 => (intro w hSw; (try dsimp only at hSw); go_simp; try with_reducible rfl))
                | (refine ordS_take (i := 10) (oi := { dst := some 127, op := Op.pick (Operand.tmp 123) (Operand.const (Value.bool true)) (Operand.tmp 126), type := 4, pos := _, after := #[{ on := 6, ground := Ground.data }, { on := 9, ground := Ground.data }], guard := none }) (v := undef) rfl (by kernel_rfl) (by kernel_rfl) (by kernel_rfl) (by kernel_rfl) (fun _ _ _ h => h) (by assumption) (Or.inr ⟨by rfl, rfl⟩) (fun _ => rfl) ?_)
              try simp only [Act.put, List.setIfInBounds_toArray, List.set_cons_zero, List.set_cons_succ]
              first
                | (refine' ordS_take (i := 11) (oi := { dst := some 128, op := Op.binOp BinOp.neq 4 (Operand.tmp 119) (Operand.tmp 127) 4, type := 4, pos := _, after := #[{ on := 2, ground := Ground.data }, { on := 10, ground := Ground.data }], guard := none }) (v := _) rfl (by kernel_rfl) (by kernel_rfl) (by kernel_rfl) (by kernel_rfl) (fun _ _ _ h => h) (by assumption) (Or.inl ⟨by rfl, ?hy9⟩) (fun _ => rfl) ?rest9
                   case hy9 => (intro w hSw; (try dsimp only at hSw); go_simp; try with_reducible rfl))
                | (refine ordS_take (i := 11) (oi := { dst := some 128, op := Op.binOp BinOp.neq 4 (Operand.tmp 119) (Operand.tmp 127) 4, type := 4, pos := _, after := #[{ on := 2, ground := Ground.data }, { on := 10, ground := Ground.data }], guard := none }) (v := undef) rfl (by kernel_rfl) (by kernel_rfl) (by kernel_rfl) (by kernel_rfl) (fun _ _ _ h => h) (by assumption) (Or.inr ⟨by rfl, rfl⟩) (fun _ => rfl) ?_)
              try simp only [Act.put, List.setIfInBounds_toArray, List.set_cons_zero, List.set_cons_succ]
              first
                | (refine' ordS_take (i := 12) (oi := { dst := some 129, op := Op.move (Operand.tmp 128), type := 4, pos := _, after := #[{ on := 11, ground := Ground.data }, { on := 9, ground := Ground.chain }], guard := none }) (v := _) rfl (by kernel_rfl) (by kernel_rfl) (by kernel_rfl) (by kernel_rfl) (fun _ _ _ h => h) (by assumption) (Or.inl ⟨by rfl, ?hy10⟩) (fun _ => rfl) ?rest10
                   case hy10 => (intro w hSw; (try dsimp only at hSw); go_simp; try with_reducible rfl))
                | (refine ordS_take (i := 12) (oi := { dst := some 129, op := Op.move (Operand.tmp 128), type := 4, pos := _, after := #[{ on := 11, ground := Ground.data }, { on := 9, ground := Ground.chain }], guard := none }) (v := undef) rfl (by kernel_rfl) (by kernel_rfl) (by kernel_rfl) (by kernel_rfl) (fun _ _ _ h => h) (by assumption) (Or.inr ⟨by rfl, rfl⟩) (fun _ => rfl) ?_)
              try simp only [Act.put, List.setIfInBounds_toArray, List.set_cons_zero, List.set_cons_succ]
              first
                | (refine' ordS_take (i := 13) (oi := { dst := some 130, op := Op.move (Operand.tmp 11), type := 27, pos := _, after := #[{ on := 12, ground := Ground.guard }], guard := some (12, false) }) (v := _) rfl (by kernel_rfl) (by kernel_rfl) (by kernel_rfl) (by kernel_rfl) (fun _ _ _ h => h) (by assumption) (Or.inl ⟨by rfl, ?hy11⟩) (fun _ => rfl) ?rest11
                   case hy11 => (intro w hSw; (try dsimp only at hSw); go_simp; try with_reducible rfl))
                | (refine ordS_take (i := 13) (oi := { dst := some 130, op := Op.move (Operand.tmp 11), type := 27, pos := _, after := #[{ on := 12, ground := Ground.guard }], guard := some (12, false) }) (v := undef) rfl (by kernel_rfl) (by kernel_rfl) (by kernel_rfl) (by kernel_rfl) (fun _ _ _ h => h) (by assumption) (Or.inr ⟨by rfl, rfl⟩) (fun _ => rfl) ?_)
              try simp only [Act.put, List.setIfInBounds_toArray, List.set_cons_zero, List.set_cons_succ]
              first
                | (refine' ordS_take (i := 14) (oi := { dst := some 131, op := Op.load 36 (Operand.tmp 5), type := 36, pos := _, after := #[{ on := 12, ground := Ground.guard }], guard := some (12, false) }) (v := _) rfl (by kernel_rfl) (by kernel_rfl) (by kernel_rfl) (by kernel_rfl) (fun _ _ _ h => h) (by assumption) (Or.inl ⟨by rfl, ?hy12⟩) (fun _ => rfl) ?rest12
                   case hy12 => (intro w hSw; (try dsimp only at hSw); go_simp; try with_reducible rfl))
                | (refine ordS_take (i := 14) (oi := { dst := some 131, op := Op.load 36 (Operand.tmp 5), type := 36, pos := _, after := #[{ on := 12, ground := Ground.guard }], guard := some (12, false) }) (v := undef) rfl (by kernel_rfl) (by kernel_rfl) (by kernel_rfl) (by kernel_rfl) (fun _ _ _ h => h) (by assumption) (Or.inr ⟨by rfl, rfl⟩) (fun _ => rfl) ?_)
              try simp only [Act.put, List.setIfInBounds_toArray, List.set_cons_zero, List.set_cons_succ]
              first
                | (refine' ordS_take (i := 16) (oi := { dst := some 133, op := Op.move (Operand.tmp 7), type := 27, pos := _, after := #[{ on := 12, ground := Ground.guard }], guard := some (12, false) }) (v := _) rfl (by kernel_rfl) (by kernel_rfl) (by kernel_rfl) (by kernel_rfl) (fun _ _ _ h => h) (by assumption) (Or.inl ⟨by rfl, ?hy13⟩) (fun _ => rfl) ?rest13
                   case hy13 => (intro w hSw; (try dsimp only at hSw); go_simp; try with_reducible rfl))
                | (refine ordS_take (i := 16) (oi := { dst := some 133, op := Op.move (Operand.tmp 7), type := 27, pos := _, after := #[{ on := 12, ground := Ground.guard }], guard := some (12, false) }) (v := undef) rfl (by kernel_rfl) (by kernel_rfl) (by kernel_rfl) (by kernel_rfl) (fun _ _ _ h => h) (by assumption) (Or.inr ⟨by rfl, rfl⟩) (fun _ => rfl) ?_)
              try simp only [Act.put, List.setIfInBounds_toArray, List.set_cons_zero, List.set_cons_succ]
              first
                | (refine' ordS_take (i := 17) (oi := { dst := some 134, op := Op.load 36 (Operand.tmp 5), type := 36, pos := _, after := #[{ on := 12, ground := Ground.guard }], guard := some (12, false) }) (v := _) rfl (by kernel_rfl) (by kernel_rfl) (by kernel_rfl) (by kernel_rfl) (fun _ _ _ h => h) (by assumption) (Or.inl ⟨by rfl, ?hy14⟩) (fun _ => rfl) ?rest14
                   case hy14 => (intro w hSw; (try dsimp only at hSw); go_simp; try with_reducible rfl))
                | (refine ordS_take (i := 17) (oi := { dst := some 134, op := Op.load 36 (Operand.tmp 5), type := 36, pos := _, after := #[{ on := 12, ground := Ground.guard }], guard := some (12, false) }) (v := undef) rfl (by kernel_rfl) (by kernel_rfl) (by kernel_rfl) (by kernel_rfl) (fun _ _ _ h => h) (by assumption) (Or.inr ⟨by rfl, rfl⟩) (fun _ => rfl) ?_)
              try simp only [Act.put, List.setIfInBounds_toArray, List.set_cons_zero, List.set_cons_succ]
              refine ordS_one (i := 15) (o := { dst := some 132, op := Op.call { callee := Callee.value (Operand.func 16), args := #[Operand.tmp 130, Operand.tmp 131], argTypes := #[27, 36] }, type := 4, pos := _, after := #[{ on := 13, ground := Ground.data }, { on := 14, ground := Ground.data }, { on := 12, ground := Ground.chain }, { on := 12, ground := Ground.guard }], guard := some (12, false) }) (by kernel_rfl) rfl (by rfl) (fun K hK => ?_)
              go_simp
              refine ⟨trivial, (callsIn_wide.2 (has_as _ b2 h2 A B x y _ _ m2 g2 V2.out)).mono ?_⟩
              rintro e w9 ⟨rfl, hb⟩
              replace hk := bl_tr hk hb
              replace hA := bl_tr hA hb; replace s0 := cell_later hb s0; replace s1 := cell_later hb s1; replace t0 := cell_later hb t0; replace t1 := cell_later hb t1; replace p0 := cell_later hb p0; replace p1 := cell_later hb p1; replace m0 := m0.below hb; replace m1 := m1.below hb; replace m2 := m2.below hb; replace m3 := m3.below hb; clear hb
              have hS9 : (fun w' => w'.cell? ⟨w.heap.size + 1 + 1, 0, none⟩ = some (.int .i64 x) ∧ w'.cell? ⟨w.heap.size + 1 + 1, 1, none⟩ = some (.int .i64 y)) w9 := ⟨p0, p1⟩
              refine hK _ _ hS9 ?_
              clear hK K
              try simp only [Act.put, List.setIfInBounds_toArray, List.set_cons_zero, List.set_cons_succ]
              refine ordS_one (i := 18) (o := { dst := some 135, op := Op.call { callee := Callee.value (Operand.func 16), args := #[Operand.tmp 133, Operand.tmp 134], argTypes := #[27, 36] }, type := 4, pos := _, after := #[{ on := 16, ground := Ground.data }, { on := 17, ground := Ground.data }, { on := 15, ground := Ground.chain }, { on := 12, ground := Ground.guard }], guard := some (12, false) }) (by kernel_rfl) rfl (by rfl) (fun K hK => ?_)
              go_simp
              refine ⟨trivial, (callsIn_wide.2 (has_as _ b0 h0 A B x y _ _ m0 g0 V0.out)).mono ?_⟩
              rintro e w9 ⟨rfl, hb⟩
              replace hk := bl_tr hk hb
              replace hA := bl_tr hA hb; replace s0 := cell_later hb s0; replace s1 := cell_later hb s1; replace t0 := cell_later hb t0; replace t1 := cell_later hb t1; replace p0 := cell_later hb p0; replace p1 := cell_later hb p1; replace m0 := m0.below hb; replace m1 := m1.below hb; replace m2 := m2.below hb; replace m3 := m3.below hb; clear hb
              have hS9 : (fun w' => w'.cell? ⟨w.heap.size + 1 + 1, 0, none⟩ = some (.int .i64 x) ∧ w'.cell? ⟨w.heap.size + 1 + 1, 1, none⟩ = some (.int .i64 y)) w9 := ⟨p0, p1⟩
              refine hK _ _ hS9 ?_
              clear hK K
              try simp only [Act.put, List.setIfInBounds_toArray, List.set_cons_zero, List.set_cons_succ]
              first
                | (refine' ordS_take (i := 19) (oi := { dst := some 136, op := Op.move (Operand.tmp 135), type := 4, pos := _, after := #[{ on := 18, ground := Ground.data }, { on := 18, ground := Ground.chain }, { on := 12, ground := Ground.guard }], guard := some (12, false) }) (v := _) rfl (by kernel_rfl) (by kernel_rfl) (by kernel_rfl) (by kernel_rfl) (fun _ _ _ h => h) (by assumption) (Or.inl ⟨by rfl, ?hy15⟩) (fun _ => rfl) ?rest15
                   case hy15 => (intro w hSw; (try dsimp only at hSw); go_simp; try with_reducible rfl))
                | (refine ordS_take (i := 19) (oi := { dst := some 136, op := Op.move (Operand.tmp 135), type := 4, pos := _, after := #[{ on := 18, ground := Ground.data }, { on := 18, ground := Ground.chain }, { on := 12, ground := Ground.guard }], guard := some (12, false) }) (v := undef) rfl (by kernel_rfl) (by kernel_rfl) (by kernel_rfl) (by kernel_rfl) (fun _ _ _ h => h) (by assumption) (Or.inr ⟨by rfl, rfl⟩) (fun _ => rfl) ?_)
              try simp only [Act.put, List.setIfInBounds_toArray, List.set_cons_zero, List.set_cons_succ]
              first
                | (refine' ordS_take (i := 20) (oi := { dst := some 137, op := Op.move (Operand.tmp 9), type := 27, pos := _, after := #[{ on := 19, ground := Ground.guard }], guard := some (19, true) }) (v := _) rfl (by kernel_rfl) (by kernel_rfl) (by kernel_rfl) (by kernel_rfl) (fun _ _ _ h => h) (by assumption) (Or.inl ⟨by rfl, ?hy16⟩) (fun _ => rfl) ?rest16
                   case hy16 => (intro w hSw; (try dsimp only at hSw); go_simp; try with_reducible rfl))
                | (refine ordS_take (i := 20) (oi := { dst := some 137, op := Op.move (Operand.tmp 9), type := 27, pos := _, after := #[{ on := 19, ground := Ground.guard }], guard := some (19, true) }) (v := undef) rfl (by kernel_rfl) (by kernel_rfl) (by kernel_rfl) (by kernel_rfl) (fun _ _ _ h => h) (by assumption) (Or.inr ⟨by rfl, rfl⟩) (fun _ => rfl) ?_)
              try simp only [Act.put, List.setIfInBounds_toArray, List.set_cons_zero, List.set_cons_succ]
              first
                | (refine' ordS_take (i := 21) (oi := { dst := some 138, op := Op.load 36 (Operand.tmp 5), type := 36, pos := _, after := #[{ on := 19, ground := Ground.guard }], guard := some (19, true) }) (v := _) rfl (by kernel_rfl) (by kernel_rfl) (by kernel_rfl) (by kernel_rfl) (fun _ _ _ h => h) (by assumption) (Or.inl ⟨by rfl, ?hy17⟩) (fun _ => rfl) ?rest17
                   case hy17 => (intro w hSw; (try dsimp only at hSw); go_simp; try with_reducible rfl))
                | (refine ordS_take (i := 21) (oi := { dst := some 138, op := Op.load 36 (Operand.tmp 5), type := 36, pos := _, after := #[{ on := 19, ground := Ground.guard }], guard := some (19, true) }) (v := undef) rfl (by kernel_rfl) (by kernel_rfl) (by kernel_rfl) (by kernel_rfl) (fun _ _ _ h => h) (by assumption) (Or.inr ⟨by rfl, rfl⟩) (fun _ => rfl) ?_)
              try simp only [Act.put, List.setIfInBounds_toArray, List.set_cons_zero, List.set_cons_succ]
              refine ordS_skip (i := 22) (o := { dst := some 139, op := Op.call { callee := Callee.value (Operand.func 16), args := #[Operand.tmp 137, Operand.tmp 138], argTypes := #[27, 36] }, type := 4, pos := _, after := #[{ on := 20, ground := Ground.data }, { on := 21, ground := Ground.data }, { on := 19, ground := Ground.chain }, { on := 19, ground := Ground.guard }], guard := some (19, true) }) (by kernel_rfl) rfl (by rfl) (fun _ => trivial) (by assumption) ?_
              try simp only [Act.put, List.setIfInBounds_toArray, List.set_cons_zero, List.set_cons_succ]
              first
                | (refine' ordS_take (i := 23) (oi := { dst := some 140, op := Op.pick (Operand.tmp 136) (Operand.tmp 139) (Operand.const (Value.bool false)), type := 4, pos := _, after := #[{ on := 19, ground := Ground.data }, { on := 22, ground := Ground.data }, { on := 12, ground := Ground.guard }], guard := some (12, false) }) (v := _) rfl (by kernel_rfl) (by kernel_rfl) (by kernel_rfl) (by kernel_rfl) (fun _ _ _ h => h) (by assumption) (Or.inl ⟨by rfl, ?hy18⟩) (fun _ => rfl) ?rest18
                   case hy18 => (intro w hSw; (try dsimp only at hSw); go_simp; try with_reducible rfl))
                | (refine ordS_take (i := 23) (oi := { dst := some 140, op := Op.pick (Operand.tmp 136) (Operand.tmp 139) (Operand.const (Value.bool false)), type := 4, pos := _, after := #[{ on := 19, ground := Ground.data }, { on := 22, ground := Ground.data }, { on := 12, ground := Ground.guard }], guard := some (12, false) }) (v := undef) rfl (by kernel_rfl) (by kernel_rfl) (by kernel_rfl) (by kernel_rfl) (fun _ _ _ h => h) (by assumption) (Or.inr ⟨by rfl, rfl⟩) (fun _ => rfl) ?_)
              try simp only [Act.put, List.setIfInBounds_toArray, List.set_cons_zero, List.set_cons_succ]
              first
                | (refine' ordS_take (i := 24) (oi := { dst := some 141, op := Op.binOp BinOp.neq 4 (Operand.tmp 132) (Operand.tmp 140) 4, type := 4, pos := _, after := #[{ on := 15, ground := Ground.data }, { on := 23, ground := Ground.data }, { on := 12, ground := Ground.guard }], guard := some (12, false) }) (v := _) rfl (by kernel_rfl) (by kernel_rfl) (by kernel_rfl) (by kernel_rfl) (fun _ _ _ h => h) (by assumption) (Or.inl ⟨by rfl, ?hy19⟩) (fun _ => rfl) ?rest19
                   case hy19 => (intro w hSw; (try dsimp only at hSw); go_simp; try with_reducible rfl))
                | (refine ordS_take (i := 24) (oi := { dst := some 141, op := Op.binOp BinOp.neq 4 (Operand.tmp 132) (Operand.tmp 140) 4, type := 4, pos := _, after := #[{ on := 15, ground := Ground.data }, { on := 23, ground := Ground.data }, { on := 12, ground := Ground.guard }], guard := some (12, false) }) (v := undef) rfl (by kernel_rfl) (by kernel_rfl) (by kernel_rfl) (by kernel_rfl) (fun _ _ _ h => h) (by assumption) (Or.inr ⟨by rfl, rfl⟩) (fun _ => rfl) ?_)
              try simp only [Act.put, List.setIfInBounds_toArray, List.set_cons_zero, List.set_cons_succ]
              first
                | (refine' ordS_take (i := 25) (oi := { dst := some 142, op := Op.pick (Operand.tmp 129) (Operand.const (Value.bool true)) (Operand.tmp 141), type := 4, pos := _, after := #[{ on := 12, ground := Ground.data }, { on := 24, ground := Ground.data }], guard := none }) (v := _) rfl (by kernel_rfl) (by kernel_rfl) (by kernel_rfl) (by kernel_rfl) (fun _ _ _ h => h) (by assumption) (Or.inl ⟨by rfl, ?hy20⟩) (fun _ => rfl) ?rest20
                   case hy20 => (intro w hSw; (try dsimp only at hSw); go_simp; try with_reducible rfl))
                | (refine ordS_take (i := 25) (oi := { dst := some 142, op := Op.pick (Operand.tmp 129) (Operand.const (Value.bool true)) (Operand.tmp 141), type := 4, pos := _, after := #[{ on := 12, ground := Ground.data }, { on := 24, ground := Ground.data }], guard := none }) (v := undef) rfl (by kernel_rfl) (by kernel_rfl) (by kernel_rfl) (by kernel_rfl) (fun _ _ _ h => h) (by assumption) (Or.inr ⟨by rfl, rfl⟩) (fun _ => rfl) ?_)
              try simp only [Act.put, List.setIfInBounds_toArray, List.set_cons_zero, List.set_cons_succ]
              refine ordS_done (by kernel_rfl) ?_
              go_wp2_with fail
              go_meet
              exact ⟨rfl, hk⟩
            · refine (wpIn_wide (n := 11)).1 ?_
              refine ordS_begin (S := (fun w' => w'.cell? ⟨w.heap.size + 1 + 1, 0, none⟩ = some (.int .i64 x) ∧ w'.cell? ⟨w.heap.size + 1 + 1, 1, none⟩ = some (.int .i64 y))) (by kernel_rfl) ⟨p0, p1⟩ (fun hH => ?_)
              first
                | (refine' ordS_take (i := 0) (oi := { dst := some 117, op := Op.move (Operand.tmp 12), type := 27, pos := _, after := #[], guard := none }) (v := _) rfl (by kernel_rfl) (by kernel_rfl) (by kernel_rfl) (by kernel_rfl) (fun _ _ _ h => h) (by assumption) (Or.inl ⟨by rfl, ?hy21⟩) (fun _ => rfl) ?rest21
                   case hy21 => (intro w hSw; (try dsimp only at hSw); go_simp; try with_reducible rfl))
                | (refine ordS_take (i := 0) (oi := { dst := some 117, op := Op.move (Operand.tmp 12), type := 27, pos := _, after := #[], guard := none }) (v := undef) rfl (by kernel_rfl) (by kernel_rfl) (by kernel_rfl) (by kernel_rfl) (fun _ _ _ h => h) (by assumption) (Or.inr ⟨by rfl, rfl⟩) (fun _ => rfl) ?_)
              try simp only [Act.put, List.setIfInBounds_toArray, List.set_cons_zero, List.set_cons_succ]
              first
                | (refine' ordS_take (i := 1) (oi := { dst := some 118, op := Op.load 36 (Operand.tmp 5), type := 36, pos := _, after := #[], guard := none }) (v := _) rfl (by kernel_rfl) (by kernel_rfl) (by kernel_rfl) (by kernel_rfl) (fun _ _ _ h => h) (by assumption) (Or.inl ⟨by rfl, ?hy22⟩) (fun _ => rfl) ?rest22
                   case hy22 => (intro w hSw; (try dsimp only at hSw); go_simp; try with_reducible rfl))
                | (refine ordS_take (i := 1) (oi := { dst := some 118, op := Op.load 36 (Operand.tmp 5), type := 36, pos := _, after := #[], guard := none }) (v := undef) rfl (by kernel_rfl) (by kernel_rfl) (by kernel_rfl) (by kernel_rfl) (fun _ _ _ h => h) (by assumption) (Or.inr ⟨by rfl, rfl⟩) (fun _ => rfl) ?_)
              try simp only [Act.put, List.setIfInBounds_toArray, List.set_cons_zero, List.set_cons_succ]
              first
                | (refine' ordS_take (i := 3) (oi := { dst := some 120, op := Op.move (Operand.tmp 7), type := 27, pos := _, after := #[], guard := none }) (v := _) rfl (by kernel_rfl) (by kernel_rfl) (by kernel_rfl) (by kernel_rfl) (fun _ _ _ h => h) (by assumption) (Or.inl ⟨by rfl, ?hy23⟩) (fun _ => rfl) ?rest23
                   case hy23 => (intro w hSw; (try dsimp only at hSw); go_simp; try with_reducible rfl))
                | (refine ordS_take (i := 3) (oi := { dst := some 120, op := Op.move (Operand.tmp 7), type := 27, pos := _, after := #[], guard := none }) (v := undef) rfl (by kernel_rfl) (by kernel_rfl) (by kernel_rfl) (by kernel_rfl) (fun _ _ _ h => h) (by assumption) (Or.inr ⟨by rfl, rfl⟩) (fun _ => rfl) ?_)
              try simp only [Act.put, List.setIfInBounds_toArray, List.set_cons_zero, List.set_cons_succ]
              first
                | (refine' ordS_take (i := 4) (oi := { dst := some 121, op := Op.load 36 (Operand.tmp 5), type := 36, pos := _, after := #[], guard := none }) (v := _) rfl (by kernel_rfl) (by kernel_rfl) (by kernel_rfl) (by kernel_rfl) (fun _ _ _ h => h) (by assumption) (Or.inl ⟨by rfl, ?hy24⟩) (fun _ => rfl) ?rest24
                   case hy24 => (intro w hSw; (try dsimp only at hSw); go_simp; try with_reducible rfl))
                | (refine ordS_take (i := 4) (oi := { dst := some 121, op := Op.load 36 (Operand.tmp 5), type := 36, pos := _, after := #[], guard := none }) (v := undef) rfl (by kernel_rfl) (by kernel_rfl) (by kernel_rfl) (by kernel_rfl) (fun _ _ _ h => h) (by assumption) (Or.inr ⟨by rfl, rfl⟩) (fun _ => rfl) ?_)
              try simp only [Act.put, List.setIfInBounds_toArray, List.set_cons_zero, List.set_cons_succ]
              refine ordS_one (i := 2) (o := { dst := some 119, op := Op.call { callee := Callee.value (Operand.func 16), args := #[Operand.tmp 117, Operand.tmp 118], argTypes := #[27, 36] }, type := 4, pos := _, after := #[{ on := 0, ground := Ground.data }, { on := 1, ground := Ground.data }], guard := none }) (by kernel_rfl) rfl (by rfl) (fun K hK => ?_)
              go_simp
              refine ⟨trivial, (callsIn_wide.2 (has_as _ b3 h3 A B x y _ _ m3 g3 V3.out)).mono ?_⟩
              rintro e w9 ⟨rfl, hb⟩
              replace hk := bl_tr hk hb
              replace hA := bl_tr hA hb; replace s0 := cell_later hb s0; replace s1 := cell_later hb s1; replace t0 := cell_later hb t0; replace t1 := cell_later hb t1; replace p0 := cell_later hb p0; replace p1 := cell_later hb p1; replace m0 := m0.below hb; replace m1 := m1.below hb; replace m2 := m2.below hb; replace m3 := m3.below hb; clear hb
              have hS9 : (fun w' => w'.cell? ⟨w.heap.size + 1 + 1, 0, none⟩ = some (.int .i64 x) ∧ w'.cell? ⟨w.heap.size + 1 + 1, 1, none⟩ = some (.int .i64 y)) w9 := ⟨p0, p1⟩
              refine hK _ _ hS9 ?_
              clear hK K
              try simp only [Act.put, List.setIfInBounds_toArray, List.set_cons_zero, List.set_cons_succ]
              refine ordS_one (i := 5) (o := { dst := some 122, op := Op.call { callee := Callee.value (Operand.func 16), args := #[Operand.tmp 120, Operand.tmp 121], argTypes := #[27, 36] }, type := 4, pos := _, after := #[{ on := 3, ground := Ground.data }, { on := 4, ground := Ground.data }, { on := 2, ground := Ground.chain }], guard := none }) (by kernel_rfl) rfl (by rfl) (fun K hK => ?_)
              go_simp
              refine ⟨trivial, (callsIn_wide.2 (has_as _ b0 h0 A B x y _ _ m0 g0 V0.out)).mono ?_⟩
              rintro e w9 ⟨rfl, hb⟩
              replace hk := bl_tr hk hb
              replace hA := bl_tr hA hb; replace s0 := cell_later hb s0; replace s1 := cell_later hb s1; replace t0 := cell_later hb t0; replace t1 := cell_later hb t1; replace p0 := cell_later hb p0; replace p1 := cell_later hb p1; replace m0 := m0.below hb; replace m1 := m1.below hb; replace m2 := m2.below hb; replace m3 := m3.below hb; clear hb
              have hS9 : (fun w' => w'.cell? ⟨w.heap.size + 1 + 1, 0, none⟩ = some (.int .i64 x) ∧ w'.cell? ⟨w.heap.size + 1 + 1, 1, none⟩ = some (.int .i64 y)) w9 := ⟨p0, p1⟩
              refine hK _ _ hS9 ?_
              clear hK K
              try simp only [Act.put, List.setIfInBounds_toArray, List.set_cons_zero, List.set_cons_succ]
              first
                | (refine' ordS_take (i := 6) (oi := { dst := some 123, op := Op.move (Operand.tmp 122), type := 4, pos := _, after := #[{ on := 5, ground := Ground.data }, { on := 5, ground := Ground.chain }], guard := none }) (v := _) rfl (by kernel_rfl) (by kernel_rfl) (by kernel_rfl) (by kernel_rfl) (fun _ _ _ h => h) (by assumption) (Or.inl ⟨by rfl, ?hy25⟩) (fun _ => rfl) ?rest25
                   case hy25 => (intro w hSw; (try dsimp only at hSw); go_simp; try with_reducible rfl))
                | (refine ordS_take (i := 6) (oi := { dst := some 123, op := Op.move (Operand.tmp 122), type := 4, pos := _, after := #[{ on := 5, ground := Ground.data }, { on := 5, ground := Ground.chain }], guard := none }) (v := undef) rfl (by kernel_rfl) (by kernel_rfl) (by kernel_rfl) (by kernel_rfl) (fun _ _ _ h => h) (by assumption) (Or.inr ⟨by rfl, rfl⟩) (fun _ => rfl) ?_)
              try simp only [Act.put, List.setIfInBounds_toArray, List.set_cons_zero, List.set_cons_succ]
              first
                | (refine' ordS_take (i := 7) (oi := { dst := some 124, op := Op.move (Operand.tmp 9), type := 27, pos := _, after := #[{ on := 6, ground := Ground.guard }], guard := some (6, false) }) (v := _) rfl (by kernel_rfl) (by kernel_rfl) (by kernel_rfl) (by kernel_rfl) (fun _ _ _ h => h) (by assumption) (Or.inl ⟨by rfl, ?hy26⟩) (fun _ => rfl) ?rest26
                   case hy26 => (intro w hSw; (try dsimp only at hSw); go_simp; try with_reducible rfl))
                | (refine ordS_take (i := 7) (oi := { dst := some 124, op := Op.move (Operand.tmp 9), type := 27, pos := _, after := #[{ on := 6, ground := Ground.guard }], guard := some (6, false) }) (v := undef) rfl (by kernel_rfl) (by kernel_rfl) (by kernel_rfl) (by kernel_rfl) (fun _ _ _ h => h) (by assumption) (Or.inr ⟨by rfl, rfl⟩) (fun _ => rfl) ?_)
              try simp only [Act.put, List.setIfInBounds_toArray, List.set_cons_zero, List.set_cons_succ]
              first
                | (refine' ordS_take (i := 8) (oi := { dst := some 125, op := Op.load 36 (Operand.tmp 5), type := 36, pos := _, after := #[{ on := 6, ground := Ground.guard }], guard := some (6, false) }) (v := _) rfl (by kernel_rfl) (by kernel_rfl) (by kernel_rfl) (by kernel_rfl) (fun _ _ _ h => h) (by assumption) (Or.inl ⟨by rfl, ?hy27⟩) (fun _ => rfl) ?rest27
                   case hy27 => (intro w hSw; (try dsimp only at hSw); go_simp; try with_reducible rfl))
                | (refine ordS_take (i := 8) (oi := { dst := some 125, op := Op.load 36 (Operand.tmp 5), type := 36, pos := _, after := #[{ on := 6, ground := Ground.guard }], guard := some (6, false) }) (v := undef) rfl (by kernel_rfl) (by kernel_rfl) (by kernel_rfl) (by kernel_rfl) (fun _ _ _ h => h) (by assumption) (Or.inr ⟨by rfl, rfl⟩) (fun _ => rfl) ?_)
              try simp only [Act.put, List.setIfInBounds_toArray, List.set_cons_zero, List.set_cons_succ]
              refine ordS_one (i := 9) (o := { dst := some 126, op := Op.call { callee := Callee.value (Operand.func 16), args := #[Operand.tmp 124, Operand.tmp 125], argTypes := #[27, 36] }, type := 4, pos := _, after := #[{ on := 7, ground := Ground.data }, { on := 8, ground := Ground.data }, { on := 6, ground := Ground.chain }, { on := 6, ground := Ground.guard }], guard := some (6, false) }) (by kernel_rfl) rfl (by rfl) (fun K hK => ?_)
              go_simp
              refine ⟨trivial, (callsIn_wide.2 (has_as _ b1 h1 A B x y _ _ m1 g1 V1.out)).mono ?_⟩
              rintro e w9 ⟨rfl, hb⟩
              replace hk := bl_tr hk hb
              replace hA := bl_tr hA hb; replace s0 := cell_later hb s0; replace s1 := cell_later hb s1; replace t0 := cell_later hb t0; replace t1 := cell_later hb t1; replace p0 := cell_later hb p0; replace p1 := cell_later hb p1; replace m0 := m0.below hb; replace m1 := m1.below hb; replace m2 := m2.below hb; replace m3 := m3.below hb; clear hb
              have hS9 : (fun w' => w'.cell? ⟨w.heap.size + 1 + 1, 0, none⟩ = some (.int .i64 x) ∧ w'.cell? ⟨w.heap.size + 1 + 1, 1, none⟩ = some (.int .i64 y)) w9 := ⟨p0, p1⟩
              refine hK _ _ hS9 ?_
              clear hK K
              try simp only [Act.put, List.setIfInBounds_toArray, List.set_cons_zero, List.set_cons_succ]
              first
                | (refine' ordS_take (i := 10) (oi := { dst := some 127, op := Op.pick (Operand.tmp 123) (Operand.const (Value.bool true)) (Operand.tmp 126), type := 4, pos := _, after := #[{ on := 6, ground := Ground.data }, { on := 9, ground := Ground.data }], guard := none }) (v := _) rfl (by kernel_rfl) (by kernel_rfl) (by kernel_rfl) (by kernel_rfl) (fun _ _ _ h => h) (by assumption) (Or.inl ⟨by rfl, ?hy28⟩) (fun _ => rfl) ?rest28
                   case hy28 => (intro w hSw; (try dsimp only at hSw); go_simp; try with_reducible rfl))
                | (refine ordS_take (i := 10) (oi := { dst := some 127, op := Op.pick (Operand.tmp 123) (Operand.const (Value.bool true)) (Operand.tmp 126), type := 4, pos := _, after := #[{ on := 6, ground := Ground.data }, { on := 9, ground := Ground.data }], guard := none }) (v := undef) rfl (by kernel_rfl) (by kernel_rfl) (by kernel_rfl) (by kernel_rfl) (fun _ _ _ h => h) (by assumption) (Or.inr ⟨by rfl, rfl⟩) (fun _ => rfl) ?_)
              try simp only [Act.put, List.setIfInBounds_toArray, List.set_cons_zero, List.set_cons_succ]
              first
                | (refine' ordS_take (i := 11) (oi := { dst := some 128, op := Op.binOp BinOp.neq 4 (Operand.tmp 119) (Operand.tmp 127) 4, type := 4, pos := _, after := #[{ on := 2, ground := Ground.data }, { on := 10, ground := Ground.data }], guard := none }) (v := _) rfl (by kernel_rfl) (by kernel_rfl) (by kernel_rfl) (by kernel_rfl) (fun _ _ _ h => h) (by assumption) (Or.inl ⟨by rfl, ?hy29⟩) (fun _ => rfl) ?rest29
                   case hy29 => (intro w hSw; (try dsimp only at hSw); go_simp; try with_reducible rfl))
                | (refine ordS_take (i := 11) (oi := { dst := some 128, op := Op.binOp BinOp.neq 4 (Operand.tmp 119) (Operand.tmp 127) 4, type := 4, pos := _, after := #[{ on := 2, ground := Ground.data }, { on := 10, ground := Ground.data }], guard := none }) (v := undef) rfl (by kernel_rfl) (by kernel_rfl) (by kernel_rfl) (by kernel_rfl) (fun _ _ _ h => h) (by assumption) (Or.inr ⟨by rfl, rfl⟩) (fun _ => rfl) ?_)
              try simp only [Act.put, List.setIfInBounds_toArray, List.set_cons_zero, List.set_cons_succ]
              first
                | (refine' ordS_take (i := 12) (oi := { dst := some 129, op := Op.move (Operand.tmp 128), type := 4, pos := _, after := #[{ on := 11, ground := Ground.data }, { on := 9, ground := Ground.chain }], guard := none }) (v := _) rfl (by kernel_rfl) (by kernel_rfl) (by kernel_rfl) (by kernel_rfl) (fun _ _ _ h => h) (by assumption) (Or.inl ⟨by rfl, ?hy30⟩) (fun _ => rfl) ?rest30
                   case hy30 => (intro w hSw; (try dsimp only at hSw); go_simp; try with_reducible rfl))
                | (refine ordS_take (i := 12) (oi := { dst := some 129, op := Op.move (Operand.tmp 128), type := 4, pos := _, after := #[{ on := 11, ground := Ground.data }, { on := 9, ground := Ground.chain }], guard := none }) (v := undef) rfl (by kernel_rfl) (by kernel_rfl) (by kernel_rfl) (by kernel_rfl) (fun _ _ _ h => h) (by assumption) (Or.inr ⟨by rfl, rfl⟩) (fun _ => rfl) ?_)
              try simp only [Act.put, List.setIfInBounds_toArray, List.set_cons_zero, List.set_cons_succ]
              first
                | (refine' ordS_take (i := 13) (oi := { dst := some 130, op := Op.move (Operand.tmp 11), type := 27, pos := _, after := #[{ on := 12, ground := Ground.guard }], guard := some (12, false) }) (v := _) rfl (by kernel_rfl) (by kernel_rfl) (by kernel_rfl) (by kernel_rfl) (fun _ _ _ h => h) (by assumption) (Or.inl ⟨by rfl, ?hy31⟩) (fun _ => rfl) ?rest31
                   case hy31 => (intro w hSw; (try dsimp only at hSw); go_simp; try with_reducible rfl))
                | (refine ordS_take (i := 13) (oi := { dst := some 130, op := Op.move (Operand.tmp 11), type := 27, pos := _, after := #[{ on := 12, ground := Ground.guard }], guard := some (12, false) }) (v := undef) rfl (by kernel_rfl) (by kernel_rfl) (by kernel_rfl) (by kernel_rfl) (fun _ _ _ h => h) (by assumption) (Or.inr ⟨by rfl, rfl⟩) (fun _ => rfl) ?_)
              try simp only [Act.put, List.setIfInBounds_toArray, List.set_cons_zero, List.set_cons_succ]
              first
                | (refine' ordS_take (i := 14) (oi := { dst := some 131, op := Op.load 36 (Operand.tmp 5), type := 36, pos := _, after := #[{ on := 12, ground := Ground.guard }], guard := some (12, false) }) (v := _) rfl (by kernel_rfl) (by kernel_rfl) (by kernel_rfl) (by kernel_rfl) (fun _ _ _ h => h) (by assumption) (Or.inl ⟨by rfl, ?hy32⟩) (fun _ => rfl) ?rest32
                   case hy32 => (intro w hSw; (try dsimp only at hSw); go_simp; try with_reducible rfl))
                | (refine ordS_take (i := 14) (oi := { dst := some 131, op := Op.load 36 (Operand.tmp 5), type := 36, pos := _, after := #[{ on := 12, ground := Ground.guard }], guard := some (12, false) }) (v := undef) rfl (by kernel_rfl) (by kernel_rfl) (by kernel_rfl) (by kernel_rfl) (fun _ _ _ h => h) (by assumption) (Or.inr ⟨by rfl, rfl⟩) (fun _ => rfl) ?_)
              try simp only [Act.put, List.setIfInBounds_toArray, List.set_cons_zero, List.set_cons_succ]
              first
                | (refine' ordS_take (i := 16) (oi := { dst := some 133, op := Op.move (Operand.tmp 7), type := 27, pos := _, after := #[{ on := 12, ground := Ground.guard }], guard := some (12, false) }) (v := _) rfl (by kernel_rfl) (by kernel_rfl) (by kernel_rfl) (by kernel_rfl) (fun _ _ _ h => h) (by assumption) (Or.inl ⟨by rfl, ?hy33⟩) (fun _ => rfl) ?rest33
                   case hy33 => (intro w hSw; (try dsimp only at hSw); go_simp; try with_reducible rfl))
                | (refine ordS_take (i := 16) (oi := { dst := some 133, op := Op.move (Operand.tmp 7), type := 27, pos := _, after := #[{ on := 12, ground := Ground.guard }], guard := some (12, false) }) (v := undef) rfl (by kernel_rfl) (by kernel_rfl) (by kernel_rfl) (by kernel_rfl) (fun _ _ _ h => h) (by assumption) (Or.inr ⟨by rfl, rfl⟩) (fun _ => rfl) ?_)
              try simp only [Act.put, List.setIfInBounds_toArray, List.set_cons_zero, List.set_cons_succ]
              first
                | (refine' ordS_take (i := 17) (oi := { dst := some 134, op := Op.load 36 (Operand.tmp 5), type := 36, pos := _, after := #[{ on := 12, ground := Ground.guard }], guard := some (12, false) }) (v := _) rfl (by kernel_rfl) (by kernel_rfl) (by kernel_rfl) (by kernel_rfl) (fun _ _ _ h => h) (by assumption) (Or.inl ⟨by rfl, ?hy34⟩) (fun _ => rfl) ?rest34
                   case hy34 => (intro w hSw; (try dsimp only at hSw); go_simp; try with_reducible rfl))
                | (refine ordS_take (i := 17) (oi := { dst := some 134, op := Op.load 36 (Operand.tmp 5), type := 36, pos := _, after := #[{ on := 12, ground := Ground.guard }], guard := some (12, false) }) (v := undef) rfl (by kernel_rfl) (by kernel_rfl) (by kernel_rfl) (by kernel_rfl) (fun _ _ _ h => h) (by assumption) (Or.inr ⟨by rfl, rfl⟩) (fun _ => rfl) ?_)
              try simp only [Act.put, List.setIfInBounds_toArray, List.set_cons_zero, List.set_cons_succ]
              refine ordS_one (i := 15) (o := { dst := some 132, op := Op.call { callee := Callee.value (Operand.func 16), args := #[Operand.tmp 130, Operand.tmp 131], argTypes := #[27, 36] }, type := 4, pos := _, after := #[{ on := 13, ground := Ground.data }, { on := 14, ground := Ground.data }, { on := 12, ground := Ground.chain }, { on := 12, ground := Ground.guard }], guard := some (12, false) }) (by kernel_rfl) rfl (by rfl) (fun K hK => ?_)
              go_simp
              refine ⟨trivial, (callsIn_wide.2 (has_as _ b2 h2 A B x y _ _ m2 g2 V2.out)).mono ?_⟩
              rintro e w9 ⟨rfl, hb⟩
              replace hk := bl_tr hk hb
              replace hA := bl_tr hA hb; replace s0 := cell_later hb s0; replace s1 := cell_later hb s1; replace t0 := cell_later hb t0; replace t1 := cell_later hb t1; replace p0 := cell_later hb p0; replace p1 := cell_later hb p1; replace m0 := m0.below hb; replace m1 := m1.below hb; replace m2 := m2.below hb; replace m3 := m3.below hb; clear hb
              have hS9 : (fun w' => w'.cell? ⟨w.heap.size + 1 + 1, 0, none⟩ = some (.int .i64 x) ∧ w'.cell? ⟨w.heap.size + 1 + 1, 1, none⟩ = some (.int .i64 y)) w9 := ⟨p0, p1⟩
              refine hK _ _ hS9 ?_
              clear hK K
              try simp only [Act.put, List.setIfInBounds_toArray, List.set_cons_zero, List.set_cons_succ]
              refine ordS_one (i := 18) (o := { dst := some 135, op := Op.call { callee := Callee.value (Operand.func 16), args := #[Operand.tmp 133, Operand.tmp 134], argTypes := #[27, 36] }, type := 4, pos := _, after := #[{ on := 16, ground := Ground.data }, { on := 17, ground := Ground.data }, { on := 15, ground := Ground.chain }, { on := 12, ground := Ground.guard }], guard := some (12, false) }) (by kernel_rfl) rfl (by rfl) (fun K hK => ?_)
              go_simp
              refine ⟨trivial, (callsIn_wide.2 (has_as _ b0 h0 A B x y _ _ m0 g0 V0.out)).mono ?_⟩
              rintro e w9 ⟨rfl, hb⟩
              replace hk := bl_tr hk hb
              replace hA := bl_tr hA hb; replace s0 := cell_later hb s0; replace s1 := cell_later hb s1; replace t0 := cell_later hb t0; replace t1 := cell_later hb t1; replace p0 := cell_later hb p0; replace p1 := cell_later hb p1; replace m0 := m0.below hb; replace m1 := m1.below hb; replace m2 := m2.below hb; replace m3 := m3.below hb; clear hb
              have hS9 : (fun w' => w'.cell? ⟨w.heap.size + 1 + 1, 0, none⟩ = some (.int .i64 x) ∧ w'.cell? ⟨w.heap.size + 1 + 1, 1, none⟩ = some (.int .i64 y)) w9 := ⟨p0, p1⟩
              refine hK _ _ hS9 ?_
              clear hK K
              try simp only [Act.put, List.setIfInBounds_toArray, List.set_cons_zero, List.set_cons_succ]
              first
                | (refine' ordS_take (i := 19) (oi := { dst := some 136, op := Op.move (Operand.tmp 135), type := 4, pos := _, after := #[{ on := 18, ground := Ground.data }, { on := 18, ground := Ground.chain }, { on := 12, ground := Ground.guard }], guard := some (12, false) }) (v := _) rfl (by kernel_rfl) (by kernel_rfl) (by kernel_rfl) (by kernel_rfl) (fun _ _ _ h => h) (by assumption) (Or.inl ⟨by rfl, ?hy35⟩) (fun _ => rfl) ?rest35
                   case hy35 => (intro w hSw; (try dsimp only at hSw); go_simp; try with_reducible rfl))
                | (refine ordS_take (i := 19) (oi := { dst := some 136, op := Op.move (Operand.tmp 135), type := 4, pos := _, after := #[{ on := 18, ground := Ground.data }, { on := 18, ground := Ground.chain }, { on := 12, ground := Ground.guard }], guard := some (12, false) }) (v := undef) rfl (by kernel_rfl) (by kernel_rfl) (by kernel_rfl) (by kernel_rfl) (fun _ _ _ h => h) (by assumption) (Or.inr ⟨by rfl, rfl⟩) (fun _ => rfl) ?_)
              try simp only [Act.put, List.setIfInBounds_toArray, List.set_cons_zero, List.set_cons_succ]
              first
                | (refine' ordS_take (i := 20) (oi := { dst := some 137, op := Op.move (Operand.tmp 9), type := 27, pos := _, after := #[{ on := 19, ground := Ground.guard }], guard := some (19, true) }) (v := _) rfl (by kernel_rfl) (by kernel_rfl) (by kernel_rfl) (by kernel_rfl) (fun _ _ _ h => h) (by assumption) (Or.inl ⟨by rfl, ?hy36⟩) (fun _ => rfl) ?rest36
                   case hy36 => (intro w hSw; (try dsimp only at hSw); go_simp; try with_reducible rfl))
                | (refine ordS_take (i := 20) (oi := { dst := some 137, op := Op.move (Operand.tmp 9), type := 27, pos := _, after := #[{ on := 19, ground := Ground.guard }], guard := some (19, true) }) (v := undef) rfl (by kernel_rfl) (by kernel_rfl) (by kernel_rfl) (by kernel_rfl) (fun _ _ _ h => h) (by assumption) (Or.inr ⟨by rfl, rfl⟩) (fun _ => rfl) ?_)
              try simp only [Act.put, List.setIfInBounds_toArray, List.set_cons_zero, List.set_cons_succ]
              first
                | (refine' ordS_take (i := 21) (oi := { dst := some 138, op := Op.load 36 (Operand.tmp 5), type := 36, pos := _, after := #[{ on := 19, ground := Ground.guard }], guard := some (19, true) }) (v := _) rfl (by kernel_rfl) (by kernel_rfl) (by kernel_rfl) (by kernel_rfl) (fun _ _ _ h => h) (by assumption) (Or.inl ⟨by rfl, ?hy37⟩) (fun _ => rfl) ?rest37
                   case hy37 => (intro w hSw; (try dsimp only at hSw); go_simp; try with_reducible rfl))
                | (refine ordS_take (i := 21) (oi := { dst := some 138, op := Op.load 36 (Operand.tmp 5), type := 36, pos := _, after := #[{ on := 19, ground := Ground.guard }], guard := some (19, true) }) (v := undef) rfl (by kernel_rfl) (by kernel_rfl) (by kernel_rfl) (by kernel_rfl) (fun _ _ _ h => h) (by assumption) (Or.inr ⟨by rfl, rfl⟩) (fun _ => rfl) ?_)
              try simp only [Act.put, List.setIfInBounds_toArray, List.set_cons_zero, List.set_cons_succ]
              refine ordS_skip (i := 22) (o := { dst := some 139, op := Op.call { callee := Callee.value (Operand.func 16), args := #[Operand.tmp 137, Operand.tmp 138], argTypes := #[27, 36] }, type := 4, pos := _, after := #[{ on := 20, ground := Ground.data }, { on := 21, ground := Ground.data }, { on := 19, ground := Ground.chain }, { on := 19, ground := Ground.guard }], guard := some (19, true) }) (by kernel_rfl) rfl (by rfl) (fun _ => trivial) (by assumption) ?_
              try simp only [Act.put, List.setIfInBounds_toArray, List.set_cons_zero, List.set_cons_succ]
              first
                | (refine' ordS_take (i := 23) (oi := { dst := some 140, op := Op.pick (Operand.tmp 136) (Operand.tmp 139) (Operand.const (Value.bool false)), type := 4, pos := _, after := #[{ on := 19, ground := Ground.data }, { on := 22, ground := Ground.data }, { on := 12, ground := Ground.guard }], guard := some (12, false) }) (v := _) rfl (by kernel_rfl) (by kernel_rfl) (by kernel_rfl) (by kernel_rfl) (fun _ _ _ h => h) (by assumption) (Or.inl ⟨by rfl, ?hy38⟩) (fun _ => rfl) ?rest38
                   case hy38 => (intro w hSw; (try dsimp only at hSw); go_simp; try with_reducible rfl))
                | (refine ordS_take (i := 23) (oi := { dst := some 140, op := Op.pick (Operand.tmp 136) (Operand.tmp 139) (Operand.const (Value.bool false)), type := 4, pos := _, after := #[{ on := 19, ground := Ground.data }, { on := 22, ground := Ground.data }, { on := 12, ground := Ground.guard }], guard := some (12, false) }) (v := undef) rfl (by kernel_rfl) (by kernel_rfl) (by kernel_rfl) (by kernel_rfl) (fun _ _ _ h => h) (by assumption) (Or.inr ⟨by rfl, rfl⟩) (fun _ => rfl) ?_)
              try simp only [Act.put, List.setIfInBounds_toArray, List.set_cons_zero, List.set_cons_succ]
              first
                | (refine' ordS_take (i := 24) (oi := { dst := some 141, op := Op.binOp BinOp.neq 4 (Operand.tmp 132) (Operand.tmp 140) 4, type := 4, pos := _, after := #[{ on := 15, ground := Ground.data }, { on := 23, ground := Ground.data }, { on := 12, ground := Ground.guard }], guard := some (12, false) }) (v := _) rfl (by kernel_rfl) (by kernel_rfl) (by kernel_rfl) (by kernel_rfl) (fun _ _ _ h => h) (by assumption) (Or.inl ⟨by rfl, ?hy39⟩) (fun _ => rfl) ?rest39
                   case hy39 => (intro w hSw; (try dsimp only at hSw); go_simp; try with_reducible rfl))
                | (refine ordS_take (i := 24) (oi := { dst := some 141, op := Op.binOp BinOp.neq 4 (Operand.tmp 132) (Operand.tmp 140) 4, type := 4, pos := _, after := #[{ on := 15, ground := Ground.data }, { on := 23, ground := Ground.data }, { on := 12, ground := Ground.guard }], guard := some (12, false) }) (v := undef) rfl (by kernel_rfl) (by kernel_rfl) (by kernel_rfl) (by kernel_rfl) (fun _ _ _ h => h) (by assumption) (Or.inr ⟨by rfl, rfl⟩) (fun _ => rfl) ?_)
              try simp only [Act.put, List.setIfInBounds_toArray, List.set_cons_zero, List.set_cons_succ]
              first
                | (refine' ordS_take (i := 25) (oi := { dst := some 142, op := Op.pick (Operand.tmp 129) (Operand.const (Value.bool true)) (Operand.tmp 141), type := 4, pos := _, after := #[{ on := 12, ground := Ground.data }, { on := 24, ground := Ground.data }], guard := none }) (v := _) rfl (by kernel_rfl) (by kernel_rfl) (by kernel_rfl) (by kernel_rfl) (fun _ _ _ h => h) (by assumption) (Or.inl ⟨by rfl, ?hy40⟩) (fun _ => rfl) ?rest40
                   case hy40 => (intro w hSw; (try dsimp only at hSw); go_simp; try with_reducible rfl))
                | (refine ordS_take (i := 25) (oi := { dst := some 142, op := Op.pick (Operand.tmp 129) (Operand.const (Value.bool true)) (Operand.tmp 141), type := 4, pos := _, after := #[{ on := 12, ground := Ground.data }, { on := 24, ground := Ground.data }], guard := none }) (v := undef) rfl (by kernel_rfl) (by kernel_rfl) (by kernel_rfl) (by kernel_rfl) (fun _ _ _ h => h) (by assumption) (Or.inr ⟨by rfl, rfl⟩) (fun _ => rfl) ?_)
              try simp only [Act.put, List.setIfInBounds_toArray, List.set_cons_zero, List.set_cons_succ]
              refine ordS_done (by kernel_rfl) ?_
              go_wp2_with fail
              go_meet
              exact ⟨rfl, hk⟩
            · refine (wpIn_wide (n := 11)).1 ?_
              refine ordS_begin (S := (fun w' => w'.cell? ⟨w.heap.size + 1 + 1, 0, none⟩ = some (.int .i64 x) ∧ w'.cell? ⟨w.heap.size + 1 + 1, 1, none⟩ = some (.int .i64 y))) (by kernel_rfl) ⟨p0, p1⟩ (fun hH => ?_)
              first
                | (refine' ordS_take (i := 0) (oi := { dst := some 117, op := Op.move (Operand.tmp 12), type := 27, pos := _, after := #[], guard := none }) (v := _) rfl (by kernel_rfl) (by kernel_rfl) (by kernel_rfl) (by kernel_rfl) (fun _ _ _ h => h) (by assumption) (Or.inl ⟨by rfl, ?hy41⟩) (fun _ => rfl) ?rest41
                   case hy41 => (intro w hSw; (try dsimp only at hSw); go_simp; try with_reducible rfl))
                | (refine ordS_take (i := 0) (oi := { dst := some 117, op := Op.move (Operand.tmp 12), type := 27, pos := _, after := #[], guard := none }) (v := undef) rfl (by kernel_rfl) (by kernel_rfl) (by kernel_rfl) (by kernel_rfl) (fun _ _ _ h => h) (by assumption) (Or.inr ⟨by rfl, rfl⟩) (fun _ => rfl) ?_)
              try simp only [Act.put, List.setIfInBounds_toArray, List.set_cons_zero, List.set_cons_succ]
              first
                | (refine' ordS_take (i := 1) (oi := { dst := some 118, op := Op.load 36 (Operand.tmp 5), type := 36, pos := _, after := #[], guard := none }) (v := _) rfl (by kernel_rfl) (by kernel_rfl) (by kernel_rfl) (by kernel_rfl) (fun _ _ _ h => h) (by assumption) (Or.inl ⟨by rfl, ?hy42⟩) (fun _ => rfl) ?rest42
                   case hy42 => (intro w hSw; (try dsimp only at hSw); go_simp; try with_reducible rfl))
                | (refine ordS_take (i := 1) (oi := { dst := some 118, op := Op.load 36 (Operand.tmp 5), type := 36, pos := _, after := #[], guard := none }) (v := undef) rfl (by kernel_rfl) (by kernel_rfl) (by kernel_rfl) (by kernel_rfl) (fun _ _ _ h => h) (by assumption) (Or.inr ⟨by rfl, rfl⟩) (fun _ => rfl) ?_)
              try simp only [Act.put, List.setIfInBounds_toArray, List.set_cons_zero, List.set_cons_succ]
              first
                | (refine' ordS_take (i := 3) (oi := { dst := some 120, op := Op.move (Operand.tmp 7), type := 27, pos := _, after := #[], guard := none }) (v := _) rfl (by kernel_rfl) (by kernel_rfl) (by kernel_rfl) (by kernel_rfl) (fun _ _ _ h => h) (by assumption) (Or.inl ⟨by rfl, ?hy43⟩) (fun _ => rfl) ?rest43
                   case hy43 => (intro w hSw; (try dsimp only at hSw); go_simp; try with_reducible rfl))
                | (refine ordS_take (i := 3) (oi := { dst := some 120, op := Op.move (Operand.tmp 7), type := 27, pos := _, after := #[], guard := none }) (v := undef) rfl (by kernel_rfl) (by kernel_rfl) (by kernel_rfl) (by kernel_rfl) (fun _ _ _ h => h) (by assumption) (Or.inr ⟨by rfl, rfl⟩) (fun _ => rfl) ?_)
              try simp only [Act.put, List.setIfInBounds_toArray, List.set_cons_zero, List.set_cons_succ]
              first
                | (refine' ordS_take (i := 4) (oi := { dst := some 121, op := Op.load 36 (Operand.tmp 5), type := 36, pos := _, after := #[], guard := none }) (v := _) rfl (by kernel_rfl) (by kernel_rfl) (by kernel_rfl) (by kernel_rfl) (fun _ _ _ h => h) (by assumption) (Or.inl ⟨by rfl, ?hy44⟩) (fun _ => rfl) ?rest44
                   case hy44 => (intro w hSw; (try dsimp only at hSw); go_simp; try with_reducible rfl))
                | (refine ordS_take (i := 4) (oi := { dst := some 121, op := Op.load 36 (Operand.tmp 5), type := 36, pos := _, after := #[], guard := none }) (v := undef) rfl (by kernel_rfl) (by kernel_rfl) (by kernel_rfl) (by kernel_rfl) (fun _ _ _ h => h) (by assumption) (Or.inr ⟨by rfl, rfl⟩) (fun _ => rfl) ?_)
              try simp only [Act.put, List.setIfInBounds_toArray, List.set_cons_zero, List.set_cons_succ]
              refine ordS_one (i := 2) (o := { dst := some 119, op := Op.call { callee := Callee.value (Operand.func 16), args := #[Operand.tmp 117, Operand.tmp 118], argTypes := #[27, 36] }, type := 4, pos := _, after := #[{ on := 0, ground := Ground.data }, { on := 1, ground := Ground.data }], guard := none }) (by kernel_rfl) rfl (by rfl) (fun K hK => ?_)
              go_simp
              refine ⟨trivial, (callsIn_wide.2 (has_as _ b3 h3 A B x y _ _ m3 g3 V3.out)).mono ?_⟩
              rintro e w9 ⟨rfl, hb⟩
              replace hk := bl_tr hk hb
              replace hA := bl_tr hA hb; replace s0 := cell_later hb s0; replace s1 := cell_later hb s1; replace t0 := cell_later hb t0; replace t1 := cell_later hb t1; replace p0 := cell_later hb p0; replace p1 := cell_later hb p1; replace m0 := m0.below hb; replace m1 := m1.below hb; replace m2 := m2.below hb; replace m3 := m3.below hb; clear hb
              have hS9 : (fun w' => w'.cell? ⟨w.heap.size + 1 + 1, 0, none⟩ = some (.int .i64 x) ∧ w'.cell? ⟨w.heap.size + 1 + 1, 1, none⟩ = some (.int .i64 y)) w9 := ⟨p0, p1⟩
              refine hK _ _ hS9 ?_
              clear hK K
              try simp only [Act.put, List.setIfInBounds_toArray, List.set_cons_zero, List.set_cons_succ]
              refine ordS_one (i := 5) (o := { dst := some 122, op := Op.call { callee := Callee.value (Operand.func 16), args := #[Operand.tmp 120, Operand.tmp 121], argTypes := #[27, 36] }, type := 4, pos := _, after := #[{ on := 3, ground := Ground.data }, { on := 4, ground := Ground.data }, { on := 2, ground := Ground.chain }], guard := none }) (by kernel_rfl) rfl (by rfl) (fun K hK => ?_)
              go_simp
              refine ⟨trivial, (callsIn_wide.2 (has_as _ b0 h0 A B x y _ _ m0 g0 V0.out)).mono ?_⟩
              rintro e w9 ⟨rfl, hb⟩
              replace hk := bl_tr hk hb
              replace hA := bl_tr hA hb; replace s0 := cell_later hb s0; replace s1 := cell_later hb s1; replace t0 := cell_later hb t0; replace t1 := cell_later hb t1; replace p0 := cell_later hb p0; replace p1 := cell_later hb p1; replace m0 := m0.below hb; replace m1 := m1.below hb; replace m2 := m2.below hb; replace m3 := m3.below hb; clear hb
              have hS9 : (fun w' => w'.cell? ⟨w.heap.size + 1 + 1, 0, none⟩ = some (.int .i64 x) ∧ w'.cell? ⟨w.heap.size + 1 + 1, 1, none⟩ = some (.int .i64 y)) w9 := ⟨p0, p1⟩
              refine hK _ _ hS9 ?_
              clear hK K
              try simp only [Act.put, List.setIfInBounds_toArray, List.set_cons_zero, List.set_cons_succ]
              first
                | (refine' ordS_take (i := 6) (oi := { dst := some 123, op := Op.move (Operand.tmp 122), type := 4, pos := _, after := #[{ on := 5, ground := Ground.data }, { on := 5, ground := Ground.chain }], guard := none }) (v := _) rfl (by kernel_rfl) (by kernel_rfl) (by kernel_rfl) (by kernel_rfl) (fun _ _ _ h => h) (by assumption) (Or.inl ⟨by rfl, ?hy45⟩) (fun _ => rfl) ?rest45
                   case hy45 => (intro w hSw; (try dsimp only at hSw); go_simp; try with_reducible rfl))
                | (refine ordS_take (i := 6) (oi := { dst := some 123, op := Op.move (Operand.tmp 122), type := 4, pos := _, after := #[{ on := 5, ground := Ground.data }, { on := 5, ground := Ground.chain }], guard := none }) (v := undef) rfl (by kernel_rfl) (by kernel_rfl) (by kernel_rfl) (by kernel_rfl) (fun _ _ _ h => h) (by assumption) (Or.inr ⟨by rfl, rfl⟩) (fun _ => rfl) ?_)
              try simp only [Act.put, List.setIfInBounds_toArray, List.set_cons_zero, List.set_cons_succ]
              first
                | (refine' ordS_take (i := 7) (oi := { dst := some 124, op := Op.move (Operand.tmp 9), type := 27, pos := _, after := #[{ on := 6, ground := Ground.guard }], guard := some (6, false) }) (v := _) rfl (by kernel_rfl) (by kernel_rfl) (by kernel_rfl) (by kernel_rfl) (fun _ _ _ h => h) (by assumption) (Or.inl ⟨by rfl, ?hy46⟩) (fun _ => rfl) ?rest46
                   case hy46 => (intro w hSw; (try dsimp only at hSw); go_simp; try with_reducible rfl))
                | (refine ordS_take (i := 7) (oi := { dst := some 124, op := Op.move (Operand.tmp 9), type := 27, pos := _, after := #[{ on := 6, ground := Ground.guard }], guard := some (6, false) }) (v := undef) rfl (by kernel_rfl) (by kernel_rfl) (by kernel_rfl) (by kernel_rfl) (fun _ _ _ h => h) (by assumption) (Or.inr ⟨by rfl, rfl⟩) (fun _ => rfl) ?_)
              try simp only [Act.put, List.setIfInBounds_toArray, List.set_cons_zero, List.set_cons_succ]
              first
                | (refine' ordS_take (i := 8) (oi := { dst := some 125, op := Op.load 36 (Operand.tmp 5), type := 36, pos := _, after := #[{ on := 6, ground := Ground.guard }], guard := some (6, false) }) (v := _) rfl (by kernel_rfl) (by kernel_rfl) (by kernel_rfl) (by kernel_rfl) (fun _ _ _ h => h) (by assumption) (Or.inl ⟨by rfl, ?hy47⟩) (fun _ => rfl) ?rest47
                   case hy47 => (intro w hSw; (try dsimp only at hSw); go_simp; try with_reducible rfl))
                | (refine ordS_take (i := 8) (oi := { dst := some 125, op := Op.load 36 (Operand.tmp 5), type := 36, pos := _, after := #[{ on := 6, ground := Ground.guard }], guard := some (6, false) }) (v := undef) rfl (by kernel_rfl) (by kernel_rfl) (by kernel_rfl) (by kernel_rfl) (fun _ _ _ h => h) (by assumption) (Or.inr ⟨by rfl, rfl⟩) (fun _ => rfl) ?_)
              try simp only [Act.put, List.setIfInBounds_toArray, List.set_cons_zero, List.set_cons_succ]
              refine ordS_skip (i := 9) (o := { dst := some 126, op := Op.call { callee := Callee.value (Operand.func 16), args := #[Operand.tmp 124, Operand.tmp 125], argTypes := #[27, 36] }, type := 4, pos := _, after := #[{ on := 7, ground := Ground.data }, { on := 8, ground := Ground.data }, { on := 6, ground := Ground.chain }, { on := 6, ground := Ground.guard }], guard := some (6, false) }) (by kernel_rfl) rfl (by rfl) (fun _ => trivial) (by assumption) ?_
              try simp only [Act.put, List.setIfInBounds_toArray, List.set_cons_zero, List.set_cons_succ]
              first
                | (refine' ordS_take (i := 10) (oi := { dst := some 127, op := Op.pick (Operand.tmp 123) (Operand.const (Value.bool true)) (Operand.tmp 126), type := 4, pos := _, after := #[{ on := 6, ground := Ground.data }, { on := 9, ground := Ground.data }], guard := none }) (v := _) rfl (by kernel_rfl) (by kernel_rfl) (by kernel_rfl) (by kernel_rfl) (fun _ _ _ h => h) (by assumption) (Or.inl ⟨by rfl, ?hy48⟩) (fun _ => rfl) ?rest48
                   case hy48 => (intro w hSw; (try dsimp only at hSw); go_simp; try with_reducible rfl))
                | (refine ordS_take (i := 10) (oi := { dst := some 127, op := Op.pick (Operand.tmp 123) (Operand.const (Value.bool true)) (Operand.tmp 126), type := 4, pos := _, after := #[{ on := 6, ground := Ground.data }, { on := 9, ground := Ground.data }], guard := none }) (v := undef) rfl (by kernel_rfl) (by kernel_rfl) (by kernel_rfl) (by kernel_rfl) (fun _ _ _ h => h) (by assumption) (Or.inr ⟨by rfl, rfl⟩) (fun _ => rfl) ?_)
              try simp only [Act.put, List.setIfInBounds_toArray, List.set_cons_zero, List.set_cons_succ]
              first
                | (refine' ordS_take (i := 11) (oi := { dst := some 128, op := Op.binOp BinOp.neq 4 (Operand.tmp 119) (Operand.tmp 127) 4, type := 4, pos := _, after := #[{ on := 2, ground := Ground.data }, { on := 10, ground := Ground.data }], guard := none }) (v := _) rfl (by kernel_rfl) (by kernel_rfl) (by kernel_rfl) (by kernel_rfl) (fun _ _ _ h => h) (by assumption) (Or.inl ⟨by rfl, ?hy49⟩) (fun _ => rfl) ?rest49
                   case hy49 => (intro w hSw; (try dsimp only at hSw); go_simp; try with_reducible rfl))
                | (refine ordS_take (i := 11) (oi := { dst := some 128, op := Op.binOp BinOp.neq 4 (Operand.tmp 119) (Operand.tmp 127) 4, type := 4, pos := _, after := #[{ on := 2, ground := Ground.data }, { on := 10, ground := Ground.data }], guard := none }) (v := undef) rfl (by kernel_rfl) (by kernel_rfl) (by kernel_rfl) (by kernel_rfl) (fun _ _ _ h => h) (by assumption) (Or.inr ⟨by rfl, rfl⟩) (fun _ => rfl) ?_)
              try simp only [Act.put, List.setIfInBounds_toArray, List.set_cons_zero, List.set_cons_succ]
              first
                | (refine' ordS_take (i := 12) (oi := { dst := some 129, op := Op.move (Operand.tmp 128), type := 4, pos := _, after := #[{ on := 11, ground := Ground.data }, { on := 9, ground := Ground.chain }], guard := none }) (v := _) rfl (by kernel_rfl) (by kernel_rfl) (by kernel_rfl) (by kernel_rfl) (fun _ _ _ h => h) (by assumption) (Or.inl ⟨by rfl, ?hy50⟩) (fun _ => rfl) ?rest50
                   case hy50 => (intro w hSw; (try dsimp only at hSw); go_simp; try with_reducible rfl))
                | (refine ordS_take (i := 12) (oi := { dst := some 129, op := Op.move (Operand.tmp 128), type := 4, pos := _, after := #[{ on := 11, ground := Ground.data }, { on := 9, ground := Ground.chain }], guard := none }) (v := undef) rfl (by kernel_rfl) (by kernel_rfl) (by kernel_rfl) (by kernel_rfl) (fun _ _ _ h => h) (by assumption) (Or.inr ⟨by rfl, rfl⟩) (fun _ => rfl) ?_)
              try simp only [Act.put, List.setIfInBounds_toArray, List.set_cons_zero, List.set_cons_succ]
              first
                | (refine' ordS_take (i := 13) (oi := { dst := some 130, op := Op.move (Operand.tmp 11), type := 27, pos := _, after := #[{ on := 12, ground := Ground.guard }], guard := some (12, false) }) (v := _) rfl (by kernel_rfl) (by kernel_rfl) (by kernel_rfl) (by kernel_rfl) (fun _ _ _ h => h) (by assumption) (Or.inl ⟨by rfl, ?hy51⟩) (fun _ => rfl) ?rest51
                   case hy51 => (intro w hSw; (try dsimp only at hSw); go_simp; try with_reducible rfl))
                | (refine ordS_take (i := 13) (oi := { dst := some 130, op := Op.move (Operand.tmp 11), type := 27, pos := _, after := #[{ on := 12, ground := Ground.guard }], guard := some (12, false) }) (v := undef) rfl (by kernel_rfl) (by kernel_rfl) (by kernel_rfl) (by kernel_rfl) (fun _ _ _ h => h) (by assumption) (Or.inr ⟨by rfl, rfl⟩) (fun _ => rfl) ?_)
              try simp only [Act.put, List.setIfInBounds_toArray, List.set_cons_zero, List.set_cons_succ]
              first
                | (refine' ordS_take (i := 14) (oi := { dst := some 131, op := Op.load 36 (Operand.tmp 5), type := 36, pos := _, after := #[{ on := 12, ground := Ground.guard }], guard := some (12, false) }) (v := _) rfl (by kernel_rfl) (by kernel_rfl) (by kernel_rfl) (by kernel_rfl) (fun _ _ _ h => h) (by assumption) (Or.inl ⟨by rfl, ?hy52⟩) (fun _ => rfl) ?rest52
                   case hy52 => (intro w hSw; (try dsimp only at hSw); go_simp; try with_reducible rfl))
                | (refine ordS_take (i := 14) (oi := { dst := some 131, op := Op.load 36 (Operand.tmp 5), type := 36, pos := _, after := #[{ on := 12, ground := Ground.guard }], guard := some (12, false) }) (v := undef) rfl (by kernel_rfl) (by kernel_rfl) (by kernel_rfl) (by kernel_rfl) (fun _ _ _ h => h) (by assumption) (Or.inr ⟨by rfl, rfl⟩) (fun _ => rfl) ?_)
              try simp only [Act.put, List.setIfInBounds_toArray, List.set_cons_zero, List.set_cons_succ]
              first
                | (refine' ordS_take (i := 16) (oi := { dst := some 133, op := Op.move (Operand.tmp 7), type := 27, pos := _, after := #[{ on := 12, ground := Ground.guard }], guard := some (12, false) }) (v := _) rfl (by kernel_rfl) (by kernel_rfl) (by kernel_rfl) (by kernel_rfl) (fun _ _ _ h => h) (by assumption) (Or.inl ⟨by rfl, ?hy53⟩) (fun _ => rfl) ?rest53
                   case hy53 => (intro w hSw; (try dsimp only at hSw); go_simp; try with_reducible rfl))
                | (refine ordS_take (i := 16) (oi := { dst := some 133, op := Op.move (Operand.tmp 7), type := 27, pos := _, after := #[{ on := 12, ground := Ground.guard }], guard := some (12, false) }) (v := undef) rfl (by kernel_rfl) (by kernel_rfl) (by kernel_rfl) (by kernel_rfl) (fun _ _ _ h => h) (by assumption) (Or.inr ⟨by rfl, rfl⟩) (fun _ => rfl) ?_)
              try simp only [Act.put, List.setIfInBounds_toArray, List.set_cons_zero, List.set_cons_succ]
              first
                | (refine' ordS_take (i := 17) (oi := { dst := some 134, op := Op.load 36 (Operand.tmp 5), type := 36, pos := _, after := #[{ on := 12, ground := Ground.guard }], guard := some (12, false) }) (v := _) rfl (by kernel_rfl) (by kernel_rfl) (by kernel_rfl) (by kernel_rfl) (fun _ _ _ h => h) (by assumption) (Or.inl ⟨by rfl, ?hy54⟩) (fun _ => rfl) ?rest54
                   case hy54 => (intro w hSw; (try dsimp only at hSw); go_simp; try with_reducible rfl))
                | (refine ordS_take (i := 17) (oi := { dst := some 134, op := Op.load 36 (Operand.tmp 5), type := 36, pos := _, after := #[{ on := 12, ground := Ground.guard }], guard := some (12, false) }) (v := undef) rfl (by kernel_rfl) (by kernel_rfl) (by kernel_rfl) (by kernel_rfl) (fun _ _ _ h => h) (by assumption) (Or.inr ⟨by rfl, rfl⟩) (fun _ => rfl) ?_)
              try simp only [Act.put, List.setIfInBounds_toArray, List.set_cons_zero, List.set_cons_succ]
              refine ordS_one (i := 15) (o := { dst := some 132, op := Op.call { callee := Callee.value (Operand.func 16), args := #[Operand.tmp 130, Operand.tmp 131], argTypes := #[27, 36] }, type := 4, pos := _, after := #[{ on := 13, ground := Ground.data }, { on := 14, ground := Ground.data }, { on := 12, ground := Ground.chain }, { on := 12, ground := Ground.guard }], guard := some (12, false) }) (by kernel_rfl) rfl (by rfl) (fun K hK => ?_)
              go_simp
              refine ⟨trivial, (callsIn_wide.2 (has_as _ b2 h2 A B x y _ _ m2 g2 V2.out)).mono ?_⟩
              rintro e w9 ⟨rfl, hb⟩
              replace hk := bl_tr hk hb
              replace hA := bl_tr hA hb; replace s0 := cell_later hb s0; replace s1 := cell_later hb s1; replace t0 := cell_later hb t0; replace t1 := cell_later hb t1; replace p0 := cell_later hb p0; replace p1 := cell_later hb p1; replace m0 := m0.below hb; replace m1 := m1.below hb; replace m2 := m2.below hb; replace m3 := m3.below hb; clear hb
              have hS9 : (fun w' => w'.cell? ⟨w.heap.size + 1 + 1, 0, none⟩ = some (.int .i64 x) ∧ w'.cell? ⟨w.heap.size + 1 + 1, 1, none⟩ = some (.int .i64 y)) w9 := ⟨p0, p1⟩
              refine hK _ _ hS9 ?_
              clear hK K
              try simp only [Act.put, List.setIfInBounds_toArray, List.set_cons_zero, List.set_cons_succ]
              refine ordS_one (i := 18) (o := { dst := some 135, op := Op.call { callee := Callee.value (Operand.func 16), args := #[Operand.tmp 133, Operand.tmp 134], argTypes := #[27, 36] }, type := 4, pos := _, after := #[{ on := 16, ground := Ground.data }, { on := 17, ground := Ground.data }, { on := 15, ground := Ground.chain }, { on := 12, ground := Ground.guard }], guard := some (12, false) }) (by kernel_rfl) rfl (by rfl) (fun K hK => ?_)
              go_simp
              refine ⟨trivial, (callsIn_wide.2 (has_as _ b0 h0 A B x y _ _ m0 g0 V0.out)).mono ?_⟩
              rintro e w9 ⟨rfl, hb⟩
              replace hk := bl_tr hk hb
              replace hA := bl_tr hA hb; replace s0 := cell_later hb s0; replace s1 := cell_later hb s1; replace t0 := cell_later hb t0; replace t1 := cell_later hb t1; replace p0 := cell_later hb p0; replace p1 := cell_later hb p1; replace m0 := m0.below hb; replace m1 := m1.below hb; replace m2 := m2.below hb; replace m3 := m3.below hb; clear hb
              have hS9 : (fun w' => w'.cell? ⟨w.heap.size + 1 + 1, 0, none⟩ = some (.int .i64 x) ∧ w'.cell? ⟨w.heap.size + 1 + 1, 1, none⟩ = some (.int .i64 y)) w9 := ⟨p0, p1⟩
              refine hK _ _ hS9 ?_
              clear hK K
              try simp only [Act.put, List.setIfInBounds_toArray, List.set_cons_zero, List.set_cons_succ]
              first
                | (refine' ordS_take (i := 19) (oi := { dst := some 136, op := Op.move (Operand.tmp 135), type := 4, pos := _, after := #[{ on := 18, ground := Ground.data }, { on := 18, ground := Ground.chain }, { on := 12, ground := Ground.guard }], guard := some (12, false) }) (v := _) rfl (by kernel_rfl) (by kernel_rfl) (by kernel_rfl) (by kernel_rfl) (fun _ _ _ h => h) (by assumption) (Or.inl ⟨by rfl, ?hy55⟩) (fun _ => rfl) ?rest55
                   case hy55 => (intro w hSw; (try dsimp only at hSw); go_simp; try with_reducible rfl))
                | (refine ordS_take (i := 19) (oi := { dst := some 136, op := Op.move (Operand.tmp 135), type := 4, pos := _, after := #[{ on := 18, ground := Ground.data }, { on := 18, ground := Ground.chain }, { on := 12, ground := Ground.guard }], guard := some (12, false) }) (v := undef) rfl (by kernel_rfl) (by kernel_rfl) (by kernel_rfl) (by kernel_rfl) (fun _ _ _ h => h) (by assumption) (Or.inr ⟨by rfl, rfl⟩) (fun _ => rfl) ?_)
              try simp only [Act.put, List.setIfInBounds_toArray, List.set_cons_zero, List.set_cons_succ]
              first
                | (refine' ordS_take (i := 20) (oi := { dst := some 137, op := Op.move (Operand.tmp 9), type := 27, pos := _, after := #[{ on := 19, ground := Ground.guard }], guard := some (19, true) }) (v := _) rfl (by kernel_rfl) (by kernel_rfl) (by kernel_rfl) (by kernel_rfl) (fun _ _ _ h => h) (by assumption) (Or.inl ⟨by rfl, ?hy56⟩) (fun _ => rfl) ?rest56
                   case hy56 => (intro w hSw; (try dsimp only at hSw); go_simp; try with_reducible rfl))
                | (refine ordS_take (i := 20) (oi := { dst := some 137, op := Op.move (Operand.tmp 9), type := 27, pos := _, after := #[{ on := 19, ground := Ground.guard }], guard := some (19, true) }) (v := undef) rfl (by kernel_rfl) (by kernel_rfl) (by kernel_rfl) (by kernel_rfl) (fun _ _ _ h => h) (by assumption) (Or.inr ⟨by rfl, rfl⟩) (fun _ => rfl) ?_)
              try simp only [Act.put, List.setIfInBounds_toArray, List.set_cons_zero, List.set_cons_succ]
              first
                | (refine' ordS_take (i := 21) (oi := { dst := some 138, op := Op.load 36 (Operand.tmp 5), type := 36, pos := _, after := #[{ on := 19, ground := Ground.guard }], guard := some (19, true) }) (v := _) rfl (by kernel_rfl) (by kernel_rfl) (by kernel_rfl) (by kernel_rfl) (fun _ _ _ h => h) (by assumption) (Or.inl ⟨by rfl, ?hy57⟩) (fun _ => rfl) ?rest57
                   case hy57 => (intro w hSw; (try dsimp only at hSw); go_simp; try with_reducible rfl))
                | (refine ordS_take (i := 21) (oi := { dst := some 138, op := Op.load 36 (Operand.tmp 5), type := 36, pos := _, after := #[{ on := 19, ground := Ground.guard }], guard := some (19, true) }) (v := undef) rfl (by kernel_rfl) (by kernel_rfl) (by kernel_rfl) (by kernel_rfl) (fun _ _ _ h => h) (by assumption) (Or.inr ⟨by rfl, rfl⟩) (fun _ => rfl) ?_)
              try simp only [Act.put, List.setIfInBounds_toArray, List.set_cons_zero, List.set_cons_succ]
              refine ordS_one (i := 22) (o := { dst := some 139, op := Op.call { callee := Callee.value (Operand.func 16), args := #[Operand.tmp 137, Operand.tmp 138], argTypes := #[27, 36] }, type := 4, pos := _, after := #[{ on := 20, ground := Ground.data }, { on := 21, ground := Ground.data }, { on := 19, ground := Ground.chain }, { on := 19, ground := Ground.guard }], guard := some (19, true) }) (by kernel_rfl) rfl (by rfl) (fun K hK => ?_)
              go_simp
              refine ⟨trivial, (callsIn_wide.2 (has_as _ b1 h1 A B x y _ _ m1 g1 V1.out)).mono ?_⟩
              rintro e w9 ⟨rfl, hb⟩
              replace hk := bl_tr hk hb
              replace hA := bl_tr hA hb; replace s0 := cell_later hb s0; replace s1 := cell_later hb s1; replace t0 := cell_later hb t0; replace t1 := cell_later hb t1; replace p0 := cell_later hb p0; replace p1 := cell_later hb p1; replace m0 := m0.below hb; replace m1 := m1.below hb; replace m2 := m2.below hb; replace m3 := m3.below hb; clear hb
              have hS9 : (fun w' => w'.cell? ⟨w.heap.size + 1 + 1, 0, none⟩ = some (.int .i64 x) ∧ w'.cell? ⟨w.heap.size + 1 + 1, 1, none⟩ = some (.int .i64 y)) w9 := ⟨p0, p1⟩
              refine hK _ _ hS9 ?_
              clear hK K
              try simp only [Act.put, List.setIfInBounds_toArray, List.set_cons_zero, List.set_cons_succ]
              first
                | (refine' ordS_take (i := 23) (oi := { dst := some 140, op := Op.pick (Operand.tmp 136) (Operand.tmp 139) (Operand.const (Value.bool false)), type := 4, pos := _, after := #[{ on := 19, ground := Ground.data }, { on := 22, ground := Ground.data }, { on := 12, ground := Ground.guard }], guard := some (12, false) }) (v := _) rfl (by kernel_rfl) (by kernel_rfl) (by kernel_rfl) (by kernel_rfl) (fun _ _ _ h => h) (by assumption) (Or.inl ⟨by rfl, ?hy58⟩) (fun _ => rfl) ?rest58
                   case hy58 => (intro w hSw; (try dsimp only at hSw); go_simp; try with_reducible rfl))
                | (refine ordS_take (i := 23) (oi := { dst := some 140, op := Op.pick (Operand.tmp 136) (Operand.tmp 139) (Operand.const (Value.bool false)), type := 4, pos := _, after := #[{ on := 19, ground := Ground.data }, { on := 22, ground := Ground.data }, { on := 12, ground := Ground.guard }], guard := some (12, false) }) (v := undef) rfl (by kernel_rfl) (by kernel_rfl) (by kernel_rfl) (by kernel_rfl) (fun _ _ _ h => h) (by assumption) (Or.inr ⟨by rfl, rfl⟩) (fun _ => rfl) ?_)
              try simp only [Act.put, List.setIfInBounds_toArray, List.set_cons_zero, List.set_cons_succ]
              first
                | (refine' ordS_take (i := 24) (oi := { dst := some 141, op := Op.binOp BinOp.neq 4 (Operand.tmp 132) (Operand.tmp 140) 4, type := 4, pos := _, after := #[{ on := 15, ground := Ground.data }, { on := 23, ground := Ground.data }, { on := 12, ground := Ground.guard }], guard := some (12, false) }) (v := _) rfl (by kernel_rfl) (by kernel_rfl) (by kernel_rfl) (by kernel_rfl) (fun _ _ _ h => h) (by assumption) (Or.inl ⟨by rfl, ?hy59⟩) (fun _ => rfl) ?rest59
                   case hy59 => (intro w hSw; (try dsimp only at hSw); go_simp; try with_reducible rfl))
                | (refine ordS_take (i := 24) (oi := { dst := some 141, op := Op.binOp BinOp.neq 4 (Operand.tmp 132) (Operand.tmp 140) 4, type := 4, pos := _, after := #[{ on := 15, ground := Ground.data }, { on := 23, ground := Ground.data }, { on := 12, ground := Ground.guard }], guard := some (12, false) }) (v := undef) rfl (by kernel_rfl) (by kernel_rfl) (by kernel_rfl) (by kernel_rfl) (fun _ _ _ h => h) (by assumption) (Or.inr ⟨by rfl, rfl⟩) (fun _ => rfl) ?_)
              try simp only [Act.put, List.setIfInBounds_toArray, List.set_cons_zero, List.set_cons_succ]
              first
                | (refine' ordS_take (i := 25) (oi := { dst := some 142, op := Op.pick (Operand.tmp 129) (Operand.const (Value.bool true)) (Operand.tmp 141), type := 4, pos := _, after := #[{ on := 12, ground := Ground.data }, { on := 24, ground := Ground.data }], guard := none }) (v := _) rfl (by kernel_rfl) (by kernel_rfl) (by kernel_rfl) (by kernel_rfl) (fun _ _ _ h => h) (by assumption) (Or.inl ⟨by rfl, ?hy60⟩) (fun _ => rfl) ?rest60
                   case hy60 => (intro w hSw; (try dsimp only at hSw); go_simp; try with_reducible rfl))
                | (refine ordS_take (i := 25) (oi := { dst := some 142, op := Op.pick (Operand.tmp 129) (Operand.const (Value.bool true)) (Operand.tmp 141), type := 4, pos := _, after := #[{ on := 12, ground := Ground.data }, { on := 24, ground := Ground.data }], guard := none }) (v := undef) rfl (by kernel_rfl) (by kernel_rfl) (by kernel_rfl) (by kernel_rfl) (fun _ _ _ h => h) (by assumption) (Or.inr ⟨by rfl, rfl⟩) (fun _ => rfl) ?_)
              try simp only [Act.put, List.setIfInBounds_toArray, List.set_cons_zero, List.set_cons_succ]
              refine ordS_done (by kernel_rfl) ?_
              go_wp2_with fail
              go_meet
              exact ⟨rfl, hk⟩
            · refine (wpIn_wide (n := 11)).1 ?_
              refine ordS_begin (S := (fun w' => w'.cell? ⟨w.heap.size + 1 + 1, 0, none⟩ = some (.int .i64 x) ∧ w'.cell? ⟨w.heap.size + 1 + 1, 1, none⟩ = some (.int .i64 y))) (by kernel_rfl) ⟨p0, p1⟩ (fun hH => ?_)
              first
                | (refine' ordS_take (i := 0) (oi := { dst := some 117, op := Op.move (Operand.tmp 12), type := 27, pos := _, after := #[], guard := none }) (v := _) rfl (by kernel_rfl) (by kernel_rfl) (by kernel_rfl) (by kernel_rfl) (fun _ _ _ h => h) (by assumption) (Or.inl ⟨by rfl, ?hy61⟩) (fun _ => rfl) ?rest61
                   case hy61 => (intro w hSw; (try dsimp only at hSw); go_simp; try with_reducible rfl))
                | (refine ordS_take (i := 0) (oi := { dst := some 117, op := Op.move (Operand.tmp 12), type := 27, pos := _, after := #[], guard := none }) (v := undef) rfl (by kernel_rfl) (by kernel_rfl) (by kernel_rfl) (by kernel_rfl) (fun _ _ _ h => h) (by assumption) (Or.inr ⟨by rfl, rfl⟩) (fun _ => rfl) ?_)
              try simp only [Act.put, List.setIfInBounds_toArray, List.set_cons_zero, List.set_cons_succ]
              first
                | (refine' ordS_take (i := 1) (oi := { dst := some 118, op := Op.load 36 (Operand.tmp 5), type := 36, pos := _, after := #[], guard := none }) (v := _) rfl (by kernel_rfl) (by kernel_rfl) (by kernel_rfl) (by kernel_rfl) (fun _ _ _ h => h) (by assumption) (Or.inl ⟨by rfl, ?hy62⟩) (fun _ => rfl) ?rest62
                   case hy62 => (intro w hSw; (try dsimp only at hSw); go_simp; try with_reducible rfl))
                | (refine ordS_take (i := 1) (oi := { dst := some 118, op := Op.load 36 (Operand.tmp 5), type := 36, pos := _, after := #[], guard := none }) (v := undef) rfl (by kernel_rfl) (by kernel_rfl) (by kernel_rfl) (by kernel_rfl) (fun _ _ _ h => h) (by assumption) (Or.inr ⟨by rfl, rfl⟩) (fun _ => rfl) ?_)
              try simp only [Act.put, List.setIfInBounds_toArray, List.set_cons_zero, List.set_cons_succ]
              first
                | (refine' ordS_take (i := 3) (oi := { dst := some 120, op := Op.move (Operand.tmp 7), type := 27, pos := _, after := #[], guard := none }) (v := _) rfl (by kernel_rfl) (by kernel_rfl) (by kernel_rfl) (by kernel_rfl) (fun _ _ _ h => h) (by assumption) (Or.inl ⟨by rfl, ?hy63⟩) (fun _ => rfl) ?rest63
                   case hy63 => (intro w hSw; (try dsimp only at hSw); go_simp; try with_reducible rfl))
                | (refine ordS_take (i := 3) (oi := { dst := some 120, op := Op.move (Operand.tmp 7), type := 27, pos := _, after := #[], guard := none }) (v := undef) rfl (by kernel_rfl) (by kernel_rfl) (by kernel_rfl) (by kernel_rfl) (fun _ _ _ h => h) (by assumption) (Or.inr ⟨by rfl, rfl⟩) (fun _ => rfl) ?_)
              try simp only [Act.put, List.setIfInBounds_toArray, List.set_cons_zero, List.set_cons_succ]
              first
                | (refine' ordS_take (i := 4) (oi := { dst := some 121, op := Op.load 36 (Operand.tmp 5), type := 36, pos := _, after := #[], guard := none }) (v := _) rfl (by kernel_rfl) (by kernel_rfl) (by kernel_rfl) (by kernel_rfl) (fun _ _ _ h => h) (by assumption) (Or.inl ⟨by rfl, ?hy64⟩) (fun _ => rfl) ?rest64
                   case hy64 => (intro w hSw; (try dsimp only at hSw); go_simp; try with_reducible rfl))
                | (refine ordS_take (i := 4) (oi := { dst := some 121, op := Op.load 36 (Operand.tmp 5), type := 36, pos := _, after := #[], guard := none }) (v := undef) rfl (by kernel_rfl) (by kernel_rfl) (by kernel_rfl) (by kernel_rfl) (fun _ _ _ h => h) (by assumption) (Or.inr ⟨by rfl, rfl⟩) (fun _ => rfl) ?_)
              try simp only [Act.put, List.setIfInBounds_toArray, List.set_cons_zero, List.set_cons_succ]
              refine ordS_one (i := 2) (o := { dst := some 119, op := Op.call { callee := Callee.value (Operand.func 16), args := #[Operand.tmp 117, Operand.tmp 118], argTypes := #[27, 36] }, type := 4, pos := _, after := #[{ on := 0, ground := Ground.data }, { on := 1, ground := Ground.data }], guard := none }) (by kernel_rfl) rfl (by rfl) (fun K hK => ?_)
              go_simp
              refine ⟨trivial, (callsIn_wide.2 (has_as _ b3 h3 A B x y _ _ m3 g3 V3.out)).mono ?_⟩
              rintro e w9 ⟨rfl, hb⟩
              replace hk := bl_tr hk hb
              replace hA := bl_tr hA hb; replace s0 := cell_later hb s0; replace s1 := cell_later hb s1; replace t0 := cell_later hb t0; replace t1 := cell_later hb t1; replace p0 := cell_later hb p0; replace p1 := cell_later hb p1; replace m0 := m0.below hb; replace m1 := m1.below hb; replace m2 := m2.below hb; replace m3 := m3.below hb; clear hb
              have hS9 : (fun w' => w'.cell? ⟨w.heap.size + 1 + 1, 0, none⟩ = some (.int .i64 x) ∧ w'.cell? ⟨w.heap.size + 1 + 1, 1, none⟩ = some (.int .i64 y)) w9 := ⟨p0, p1⟩
              refine hK _ _ hS9 ?_
              clear hK K
              try simp only [Act.put, List.setIfInBounds_toArray, List.set_cons_zero, List.set_cons_succ]
              refine ordS_one (i := 5) (o := { dst := some 122, op := Op.call { callee := Callee.value (Operand.func 16), args := #[Operand.tmp 120, Operand.tmp 121], argTypes := #[27, 36] }, type := 4, pos := _, after := #[{ on := 3, ground := Ground.data }, { on := 4, ground := Ground.data }, { on := 2, ground := Ground.chain }], guard := none }) (by kernel_rfl) rfl (by rfl) (fun K hK => ?_)
              go_simp
              refine ⟨trivial, (callsIn_wide.2 (has_as _ b0 h0 A B x y _ _ m0 g0 V0.out)).mono ?_⟩
              rintro e w9 ⟨rfl, hb⟩
              replace hk := bl_tr hk hb
              replace hA := bl_tr hA hb; replace s0 := cell_later hb s0; replace s1 := cell_later hb s1; replace t0 := cell_later hb t0; replace t1 := cell_later hb t1; replace p0 := cell_later hb p0; replace p1 := cell_later hb p1; replace m0 := m0.below hb; replace m1 := m1.below hb; replace m2 := m2.below hb; replace m3 := m3.below hb; clear hb
              have hS9 : (fun w' => w'.cell? ⟨w.heap.size + 1 + 1, 0, none⟩ = some (.int .i64 x) ∧ w'.cell? ⟨w.heap.size + 1 + 1, 1, none⟩ = some (.int .i64 y)) w9 := ⟨p0, p1⟩
              refine hK _ _ hS9 ?_
              clear hK K
              try simp only [Act.put, List.setIfInBounds_toArray, List.set_cons_zero, List.set_cons_succ]
              first
                | (refine' ordS_take (i := 6) (oi := { dst := some 123, op := Op.move (Operand.tmp 122), type := 4, pos := _, after := #[{ on := 5, ground := Ground.data }, { on := 5, ground := Ground.chain }], guard := none }) (v := _) rfl (by kernel_rfl) (by kernel_rfl) (by kernel_rfl) (by kernel_rfl) (fun _ _ _ h => h) (by assumption) (Or.inl ⟨by rfl, ?hy65⟩) (fun _ => rfl) ?rest65
                   case hy65 => (intro w hSw; (try dsimp only at hSw); go_simp; try with_reducible rfl))
                | (refine ordS_take (i := 6) (oi := { dst := some 123, op := Op.move (Operand.tmp 122), type := 4, pos := _, after := #[{ on := 5, ground := Ground.data }, { on := 5, ground := Ground.chain }], guard := none }) (v := undef) rfl (by kernel_rfl) (by kernel_rfl) (by kernel_rfl) (by kernel_rfl) (fun _ _ _ h => h) (by assumption) (Or.inr ⟨by rfl, rfl⟩) (fun _ => rfl) ?_)
              try simp only [Act.put, List.setIfInBounds_toArray, List.set_cons_zero, List.set_cons_succ]
              first
                | (refine' ordS_take (i := 7) (oi := { dst := some 124, op := Op.move (Operand.tmp 9), type := 27, pos := _, after := #[{ on := 6, ground := Ground.guard }], guard := some (6, false) }) (v := _) rfl (by kernel_rfl) (by kernel_rfl) (by kernel_rfl) (by kernel_rfl) (fun _ _ _ h => h) (by assumption) (Or.inl ⟨by rfl, ?hy66⟩) (fun _ => rfl) ?rest66
                   case hy66 => (intro w hSw; (try dsimp only at hSw); go_simp; try with_reducible rfl))
                | (refine ordS_take (i := 7) (oi := { dst := some 124, op := Op.move (Operand.tmp 9), type := 27, pos := _, after := #[{ on := 6, ground := Ground.guard }], guard := some (6, false) }) (v := undef) rfl (by kernel_rfl) (by kernel_rfl) (by kernel_rfl) (by kernel_rfl) (fun _ _ _ h => h) (by assumption) (Or.inr ⟨by rfl, rfl⟩) (fun _ => rfl) ?_)
              try simp only [Act.put, List.setIfInBounds_toArray, List.set_cons_zero, List.set_cons_succ]
              first
                | (refine' ordS_take (i := 8) (oi := { dst := some 125, op := Op.load 36 (Operand.tmp 5), type := 36, pos := _, after := #[{ on := 6, ground := Ground.guard }], guard := some (6, false) }) (v := _) rfl (by kernel_rfl) (by kernel_rfl) (by kernel_rfl) (by kernel_rfl) (fun _ _ _ h => h) (by assumption) (Or.inl ⟨by rfl, ?hy67⟩) (fun _ => rfl) ?rest67
                   case hy67 => (intro w hSw; (try dsimp only at hSw); go_simp; try with_reducible rfl))
                | (refine ordS_take (i := 8) (oi := { dst := some 125, op := Op.load 36 (Operand.tmp 5), type := 36, pos := _, after := #[{ on := 6, ground := Ground.guard }], guard := some (6, false) }) (v := undef) rfl (by kernel_rfl) (by kernel_rfl) (by kernel_rfl) (by kernel_rfl) (fun _ _ _ h => h) (by assumption) (Or.inr ⟨by rfl, rfl⟩) (fun _ => rfl) ?_)
              try simp only [Act.put, List.setIfInBounds_toArray, List.set_cons_zero, List.set_cons_succ]
              refine ordS_skip (i := 9) (o := { dst := some 126, op := Op.call { callee := Callee.value (Operand.func 16), args := #[Operand.tmp 124, Operand.tmp 125], argTypes := #[27, 36] }, type := 4, pos := _, after := #[{ on := 7, ground := Ground.data }, { on := 8, ground := Ground.data }, { on := 6, ground := Ground.chain }, { on := 6, ground := Ground.guard }], guard := some (6, false) }) (by kernel_rfl) rfl (by rfl) (fun _ => trivial) (by assumption) ?_
              try simp only [Act.put, List.setIfInBounds_toArray, List.set_cons_zero, List.set_cons_succ]
              first
                | (refine' ordS_take (i := 10) (oi := { dst := some 127, op := Op.pick (Operand.tmp 123) (Operand.const (Value.bool true)) (Operand.tmp 126), type := 4, pos := _, after := #[{ on := 6, ground := Ground.data }, { on := 9, ground := Ground.data }], guard := none }) (v := _) rfl (by kernel_rfl) (by kernel_rfl) (by kernel_rfl) (by kernel_rfl) (fun _ _ _ h => h) (by assumption) (Or.inl ⟨by rfl, ?hy68⟩) (fun _ => rfl) ?rest68
                   case hy68 => (intro w hSw; (try dsimp only at hSw); go_simp; try with_reducible rfl))
                | (refine ordS_take (i := 10) (oi := { dst := some 127, op := Op.pick (Operand.tmp 123) (Operand.const (Value.bool true)) (Operand.tmp 126), type := 4, pos := _, after := #[{ on := 6, ground := Ground.data }, { on := 9, ground := Ground.data }], guard := none }) (v := undef) rfl (by kernel_rfl) (by kernel_rfl) (by kernel_rfl) (by kernel_rfl) (fun _ _ _ h => h) (by assumption) (Or.inr ⟨by rfl, rfl⟩) (fun _ => rfl) ?_)
              try simp only [Act.put, List.setIfInBounds_toArray, List.set_cons_zero, List.set_cons_succ]
              first
                | (refine' ordS_take (i := 11) (oi := { dst := some 128, op := Op.binOp BinOp.neq 4 (Operand.tmp 119) (Operand.tmp 127) 4, type := 4, pos := _, after := #[{ on := 2, ground := Ground.data }, { on := 10, ground := Ground.data }], guard := none }) (v := _) rfl (by kernel_rfl) (by kernel_rfl) (by kernel_rfl) (by kernel_rfl) (fun _ _ _ h => h) (by assumption) (Or.inl ⟨by rfl, ?hy69⟩) (fun _ => rfl) ?rest69
                   case hy69 => (intro w hSw; (try dsimp only at hSw); go_simp; try with_reducible rfl))
                | (refine ordS_take (i := 11) (oi := { dst := some 128, op := Op.binOp BinOp.neq 4 (Operand.tmp 119) (Operand.tmp 127) 4, type := 4, pos := _, after := #[{ on := 2, ground := Ground.data }, { on := 10, ground := Ground.data }], guard := none }) (v := undef) rfl (by kernel_rfl) (by kernel_rfl) (by kernel_rfl) (by kernel_rfl) (fun _ _ _ h => h) (by assumption) (Or.inr ⟨by rfl, rfl⟩) (fun _ => rfl) ?_)
              try simp only [Act.put, List.setIfInBounds_toArray, List.set_cons_zero, List.set_cons_succ]
              first
                | (refine' ordS_take (i := 12) (oi := { dst := some 129, op := Op.move (Operand.tmp 128), type := 4, pos := _, after := #[{ on := 11, ground := Ground.data }, { on := 9, ground := Ground.chain }], guard := none }) (v := _) rfl (by kernel_rfl) (by kernel_rfl) (by kernel_rfl) (by kernel_rfl) (fun _ _ _ h => h) (by assumption) (Or.inl ⟨by rfl, ?hy70⟩) (fun _ => rfl) ?rest70
                   case hy70 => (intro w hSw; (try dsimp only at hSw); go_simp; try with_reducible rfl))
                | (refine ordS_take (i := 12) (oi := { dst := some 129, op := Op.move (Operand.tmp 128), type := 4, pos := _, after := #[{ on := 11, ground := Ground.data }, { on := 9, ground := Ground.chain }], guard := none }) (v := undef) rfl (by kernel_rfl) (by kernel_rfl) (by kernel_rfl) (by kernel_rfl) (fun _ _ _ h => h) (by assumption) (Or.inr ⟨by rfl, rfl⟩) (fun _ => rfl) ?_)
              try simp only [Act.put, List.setIfInBounds_toArray, List.set_cons_zero, List.set_cons_succ]
              first
                | (refine' ordS_take (i := 13) (oi := { dst := some 130, op := Op.move (Operand.tmp 11), type := 27, pos := _, after := #[{ on := 12, ground := Ground.guard }], guard := some (12, false) }) (v := _) rfl (by kernel_rfl) (by kernel_rfl) (by kernel_rfl) (by kernel_rfl) (fun _ _ _ h => h) (by assumption) (Or.inl ⟨by rfl, ?hy71⟩) (fun _ => rfl) ?rest71
                   case hy71 => (intro w hSw; (try dsimp only at hSw); go_simp; try with_reducible rfl))
                | (refine ordS_take (i := 13) (oi := { dst := some 130, op := Op.move (Operand.tmp 11), type := 27, pos := _, after := #[{ on := 12, ground := Ground.guard }], guard := some (12, false) }) (v := undef) rfl (by kernel_rfl) (by kernel_rfl) (by kernel_rfl) (by kernel_rfl) (fun _ _ _ h => h) (by assumption) (Or.inr ⟨by rfl, rfl⟩) (fun _ => rfl) ?_)
              try simp only [Act.put, List.setIfInBounds_toArray, List.set_cons_zero, List.set_cons_succ]
              first
                | (refine' ordS_take (i := 14) (oi := { dst := some 131, op := Op.load 36 (Operand.tmp 5), type := 36, pos := _, after := #[{ on := 12, ground := Ground.guard }], guard := some (12, false) }) (v := _) rfl (by kernel_rfl) (by kernel_rfl) (by kernel_rfl) (by kernel_rfl) (fun _ _ _ h => h) (by assumption) (Or.inl ⟨by rfl, ?hy72⟩) (fun _ => rfl) ?rest72
                   case hy72 => (intro w hSw; (try dsimp only at hSw); go_simp; try with_reducible rfl))
                | (refine ordS_take (i := 14) (oi := { dst := some 131, op := Op.load 36 (Operand.tmp 5), type := 36, pos := _, after := #[{ on := 12, ground := Ground.guard }], guard := some (12, false) }) (v := undef) rfl (by kernel_rfl) (by kernel_rfl) (by kernel_rfl) (by kernel_rfl) (fun _ _ _ h => h) (by assumption) (Or.inr ⟨by rfl, rfl⟩) (fun _ => rfl) ?_)
              try simp only [Act.put, List.setIfInBounds_toArray, List.set_cons_zero, List.set_cons_succ]
              first
                | (refine' ordS_take (i := 16) (oi := { dst := some 133, op := Op.move (Operand.tmp 7), type := 27, pos := _, after := #[{ on := 12, ground := Ground.guard }], guard := some (12, false) }) (v := _) rfl (by kernel_rfl) (by kernel_rfl) (by kernel_rfl) (by kernel_rfl) (fun _ _ _ h => h) (by assumption) (Or.inl ⟨by rfl, ?hy73⟩) (fun _ => rfl) ?rest73
                   case hy73 => (intro w hSw; (try dsimp only at hSw); go_simp; try with_reducible rfl))
                | (refine ordS_take (i := 16) (oi := { dst := some 133, op := Op.move (Operand.tmp 7), type := 27, pos := _, after := #[{ on := 12, ground := Ground.guard }], guard := some (12, false) }) (v := undef) rfl (by kernel_rfl) (by kernel_rfl) (by kernel_rfl) (by kernel_rfl) (fun _ _ _ h => h) (by assumption) (Or.inr ⟨by rfl, rfl⟩) (fun _ => rfl) ?_)
              try simp only [Act.put, List.setIfInBounds_toArray, List.set_cons_zero, List.set_cons_succ]
              first
                | (refine' ordS_take (i := 17) (oi := { dst := some 134, op := Op.load 36 (Operand.tmp 5), type := 36, pos := _, after := #[{ on := 12, ground := Ground.guard }], guard := some (12, false) }) (v := _) rfl (by kernel_rfl) (by kernel_rfl) (by kernel_rfl) (by kernel_rfl) (fun _ _ _ h => h) (by assumption) (Or.inl ⟨by rfl, ?hy74⟩) (fun _ => rfl) ?rest74
                   case hy74 => (intro w hSw; (try dsimp only at hSw); go_simp; try with_reducible rfl))
                | (refine ordS_take (i := 17) (oi := { dst := some 134, op := Op.load 36 (Operand.tmp 5), type := 36, pos := _, after := #[{ on := 12, ground := Ground.guard }], guard := some (12, false) }) (v := undef) rfl (by kernel_rfl) (by kernel_rfl) (by kernel_rfl) (by kernel_rfl) (fun _ _ _ h => h) (by assumption) (Or.inr ⟨by rfl, rfl⟩) (fun _ => rfl) ?_)
              try simp only [Act.put, List.setIfInBounds_toArray, List.set_cons_zero, List.set_cons_succ]
              refine ordS_one (i := 15) (o := { dst := some 132, op := Op.call { callee := Callee.value (Operand.func 16), args := #[Operand.tmp 130, Operand.tmp 131], argTypes := #[27, 36] }, type := 4, pos := _, after := #[{ on := 13, ground := Ground.data }, { on := 14, ground := Ground.data }, { on := 12, ground := Ground.chain }, { on := 12, ground := Ground.guard }], guard := some (12, false) }) (by kernel_rfl) rfl (by rfl) (fun K hK => ?_)
              go_simp
              refine ⟨trivial, (callsIn_wide.2 (has_as _ b2 h2 A B x y _ _ m2 g2 V2.out)).mono ?_⟩
              rintro e w9 ⟨rfl, hb⟩
              replace hk := bl_tr hk hb
              replace hA := bl_tr hA hb; replace s0 := cell_later hb s0; replace s1 := cell_later hb s1; replace t0 := cell_later hb t0; replace t1 := cell_later hb t1; replace p0 := cell_later hb p0; replace p1 := cell_later hb p1; replace m0 := m0.below hb; replace m1 := m1.below hb; replace m2 := m2.below hb; replace m3 := m3.below hb; clear hb
              have hS9 : (fun w' => w'.cell? ⟨w.heap.size + 1 + 1, 0, none⟩ = some (.int .i64 x) ∧ w'.cell? ⟨w.heap.size + 1 + 1, 1, none⟩ = some (.int .i64 y)) w9 := ⟨p0, p1⟩
              refine hK _ _ hS9 ?_
              clear hK K
              try simp only [Act.put, List.setIfInBounds_toArray, List.set_cons_zero, List.set_cons_succ]
              refine ordS_one (i := 18) (o := { dst := some 135, op := Op.call { callee := Callee.value (Operand.func 16), args := #[Operand.tmp 133, Operand.tmp 134], argTypes := #[27, 36] }, type := 4, pos := _, after := #[{ on := 16, ground := Ground.data }, { on := 17, ground := Ground.data }, { on := 15, ground := Ground.chain }, { on := 12, ground := Ground.guard }], guard := some (12, false) }) (by kernel_rfl) rfl (by rfl) (fun K hK => ?_)
              go_simp
              refine ⟨trivial, (callsIn_wide.2 (has_as _ b0 h0 A B x y _ _ m0 g0 V0.out)).mono ?_⟩
              rintro e w9 ⟨rfl, hb⟩
              replace hk := bl_tr hk hb
              replace hA := bl_tr hA hb; replace s0 := cell_later hb s0; replace s1 := cell_later hb s1; replace t0 := cell_later hb t0; replace t1 := cell_later hb t1; replace p0 := cell_later hb p0; replace p1 := cell_later hb p1; replace m0 := m0.below hb; replace m1 := m1.below hb; replace m2 := m2.below hb; replace m3 := m3.below hb; clear hb
              have hS9 : (fun w' => w'.cell? ⟨w.heap.size + 1 + 1, 0, none⟩ = some (.int .i64 x) ∧ w'.cell? ⟨w.heap.size + 1 + 1, 1, none⟩ = some (.int .i64 y)) w9 := ⟨p0, p1⟩
              refine hK _ _ hS9 ?_
              clear hK K
              try simp only [Act.put, List.setIfInBounds_toArray, List.set_cons_zero, List.set_cons_succ]
              first
                | (refine' ordS_take (i := 19) (oi := { dst := some 136, op := Op.move (Operand.tmp 135), type := 4, pos := _, after := #[{ on := 18, ground := Ground.data }, { on := 18, ground := Ground.chain }, { on := 12, ground := Ground.guard }], guard := some (12, false) }) (v := _) rfl (by kernel_rfl) (by kernel_rfl) (by kernel_rfl) (by kernel_rfl) (fun _ _ _ h => h) (by assumption) (Or.inl ⟨by rfl, ?hy75⟩) (fun _ => rfl) ?rest75
                   case hy75 => (intro w hSw; (try dsimp only at hSw); go_simp; try with_reducible rfl))
                | (refine ordS_take (i := 19) (oi := { dst := some 136, op := Op.move (Operand.tmp 135), type := 4, pos := _, after := #[{ on := 18, ground := Ground.data }, { on := 18, ground := Ground.chain }, { on := 12, ground := Ground.guard }], guard := some (12, false) }) (v := undef) rfl (by kernel_rfl) (by kernel_rfl) (by kernel_rfl) (by kernel_rfl) (fun _ _ _ h => h) (by assumption) (Or.inr ⟨by rfl, rfl⟩) (fun _ => rfl) ?_)
              try simp only [Act.put, List.setIfInBounds_toArray, List.set_cons_zero, List.set_cons_succ]
              first
                | (refine' ordS_take (i := 20) (oi := { dst := some 137, op := Op.move (Operand.tmp 9), type := 27, pos := _, after := #[{ on := 19, ground := Ground.guard }], guard := some (19, true) }) (v := _) rfl (by kernel_rfl) (by kernel_rfl) (by kernel_rfl) (by kernel_rfl) (fun _ _ _ h => h) (by assumption) (Or.inl ⟨by rfl, ?hy76⟩) (fun _ => rfl) ?rest76
                   case hy76 => (intro w hSw; (try dsimp only at hSw); go_simp; try with_reducible rfl))
                | (refine ordS_take (i := 20) (oi := { dst := some 137, op := Op.move (Operand.tmp 9), type := 27, pos := _, after := #[{ on := 19, ground := Ground.guard }], guard := some (19, true) }) (v := undef) rfl (by kernel_rfl) (by kernel_rfl) (by kernel_rfl) (by kernel_rfl) (fun _ _ _ h => h) (by assumption) (Or.inr ⟨by rfl, rfl⟩) (fun _ => rfl) ?_)
              try simp only [Act.put, List.setIfInBounds_toArray, List.set_cons_zero, List.set_cons_succ]
              first
                | (refine' ordS_take (i := 21) (oi := { dst := some 138, op := Op.load 36 (Operand.tmp 5), type := 36, pos := _, after := #[{ on := 19, ground := Ground.guard }], guard := some (19, true) }) (v := _) rfl (by kernel_rfl) (by kernel_rfl) (by kernel_rfl) (by kernel_rfl) (fun _ _ _ h => h) (by assumption) (Or.inl ⟨by rfl, ?hy77⟩) (fun _ => rfl) ?rest77
                   case hy77 => (intro w hSw; (try dsimp only at hSw); go_simp; try with_reducible rfl))
                | (refine ordS_take (i := 21) (oi := { dst := some 138, op := Op.load 36 (Operand.tmp 5), type := 36, pos := _, after := #[{ on := 19, ground := Ground.guard }], guard := some (19, true) }) (v := undef) rfl (by kernel_rfl) (by kernel_rfl) (by kernel_rfl) (by kernel_rfl) (fun _ _ _ h => h) (by assumption) (Or.inr ⟨by rfl, rfl⟩) (fun _ => rfl) ?_)
              try simp only [Act.put, List.setIfInBounds_toArray, List.set_cons_zero, List.set_cons_succ]
              refine ordS_one (i := 22) (o := { dst := some 139, op := Op.call { callee := Callee.value (Operand.func 16), args := #[Operand.tmp 137, Operand.tmp 138], argTypes := #[27, 36] }, type := 4, pos := _, after := #[{ on := 20, ground := Ground.data }, { on := 21, ground := Ground.data }, { on := 19, ground := Ground.chain }, { on := 19, ground := Ground.guard }], guard := some (19, true) }) (by kernel_rfl) rfl (by rfl) (fun K hK => ?_)
              go_simp
              refine ⟨trivial, (callsIn_wide.2 (has_as _ b1 h1 A B x y _ _ m1 g1 V1.out)).mono ?_⟩
              rintro e w9 ⟨rfl, hb⟩
              replace hk := bl_tr hk hb
              replace hA := bl_tr hA hb; replace s0 := cell_later hb s0; replace s1 := cell_later hb s1; replace t0 := cell_later hb t0; replace t1 := cell_later hb t1; replace p0 := cell_later hb p0; replace p1 := cell_later hb p1; replace m0 := m0.below hb; replace m1 := m1.below hb; replace m2 := m2.below hb; replace m3 := m3.below hb; clear hb
              have hS9 : (fun w' => w'.cell? ⟨w.heap.size + 1 + 1, 0, none⟩ = some (.int .i64 x) ∧ w'.cell? ⟨w.heap.size + 1 + 1, 1, none⟩ = some (.int .i64 y)) w9 := ⟨p0, p1⟩
              refine hK _ _ hS9 ?_
              clear hK K
              try simp only [Act.put, List.setIfInBounds_toArray, List.set_cons_zero, List.set_cons_succ]
              first
                | (refine' ordS_take (i := 23) (oi := { dst := some 140, op := Op.pick (Operand.tmp 136) (Operand.tmp 139) (Operand.const (Value.bool false)), type := 4, pos := _, after := #[{ on := 19, ground := Ground.data }, { on := 22, ground := Ground.data }, { on := 12, ground := Ground.guard }], guard := some (12, false) }) (v := _) rfl (by kernel_rfl) (by kernel_rfl) (by kernel_rfl) (by kernel_rfl) (fun _ _ _ h => h) (by assumption) (Or.inl ⟨by rfl, ?hy78⟩) (fun _ => rfl) ?rest78
                   case hy78 => (intro w hSw; (try dsimp only at hSw); go_simp; try with_reducible rfl))
                | (refine ordS_take (i := 23) (oi := { dst := some 140, op := Op.pick (Operand.tmp 136) (Operand.tmp 139) (Operand.const (Value.bool false)), type := 4, pos := _, after := #[{ on := 19, ground := Ground.data }, { on := 22, ground := Ground.data }, { on := 12, ground := Ground.guard }], guard := some (12, false) }) (v := undef) rfl (by kernel_rfl) (by kernel_rfl) (by kernel_rfl) (by kernel_rfl) (fun _ _ _ h => h) (by assumption) (Or.inr ⟨by rfl, rfl⟩) (fun _ => rfl) ?_)
              try simp only [Act.put, List.setIfInBounds_toArray, List.set_cons_zero, List.set_cons_succ]
              first
                | (refine' ordS_take (i := 24) (oi := { dst := some 141, op := Op.binOp BinOp.neq 4 (Operand.tmp 132) (Operand.tmp 140) 4, type := 4, pos := _, after := #[{ on := 15, ground := Ground.data }, { on := 23, ground := Ground.data }, { on := 12, ground := Ground.guard }], guard := some (12, false) }) (v := _) rfl (by kernel_rfl) (by kernel_rfl) (by kernel_rfl) (by kernel_rfl) (fun _ _ _ h => h) (by assumption) (Or.inl ⟨by rfl, ?hy79⟩) (fun _ => rfl) ?rest79
                   case hy79 => (intro w hSw; (try dsimp only at hSw); go_simp; try with_reducible rfl))
                | (refine ordS_take (i := 24) (oi := { dst := some 141, op := Op.binOp BinOp.neq 4 (Operand.tmp 132) (Operand.tmp 140) 4, type := 4, pos := _, after := #[{ on := 15, ground := Ground.data }, { on := 23, ground := Ground.data }, { on := 12, ground := Ground.guard }], guard := some (12, false) }) (v := undef) rfl (by kernel_rfl) (by kernel_rfl) (by kernel_rfl) (by kernel_rfl) (fun _ _ _ h => h) (by assumption) (Or.inr ⟨by rfl, rfl⟩) (fun _ => rfl) ?_)
              try simp only [Act.put, List.setIfInBounds_toArray, List.set_cons_zero, List.set_cons_succ]
              first
                | (refine' ordS_take (i := 25) (oi := { dst := some 142, op := Op.pick (Operand.tmp 129) (Operand.const (Value.bool true)) (Operand.tmp 141), type := 4, pos := _, after := #[{ on := 12, ground := Ground.data }, { on := 24, ground := Ground.data }], guard := none }) (v := _) rfl (by kernel_rfl) (by kernel_rfl) (by kernel_rfl) (by kernel_rfl) (fun _ _ _ h => h) (by assumption) (Or.inl ⟨by rfl, ?hy80⟩) (fun _ => rfl) ?rest80
                   case hy80 => (intro w hSw; (try dsimp only at hSw); go_simp; try with_reducible rfl))
                | (refine ordS_take (i := 25) (oi := { dst := some 142, op := Op.pick (Operand.tmp 129) (Operand.const (Value.bool true)) (Operand.tmp 141), type := 4, pos := _, after := #[{ on := 12, ground := Ground.data }, { on := 24, ground := Ground.data }], guard := none }) (v := undef) rfl (by kernel_rfl) (by kernel_rfl) (by kernel_rfl) (by kernel_rfl) (fun _ _ _ h => h) (by assumption) (Or.inr ⟨by rfl, rfl⟩) (fun _ => rfl) ?_)
              try simp only [Act.put, List.setIfInBounds_toArray, List.set_cons_zero, List.set_cons_succ]
              refine ordS_done (by kernel_rfl) ?_
              go_wp2_with fail
              go_meet
              exact ⟨rfl, hk⟩
          case rest =>
            obtain ⟨rfl, hb⟩ := hcut
            replace hA := bl_tr hA hb; replace s0 := cell_later hb s0; replace s1 := cell_later hb s1; replace t0 := cell_later hb t0; replace t1 := cell_later hb t1; replace p0 := cell_later hb p0; replace p1 := cell_later hb p1; replace m0 := m0.below hb; replace m1 := m1.below hb; replace m2 := m2.below hb; replace m3 := m3.below hb; clear hb
            go_upto_region 15 with fail
            have hb := bl_dr (bl0 wc)
            replace hA := bl_tr hA hb; replace s0 := cell_later hb s0; replace s1 := cell_later hb s1; replace t0 := cell_later hb t0; replace t1 := cell_later hb t1; replace p0 := cell_later hb p0; replace p1 := cell_later hb p1; replace m0 := m0.below hb; replace m1 := m1.below hb; replace m2 := m2.below hb; replace m3 := m3.below hb; clear hb
            go_region_held3 (fun w' => w'.cell? ⟨w.heap.size, 0, none⟩ = some (.int .i64 A) ∧ w'.cell? ⟨w.heap.size, 1, none⟩ = some (.int .i64 B) ∧ w'.cell? ⟨w.heap.size + 1, 1, none⟩ = some (.slice a1 z1.length c1))
              (exact ⟨s0, s1, t1⟩)
              (first
                | (go_at_call 29; (with_reducible refine (inside_any A B a1 c1 z1 _ (r1.below hA) (by omega)).mono ?_); rintro e wk ⟨a9, cap9, rfl, hrc, hb⟩; have HRC := Lib.hid hrc; replace hA := bl_tr hA hb; replace s0 := cell_later hb s0; replace s1 := cell_later hb s1; replace t0 := cell_later hb t0; replace t1 := cell_later hb t1; replace p0 := cell_later hb p0; replace p1 := cell_later hb p1; replace m0 := m0.below hb; replace m1 := m1.below hb; replace m2 := m2.below hb; replace m3 := m3.below hb; clear hb; clear hrc)
                | (go_at_call 28; (with_reducible refine (made_yes A B a9 cap9 (onMap A B z1) _ hma HRC.out (Nat.le_trans (onMap_le _ _ _) (by omega)) (onMap_in A B z1)).mono ?_); rintro e wk ⟨b5, h5, rfl, m5, o5, o5', n5, hb⟩; replace hA := bl_tr hA hb; replace s0 := cell_later hb s0; replace s1 := cell_later hb s1; replace t0 := cell_later hb t0; replace t1 := cell_later hb t1; replace p0 := cell_later hb p0; replace p1 := cell_later hb p1; replace m0 := m0.below hb; replace m1 := m1.below hb; replace m2 := m2.below hb; replace m3 := m3.below hb; clear hb))
            have m5' : MaskAt wk b5 h5 A B (setOf A B z1) := m5
            clear m5
            have m5 := m5'
            clear m5' HRC
            rw [HDS.out] at m5
            go_wp2_with fail
            refine (same_yes b1 h1 b5 h5 A B ds ds _ m1 m5 g1 g1 rfl).mono ?_
            rintro e wk ⟨rfl, hb⟩
            replace hA := bl_tr hA hb; replace s0 := cell_later hb s0; replace s1 := cell_later hb s1; replace t0 := cell_later hb t0; replace t1 := cell_later hb t1; replace p0 := cell_later hb p0; replace p1 := cell_later hb p1; replace m0 := m0.below hb; replace m1 := m1.below hb; replace m2 := m2.below hb; replace m3 := m3.below hb; clear hb
            go_wp2_with fail
            refine (add_as 0 b3 h3 b2 h2 A B _ _ _ m3 m2 g3 g2 n3 e6 e7 (again_none g0 g1)).mono ?_
            rintro e wk ⟨rfl, m9, hg⟩
            replace hA := hA.grown hg hA.size (fun r e => by cases e; omega)
            clear hg m9
            go_wp2_with fail
            refine (awake_any _).mono ?_
            rintro e wk ⟨rfl, hb⟩
            replace hA := bl_tr hA hb
            clear hb
            go_wp2
            go_ret
            exact ⟨rfl, hA⟩
end Go.Proofs.Ytcbhbekhogcedaa
