/- CacheKinds: its walk (made by gen_kinds.py out of kinds_src.txt). -/
import Derived.Test.YtbmpgafndpdnbaaEmg
import Derived.Test.YtbmpgafndpdnbaaLeplays
import Derived.Deep.CutBlock
namespace Go.Proofs.Ytbmpgafndpdnbaa
open Go.RowKit Go.Maps

set_option maxRecDepth 100000 in
set_option maxHeartbeats 16000000 in
theorem ckinds_walk (a : Option Addr) (ca : Nat) (ls : List AT) (r : Int) (w : World) (hr : RowA w a ls) :
    Calls Try.prog 5 #[.int .i64 r, .slice a ls.length ca] w fun e w' => e = .returned (.bool true) ∧ Below w.heap.size w w' := by
  have h0 : Sep w w.heap.size [] := Sep.nil (Nat.le_refl _)
  by_cases h1 : 1 ≤ r ∧ r ≤ 16
  · by_cases hl : 100 < ls.length
    · have hlI : (100 : Int) < (ls.length : Int) := by omega
      clear hr
      go_enter Try.func5, Try.ntmps5
      go_wp2_with fail
      refine (new_s1 h0 h1).mono ?_
      rintro e w1 ⟨p, rfl, hs1, hA⟩
      go_wp2_with fail
      refine (new_s2 hs1 h1).mono ?_
      rintro e w2 ⟨q, rfl, hs2, hb⟩
      replace hA := bl_tr hA hb
      clear hb hs1 hs2 h0 h1
      have HA := Lib.hid hA
      clear hA
      go_wp2_with fail
      refine (awake16 _).mono ?_
      rintro e w9 ⟨rfl, hb⟩
      have HZ := Lib.hid (bl_tr HA.out hb)
      clear hb HA
      go_wp2
      go_ret
      exact ⟨rfl, HZ.out⟩
    · have hl1 : (ls.length : Int) ≤ 100 := by omega
      have hl2 : ls.length ≤ 100 := by omega
      have hl3 : decide ((100 : Int) < (ls.length : Int)) = false := decide_eq_false (by omega)
      have H1 := Lib.hid h1
      have HR := Lib.hid hr
      clear hr hl
      go_enter Try.func5, Try.ntmps5
      go_wp2_with fail
      refine (new_s1 h0 h1).mono ?_
      rintro e w1 ⟨p, rfl, hs1, hA⟩
      go_wp2_with fail
      refine (new_s2 hs1 h1).mono ?_
      rintro e w2 ⟨q, rfl, hs2, hb⟩
      have HA0 := Lib.hid (bl_tr hA hb)
      have HS0 : Hid (Sep w2 w.heap.size (CO Try.c1 p r [] :: CO Try.c2 q r [] :: [])) := Lib.hid (by simpa using hs2)
      clear hs1 hs2 hb h0 h1 hA
      go_wp2_with fail
      go_loopw [9] (fun i wr => ∃ (k : Nat) (m : List IT) (l : List Own), k ≤ ls.length ∧ i = .int .i64 k ∧ Hid (Fit r m) ∧ Hid (Sep wr w.heap.size (CO Try.c1 p r m :: CO Try.c2 q r m :: l)) ∧ Hid (Below w.heap.size w wr)) (fun i _ => ls.length - (intOf i).toNat)
      case atStart => exact ⟨0, [], [], Nat.zero_le _, rfl, Lib.hid (Fit.nil H1.out.1), HS0, HA0⟩
      case round =>
        obtain ⟨k, m, l, hk, rfl, HM, HSr, HAr⟩ := hrel
        have hk0 : (0 : Int) ≤ (k : Int) := by omega
        have hm16 := HM.out.small H1.out.2
        by_cases hlt : k < ls.length
        · have hlt2 : (k : Int) < (ls.length : Int) := by omega
          obtain ⟨z, hz⟩ : ∃ z, ls[k]? = some z := ⟨_, List.getElem?_eq_getElem hlt⟩
          obtain ⟨b, o, rfl, c0, c1, c2⟩ := (HR.out.below HAr.out).at hz
          have zc := blk_lt c1
          clear hz
          go_upto_region 11 with fail
          obtain ⟨W0, hW0⟩ : ∃ W0, wr.alloc (.cells #[.int .i64 z.d, .int .i64 z.k, .int .i64 z.v] 34) = W0 := ⟨_, rfl⟩
          obtain ⟨X, hX⟩ : ∃ X, wr.heap.size = X := ⟨_, rfl⟩
          have hsx := HSr.out.box #[.int .i64 z.d, .int .i64 z.k, .int .i64 z.v] 34
          rw [hW0, hX] at hsx
          have HSX := Lib.hid (show Sep W0 w.heap.size (CO Try.c1 p r m :: CO Try.c2 q r m :: (l ++ [XO X z])) from hsx)
          have HAX := Lib.hid (show Below w.heap.size w W0 from by rw [← hW0]; exact bl_al HAr.out _)
          rw [hW0, hX]
          obtain ⟨x0, x1, x2⟩ := box3 (l1 := CO Try.c1 p r m :: CO Try.c2 q r m :: l) (l2 := []) HSX.out
          have zx := blk_lt x0
          clear hW0 hX hsx c0 c1 c2 zc HSr HAr
          go_upto_block 2 with fail
          go_cut [9] from 65 to 163 (fun s wx => s = .int .i64 k ∧ ∃ (m2 : List IT) (l2 : List Own), Hid (Fit r m2) ∧ Hid (Sep wx w.heap.size (CO Try.c1 p r m2 :: CO Try.c2 q r m2 :: l2)) ∧ Hid (Below w.heap.size w wx))
          case first =>
            by_cases q0 : z.d = 0
            · have b0 : (z.d == 0) = true := by simp [q0]
              have hcall := get_s1 (l1 := []) z.k HSX.out (by omega)
              have HM2 := Lib.hid (HM.out.get (k := z.k) H1.out.1)
              clear q0
              go_wp2_with fail
              refine hcall.mono ?_
              rintro e W1 ⟨rfl, hs1, hb1⟩
              have HA1 := Lib.hid (HAX.out.trans hb1)
              have HS1 := Lib.hid (show Sep W1 w.heap.size (CO Try.c1 p r (getM z.k m) :: CO Try.c2 q r m :: (l ++ [XO X z])) from hs1)
              obtain ⟨y0, y1, y2⟩ := box3 (l1 := CO Try.c1 p r (getM z.k m) :: CO Try.c2 q r m :: l) (l2 := []) HS1.out
              have zy := blk_lt y0
              clear hs1 hb1 x0 x1 x2 zx hcall
              go_wp2_with fail
              refine (name_any z.k _).mono ?_
              rintro e W2 ⟨rfl, hb2⟩
              have HA2 := Lib.hid (bl_tr HA1.out hb2)
              have hcall := get_s2 (l1 := [CO Try.c1 p r (getM z.k m)]) z.k (HS1.out.below hb2) (by omega)
              clear hb2 y0 y1 y2 zy
              go_wp2_with fail
              refine hcall.mono ?_
              rintro e W3 ⟨rfl, hs3, hb3⟩
              have HA3 := Lib.hid (HA2.out.trans hb3)
              have HS3 := Lib.hid (show Sep W3 w.heap.size (CO Try.c1 p r (getM z.k m) :: CO Try.c2 q r (getM z.k m) :: (l ++ [XO X z])) from hs3)
              clear hs3 hb3 hcall
              generalize peekV z.k m = g1
              generalize (findI z.k m).isSome = g2
              have hg2 : (g2 != g2) = false := by cases g2 <;> rfl
              have hN := neq_prk g1
              have hE := eq_prk g1
              have HS4 := Lib.hid (HS3.out.box #[.int .i64 g1, .int .i64 g1] 57)
              have HA4 := Lib.hid (bl_al HA3.out (.cells #[.int .i64 g1, .int .i64 g1] 57))
              go_wp2
              go_meet
              case rel => exact ⟨rfl, _, _, HM2, HS4, HA4⟩
            have b0 : (z.d == 0) = false := by simp [q0]
            by_cases q1 : z.d = 1
            · have b1 : (z.d == 1) = true := by simp [q1]
              clear q0 q1
              have hcall := peek_s1 (l1 := []) z.k HSX.out (by omega)
              go_wp2_with fail
              refine hcall.mono ?_
              rintro e W1 ⟨rfl, hs1, hb1⟩
              have HA1 := Lib.hid (bl_tr HAX.out hb1)
              have HS1 := Lib.hid (show Sep W1 w.heap.size (CO Try.c1 p r m :: CO Try.c2 q r m :: (l ++ [XO X z])) from hs1)
              obtain ⟨y0, y1, y2⟩ := box3 (l1 := CO Try.c1 p r m :: CO Try.c2 q r m :: l) (l2 := []) HS1.out
              have zy := blk_lt y0
              clear hs1 hb1 x0 x1 x2 zx hcall
              go_wp2_with fail
              refine (name_any z.k _).mono ?_
              rintro e W2 ⟨rfl, hb2⟩
              have HA2 := Lib.hid (bl_tr HA1.out hb2)
              have hcall := peek_s2 (l1 := [CO Try.c1 p r m]) z.k (HS1.out.below hb2) (by omega)
              clear hb2 y0 y1 y2 zy
              go_wp2_with fail
              refine hcall.mono ?_
              rintro e W3 ⟨rfl, hs3, hb3⟩
              have HA3 := Lib.hid (bl_tr HA2.out hb3)
              have HS3 := Lib.hid (show Sep W3 w.heap.size (CO Try.c1 p r m :: CO Try.c2 q r m :: (l ++ [XO X z])) from hs3)
              clear hs3 hb3 hcall
              generalize peekV z.k m = g1
              generalize (findI z.k m).isSome = g2
              have hg2 : (g2 != g2) = false := by cases g2 <;> rfl
              have hN := neq_prk g1
              have hE := eq_prk g1
              have HS4 := Lib.hid (HS3.out.box #[.int .i64 g1, .int .i64 g1] 57)
              have HA4 := Lib.hid (bl_al HA3.out (.cells #[.int .i64 g1, .int .i64 g1] 57))
              go_wp2
              go_meet
              case rel => exact ⟨rfl, _, _, HM, HS4, HA4⟩
            have b1 : (z.d == 1) = false := by simp [q1]
            by_cases q2 : z.d = 2
            · have b2 : (z.d == 2) = true := by simp [q2]
              clear q0 q1 q2
              have hcall := peek_s1 (l1 := []) z.k HSX.out (by omega)
              go_wp2_with fail
              refine hcall.mono ?_
              rintro e W1 ⟨rfl, hs1, hb1⟩
              have HA1 := Lib.hid (bl_tr HAX.out hb1)
              have HS1 := Lib.hid (show Sep W1 w.heap.size (CO Try.c1 p r m :: CO Try.c2 q r m :: (l ++ [XO X z])) from hs1)
              obtain ⟨y0, y1, y2⟩ := box3 (l1 := CO Try.c1 p r m :: CO Try.c2 q r m :: l) (l2 := []) HS1.out
              have zy := blk_lt y0
              clear hs1 hb1 x0 x1 x2 zx hcall
              go_wp2_with fail
              refine (name_any z.k _).mono ?_
              rintro e W2 ⟨rfl, hb2⟩
              have HA2 := Lib.hid (bl_tr HA1.out hb2)
              have hcall := peek_s2 (l1 := [CO Try.c1 p r m]) z.k (HS1.out.below hb2) (by omega)
              clear hb2 y0 y1 y2 zy
              go_wp2_with fail
              refine hcall.mono ?_
              rintro e W3 ⟨rfl, hs3, hb3⟩
              have HA3 := Lib.hid (bl_tr HA2.out hb3)
              have HS3 := Lib.hid (show Sep W3 w.heap.size (CO Try.c1 p r m :: CO Try.c2 q r m :: (l ++ [XO X z])) from hs3)
              clear hs3 hb3 hcall
              generalize peekV z.k m = g1
              generalize (findI z.k m).isSome = g2
              have hg2 : (g2 != g2) = false := by cases g2 <;> rfl
              have hN := neq_prk g1
              have hE := eq_prk g1
              have HS4 := Lib.hid (HS3.out.box #[.int .i64 g1, .int .i64 g1] 57)
              have HA4 := Lib.hid (bl_al HA3.out (.cells #[.int .i64 g1, .int .i64 g1] 57))
              go_wp2
              go_meet
              case rel => exact ⟨rfl, _, _, HM, HS4, HA4⟩
            have b2 : (z.d == 2) = false := by simp [q2]
            have HM2 := Lib.hid (HM.out.put (k := z.k) (x := z.v) H1.out.1)
            have hcall := put_s1 (l1 := []) z.k z.v HSX.out (by omega) H1.out.1
            obtain ⟨gk, gs, hgv, hg1, hg2⟩ := goneN_agg r z.k m
            obtain ⟨m2, hm2⟩ : ∃ m2, putM r z.k z.v m = m2 := ⟨_, rfl⟩
            rw [hm2] at hcall HM2
            obtain ⟨fl, hfl⟩ : ∃ fl, fullB r z.k m = fl := ⟨_, rfl⟩
            rw [hfl] at hcall hg1 hg2
            obtain ⟨g, hg⟩ : ∃ g, goneK r z.k m = g := ⟨_, rfl⟩
            rw [hg] at hcall hg1
            have HPUT := Lib.hid (show ∀ (W : World) (tail : List Own), Sep W w.heap.size (CO Try.c1 p r m2 :: CO Try.c2 q r m :: (l ++ XO X z :: tail)) → Calls Try.prog 31 #[.pointer (some ⟨q, 0, none⟩), nmV z.k, pairV z.v] W fun e w' => e = .returned (.tuple #[.agg #[.int .i64 gk, .string gs], .bool fl]) ∧ Sep w' w.heap.size (CO Try.c1 p r m2 :: CO Try.c2 q r m2 :: (l ++ XO X z :: tail)) ∧ Below w.heap.size W w' from fun W tail h => by
              have k := put_s2 (l1 := [CO Try.c1 p r m2]) z.k z.v h (by omega) H1.out.1
              rw [hgv, hfl, hm2] at k
              exact k)
            have HG1 := Lib.hid hg1
            have HG2 := Lib.hid hg2
            clear q0 q1 q2 hgv hm2 hfl hg hg1 hg2
            go_wp2_with fail
            refine hcall.mono ?_
            rintro e W1 ⟨rfl, hs1, hb1⟩
            have HA1 := Lib.hid (HAX.out.trans hb1)
            have HS1 := Lib.hid (show Sep W1 w.heap.size (CO Try.c1 p r m2 :: CO Try.c2 q r m :: (l ++ XO X z :: [])) from hs1)
            clear hs1 hb1 x0 x1 x2 zx hcall
            have HCX := Lib.hid (show ∀ (W : World) (mq : List IT) (tail : List Own), Sep W w.heap.size (CO Try.c1 p r m2 :: CO Try.c2 q r mq :: (l ++ XO X z :: tail)) → W.cell? ⟨X, 1, none⟩ = some (.int .i64 z.k) ∧ W.cell? ⟨X, 2, none⟩ = some (.int .i64 z.v) from fun W mq tail h => by
              obtain ⟨_, k1, k2⟩ := box3 (l1 := CO Try.c1 p r m2 :: CO Try.c2 q r mq :: l) (l2 := tail) h
              exact ⟨k1, k2⟩)
            go_upto_region 13 with fail
            go_cut [21, 22] from 75 to 108 (fun s t wx => t = .bool fl ∧ ∃ (Y : Nat) (l2 : List Own), s = .pointer (some ⟨Y, 0, none⟩) ∧ Hid (Sep wx w.heap.size (CO Try.c1 p r m2 :: CO Try.c2 q r m2 :: (l2 ++ [CellsO Y #[.int .i64 gk, .string gs] 56]))) ∧ Hid (Below w.heap.size w wx))
            case first =>
              have hD := bl_dr (bl0 W1)
              have hs := HS1.out.below hD
              have hA := bl_tr HA1.out hD
              refine (wpIn_wide (n := 11)).1 ?_
              refine ordS_begin (S := (fun w' : World => w'.cell? ⟨X, 1, none⟩ = some (.int .i64 z.k) ∧ w'.cell? ⟨X, 2, none⟩ = some (.int .i64 z.v))) (by kernel_rfl) (HCX.out _ _ _ hs) (fun hH => ?_)
              obtain ⟨Wn, hWn⟩ : ∃ x, W1.drew = x := ⟨_, rfl⟩
              rw [hWn] at hs hA hH ⊢
              clear hWn hD HS1 HA1 HSX HAX
              refine' ordS_take (i := 0) (oi := { dst := some 76, op := Op.move (Operand.tmp 7), type := 52, pos := _, after := #[], guard := none }) (v := _) rfl (by kernel_rfl) (by kernel_rfl) (by kernel_rfl) (by kernel_rfl) (fun _ _ _ h => h) (by assumption) (Or.inl ⟨by rfl, ?hy1⟩) (fun _ => rfl) ?rest1
              case hy1 => (intro w hSw; (try dsimp only at hSw); go_simp; try with_reducible rfl)
              try simp only [Act.put, List.setIfInBounds_toArray, List.set_cons_zero, List.set_cons_succ]
              refine' ordS_take (i := 1) (oi := { dst := some 77, op := Op.fieldAddr 34 (Operand.tmp 10) 1, type := 0, pos := _, after := #[], guard := none }) (v := _) rfl (by kernel_rfl) (by kernel_rfl) (by kernel_rfl) (by kernel_rfl) (fun _ _ _ h => h) (by assumption) (Or.inl ⟨by rfl, ?hy2⟩) (fun _ => rfl) ?rest2
              case hy2 => (intro w hSw; (try dsimp only at hSw); go_simp; try with_reducible rfl)
              try simp only [Act.put, List.setIfInBounds_toArray, List.set_cons_zero, List.set_cons_succ]
              refine' ordS_take (i := 2) (oi := { dst := some 78, op := Op.load 3 (Operand.tmp 77), type := 3, pos := _, after := #[{ on := 1, ground := Ground.data }], guard := none }) (v := _) rfl (by kernel_rfl) (by kernel_rfl) (by kernel_rfl) (by kernel_rfl) (fun _ _ _ h => h) (by assumption) (Or.inl ⟨by rfl, ?hy3⟩) (fun _ => rfl) ?rest3
              case hy3 => (intro w hSw; (try dsimp only at hSw); go_simp; try with_reducible rfl)
              try simp only [Act.put, List.setIfInBounds_toArray, List.set_cons_zero, List.set_cons_succ]
              refine' ordS_take (i := 4) (oi := { dst := some 80, op := Op.fieldAddr 34 (Operand.tmp 10) 2, type := 0, pos := _, after := #[], guard := none }) (v := _) rfl (by kernel_rfl) (by kernel_rfl) (by kernel_rfl) (by kernel_rfl) (fun _ _ _ h => h) (by assumption) (Or.inl ⟨by rfl, ?hy4⟩) (fun _ => rfl) ?rest4
              case hy4 => (intro w hSw; (try dsimp only at hSw); go_simp; try with_reducible rfl)
              try simp only [Act.put, List.setIfInBounds_toArray, List.set_cons_zero, List.set_cons_succ]
              refine' ordS_take (i := 5) (oi := { dst := some 81, op := Op.load 3 (Operand.tmp 80), type := 3, pos := _, after := #[{ on := 4, ground := Ground.data }], guard := none }) (v := _) rfl (by kernel_rfl) (by kernel_rfl) (by kernel_rfl) (by kernel_rfl) (fun _ _ _ h => h) (by assumption) (Or.inl ⟨by rfl, ?hy5⟩) (fun _ => rfl) ?rest5
              case hy5 => (intro w hSw; (try dsimp only at hSw); go_simp; try with_reducible rfl)
              try simp only [Act.put, List.setIfInBounds_toArray, List.set_cons_zero, List.set_cons_succ]
              refine' ordS_take (i := 6) (oi := { dst := some 82, op := Op.fieldAddr 34 (Operand.tmp 10) 2, type := 0, pos := _, after := #[], guard := none }) (v := _) rfl (by kernel_rfl) (by kernel_rfl) (by kernel_rfl) (by kernel_rfl) (fun _ _ _ h => h) (by assumption) (Or.inl ⟨by rfl, ?hy6⟩) (fun _ => rfl) ?rest6
              case hy6 => (intro w hSw; (try dsimp only at hSw); go_simp; try with_reducible rfl)
              try simp only [Act.put, List.setIfInBounds_toArray, List.set_cons_zero, List.set_cons_succ]
              refine' ordS_take (i := 7) (oi := { dst := some 83, op := Op.load 3 (Operand.tmp 82), type := 3, pos := _, after := #[{ on := 6, ground := Ground.data }], guard := none }) (v := _) rfl (by kernel_rfl) (by kernel_rfl) (by kernel_rfl) (by kernel_rfl) (fun _ _ _ h => h) (by assumption) (Or.inl ⟨by rfl, ?hy7⟩) (fun _ => rfl) ?rest7
              case hy7 => (intro w hSw; (try dsimp only at hSw); go_simp; try with_reducible rfl)
              try simp only [Act.put, List.setIfInBounds_toArray, List.set_cons_zero, List.set_cons_succ]
              refine' ordS_take (i := 8) (oi := { dst := some 84, op := Op.build 57 #[(0, Operand.tmp 81), (1, Operand.tmp 83)], type := 57, pos := _, after := #[{ on := 5, ground := Ground.data }, { on := 7, ground := Ground.data }], guard := none }) (v := _) rfl (by kernel_rfl) (by kernel_rfl) (by kernel_rfl) (by kernel_rfl) (fun _ _ _ h => h) (by assumption) (Or.inl ⟨by rfl, ?hy8⟩) (fun _ => rfl) ?rest8
              case hy8 => (intro w hSw; (try dsimp only at hSw); go_simp; try with_reducible rfl)
              try simp only [Act.put, List.setIfInBounds_toArray, List.set_cons_zero, List.set_cons_succ]
              refine ordS_pair (i := 3) (j := 13) (o := { dst := some 79, op := Op.call { callee := Callee.value (Operand.func 29), args := #[Operand.tmp 78], argTypes := #[3] }, type := 56, pos := _, after := #[{ on := 2, ground := Ground.data }], guard := none }) (o2 := { dst := some 21, op := Op.alloc 56, type := 0, pos := _, after := #[], guard := none }) (by kernel_rfl) rfl (by rfl) rfl (by rfl) (fun K hK => ?_) (fun K hK => ?_)
              · go_simp
                refine ⟨trivial, ?_⟩
                refine callsIn_wide.2 ((name_any z.k _).mono ?_)
                rintro e Wn ⟨rfl, hbn⟩
                replace hs := Sep.below hs hbn
                replace hA := bl_tr hA hbn
                replace hH := HCX.out _ _ _ hs
                refine hK _ _ hH ?_
                clear hK K hbn
                try simp only [Act.put, List.setIfInBounds_toArray, List.set_cons_zero, List.set_cons_succ]
                refine ordS_pair (i := 9) (j := 13) (o := { dst := some 85, op := Op.call { callee := Callee.value (Operand.func 31), args := #[Operand.tmp 76, Operand.tmp 79, Operand.tmp 84], argTypes := #[52, 56, 57] }, type := 61, pos := _, after := #[{ on := 0, ground := Ground.data }, { on := 3, ground := Ground.data }, { on := 8, ground := Ground.data }, { on := 3, ground := Ground.chain }], guard := none }) (o2 := { dst := some 21, op := Op.alloc 56, type := 0, pos := _, after := #[], guard := none }) (by kernel_rfl) rfl (by rfl) rfl (by rfl) (fun K hK => ?_) (fun K hK => ?_)
                · go_simp
                  refine ⟨trivial, ?_⟩
                  refine callsIn_wide.2 ((HPUT.out _ [] hs).mono ?_)
                  rintro e Wn ⟨rfl, hs2, hbn⟩
                  replace hs := hs2
                  replace hA := hA.trans hbn
                  replace hH := HCX.out _ _ _ hs
                  refine hK _ _ hH ?_
                  clear hK K hbn hs2
                  try simp only [Act.put, List.setIfInBounds_toArray, List.set_cons_zero, List.set_cons_succ]
                  refine' ordS_take (i := 10) (oi := { dst := some 75, op := Op.move (Operand.tmp 85), type := 61, pos := _, after := #[{ on := 9, ground := Ground.data }], guard := none }) (v := _) rfl (by kernel_rfl) (by kernel_rfl) (by kernel_rfl) (by kernel_rfl) (fun _ _ _ h => h) (by assumption) (Or.inl ⟨by rfl, ?hy9⟩) (fun _ => rfl) ?rest9
                  case hy9 => (intro w hSw; (try dsimp only at hSw); go_simp; try with_reducible rfl)
                  try simp only [Act.put, List.setIfInBounds_toArray, List.set_cons_zero, List.set_cons_succ]
                  refine' ordS_take (i := 11) (oi := { dst := some 86, op := Op.extract (Operand.tmp 75) 0, type := 56, pos := _, after := #[{ on := 10, ground := Ground.data }], guard := none }) (v := _) rfl (by kernel_rfl) (by kernel_rfl) (by kernel_rfl) (by kernel_rfl) (fun _ _ _ h => h) (by assumption) (Or.inl ⟨by rfl, ?hy10⟩) (fun _ => rfl) ?rest10
                  case hy10 => (intro w hSw; (try dsimp only at hSw); go_simp; try with_reducible rfl)
                  try simp only [Act.put, List.setIfInBounds_toArray, List.set_cons_zero, List.set_cons_succ]
                  refine' ordS_take (i := 12) (oi := { dst := some 87, op := Op.extract (Operand.tmp 75) 1, type := 4, pos := _, after := #[{ on := 10, ground := Ground.data }, { on := 14, ground := Ground.gcOnly Departure.lateStores }], guard := none }) (v := _) rfl (by kernel_rfl) (by kernel_rfl) (by kernel_rfl) (by kernel_rfl) (fun _ _ _ h => h) (by assumption) (Or.inl ⟨by rfl, ?hy11⟩) (fun _ => rfl) ?rest11
                  case hy11 => (intro w hSw; (try dsimp only at hSw); go_simp; try with_reducible rfl)
                  try simp only [Act.put, List.setIfInBounds_toArray, List.set_cons_zero, List.set_cons_succ]
                  refine ordS_one (i := 13) (o := { dst := some 21, op := Op.alloc 56, type := 0, pos := _, after := #[], guard := none }) (by kernel_rfl) rfl (by rfl) (fun K hK => ?_)
                  go_simp
                  have hsz : Sep (Wn.alloc (.cells #[.int .i64 0, .string ⟨#[]⟩] 56)) w.heap.size (CO Try.c1 p r m2 :: CO Try.c2 q r m2 :: (l ++ XO X z :: [CellsO Wn.heap.size #[.int .i64 0, .string ⟨#[]⟩] 56])) := by simpa using Sep.box hs #[.int .i64 0, .string ⟨#[]⟩] 56
                  have hAz := bl_al hA (.cells #[.int .i64 0, .string ⟨#[]⟩] 56)
                  obtain ⟨Wz, hWz⟩ : ∃ x, Wn.alloc (.cells #[.int .i64 0, .string ⟨#[]⟩] 56) = x := ⟨_, rfl⟩
                  obtain ⟨Y, hY⟩ : ∃ x, Wn.heap.size = x := ⟨_, rfl⟩
                  rw [hWz, hY] at hsz
                  rw [hWz] at hAz
                  rw [hWz, hY]
                  clear hs hA hWz hY hH
                  obtain ⟨Wn, hWn⟩ : ∃ x, Wz = x := ⟨_, rfl⟩
                  rw [hWn] at hsz hAz ⊢
                  clear hWn
                  have hs := hsz
                  have hA := hAz
                  have hH := HCX.out _ _ _ hs
                  clear hsz hAz
                  refine hK _ _ hH ?_
                  clear hK K
                  try simp only [Act.put, List.setIfInBounds_toArray, List.set_cons_zero, List.set_cons_succ]
                  obtain ⟨hY0, hYb⟩ := Sep.cells (l1 := CO Try.c1 p r m2 :: CO Try.c2 q r m2 :: (l ++ [XO X z])) (l2 := []) (k := Y) (cs := #[.int .i64 0, .string ⟨#[]⟩]) (t := 56) (by simpa using hs)
                  have yc0 : Wn.cell? ⟨Y, 0, none⟩ = some (.int .i64 0) := by simp [World.cell?, hY0]
                  have yc1 : Wn.cell? ⟨Y, 1, none⟩ = some (.string ⟨#[]⟩) := by simp [World.cell?, hY0]
                  have yf0 : Wn.frozen? ⟨Y, 0, none⟩ = false := by simp [World.frozen?, hY0]
                  have yf1 : Wn.frozen? ⟨Y, 1, none⟩ = false := by simp [World.frozen?, hY0]
                  have zY := blk_lt yc0
                  have hss : Sep ((Wn.setCell ⟨Y, 0, none⟩ (.int .i64 gk)).setCell ⟨Y, 1, none⟩ (.string gs)) w.heap.size (CO Try.c1 p r m2 :: CO Try.c2 q r m2 :: (l ++ XO X z :: [CellsO Y #[.int .i64 gk, .string gs] 56])) := by
                    have k1 := Sep.set (l1 := CO Try.c1 p r m2 :: CO Try.c2 q r m2 :: (l ++ [XO X z])) (l2 := []) (k := Y) (cs := #[.int .i64 0, .string ⟨#[]⟩]) (t := 56) (by simpa using hs) 0 (.int .i64 gk)
                    have k2 := k1.set 1 (.string gs)
                    simpa using k2
                  have HAS := Lib.hid (bl_st (bl_st hA hYb (o := 0) (.int .i64 gk)) hYb (o := 1) (.string gs))
                  have HSS := Lib.hid hss
                  clear hY0 hYb hs hA hss
                  refine ordS_one (i := 14) (o := { dst := none, op := Op.store 56 (Operand.tmp 21) (Operand.tmp 86), type := 0, pos := _, after := #[{ on := 13, ground := Ground.data }, { on := 11, ground := Ground.data }, { on := 9, ground := Ground.chain }, { on := 0, ground := Ground.phase }, { on := 1, ground := Ground.phase }, { on := 2, ground := Ground.phase }, { on := 3, ground := Ground.phase }, { on := 4, ground := Ground.phase }, { on := 5, ground := Ground.phase }, { on := 6, ground := Ground.phase }, { on := 7, ground := Ground.phase }, { on := 8, ground := Ground.phase }, { on := 9, ground := Ground.phase }, { on := 10, ground := Ground.phase }, { on := 11, ground := Ground.phase }, { on := 12, ground := Ground.textOnly Departure.lateStores }, { on := 13, ground := Ground.phase }], guard := none }) (by kernel_rfl) rfl (by rfl) (fun K hK => ?_)
                  go_simp
                  refine hK _ _ (HCX.out _ _ _ HSS.out) ?_
                  clear hK K yc0 yc1 yf0 yf1 zY
                  replace hH := HCX.out _ _ _ HSS.out
                  try simp only [Act.put, List.setIfInBounds_toArray, List.set_cons_zero, List.set_cons_succ]
                  refine' ordS_take (i := 15) (oi := { dst := some 22, op := Op.assign (Operand.tmp 87), type := 4, pos := _, after := #[{ on := 12, ground := Ground.data }, { on := 14, ground := Ground.chain }, { on := 0, ground := Ground.phase }, { on := 1, ground := Ground.phase }, { on := 2, ground := Ground.phase }, { on := 3, ground := Ground.phase }, { on := 4, ground := Ground.phase }, { on := 5, ground := Ground.phase }, { on := 6, ground := Ground.phase }, { on := 7, ground := Ground.phase }, { on := 8, ground := Ground.phase }, { on := 9, ground := Ground.phase }, { on := 10, ground := Ground.phase }, { on := 11, ground := Ground.phase }, { on := 12, ground := Ground.phase }, { on := 13, ground := Ground.phase }, { on := 14, ground := Ground.phase }], guard := none }) (v := _) rfl (by kernel_rfl) (by kernel_rfl) (by kernel_rfl) (by kernel_rfl) (fun _ _ _ h => h) (by assumption) (Or.inl ⟨by rfl, ?hy12⟩) (fun _ => rfl) ?rest12
                  case hy12 => (intro w hSw; (try dsimp only at hSw); go_simp; try with_reducible rfl)
                  try simp only [Act.put, List.setIfInBounds_toArray, List.set_cons_zero, List.set_cons_succ]
                  refine ordS_done (by kernel_rfl) ?_
                  clear hH
                  go_wp2
                  go_meet
                  case rel => exact ⟨rfl, Y, l ++ [XO X z], rfl, Lib.hid (by simpa using HSS.out), HAS⟩
                · go_simp
                  have hsz : Sep (Wn.alloc (.cells #[.int .i64 0, .string ⟨#[]⟩] 56)) w.heap.size (CO Try.c1 p r m2 :: CO Try.c2 q r m :: (l ++ XO X z :: [CellsO Wn.heap.size #[.int .i64 0, .string ⟨#[]⟩] 56])) := by simpa using Sep.box hs #[.int .i64 0, .string ⟨#[]⟩] 56
                  have hAz := bl_al hA (.cells #[.int .i64 0, .string ⟨#[]⟩] 56)
                  obtain ⟨Wz, hWz⟩ : ∃ x, Wn.alloc (.cells #[.int .i64 0, .string ⟨#[]⟩] 56) = x := ⟨_, rfl⟩
                  obtain ⟨Y, hY⟩ : ∃ x, Wn.heap.size = x := ⟨_, rfl⟩
                  rw [hWz, hY] at hsz
                  rw [hWz] at hAz
                  rw [hWz, hY]
                  clear hs hA hWz hY hH
                  obtain ⟨Wn, hWn⟩ : ∃ x, Wz = x := ⟨_, rfl⟩
                  rw [hWn] at hsz hAz ⊢
                  clear hWn
                  have hs := hsz
                  have hA := hAz
                  have hH := HCX.out _ _ _ hs
                  clear hsz hAz
                  refine hK _ _ hH ?_
                  clear hK K
                  try simp only [Act.put, List.setIfInBounds_toArray, List.set_cons_zero, List.set_cons_succ]
                  refine ordS_one (i := 9) (o := { dst := some 85, op := Op.call { callee := Callee.value (Operand.func 31), args := #[Operand.tmp 76, Operand.tmp 79, Operand.tmp 84], argTypes := #[52, 56, 57] }, type := 61, pos := _, after := #[{ on := 0, ground := Ground.data }, { on := 3, ground := Ground.data }, { on := 8, ground := Ground.data }, { on := 3, ground := Ground.chain }], guard := none }) (by kernel_rfl) rfl (by rfl) (fun K hK => ?_)
                  go_simp
                  refine ⟨trivial, ?_⟩
                  refine callsIn_wide.2 ((HPUT.out _ [CellsO Y #[.int .i64 0, .string ⟨#[]⟩] 56] hs).mono ?_)
                  rintro e Wn ⟨rfl, hs2, hbn⟩
                  replace hs := hs2
                  replace hA := hA.trans hbn
                  replace hH := HCX.out _ _ _ hs
                  refine hK _ _ hH ?_
                  clear hK K hbn hs2
                  try simp only [Act.put, List.setIfInBounds_toArray, List.set_cons_zero, List.set_cons_succ]
                  refine' ordS_take (i := 10) (oi := { dst := some 75, op := Op.move (Operand.tmp 85), type := 61, pos := _, after := #[{ on := 9, ground := Ground.data }], guard := none }) (v := _) rfl (by kernel_rfl) (by kernel_rfl) (by kernel_rfl) (by kernel_rfl) (fun _ _ _ h => h) (by assumption) (Or.inl ⟨by rfl, ?hy13⟩) (fun _ => rfl) ?rest13
                  case hy13 => (intro w hSw; (try dsimp only at hSw); go_simp; try with_reducible rfl)
                  try simp only [Act.put, List.setIfInBounds_toArray, List.set_cons_zero, List.set_cons_succ]
                  refine' ordS_take (i := 11) (oi := { dst := some 86, op := Op.extract (Operand.tmp 75) 0, type := 56, pos := _, after := #[{ on := 10, ground := Ground.data }], guard := none }) (v := _) rfl (by kernel_rfl) (by kernel_rfl) (by kernel_rfl) (by kernel_rfl) (fun _ _ _ h => h) (by assumption) (Or.inl ⟨by rfl, ?hy14⟩) (fun _ => rfl) ?rest14
                  case hy14 => (intro w hSw; (try dsimp only at hSw); go_simp; try with_reducible rfl)
                  try simp only [Act.put, List.setIfInBounds_toArray, List.set_cons_zero, List.set_cons_succ]
                  refine' ordS_take (i := 12) (oi := { dst := some 87, op := Op.extract (Operand.tmp 75) 1, type := 4, pos := _, after := #[{ on := 10, ground := Ground.data }, { on := 14, ground := Ground.gcOnly Departure.lateStores }], guard := none }) (v := _) rfl (by kernel_rfl) (by kernel_rfl) (by kernel_rfl) (by kernel_rfl) (fun _ _ _ h => h) (by assumption) (Or.inl ⟨by rfl, ?hy15⟩) (fun _ => rfl) ?rest15
                  case hy15 => (intro w hSw; (try dsimp only at hSw); go_simp; try with_reducible rfl)
                  try simp only [Act.put, List.setIfInBounds_toArray, List.set_cons_zero, List.set_cons_succ]
                  obtain ⟨hY0, hYb⟩ := Sep.cells (l1 := CO Try.c1 p r m2 :: CO Try.c2 q r m2 :: (l ++ [XO X z])) (l2 := []) (k := Y) (cs := #[.int .i64 0, .string ⟨#[]⟩]) (t := 56) (by simpa using hs)
                  have yc0 : Wn.cell? ⟨Y, 0, none⟩ = some (.int .i64 0) := by simp [World.cell?, hY0]
                  have yc1 : Wn.cell? ⟨Y, 1, none⟩ = some (.string ⟨#[]⟩) := by simp [World.cell?, hY0]
                  have yf0 : Wn.frozen? ⟨Y, 0, none⟩ = false := by simp [World.frozen?, hY0]
                  have yf1 : Wn.frozen? ⟨Y, 1, none⟩ = false := by simp [World.frozen?, hY0]
                  have zY := blk_lt yc0
                  have hss : Sep ((Wn.setCell ⟨Y, 0, none⟩ (.int .i64 gk)).setCell ⟨Y, 1, none⟩ (.string gs)) w.heap.size (CO Try.c1 p r m2 :: CO Try.c2 q r m2 :: (l ++ XO X z :: [CellsO Y #[.int .i64 gk, .string gs] 56])) := by
                    have k1 := Sep.set (l1 := CO Try.c1 p r m2 :: CO Try.c2 q r m2 :: (l ++ [XO X z])) (l2 := []) (k := Y) (cs := #[.int .i64 0, .string ⟨#[]⟩]) (t := 56) (by simpa using hs) 0 (.int .i64 gk)
                    have k2 := k1.set 1 (.string gs)
                    simpa using k2
                  have HAS := Lib.hid (bl_st (bl_st hA hYb (o := 0) (.int .i64 gk)) hYb (o := 1) (.string gs))
                  have HSS := Lib.hid hss
                  clear hY0 hYb hs hA hss
                  refine ordS_one (i := 14) (o := { dst := none, op := Op.store 56 (Operand.tmp 21) (Operand.tmp 86), type := 0, pos := _, after := #[{ on := 13, ground := Ground.data }, { on := 11, ground := Ground.data }, { on := 9, ground := Ground.chain }, { on := 0, ground := Ground.phase }, { on := 1, ground := Ground.phase }, { on := 2, ground := Ground.phase }, { on := 3, ground := Ground.phase }, { on := 4, ground := Ground.phase }, { on := 5, ground := Ground.phase }, { on := 6, ground := Ground.phase }, { on := 7, ground := Ground.phase }, { on := 8, ground := Ground.phase }, { on := 9, ground := Ground.phase }, { on := 10, ground := Ground.phase }, { on := 11, ground := Ground.phase }, { on := 12, ground := Ground.textOnly Departure.lateStores }, { on := 13, ground := Ground.phase }], guard := none }) (by kernel_rfl) rfl (by rfl) (fun K hK => ?_)
                  go_simp
                  refine hK _ _ (HCX.out _ _ _ HSS.out) ?_
                  clear hK K yc0 yc1 yf0 yf1 zY
                  replace hH := HCX.out _ _ _ HSS.out
                  try simp only [Act.put, List.setIfInBounds_toArray, List.set_cons_zero, List.set_cons_succ]
                  refine' ordS_take (i := 15) (oi := { dst := some 22, op := Op.assign (Operand.tmp 87), type := 4, pos := _, after := #[{ on := 12, ground := Ground.data }, { on := 14, ground := Ground.chain }, { on := 0, ground := Ground.phase }, { on := 1, ground := Ground.phase }, { on := 2, ground := Ground.phase }, { on := 3, ground := Ground.phase }, { on := 4, ground := Ground.phase }, { on := 5, ground := Ground.phase }, { on := 6, ground := Ground.phase }, { on := 7, ground := Ground.phase }, { on := 8, ground := Ground.phase }, { on := 9, ground := Ground.phase }, { on := 10, ground := Ground.phase }, { on := 11, ground := Ground.phase }, { on := 12, ground := Ground.phase }, { on := 13, ground := Ground.phase }, { on := 14, ground := Ground.phase }], guard := none }) (v := _) rfl (by kernel_rfl) (by kernel_rfl) (by kernel_rfl) (by kernel_rfl) (fun _ _ _ h => h) (by assumption) (Or.inl ⟨by rfl, ?hy16⟩) (fun _ => rfl) ?rest16
                  case hy16 => (intro w hSw; (try dsimp only at hSw); go_simp; try with_reducible rfl)
                  try simp only [Act.put, List.setIfInBounds_toArray, List.set_cons_zero, List.set_cons_succ]
                  refine ordS_done (by kernel_rfl) ?_
                  clear hH
                  go_wp2
                  go_meet
                  case rel => exact ⟨rfl, Y, l ++ [XO X z], rfl, Lib.hid (by simpa using HSS.out), HAS⟩
              · go_simp
                have hsz : Sep (Wn.alloc (.cells #[.int .i64 0, .string ⟨#[]⟩] 56)) w.heap.size (CO Try.c1 p r m2 :: CO Try.c2 q r m :: (l ++ XO X z :: [CellsO Wn.heap.size #[.int .i64 0, .string ⟨#[]⟩] 56])) := by simpa using Sep.box hs #[.int .i64 0, .string ⟨#[]⟩] 56
                have hAz := bl_al hA (.cells #[.int .i64 0, .string ⟨#[]⟩] 56)
                obtain ⟨Wz, hWz⟩ : ∃ x, Wn.alloc (.cells #[.int .i64 0, .string ⟨#[]⟩] 56) = x := ⟨_, rfl⟩
                obtain ⟨Y, hY⟩ : ∃ x, Wn.heap.size = x := ⟨_, rfl⟩
                rw [hWz, hY] at hsz
                rw [hWz] at hAz
                rw [hWz, hY]
                clear hs hA hWz hY hH
                obtain ⟨Wn, hWn⟩ : ∃ x, Wz = x := ⟨_, rfl⟩
                rw [hWn] at hsz hAz ⊢
                clear hWn
                have hs := hsz
                have hA := hAz
                have hH := HCX.out _ _ _ hs
                clear hsz hAz
                refine hK _ _ hH ?_
                clear hK K
                try simp only [Act.put, List.setIfInBounds_toArray, List.set_cons_zero, List.set_cons_succ]
                refine ordS_one (i := 3) (o := { dst := some 79, op := Op.call { callee := Callee.value (Operand.func 29), args := #[Operand.tmp 78], argTypes := #[3] }, type := 56, pos := _, after := #[{ on := 2, ground := Ground.data }], guard := none }) (by kernel_rfl) rfl (by rfl) (fun K hK => ?_)
                go_simp
                refine ⟨trivial, ?_⟩
                refine callsIn_wide.2 ((name_any z.k _).mono ?_)
                rintro e Wn ⟨rfl, hbn⟩
                replace hs := Sep.below hs hbn
                replace hA := bl_tr hA hbn
                replace hH := HCX.out _ _ _ hs
                refine hK _ _ hH ?_
                clear hK K hbn
                try simp only [Act.put, List.setIfInBounds_toArray, List.set_cons_zero, List.set_cons_succ]
                refine ordS_one (i := 9) (o := { dst := some 85, op := Op.call { callee := Callee.value (Operand.func 31), args := #[Operand.tmp 76, Operand.tmp 79, Operand.tmp 84], argTypes := #[52, 56, 57] }, type := 61, pos := _, after := #[{ on := 0, ground := Ground.data }, { on := 3, ground := Ground.data }, { on := 8, ground := Ground.data }, { on := 3, ground := Ground.chain }], guard := none }) (by kernel_rfl) rfl (by rfl) (fun K hK => ?_)
                go_simp
                refine ⟨trivial, ?_⟩
                refine callsIn_wide.2 ((HPUT.out _ [CellsO Y #[.int .i64 0, .string ⟨#[]⟩] 56] hs).mono ?_)
                rintro e Wn ⟨rfl, hs2, hbn⟩
                replace hs := hs2
                replace hA := hA.trans hbn
                replace hH := HCX.out _ _ _ hs
                refine hK _ _ hH ?_
                clear hK K hbn hs2
                try simp only [Act.put, List.setIfInBounds_toArray, List.set_cons_zero, List.set_cons_succ]
                refine' ordS_take (i := 10) (oi := { dst := some 75, op := Op.move (Operand.tmp 85), type := 61, pos := _, after := #[{ on := 9, ground := Ground.data }], guard := none }) (v := _) rfl (by kernel_rfl) (by kernel_rfl) (by kernel_rfl) (by kernel_rfl) (fun _ _ _ h => h) (by assumption) (Or.inl ⟨by rfl, ?hy17⟩) (fun _ => rfl) ?rest17
                case hy17 => (intro w hSw; (try dsimp only at hSw); go_simp; try with_reducible rfl)
                try simp only [Act.put, List.setIfInBounds_toArray, List.set_cons_zero, List.set_cons_succ]
                refine' ordS_take (i := 11) (oi := { dst := some 86, op := Op.extract (Operand.tmp 75) 0, type := 56, pos := _, after := #[{ on := 10, ground := Ground.data }], guard := none }) (v := _) rfl (by kernel_rfl) (by kernel_rfl) (by kernel_rfl) (by kernel_rfl) (fun _ _ _ h => h) (by assumption) (Or.inl ⟨by rfl, ?hy18⟩) (fun _ => rfl) ?rest18
                case hy18 => (intro w hSw; (try dsimp only at hSw); go_simp; try with_reducible rfl)
                try simp only [Act.put, List.setIfInBounds_toArray, List.set_cons_zero, List.set_cons_succ]
                refine' ordS_take (i := 12) (oi := { dst := some 87, op := Op.extract (Operand.tmp 75) 1, type := 4, pos := _, after := #[{ on := 10, ground := Ground.data }, { on := 14, ground := Ground.gcOnly Departure.lateStores }], guard := none }) (v := _) rfl (by kernel_rfl) (by kernel_rfl) (by kernel_rfl) (by kernel_rfl) (fun _ _ _ h => h) (by assumption) (Or.inl ⟨by rfl, ?hy19⟩) (fun _ => rfl) ?rest19
                case hy19 => (intro w hSw; (try dsimp only at hSw); go_simp; try with_reducible rfl)
                try simp only [Act.put, List.setIfInBounds_toArray, List.set_cons_zero, List.set_cons_succ]
                obtain ⟨hY0, hYb⟩ := Sep.cells (l1 := CO Try.c1 p r m2 :: CO Try.c2 q r m2 :: (l ++ [XO X z])) (l2 := []) (k := Y) (cs := #[.int .i64 0, .string ⟨#[]⟩]) (t := 56) (by simpa using hs)
                have yc0 : Wn.cell? ⟨Y, 0, none⟩ = some (.int .i64 0) := by simp [World.cell?, hY0]
                have yc1 : Wn.cell? ⟨Y, 1, none⟩ = some (.string ⟨#[]⟩) := by simp [World.cell?, hY0]
                have yf0 : Wn.frozen? ⟨Y, 0, none⟩ = false := by simp [World.frozen?, hY0]
                have yf1 : Wn.frozen? ⟨Y, 1, none⟩ = false := by simp [World.frozen?, hY0]
                have zY := blk_lt yc0
                have hss : Sep ((Wn.setCell ⟨Y, 0, none⟩ (.int .i64 gk)).setCell ⟨Y, 1, none⟩ (.string gs)) w.heap.size (CO Try.c1 p r m2 :: CO Try.c2 q r m2 :: (l ++ XO X z :: [CellsO Y #[.int .i64 gk, .string gs] 56])) := by
                  have k1 := Sep.set (l1 := CO Try.c1 p r m2 :: CO Try.c2 q r m2 :: (l ++ [XO X z])) (l2 := []) (k := Y) (cs := #[.int .i64 0, .string ⟨#[]⟩]) (t := 56) (by simpa using hs) 0 (.int .i64 gk)
                  have k2 := k1.set 1 (.string gs)
                  simpa using k2
                have HAS := Lib.hid (bl_st (bl_st hA hYb (o := 0) (.int .i64 gk)) hYb (o := 1) (.string gs))
                have HSS := Lib.hid hss
                clear hY0 hYb hs hA hss
                refine ordS_one (i := 14) (o := { dst := none, op := Op.store 56 (Operand.tmp 21) (Operand.tmp 86), type := 0, pos := _, after := #[{ on := 13, ground := Ground.data }, { on := 11, ground := Ground.data }, { on := 9, ground := Ground.chain }, { on := 0, ground := Ground.phase }, { on := 1, ground := Ground.phase }, { on := 2, ground := Ground.phase }, { on := 3, ground := Ground.phase }, { on := 4, ground := Ground.phase }, { on := 5, ground := Ground.phase }, { on := 6, ground := Ground.phase }, { on := 7, ground := Ground.phase }, { on := 8, ground := Ground.phase }, { on := 9, ground := Ground.phase }, { on := 10, ground := Ground.phase }, { on := 11, ground := Ground.phase }, { on := 12, ground := Ground.textOnly Departure.lateStores }, { on := 13, ground := Ground.phase }], guard := none }) (by kernel_rfl) rfl (by rfl) (fun K hK => ?_)
                go_simp
                refine hK _ _ (HCX.out _ _ _ HSS.out) ?_
                clear hK K yc0 yc1 yf0 yf1 zY
                replace hH := HCX.out _ _ _ HSS.out
                try simp only [Act.put, List.setIfInBounds_toArray, List.set_cons_zero, List.set_cons_succ]
                refine' ordS_take (i := 15) (oi := { dst := some 22, op := Op.assign (Operand.tmp 87), type := 4, pos := _, after := #[{ on := 12, ground := Ground.data }, { on := 14, ground := Ground.chain }, { on := 0, ground := Ground.phase }, { on := 1, ground := Ground.phase }, { on := 2, ground := Ground.phase }, { on := 3, ground := Ground.phase }, { on := 4, ground := Ground.phase }, { on := 5, ground := Ground.phase }, { on := 6, ground := Ground.phase }, { on := 7, ground := Ground.phase }, { on := 8, ground := Ground.phase }, { on := 9, ground := Ground.phase }, { on := 10, ground := Ground.phase }, { on := 11, ground := Ground.phase }, { on := 12, ground := Ground.phase }, { on := 13, ground := Ground.phase }, { on := 14, ground := Ground.phase }], guard := none }) (v := _) rfl (by kernel_rfl) (by kernel_rfl) (by kernel_rfl) (by kernel_rfl) (fun _ _ _ h => h) (by assumption) (Or.inl ⟨by rfl, ?hy20⟩) (fun _ => rfl) ?rest20
                case hy20 => (intro w hSw; (try dsimp only at hSw); go_simp; try with_reducible rfl)
                try simp only [Act.put, List.setIfInBounds_toArray, List.set_cons_zero, List.set_cons_succ]
                refine ordS_done (by kernel_rfl) ?_
                clear hH
                go_wp2
                go_meet
                case rel => exact ⟨rfl, Y, l ++ [XO X z], rfl, Lib.hid (by simpa using HSS.out), HAS⟩
            case rest =>
              obtain ⟨rfl, Y, l2, rfl, HS3, HA3⟩ := hcut
              have hD := bl_dr (bl0 wc)
              obtain ⟨hY0, _⟩ := Sep.cells (l1 := CO Try.c1 p r m2 :: CO Try.c2 q r m2 :: l2) (l2 := []) (k := Y) (cs := #[.int .i64 gk, .string gs]) (t := 56) HS3.out
              have yc0 : wc.cell? ⟨Y, 0, none⟩ = some (.int .i64 gk) := by simp [World.cell?, hY0]
              have yc1 : wc.cell? ⟨Y, 1, none⟩ = some (.string gs) := by simp [World.cell?, hY0]
              have yd0 := cell_later hD yc0
              have yd1 := cell_later hD yc1
              clear yc0 yc1 hY0 HS1 HA1 HSX HAX HM
              cases fl with
              | true =>
                obtain ⟨e1, e2⟩ := HG1.out rfl
                subst e1 e2
                have hN := neq_nmk gk
                have hE := eq_nmk gk
                go_upto_region 14 with fail
                refine (wpIn_wide (n := 11)).1 ?_
                refine ordS_begin (S := (fun w' : World => w'.cell? ⟨Y, 0, none⟩ = some (.int .i64 gk) ∧ w'.cell? ⟨Y, 1, none⟩ = some (.string keyT))) (by kernel_rfl) ⟨yd0, yd1⟩ (fun hH => ?_)
                refine' ordS_take (i := 0) (oi := { dst := some 88, op := Op.move (Operand.tmp 20), type := 4, pos := _, after := #[], guard := none }) (v := _) rfl (by kernel_rfl) (by kernel_rfl) (by kernel_rfl) (by kernel_rfl) (fun _ _ _ h => h) (by assumption) (Or.inl ⟨by rfl, ?hy21⟩) (fun _ => rfl) ?rest21
                case hy21 => (intro w hSw; (try dsimp only at hSw); go_simp; try with_reducible rfl)
                try simp only [Act.put, List.setIfInBounds_toArray, List.set_cons_zero, List.set_cons_succ]
                refine' ordS_take (i := 1) (oi := { dst := some 89, op := Op.move (Operand.tmp 22), type := 4, pos := _, after := #[], guard := none }) (v := _) rfl (by kernel_rfl) (by kernel_rfl) (by kernel_rfl) (by kernel_rfl) (fun _ _ _ h => h) (by assumption) (Or.inl ⟨by rfl, ?hy22⟩) (fun _ => rfl) ?rest22
                case hy22 => (intro w hSw; (try dsimp only at hSw); go_simp; try with_reducible rfl)
                try simp only [Act.put, List.setIfInBounds_toArray, List.set_cons_zero, List.set_cons_succ]
                refine' ordS_take (i := 2) (oi := { dst := some 90, op := Op.binOp BinOp.neq 4 (Operand.tmp 88) (Operand.tmp 89) 4, type := 4, pos := _, after := #[{ on := 0, ground := Ground.data }, { on := 1, ground := Ground.data }], guard := none }) (v := _) rfl (by kernel_rfl) (by kernel_rfl) (by kernel_rfl) (by kernel_rfl) (fun _ _ _ h => h) (by assumption) (Or.inl ⟨by rfl, ?hy23⟩) (fun _ => rfl) ?rest23
                case hy23 => (intro w hSw; (try dsimp only at hSw); go_simp; try with_reducible rfl)
                try simp only [Act.put, List.setIfInBounds_toArray, List.set_cons_zero, List.set_cons_succ]
                refine' ordS_take (i := 3) (oi := { dst := some 91, op := Op.move (Operand.tmp 90), type := 4, pos := _, after := #[{ on := 2, ground := Ground.data }], guard := none }) (v := _) rfl (by kernel_rfl) (by kernel_rfl) (by kernel_rfl) (by kernel_rfl) (fun _ _ _ h => h) (by assumption) (Or.inl ⟨by rfl, ?hy24⟩) (fun _ => rfl) ?rest24
                case hy24 => (intro w hSw; (try dsimp only at hSw); go_simp; try with_reducible rfl)
                try simp only [Act.put, List.setIfInBounds_toArray, List.set_cons_zero, List.set_cons_succ]
                refine' ordS_take (i := 4) (oi := { dst := some 92, op := Op.move (Operand.tmp 20), type := 4, pos := _, after := #[{ on := 3, ground := Ground.guard }], guard := some (3, false) }) (v := _) rfl (by kernel_rfl) (by kernel_rfl) (by kernel_rfl) (by kernel_rfl) (fun _ _ _ h => h) (by assumption) (Or.inl ⟨by rfl, ?hy25⟩) (fun _ => rfl) ?rest25
                case hy25 => (intro w hSw; (try dsimp only at hSw); go_simp; try with_reducible rfl)
                try simp only [Act.put, List.setIfInBounds_toArray, List.set_cons_zero, List.set_cons_succ]
                refine' ordS_take (i := 5) (oi := { dst := some 93, op := Op.move (Operand.tmp 92), type := 4, pos := _, after := #[{ on := 4, ground := Ground.data }, { on := 3, ground := Ground.chain }, { on := 3, ground := Ground.guard }], guard := some (3, false) }) (v := _) rfl (by kernel_rfl) (by kernel_rfl) (by kernel_rfl) (by kernel_rfl) (fun _ _ _ h => h) (by assumption) (Or.inl ⟨by rfl, ?hy26⟩) (fun _ => rfl) ?rest26
                case hy26 => (intro w hSw; (try dsimp only at hSw); go_simp; try with_reducible rfl)
                try simp only [Act.put, List.setIfInBounds_toArray, List.set_cons_zero, List.set_cons_succ]
                refine' ordS_take (i := 6) (oi := { dst := some 94, op := Op.load 56 (Operand.tmp 21), type := 56, pos := _, after := #[{ on := 5, ground := Ground.guard }], guard := some (5, true) }) (v := _) rfl (by kernel_rfl) (by kernel_rfl) (by kernel_rfl) (by kernel_rfl) (fun _ _ _ h => h) (by assumption) (Or.inl ⟨by rfl, ?hy27⟩) (fun _ => rfl) ?rest27
                case hy27 => (intro w hSw; (try dsimp only at hSw); go_simp; try with_reducible rfl)
                try simp only [Act.put, List.setIfInBounds_toArray, List.set_cons_zero, List.set_cons_succ]
                refine' ordS_take (i := 7) (oi := { dst := some 95, op := Op.move (Operand.tmp 19), type := 3, pos := _, after := #[{ on := 5, ground := Ground.guard }], guard := some (5, true) }) (v := _) rfl (by kernel_rfl) (by kernel_rfl) (by kernel_rfl) (by kernel_rfl) (fun _ _ _ h => h) (by assumption) (Or.inl ⟨by rfl, ?hy28⟩) (fun _ => rfl) ?rest28
                case hy28 => (intro w hSw; (try dsimp only at hSw); go_simp; try with_reducible rfl)
                try simp only [Act.put, List.setIfInBounds_toArray, List.set_cons_zero, List.set_cons_succ]
                refine ordS_one (i := 8) (o := { dst := some 96, op := Op.call { callee := Callee.value (Operand.func 29), args := #[Operand.tmp 95], argTypes := #[3] }, type := 56, pos := _, after := #[{ on := 7, ground := Ground.data }, { on := 5, ground := Ground.chain }, { on := 5, ground := Ground.guard }], guard := some (5, true) }) (by kernel_rfl) rfl (by rfl) (fun K hK => ?_)
                go_simp
                refine ⟨trivial, ?_⟩
                refine callsIn_wide.2 ((name_any gk _).mono ?_)
                rintro e W5 ⟨rfl, hb5⟩
                have HS5 := Lib.hid (HS3.out.below (bl_tr hD hb5))
                have HA5 := Lib.hid (bl_tr HA3.out (bl_tr hD hb5))
                have hH2 := And.intro (cell_later hb5 yd0) (cell_later hb5 yd1)
                clear hH yd0 yd1
                have hH := hH2
                refine hK _ _ hH ?_
                clear hK K hb5 hH2
                try simp only [Act.put, List.setIfInBounds_toArray, List.set_cons_zero, List.set_cons_succ]
                refine' ordS_take (i := 9) (oi := { dst := some 97, op := Op.binOp BinOp.neq 56 (Operand.tmp 94) (Operand.tmp 96) 56, type := 4, pos := _, after := #[{ on := 6, ground := Ground.data }, { on := 8, ground := Ground.data }, { on := 5, ground := Ground.guard }], guard := some (5, true) }) (v := _) rfl (by kernel_rfl) (by kernel_rfl) (by kernel_rfl) (by kernel_rfl) (fun _ _ _ h => h) (by assumption) (Or.inl ⟨by rfl, ?hy29⟩) (fun _ => rfl) ?rest29
                case hy29 => (intro w hSw; (try dsimp only at hSw); go_simp; try with_reducible rfl)
                try simp only [Act.put, List.setIfInBounds_toArray, List.set_cons_zero, List.set_cons_succ]
                refine' ordS_take (i := 10) (oi := { dst := some 98, op := Op.pick (Operand.tmp 93) (Operand.tmp 97) (Operand.const (Value.bool false)), type := 4, pos := _, after := #[{ on := 5, ground := Ground.data }, { on := 9, ground := Ground.data }, { on := 3, ground := Ground.guard }], guard := some (3, false) }) (v := _) rfl (by kernel_rfl) (by kernel_rfl) (by kernel_rfl) (by kernel_rfl) (fun _ _ _ h => h) (by assumption) (Or.inl ⟨by rfl, ?hy30⟩) (fun _ => rfl) ?rest30
                case hy30 => (intro w hSw; (try dsimp only at hSw); go_simp; try with_reducible rfl)
                try simp only [Act.put, List.setIfInBounds_toArray, List.set_cons_zero, List.set_cons_succ]
                refine' ordS_take (i := 11) (oi := { dst := some 99, op := Op.pick (Operand.tmp 91) (Operand.const (Value.bool true)) (Operand.tmp 98), type := 4, pos := _, after := #[{ on := 3, ground := Ground.data }, { on := 10, ground := Ground.data }], guard := none }) (v := _) rfl (by kernel_rfl) (by kernel_rfl) (by kernel_rfl) (by kernel_rfl) (fun _ _ _ h => h) (by assumption) (Or.inl ⟨by rfl, ?hy31⟩) (fun _ => rfl) ?rest31
                case hy31 => (intro w hSw; (try dsimp only at hSw); go_simp; try with_reducible rfl)
                try simp only [Act.put, List.setIfInBounds_toArray, List.set_cons_zero, List.set_cons_succ]
                refine' ordS_take (i := 12) (oi := { dst := some 100, op := Op.move (Operand.tmp 99), type := 4, pos := _, after := #[{ on := 11, ground := Ground.data }, { on := 8, ground := Ground.chain }], guard := none }) (v := _) rfl (by kernel_rfl) (by kernel_rfl) (by kernel_rfl) (by kernel_rfl) (fun _ _ _ h => h) (by assumption) (Or.inl ⟨by rfl, ?hy32⟩) (fun _ => rfl) ?rest32
                case hy32 => (intro w hSw; (try dsimp only at hSw); go_simp; try with_reducible rfl)
                try simp only [Act.put, List.setIfInBounds_toArray, List.set_cons_zero, List.set_cons_succ]
                refine' ordS_take (i := 13) (oi := { dst := some 101, op := Op.move (Operand.tmp 20), type := 4, pos := _, after := #[{ on := 12, ground := Ground.guard }], guard := some (12, false) }) (v := _) rfl (by kernel_rfl) (by kernel_rfl) (by kernel_rfl) (by kernel_rfl) (fun _ _ _ h => h) (by assumption) (Or.inl ⟨by rfl, ?hy33⟩) (fun _ => rfl) ?rest33
                case hy33 => (intro w hSw; (try dsimp only at hSw); go_simp; try with_reducible rfl)
                try simp only [Act.put, List.setIfInBounds_toArray, List.set_cons_zero, List.set_cons_succ]
                refine' ordS_take (i := 14) (oi := { dst := some 102, op := Op.unOp UnOp.not 4 (Operand.tmp 101), type := 4, pos := _, after := #[{ on := 13, ground := Ground.data }, { on := 12, ground := Ground.guard }], guard := some (12, false) }) (v := _) rfl (by kernel_rfl) (by kernel_rfl) (by kernel_rfl) (by kernel_rfl) (fun _ _ _ h => h) (by assumption) (Or.inl ⟨by rfl, ?hy34⟩) (fun _ => rfl) ?rest34
                case hy34 => (intro w hSw; (try dsimp only at hSw); go_simp; try with_reducible rfl)
                try simp only [Act.put, List.setIfInBounds_toArray, List.set_cons_zero, List.set_cons_succ]
                refine' ordS_take (i := 15) (oi := { dst := some 103, op := Op.move (Operand.tmp 102), type := 4, pos := _, after := #[{ on := 14, ground := Ground.data }, { on := 12, ground := Ground.chain }, { on := 12, ground := Ground.guard }], guard := some (12, false) }) (v := _) rfl (by kernel_rfl) (by kernel_rfl) (by kernel_rfl) (by kernel_rfl) (fun _ _ _ h => h) (by assumption) (Or.inl ⟨by rfl, ?hy35⟩) (fun _ => rfl) ?rest35
                case hy35 => (intro w hSw; (try dsimp only at hSw); go_simp; try with_reducible rfl)
                try simp only [Act.put, List.setIfInBounds_toArray, List.set_cons_zero, List.set_cons_succ]
                refine ordS_take (i := 16) (oi := { dst := some 104, op := Op.load 56 (Operand.tmp 21), type := 56, pos := _, after := #[{ on := 15, ground := Ground.guard }], guard := some (15, true) }) (v := undef) rfl (by kernel_rfl) (by kernel_rfl) (by kernel_rfl) (by kernel_rfl) (fun _ _ _ h => h) (by assumption) (Or.inr ⟨by rfl, rfl⟩) (fun _ => rfl) ?_
                try simp only [Act.put, List.setIfInBounds_toArray, List.set_cons_zero, List.set_cons_succ]
                refine ordS_take (i := 17) (oi := { dst := some 105, op := Op.build 56 #[], type := 56, pos := _, after := #[{ on := 15, ground := Ground.guard }], guard := some (15, true) }) (v := undef) rfl (by kernel_rfl) (by kernel_rfl) (by kernel_rfl) (by kernel_rfl) (fun _ _ _ h => h) (by assumption) (Or.inr ⟨by rfl, rfl⟩) (fun _ => rfl) ?_
                try simp only [Act.put, List.setIfInBounds_toArray, List.set_cons_zero, List.set_cons_succ]
                refine ordS_take (i := 18) (oi := { dst := some 106, op := Op.binOp BinOp.neq 56 (Operand.tmp 104) (Operand.tmp 105) 56, type := 4, pos := _, after := #[{ on := 16, ground := Ground.data }, { on := 17, ground := Ground.data }, { on := 15, ground := Ground.guard }], guard := some (15, true) }) (v := undef) rfl (by kernel_rfl) (by kernel_rfl) (by kernel_rfl) (by kernel_rfl) (fun _ _ _ h => h) (by assumption) (Or.inr ⟨by rfl, rfl⟩) (fun _ => rfl) ?_
                try simp only [Act.put, List.setIfInBounds_toArray, List.set_cons_zero, List.set_cons_succ]
                refine' ordS_take (i := 19) (oi := { dst := some 107, op := Op.pick (Operand.tmp 103) (Operand.tmp 106) (Operand.const (Value.bool false)), type := 4, pos := _, after := #[{ on := 15, ground := Ground.data }, { on := 18, ground := Ground.data }, { on := 12, ground := Ground.guard }], guard := some (12, false) }) (v := _) rfl (by kernel_rfl) (by kernel_rfl) (by kernel_rfl) (by kernel_rfl) (fun _ _ _ h => h) (by assumption) (Or.inl ⟨by rfl, ?hy39⟩) (fun _ => rfl) ?rest39
                case hy39 => (intro w hSw; (try dsimp only at hSw); go_simp; try with_reducible rfl)
                try simp only [Act.put, List.setIfInBounds_toArray, List.set_cons_zero, List.set_cons_succ]
                refine' ordS_take (i := 20) (oi := { dst := some 108, op := Op.pick (Operand.tmp 100) (Operand.const (Value.bool true)) (Operand.tmp 107), type := 4, pos := _, after := #[{ on := 12, ground := Ground.data }, { on := 19, ground := Ground.data }], guard := none }) (v := _) rfl (by kernel_rfl) (by kernel_rfl) (by kernel_rfl) (by kernel_rfl) (fun _ _ _ h => h) (by assumption) (Or.inl ⟨by rfl, ?hy40⟩) (fun _ => rfl) ?rest40
                case hy40 => (intro w hSw; (try dsimp only at hSw); go_simp; try with_reducible rfl)
                try simp only [Act.put, List.setIfInBounds_toArray, List.set_cons_zero, List.set_cons_succ]
                refine ordS_done (by kernel_rfl) ?_
                clear hH hN hE
                go_wp2
                go_meet
                case rel => exact ⟨rfl, _, _, HM2, HS5, HA5⟩
              | false =>
                obtain ⟨e1, e2⟩ := HG2.out rfl
                subst e1 e2
                have hN := neq_znn
                have hE := eq_znn
                go_upto_region 14 with fail
                refine (wpIn_wide (n := 11)).1 ?_
                refine ordS_begin (S := (fun w' : World => w'.cell? ⟨Y, 0, none⟩ = some (.int .i64 0) ∧ w'.cell? ⟨Y, 1, none⟩ = some (.string ⟨#[]⟩))) (by kernel_rfl) ⟨yd0, yd1⟩ (fun hH => ?_)
                refine' ordS_take (i := 0) (oi := { dst := some 88, op := Op.move (Operand.tmp 20), type := 4, pos := _, after := #[], guard := none }) (v := _) rfl (by kernel_rfl) (by kernel_rfl) (by kernel_rfl) (by kernel_rfl) (fun _ _ _ h => h) (by assumption) (Or.inl ⟨by rfl, ?hy41⟩) (fun _ => rfl) ?rest41
                case hy41 => (intro w hSw; (try dsimp only at hSw); go_simp; try with_reducible rfl)
                try simp only [Act.put, List.setIfInBounds_toArray, List.set_cons_zero, List.set_cons_succ]
                refine' ordS_take (i := 1) (oi := { dst := some 89, op := Op.move (Operand.tmp 22), type := 4, pos := _, after := #[], guard := none }) (v := _) rfl (by kernel_rfl) (by kernel_rfl) (by kernel_rfl) (by kernel_rfl) (fun _ _ _ h => h) (by assumption) (Or.inl ⟨by rfl, ?hy42⟩) (fun _ => rfl) ?rest42
                case hy42 => (intro w hSw; (try dsimp only at hSw); go_simp; try with_reducible rfl)
                try simp only [Act.put, List.setIfInBounds_toArray, List.set_cons_zero, List.set_cons_succ]
                refine' ordS_take (i := 2) (oi := { dst := some 90, op := Op.binOp BinOp.neq 4 (Operand.tmp 88) (Operand.tmp 89) 4, type := 4, pos := _, after := #[{ on := 0, ground := Ground.data }, { on := 1, ground := Ground.data }], guard := none }) (v := _) rfl (by kernel_rfl) (by kernel_rfl) (by kernel_rfl) (by kernel_rfl) (fun _ _ _ h => h) (by assumption) (Or.inl ⟨by rfl, ?hy43⟩) (fun _ => rfl) ?rest43
                case hy43 => (intro w hSw; (try dsimp only at hSw); go_simp; try with_reducible rfl)
                try simp only [Act.put, List.setIfInBounds_toArray, List.set_cons_zero, List.set_cons_succ]
                refine' ordS_take (i := 3) (oi := { dst := some 91, op := Op.move (Operand.tmp 90), type := 4, pos := _, after := #[{ on := 2, ground := Ground.data }], guard := none }) (v := _) rfl (by kernel_rfl) (by kernel_rfl) (by kernel_rfl) (by kernel_rfl) (fun _ _ _ h => h) (by assumption) (Or.inl ⟨by rfl, ?hy44⟩) (fun _ => rfl) ?rest44
                case hy44 => (intro w hSw; (try dsimp only at hSw); go_simp; try with_reducible rfl)
                try simp only [Act.put, List.setIfInBounds_toArray, List.set_cons_zero, List.set_cons_succ]
                refine' ordS_take (i := 4) (oi := { dst := some 92, op := Op.move (Operand.tmp 20), type := 4, pos := _, after := #[{ on := 3, ground := Ground.guard }], guard := some (3, false) }) (v := _) rfl (by kernel_rfl) (by kernel_rfl) (by kernel_rfl) (by kernel_rfl) (fun _ _ _ h => h) (by assumption) (Or.inl ⟨by rfl, ?hy45⟩) (fun _ => rfl) ?rest45
                case hy45 => (intro w hSw; (try dsimp only at hSw); go_simp; try with_reducible rfl)
                try simp only [Act.put, List.setIfInBounds_toArray, List.set_cons_zero, List.set_cons_succ]
                refine' ordS_take (i := 5) (oi := { dst := some 93, op := Op.move (Operand.tmp 92), type := 4, pos := _, after := #[{ on := 4, ground := Ground.data }, { on := 3, ground := Ground.chain }, { on := 3, ground := Ground.guard }], guard := some (3, false) }) (v := _) rfl (by kernel_rfl) (by kernel_rfl) (by kernel_rfl) (by kernel_rfl) (fun _ _ _ h => h) (by assumption) (Or.inl ⟨by rfl, ?hy46⟩) (fun _ => rfl) ?rest46
                case hy46 => (intro w hSw; (try dsimp only at hSw); go_simp; try with_reducible rfl)
                try simp only [Act.put, List.setIfInBounds_toArray, List.set_cons_zero, List.set_cons_succ]
                refine ordS_take (i := 6) (oi := { dst := some 94, op := Op.load 56 (Operand.tmp 21), type := 56, pos := _, after := #[{ on := 5, ground := Ground.guard }], guard := some (5, true) }) (v := undef) rfl (by kernel_rfl) (by kernel_rfl) (by kernel_rfl) (by kernel_rfl) (fun _ _ _ h => h) (by assumption) (Or.inr ⟨by rfl, rfl⟩) (fun _ => rfl) ?_
                try simp only [Act.put, List.setIfInBounds_toArray, List.set_cons_zero, List.set_cons_succ]
                refine ordS_take (i := 7) (oi := { dst := some 95, op := Op.move (Operand.tmp 19), type := 3, pos := _, after := #[{ on := 5, ground := Ground.guard }], guard := some (5, true) }) (v := undef) rfl (by kernel_rfl) (by kernel_rfl) (by kernel_rfl) (by kernel_rfl) (fun _ _ _ h => h) (by assumption) (Or.inr ⟨by rfl, rfl⟩) (fun _ => rfl) ?_
                try simp only [Act.put, List.setIfInBounds_toArray, List.set_cons_zero, List.set_cons_succ]
                refine ordS_skip (i := 8) (o := { dst := some 96, op := Op.call { callee := Callee.value (Operand.func 29), args := #[Operand.tmp 95], argTypes := #[3] }, type := 56, pos := _, after := #[{ on := 7, ground := Ground.data }, { on := 5, ground := Ground.chain }, { on := 5, ground := Ground.guard }], guard := some (5, true) }) (by kernel_rfl) rfl (by rfl) (fun _ => trivial) hH ?_
                refine ordS_take (i := 9) (oi := { dst := some 97, op := Op.binOp BinOp.neq 56 (Operand.tmp 94) (Operand.tmp 96) 56, type := 4, pos := _, after := #[{ on := 6, ground := Ground.data }, { on := 8, ground := Ground.data }, { on := 5, ground := Ground.guard }], guard := some (5, true) }) (v := undef) rfl (by kernel_rfl) (by kernel_rfl) (by kernel_rfl) (by kernel_rfl) (fun _ _ _ h => h) (by assumption) (Or.inr ⟨by rfl, rfl⟩) (fun _ => rfl) ?_
                try simp only [Act.put, List.setIfInBounds_toArray, List.set_cons_zero, List.set_cons_succ]
                refine' ordS_take (i := 10) (oi := { dst := some 98, op := Op.pick (Operand.tmp 93) (Operand.tmp 97) (Operand.const (Value.bool false)), type := 4, pos := _, after := #[{ on := 5, ground := Ground.data }, { on := 9, ground := Ground.data }, { on := 3, ground := Ground.guard }], guard := some (3, false) }) (v := _) rfl (by kernel_rfl) (by kernel_rfl) (by kernel_rfl) (by kernel_rfl) (fun _ _ _ h => h) (by assumption) (Or.inl ⟨by rfl, ?hy50⟩) (fun _ => rfl) ?rest50
                case hy50 => (intro w hSw; (try dsimp only at hSw); go_simp; try with_reducible rfl)
                try simp only [Act.put, List.setIfInBounds_toArray, List.set_cons_zero, List.set_cons_succ]
                refine' ordS_take (i := 11) (oi := { dst := some 99, op := Op.pick (Operand.tmp 91) (Operand.const (Value.bool true)) (Operand.tmp 98), type := 4, pos := _, after := #[{ on := 3, ground := Ground.data }, { on := 10, ground := Ground.data }], guard := none }) (v := _) rfl (by kernel_rfl) (by kernel_rfl) (by kernel_rfl) (by kernel_rfl) (fun _ _ _ h => h) (by assumption) (Or.inl ⟨by rfl, ?hy51⟩) (fun _ => rfl) ?rest51
                case hy51 => (intro w hSw; (try dsimp only at hSw); go_simp; try with_reducible rfl)
                try simp only [Act.put, List.setIfInBounds_toArray, List.set_cons_zero, List.set_cons_succ]
                refine' ordS_take (i := 12) (oi := { dst := some 100, op := Op.move (Operand.tmp 99), type := 4, pos := _, after := #[{ on := 11, ground := Ground.data }, { on := 8, ground := Ground.chain }], guard := none }) (v := _) rfl (by kernel_rfl) (by kernel_rfl) (by kernel_rfl) (by kernel_rfl) (fun _ _ _ h => h) (by assumption) (Or.inl ⟨by rfl, ?hy52⟩) (fun _ => rfl) ?rest52
                case hy52 => (intro w hSw; (try dsimp only at hSw); go_simp; try with_reducible rfl)
                try simp only [Act.put, List.setIfInBounds_toArray, List.set_cons_zero, List.set_cons_succ]
                refine' ordS_take (i := 13) (oi := { dst := some 101, op := Op.move (Operand.tmp 20), type := 4, pos := _, after := #[{ on := 12, ground := Ground.guard }], guard := some (12, false) }) (v := _) rfl (by kernel_rfl) (by kernel_rfl) (by kernel_rfl) (by kernel_rfl) (fun _ _ _ h => h) (by assumption) (Or.inl ⟨by rfl, ?hy53⟩) (fun _ => rfl) ?rest53
                case hy53 => (intro w hSw; (try dsimp only at hSw); go_simp; try with_reducible rfl)
                try simp only [Act.put, List.setIfInBounds_toArray, List.set_cons_zero, List.set_cons_succ]
                refine' ordS_take (i := 14) (oi := { dst := some 102, op := Op.unOp UnOp.not 4 (Operand.tmp 101), type := 4, pos := _, after := #[{ on := 13, ground := Ground.data }, { on := 12, ground := Ground.guard }], guard := some (12, false) }) (v := _) rfl (by kernel_rfl) (by kernel_rfl) (by kernel_rfl) (by kernel_rfl) (fun _ _ _ h => h) (by assumption) (Or.inl ⟨by rfl, ?hy54⟩) (fun _ => rfl) ?rest54
                case hy54 => (intro w hSw; (try dsimp only at hSw); go_simp; try with_reducible rfl)
                try simp only [Act.put, List.setIfInBounds_toArray, List.set_cons_zero, List.set_cons_succ]
                refine' ordS_take (i := 15) (oi := { dst := some 103, op := Op.move (Operand.tmp 102), type := 4, pos := _, after := #[{ on := 14, ground := Ground.data }, { on := 12, ground := Ground.chain }, { on := 12, ground := Ground.guard }], guard := some (12, false) }) (v := _) rfl (by kernel_rfl) (by kernel_rfl) (by kernel_rfl) (by kernel_rfl) (fun _ _ _ h => h) (by assumption) (Or.inl ⟨by rfl, ?hy55⟩) (fun _ => rfl) ?rest55
                case hy55 => (intro w hSw; (try dsimp only at hSw); go_simp; try with_reducible rfl)
                try simp only [Act.put, List.setIfInBounds_toArray, List.set_cons_zero, List.set_cons_succ]
                refine' ordS_take (i := 16) (oi := { dst := some 104, op := Op.load 56 (Operand.tmp 21), type := 56, pos := _, after := #[{ on := 15, ground := Ground.guard }], guard := some (15, true) }) (v := _) rfl (by kernel_rfl) (by kernel_rfl) (by kernel_rfl) (by kernel_rfl) (fun _ _ _ h => h) (by assumption) (Or.inl ⟨by rfl, ?hy56⟩) (fun _ => rfl) ?rest56
                case hy56 => (intro w hSw; (try dsimp only at hSw); go_simp; try with_reducible rfl)
                try simp only [Act.put, List.setIfInBounds_toArray, List.set_cons_zero, List.set_cons_succ]
                refine' ordS_take (i := 17) (oi := { dst := some 105, op := Op.build 56 #[], type := 56, pos := _, after := #[{ on := 15, ground := Ground.guard }], guard := some (15, true) }) (v := _) rfl (by kernel_rfl) (by kernel_rfl) (by kernel_rfl) (by kernel_rfl) (fun _ _ _ h => h) (by assumption) (Or.inl ⟨by rfl, ?hy57⟩) (fun _ => rfl) ?rest57
                case hy57 => (intro w hSw; (try dsimp only at hSw); go_simp; try with_reducible rfl)
                try simp only [Act.put, List.setIfInBounds_toArray, List.set_cons_zero, List.set_cons_succ]
                refine' ordS_take (i := 18) (oi := { dst := some 106, op := Op.binOp BinOp.neq 56 (Operand.tmp 104) (Operand.tmp 105) 56, type := 4, pos := _, after := #[{ on := 16, ground := Ground.data }, { on := 17, ground := Ground.data }, { on := 15, ground := Ground.guard }], guard := some (15, true) }) (v := _) rfl (by kernel_rfl) (by kernel_rfl) (by kernel_rfl) (by kernel_rfl) (fun _ _ _ h => h) (by assumption) (Or.inl ⟨by rfl, ?hy58⟩) (fun _ => rfl) ?rest58
                case hy58 => (intro w hSw; (try dsimp only at hSw); go_simp; try with_reducible rfl)
                try simp only [Act.put, List.setIfInBounds_toArray, List.set_cons_zero, List.set_cons_succ]
                refine' ordS_take (i := 19) (oi := { dst := some 107, op := Op.pick (Operand.tmp 103) (Operand.tmp 106) (Operand.const (Value.bool false)), type := 4, pos := _, after := #[{ on := 15, ground := Ground.data }, { on := 18, ground := Ground.data }, { on := 12, ground := Ground.guard }], guard := some (12, false) }) (v := _) rfl (by kernel_rfl) (by kernel_rfl) (by kernel_rfl) (by kernel_rfl) (fun _ _ _ h => h) (by assumption) (Or.inl ⟨by rfl, ?hy59⟩) (fun _ => rfl) ?rest59
                case hy59 => (intro w hSw; (try dsimp only at hSw); go_simp; try with_reducible rfl)
                try simp only [Act.put, List.setIfInBounds_toArray, List.set_cons_zero, List.set_cons_succ]
                refine' ordS_take (i := 20) (oi := { dst := some 108, op := Op.pick (Operand.tmp 100) (Operand.const (Value.bool true)) (Operand.tmp 107), type := 4, pos := _, after := #[{ on := 12, ground := Ground.data }, { on := 19, ground := Ground.data }], guard := none }) (v := _) rfl (by kernel_rfl) (by kernel_rfl) (by kernel_rfl) (by kernel_rfl) (fun _ _ _ h => h) (by assumption) (Or.inl ⟨by rfl, ?hy60⟩) (fun _ => rfl) ?rest60
                case hy60 => (intro w hSw; (try dsimp only at hSw); go_simp; try with_reducible rfl)
                try simp only [Act.put, List.setIfInBounds_toArray, List.set_cons_zero, List.set_cons_succ]
                have HS5 := Lib.hid (HS3.out.below hD)
                have HA5 := Lib.hid (bl_tr HA3.out hD)
                refine ordS_done (by kernel_rfl) ?_
                clear hH hN hE
                go_wp2
                go_meet
                case rel => exact ⟨rfl, _, _, HM2, HS5, HA5⟩
          case rest =>
            obtain ⟨rfl, m2, l2, HM2, HS2, HA2⟩ := hcut
            have hm16 := HM2.out.small H1.out.2
            clear HM HSX HAX x0 x1 x2 zx
            go_wp2_with fail
            refine (keys_k1 (l1 := []) HS2.out (by omega)).mono ?_
            rintro e W3 ⟨g1, rfl, hs3, hb3⟩
            have HA3 := Lib.hid (bl_tr HA2.out hb3)
            clear hb3
            go_wp2_with fail
            refine (keys_s2 (l1 := [CO Try.c1 p r m2]) hs3 (by omega)).mono ?_
            rintro e W4 ⟨g2, rfl, hs4, hb4⟩
            have HA4 := Lib.hid (bl_tr HA3.out hb4)
            have HS4 := Lib.hid (show Sep W4 w.heap.size (CO Try.c1 p r m2 :: CO Try.c2 q r m2 :: (l2 ++ [KO g1 m2, NO g2 m2])) from by simpa using hs4)
            clear hs3 hs4 hb4 HS2 HA2 HA3
            have hnn : ((m2.length : Int) != (m2.length : Int)) = false := by simp
            go_wp2_with fail
            go_loopw [25] (fun i wx => ∃ j : Nat, j ≤ m2.length ∧ i = .int .i64 j ∧ Hid (Sep wx w.heap.size (CO Try.c1 p r m2 :: CO Try.c2 q r m2 :: (l2 ++ [KO g1 m2, NO g2 m2]))) ∧ Hid (Below w.heap.size w wx)) (fun i _ => m2.length - (intOf i).toNat)
            case atStart => exact ⟨0, Nat.zero_le _, rfl, HS4, HA4⟩
            case round =>
              obtain ⟨j, hj, rfl, HSj, HAj⟩ := hrel
              have hj0 : (0 : Int) ≤ (j : Int) := by omega
              by_cases hjt : j < m2.length
              · have hjt2 : (j : Int) < (m2.length : Int) := by omega
                obtain ⟨x, hx⟩ : ∃ x, m2[j]? = some x := ⟨_, List.getElem?_eq_getElem hjt⟩
                have hD := bl_dr (bl0 wr)
                have HSd := Lib.hid (HSj.out.below hD)
                have HAd := Lib.hid (bl_tr HAj.out hD)
                obtain ⟨d0, d1⟩ := NO.at (l1 := CO Try.c1 p r m2 :: CO Try.c2 q r m2 :: (l2 ++ [KO g1 m2])) (l2 := []) (g := g2) (by simpa using HSd.out) hx
                have d2 := KO.at (l1 := CO Try.c1 p r m2 :: CO Try.c2 q r m2 :: l2) (l2 := [NO g2 m2]) (g := g1) HSd.out hx
                have hN := neq_nmk x.1
                have hE := eq_nmk x.1
                clear hx hD HSj HAj
                go_upto_region 34 with fail
                refine (wpIn_wide (n := 11)).1 ?_
                refine ordS_begin (S := (fun w' : World => w'.cell? ⟨g2, j * 2, none⟩ = some (.int .i64 x.1) ∧ w'.cell? ⟨g2, j * 2 + 1, none⟩ = some (.string keyT) ∧ w'.cell? ⟨g1, j, none⟩ = some (.int .i64 x.1))) (by kernel_rfl) ⟨d0, d1, d2⟩ (fun hH => ?_)
                refine' ordS_take (i := 0) (oi := { dst := some 179, op := Op.move (Operand.tmp 24), type := 63, pos := _, after := #[], guard := none }) (v := _) rfl (by kernel_rfl) (by kernel_rfl) (by kernel_rfl) (by kernel_rfl) (fun _ _ _ h => h) (by assumption) (Or.inl ⟨by rfl, ?hy61⟩) (fun _ => rfl) ?rest61
                case hy61 => (intro w hSw; (try dsimp only at hSw); go_simp; try with_reducible rfl)
                try simp only [Act.put, List.setIfInBounds_toArray, List.set_cons_zero, List.set_cons_succ]
                refine' ordS_take (i := 1) (oi := { dst := some 180, op := Op.move (Operand.tmp 25), type := 3, pos := _, after := #[], guard := none }) (v := _) rfl (by kernel_rfl) (by kernel_rfl) (by kernel_rfl) (by kernel_rfl) (fun _ _ _ h => h) (by assumption) (Or.inl ⟨by rfl, ?hy62⟩) (fun _ => rfl) ?rest62
                case hy62 => (intro w hSw; (try dsimp only at hSw); go_simp; try with_reducible rfl)
                try simp only [Act.put, List.setIfInBounds_toArray, List.set_cons_zero, List.set_cons_succ]
                refine' ordS_take (i := 2) (oi := { dst := some 181, op := Op.indexAddr 63 (Operand.tmp 179) (Operand.tmp 180), type := 0, pos := _, after := #[{ on := 0, ground := Ground.data }, { on := 1, ground := Ground.data }], guard := none }) (v := _) rfl (by kernel_rfl) (by kernel_rfl) (by kernel_rfl) (by kernel_rfl) (fun _ _ _ h => h) (by assumption) (Or.inl ⟨by rfl, ?hy63⟩) (fun _ => rfl) ?rest63
                case hy63 => (intro w hSw; (try dsimp only at hSw); go_simp; try with_reducible rfl)
                try simp only [Act.put, List.setIfInBounds_toArray, List.set_cons_zero, List.set_cons_succ]
                refine' ordS_take (i := 3) (oi := { dst := some 182, op := Op.load 56 (Operand.tmp 181), type := 56, pos := _, after := #[{ on := 2, ground := Ground.data }], guard := none }) (v := _) rfl (by kernel_rfl) (by kernel_rfl) (by kernel_rfl) (by kernel_rfl) (fun _ _ _ h => h) (by assumption) (Or.inl ⟨by rfl, ?hy64⟩) (fun _ => rfl) ?rest64
                case hy64 => (intro w hSw; (try dsimp only at hSw); go_simp; try with_reducible rfl)
                try simp only [Act.put, List.setIfInBounds_toArray, List.set_cons_zero, List.set_cons_succ]
                refine' ordS_take (i := 4) (oi := { dst := some 183, op := Op.move (Operand.tmp 23), type := 47, pos := _, after := #[], guard := none }) (v := _) rfl (by kernel_rfl) (by kernel_rfl) (by kernel_rfl) (by kernel_rfl) (fun _ _ _ h => h) (by assumption) (Or.inl ⟨by rfl, ?hy65⟩) (fun _ => rfl) ?rest65
                case hy65 => (intro w hSw; (try dsimp only at hSw); go_simp; try with_reducible rfl)
                try simp only [Act.put, List.setIfInBounds_toArray, List.set_cons_zero, List.set_cons_succ]
                refine' ordS_take (i := 5) (oi := { dst := some 184, op := Op.move (Operand.tmp 25), type := 3, pos := _, after := #[], guard := none }) (v := _) rfl (by kernel_rfl) (by kernel_rfl) (by kernel_rfl) (by kernel_rfl) (fun _ _ _ h => h) (by assumption) (Or.inl ⟨by rfl, ?hy66⟩) (fun _ => rfl) ?rest66
                case hy66 => (intro w hSw; (try dsimp only at hSw); go_simp; try with_reducible rfl)
                try simp only [Act.put, List.setIfInBounds_toArray, List.set_cons_zero, List.set_cons_succ]
                refine' ordS_take (i := 6) (oi := { dst := some 185, op := Op.indexAddr 47 (Operand.tmp 183) (Operand.tmp 184), type := 0, pos := _, after := #[{ on := 4, ground := Ground.data }, { on := 5, ground := Ground.data }], guard := none }) (v := _) rfl (by kernel_rfl) (by kernel_rfl) (by kernel_rfl) (by kernel_rfl) (fun _ _ _ h => h) (by assumption) (Or.inl ⟨by rfl, ?hy67⟩) (fun _ => rfl) ?rest67
                case hy67 => (intro w hSw; (try dsimp only at hSw); go_simp; try with_reducible rfl)
                try simp only [Act.put, List.setIfInBounds_toArray, List.set_cons_zero, List.set_cons_succ]
                refine' ordS_take (i := 7) (oi := { dst := some 186, op := Op.load 3 (Operand.tmp 185), type := 3, pos := _, after := #[{ on := 6, ground := Ground.data }], guard := none }) (v := _) rfl (by kernel_rfl) (by kernel_rfl) (by kernel_rfl) (by kernel_rfl) (fun _ _ _ h => h) (by assumption) (Or.inl ⟨by rfl, ?hy68⟩) (fun _ => rfl) ?rest68
                case hy68 => (intro w hSw; (try dsimp only at hSw); go_simp; try with_reducible rfl)
                try simp only [Act.put, List.setIfInBounds_toArray, List.set_cons_zero, List.set_cons_succ]
                refine ordS_one (i := 8) (o := { dst := some 187, op := Op.call { callee := Callee.value (Operand.func 29), args := #[Operand.tmp 186], argTypes := #[3] }, type := 56, pos := _, after := #[{ on := 7, ground := Ground.data }], guard := none }) (by kernel_rfl) rfl (by rfl) (fun K hK => ?_)
                go_simp
                refine ⟨trivial, ?_⟩
                refine callsIn_wide.2 ((name_any x.1 _).mono ?_)
                rintro e W5 ⟨rfl, hb5⟩
                have HS5 := Lib.hid (HSd.out.below hb5)
                have HA5 := Lib.hid (bl_tr HAd.out hb5)
                have hH2 := And.intro (cell_later hb5 d0) (And.intro (cell_later hb5 d1) (cell_later hb5 d2))
                clear hH d0 d1 d2
                have hH := hH2
                refine hK _ _ hH ?_
                clear hK K hb5 hH2
                try simp only [Act.put, List.setIfInBounds_toArray, List.set_cons_zero, List.set_cons_succ]
                refine' ordS_take (i := 9) (oi := { dst := some 188, op := Op.binOp BinOp.neq 56 (Operand.tmp 182) (Operand.tmp 187) 56, type := 4, pos := _, after := #[{ on := 3, ground := Ground.data }, { on := 8, ground := Ground.data }], guard := none }) (v := _) rfl (by kernel_rfl) (by kernel_rfl) (by kernel_rfl) (by kernel_rfl) (fun _ _ _ h => h) (by assumption) (Or.inl ⟨by rfl, ?hy69⟩) (fun _ => rfl) ?rest69
                case hy69 => (intro w hSw; (try dsimp only at hSw); go_simp; try with_reducible rfl)
                try simp only [Act.put, List.setIfInBounds_toArray, List.set_cons_zero, List.set_cons_succ]
                refine ordS_done (by kernel_rfl) ?_
                clear hH hN hE
                go_wp2
                go_roundw
                case rel => exact ⟨j + 1, by omega, by go_num, HS5, HA5⟩
                case measure => simp [intOf]; omega
              · obtain rfl : j = m2.length := by omega
                have hge : ¬ (m2.length : Int) < (m2.length : Int) := by omega
                go_wp2
                go_roundw
                case rel => exact ⟨k + 1, m2, _, by omega, by go_num, HM2, HSj, HAj⟩
                case measure => simp [intOf]; omega
        · obtain rfl : k = ls.length := by omega
          have hge : ¬ (ls.length : Int) < (ls.length : Int) := by omega
          have hA := HAr.out
          clear HM HSr HAr
          have HA := Lib.hid hA
          clear hA
          go_wp2_with fail
          refine (awake16 _).mono ?_
          rintro e w9 ⟨rfl, hb⟩
          have HZ := Lib.hid (bl_tr HA.out hb)
          clear hb HA
          go_wp2
          go_ret
          exact ⟨rfl, HZ.out⟩
  · clear hr
    go_enter Try.func5, Try.ntmps5
    go_wp2_with fail
    refine (new_n1 r h1 w).mono ?_
    rintro e w1 ⟨rfl, hA⟩
    go_wp2_with fail
    refine (new_n2 r h1 w1).mono ?_
    rintro e w2 ⟨rfl, hb⟩
    replace hA := bl_tr hA hb
    clear h0 h1 hb
    have HA := Lib.hid hA
    clear hA
    go_wp2_with fail
    refine (awake16 _).mono ?_
    rintro e w9 ⟨rfl, hb⟩
    have HZ := Lib.hid (bl_tr HA.out hb)
    clear hb HA
    go_wp2
    go_ret
    exact ⟨rfl, HZ.out⟩
end Go.Proofs.Ytbmpgafndpdnbaa
