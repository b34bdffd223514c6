/- CacheMore: its walk. -/
import Derived.Test.YtbmpgafndpdnbaaEn
namespace Go.Proofs.Ytbmpgafndpdnbaa
open Go.RowKit Go.Maps

set_option maxRecDepth 100000 in
set_option maxHeartbeats 16000000 in
theorem cmore_walk (a : Option Addr) (ca : Nat) (ls : List AT) (less more : Int) (w : World) (hr : RowA w a ls) :
    Calls Try.prog 8 #[.int .i64 less, .int .i64 more, .slice a ls.length ca] w fun e w' => e = .returned (.bool true) ∧ Below w.heap.size w w' := by
  have h0 : Sep w w.heap.size [] := Sep.nil (Nat.le_refl _)
  by_cases h1 : 1 ≤ less ∧ less ≤ 16
  · by_cases h2 : 1 ≤ more ∧ more ≤ 16
    · by_cases hlm : more < less
      · have hlm2 : ¬ less ≤ more := by omega
        clear hr
        go_enter Try.func8, Try.ntmps8
        go_wp2_with fail
        refine (new_s1 h0 h1).mono ?_
        rintro e w1 ⟨p, rfl, hs1, hA⟩
        go_wp2_with fail
        refine (new_s1 hs1 h2).mono ?_
        rintro e w2 ⟨q, rfl, hs2, hB⟩
        replace hA := bl_tr hA hB
        clear hs1 hs2 hB h0 h1 h2
        have HA := Lib.hid hA
        clear hA
        go_wp2_with fail
        refine (awake16 _).mono ?_
        rintro e w9 ⟨rfl, hb⟩
        have HZ := Lib.hid (bl_tr HA.out hb)
        clear hb HA
        go_wp2
        go_ret
        exact ⟨rfl, HZ.out⟩
      · by_cases hl : 100 < ls.length
        · have hlI : (100 : Int) < (ls.length : Int) := by omega
          clear hr
          go_enter Try.func8, Try.ntmps8
          go_wp2_with fail
          refine (new_s1 h0 h1).mono ?_
          rintro e w1 ⟨p, rfl, hs1, hA⟩
          go_wp2_with fail
          refine (new_s1 hs1 h2).mono ?_
          rintro e w2 ⟨q, rfl, hs2, hB⟩
          replace hA := bl_tr hA hB
          clear hs1 hs2 hB h0 h1 h2
          have HA := Lib.hid hA
          clear hA
          go_wp2_with fail
          refine (awake16 _).mono ?_
          rintro e w9 ⟨rfl, hb⟩
          have HZ := Lib.hid (bl_tr HA.out hb)
          clear hb HA
          go_wp2
          go_ret
          exact ⟨rfl, HZ.out⟩
        · have hl1 : (ls.length : Int) ≤ 100 := by omega
          have hl2 : ls.length ≤ 100 := by omega
          have hl3 : decide ((100 : Int) < (ls.length : Int)) = false := decide_eq_false (by omega)
          have hlm2 : less ≤ more := by omega
          have hlm4 : decide (more < less) = false := decide_eq_false hlm
          have H1 := Lib.hid h1
          have H2 := Lib.hid h2
          have HR := Lib.hid hr
          clear hr hl
          go_enter Try.func8, Try.ntmps8
          go_wp2_with fail
          refine (new_s1 h0 h1).mono ?_
          rintro e w1 ⟨p, rfl, hs1, hA⟩
          go_wp2_with fail
          refine (new_s1 hs1 h2).mono ?_
          rintro e w2 ⟨q, rfl, hs2, hB⟩
          replace hA := bl_tr hA hB
          have HA := Lib.hid hA
          have HS := Lib.hid hs2
          clear hs1 hs2 hB h0 h1 h2 hA hlm
          go_wp2_with fail
          go_loopw [11] (fun i wr => ∃ (k : Nat) (m n : List IT) (l : List Own), k ≤ ls.length ∧ i = .int .i64 k ∧ Hid (Fit less m) ∧ Hid (Fit more n) ∧ Hid (m = n.take less.toNat) ∧ Hid (Sep wr w.heap.size (CO Try.c1 p less m :: CO Try.c1 q more n :: l)) ∧ Hid (Below w.heap.size w wr)) (fun i _ => ls.length - (intOf i).toNat)
          case atStart => exact ⟨0, [], [], [], Nat.zero_le _, rfl, Fit.nil (by have := H1.out; omega), Fit.nil (by have := H2.out; omega), Lib.hid (by simp), HS, HA⟩
          case round =>
            obtain ⟨k, m, n, l, hk, rfl, HM, HN, HE, HSr, HAr⟩ := hrel
            have hk0 : (0 : Int) ≤ (k : Int) := by omega
            have hm16 := HM.out.small (H1.out.2)
            have hn16 := HN.out.small (H2.out.2)
            by_cases hlt : k < ls.length
            · have hlt2 : (k : Int) < (ls.length : Int) := by omega
              obtain ⟨z, hz⟩ : ∃ z, ls[k]? = some z := ⟨_, List.getElem?_eq_getElem hlt⟩
              obtain ⟨b, o, rfl, c0, c1, c2⟩ := (HR.out.below HAr.out).at hz
              have zc := blk_lt c1
              have HZ := Lib.hid hz
              have hD := bl_dr (bl0 wr)
              have HM2 := Lib.hid (HM.out.put (k := z.k) (x := z.v) H1.out.1)
              have HN2 := Lib.hid (HN.out.put (k := z.k) (x := z.v) H2.out.1)
              have HE2 := Lib.hid (more_put (k := z.k) (x := z.v) H1.out.1 hlm2 HM.out HN.out HE.out)
              have hcall := put_s1 (l1 := []) (l2 := CO Try.c1 q more n :: l) z.k z.v (HSr.out.below hD) (by omega) H1.out.1
              have hcall2 := fun (W : World) (hS : Sep W w.heap.size ([CO Try.c1 p less (putM less z.k z.v m)] ++ CO Try.c1 q more n :: l)) => put_s1 (l1 := [CO Try.c1 p less (putM less z.k z.v m)]) (l2 := l) z.k z.v hS (by omega) H2.out.1
              generalize goneK less z.k m = g1 at hcall
              generalize fullB less z.k m = g2 at hcall
              generalize goneK more z.k n = g3 at hcall2
              generalize fullB more z.k n = g4 at hcall2
              have hm2 := HM2.out.small (H1.out.2)
              have hn2 := HN2.out.small (H2.out.2)
              generalize putM less z.k z.v m = m2 at *
              generalize putM more z.k z.v n = n2 at *
              clear c0 HM HN HE hm16 hn16 hz
              go_upto_region 8 with fail
              refine (wpIn_wide (n := 11)).1 ?_
              refine ordS_begin (S := (fun w' : World => w'.cell? ⟨b, o + k * 3 + 1, none⟩ = some (.int .i64 z.k) ∧ w'.cell? ⟨b, o + k * 3 + 2, none⟩ = some (.int .i64 z.v))) (by kernel_rfl) ⟨cell_later hD c1, cell_later hD c2⟩ (fun hH => ?_)
              refine' ordS_take (i := 0) (oi := { dst := some 74, op := Op.move (Operand.tmp 7), type := 23, pos := _, after := #[], guard := none }) (v := _) rfl (by kernel_rfl) (by kernel_rfl) (by kernel_rfl) (by kernel_rfl) (fun _ _ _ h => h) (by assumption) (Or.inl ⟨by rfl, ?hy1⟩) (fun _ => rfl) ?rest1
              case hy1 => (intro w hSw; (try dsimp only at hSw); go_simp; try with_reducible rfl)
              try simp only [Act.put, List.setIfInBounds_toArray, List.set_cons_zero, List.set_cons_succ]
              refine' ordS_take (i := 1) (oi := { dst := some 75, op := Op.move (Operand.tmp 2), type := 22, pos := _, after := #[], guard := none }) (v := _) rfl (by kernel_rfl) (by kernel_rfl) (by kernel_rfl) (by kernel_rfl) (fun _ _ _ h => h) (by assumption) (Or.inl ⟨by rfl, ?hy2⟩) (fun _ => rfl) ?rest2
              case hy2 => (intro w hSw; (try dsimp only at hSw); go_simp; try with_reducible rfl)
              try simp only [Act.put, List.setIfInBounds_toArray, List.set_cons_zero, List.set_cons_succ]
              refine' ordS_take (i := 2) (oi := { dst := some 76, op := Op.move (Operand.tmp 11), type := 3, pos := _, after := #[], guard := none }) (v := _) rfl (by kernel_rfl) (by kernel_rfl) (by kernel_rfl) (by kernel_rfl) (fun _ _ _ h => h) (by assumption) (Or.inl ⟨by rfl, ?hy3⟩) (fun _ => rfl) ?rest3
              case hy3 => (intro w hSw; (try dsimp only at hSw); go_simp; try with_reducible rfl)
              try simp only [Act.put, List.setIfInBounds_toArray, List.set_cons_zero, List.set_cons_succ]
              refine' ordS_take (i := 3) (oi := { dst := some 77, op := Op.indexAddr 22 (Operand.tmp 75) (Operand.tmp 76), type := 0, pos := _, after := #[{ on := 1, ground := Ground.data }, { on := 2, ground := Ground.data }], guard := none }) (v := _) rfl (by kernel_rfl) (by kernel_rfl) (by kernel_rfl) (by kernel_rfl) (fun _ _ _ h => h) (by assumption) (Or.inl ⟨by rfl, ?hy4⟩) (fun _ => rfl) ?rest4
              case hy4 => (intro w hSw; (try dsimp only at hSw); go_simp; try with_reducible rfl)
              try simp only [Act.put, List.setIfInBounds_toArray, List.set_cons_zero, List.set_cons_succ]
              refine' ordS_take (i := 4) (oi := { dst := some 78, op := Op.fieldAddr 34 (Operand.tmp 77) 1, type := 0, pos := _, after := #[{ on := 3, ground := Ground.data }], guard := none }) (v := _) rfl (by kernel_rfl) (by kernel_rfl) (by kernel_rfl) (by kernel_rfl) (fun _ _ _ h => h) (by assumption) (Or.inl ⟨by rfl, ?hy5⟩) (fun _ => rfl) ?rest5
              case hy5 => (intro w hSw; (try dsimp only at hSw); go_simp; try with_reducible rfl)
              try simp only [Act.put, List.setIfInBounds_toArray, List.set_cons_zero, List.set_cons_succ]
              refine' ordS_take (i := 5) (oi := { dst := some 79, op := Op.load 3 (Operand.tmp 78), type := 3, pos := _, after := #[{ on := 4, ground := Ground.data }], guard := none }) (v := _) rfl (by kernel_rfl) (by kernel_rfl) (by kernel_rfl) (by kernel_rfl) (fun _ _ _ h => h) (by assumption) (Or.inl ⟨by rfl, ?hy6⟩) (fun _ => rfl) ?rest6
              case hy6 => (intro w hSw; (try dsimp only at hSw); go_simp; try with_reducible rfl)
              try simp only [Act.put, List.setIfInBounds_toArray, List.set_cons_zero, List.set_cons_succ]
              refine' ordS_take (i := 6) (oi := { dst := some 80, op := Op.move (Operand.tmp 2), type := 22, pos := _, after := #[], guard := none }) (v := _) rfl (by kernel_rfl) (by kernel_rfl) (by kernel_rfl) (by kernel_rfl) (fun _ _ _ h => h) (by assumption) (Or.inl ⟨by rfl, ?hy7⟩) (fun _ => rfl) ?rest7
              case hy7 => (intro w hSw; (try dsimp only at hSw); go_simp; try with_reducible rfl)
              try simp only [Act.put, List.setIfInBounds_toArray, List.set_cons_zero, List.set_cons_succ]
              refine' ordS_take (i := 7) (oi := { dst := some 81, op := Op.move (Operand.tmp 11), type := 3, pos := _, after := #[], guard := none }) (v := _) rfl (by kernel_rfl) (by kernel_rfl) (by kernel_rfl) (by kernel_rfl) (fun _ _ _ h => h) (by assumption) (Or.inl ⟨by rfl, ?hy8⟩) (fun _ => rfl) ?rest8
              case hy8 => (intro w hSw; (try dsimp only at hSw); go_simp; try with_reducible rfl)
              try simp only [Act.put, List.setIfInBounds_toArray, List.set_cons_zero, List.set_cons_succ]
              refine' ordS_take (i := 8) (oi := { dst := some 82, op := Op.indexAddr 22 (Operand.tmp 80) (Operand.tmp 81), type := 0, pos := _, after := #[{ on := 6, ground := Ground.data }, { on := 7, ground := Ground.data }], guard := none }) (v := _) rfl (by kernel_rfl) (by kernel_rfl) (by kernel_rfl) (by kernel_rfl) (fun _ _ _ h => h) (by assumption) (Or.inl ⟨by rfl, ?hy9⟩) (fun _ => rfl) ?rest9
              case hy9 => (intro w hSw; (try dsimp only at hSw); go_simp; try with_reducible rfl)
              try simp only [Act.put, List.setIfInBounds_toArray, List.set_cons_zero, List.set_cons_succ]
              refine' ordS_take (i := 9) (oi := { dst := some 83, op := Op.fieldAddr 34 (Operand.tmp 82) 2, type := 0, pos := _, after := #[{ on := 8, ground := Ground.data }], guard := none }) (v := _) rfl (by kernel_rfl) (by kernel_rfl) (by kernel_rfl) (by kernel_rfl) (fun _ _ _ h => h) (by assumption) (Or.inl ⟨by rfl, ?hy10⟩) (fun _ => rfl) ?rest10
              case hy10 => (intro w hSw; (try dsimp only at hSw); go_simp; try with_reducible rfl)
              try simp only [Act.put, List.setIfInBounds_toArray, List.set_cons_zero, List.set_cons_succ]
              refine' ordS_take (i := 10) (oi := { dst := some 84, op := Op.load 3 (Operand.tmp 83), type := 3, pos := _, after := #[{ on := 9, ground := Ground.data }], guard := none }) (v := _) rfl (by kernel_rfl) (by kernel_rfl) (by kernel_rfl) (by kernel_rfl) (fun _ _ _ h => h) (by assumption) (Or.inl ⟨by rfl, ?hy11⟩) (fun _ => rfl) ?rest11
              case hy11 => (intro w hSw; (try dsimp only at hSw); go_simp; try with_reducible rfl)
              try simp only [Act.put, List.setIfInBounds_toArray, List.set_cons_zero, List.set_cons_succ]
              refine ordS_one (i := 11) (o := { dst := some 85, op := Op.call { callee := Callee.value (Operand.func 20), args := #[Operand.tmp 74, Operand.tmp 79, Operand.tmp 84], argTypes := #[23, 3, 3] }, type := 35, pos := _, after := #[{ on := 0, ground := Ground.data }, { on := 5, ground := Ground.data }, { on := 10, ground := Ground.data }], guard := none }) (by kernel_rfl) rfl (by rfl) (fun K hK => ?_)
              go_simp
              refine ⟨trivial, ?_⟩
              refine callsIn_wide.2 (hcall.mono ?_)
              rintro e W1 ⟨rfl, hs1, hb1⟩
              have hA1 := (bl_tr HAr.out hD).trans hb1
              obtain ⟨b2, o2, e2, _, d1, d2⟩ := (HR.out.below hA1).at HZ.out
              injection e2 with e3; injection e3 with e4 e5 _; subst e4; subst e5
              refine hK _ _ ⟨d1, d2⟩ ?_
              clear hK K hH c1 c2 hb1 hD hcall
              try simp only [Act.put, List.setIfInBounds_toArray, List.set_cons_zero, List.set_cons_succ]
              refine ordS_done (by kernel_rfl) ?_
              have hD := bl_dr (bl0 W1)
              have hcall := hcall2 _ (hs1.below hD)
              have HA1 := Lib.hid hA1
              have zc := blk_lt d1
              clear hA1 hs1 hcall2
              go_upto_region 9 with fail
              refine (wpIn_wide (n := 11)).1 ?_
              refine ordS_begin (S := (fun w' : World => w'.cell? ⟨b, o + k * 3 + 1, none⟩ = some (.int .i64 z.k) ∧ w'.cell? ⟨b, o + k * 3 + 2, none⟩ = some (.int .i64 z.v))) (by kernel_rfl) ⟨cell_later hD d1, cell_later hD d2⟩ (fun hH => ?_)
              refine' ordS_take (i := 0) (oi := { dst := some 86, op := Op.move (Operand.tmp 9), type := 23, pos := _, after := #[], guard := none }) (v := _) rfl (by kernel_rfl) (by kernel_rfl) (by kernel_rfl) (by kernel_rfl) (fun _ _ _ h => h) (by assumption) (Or.inl ⟨by rfl, ?hy12⟩) (fun _ => rfl) ?rest12
              case hy12 => (intro w hSw; (try dsimp only at hSw); go_simp; try with_reducible rfl)
              try simp only [Act.put, List.setIfInBounds_toArray, List.set_cons_zero, List.set_cons_succ]
              refine' ordS_take (i := 1) (oi := { dst := some 87, op := Op.move (Operand.tmp 2), type := 22, pos := _, after := #[], guard := none }) (v := _) rfl (by kernel_rfl) (by kernel_rfl) (by kernel_rfl) (by kernel_rfl) (fun _ _ _ h => h) (by assumption) (Or.inl ⟨by rfl, ?hy13⟩) (fun _ => rfl) ?rest13
              case hy13 => (intro w hSw; (try dsimp only at hSw); go_simp; try with_reducible rfl)
              try simp only [Act.put, List.setIfInBounds_toArray, List.set_cons_zero, List.set_cons_succ]
              refine' ordS_take (i := 2) (oi := { dst := some 88, op := Op.move (Operand.tmp 11), type := 3, pos := _, after := #[], guard := none }) (v := _) rfl (by kernel_rfl) (by kernel_rfl) (by kernel_rfl) (by kernel_rfl) (fun _ _ _ h => h) (by assumption) (Or.inl ⟨by rfl, ?hy14⟩) (fun _ => rfl) ?rest14
              case hy14 => (intro w hSw; (try dsimp only at hSw); go_simp; try with_reducible rfl)
              try simp only [Act.put, List.setIfInBounds_toArray, List.set_cons_zero, List.set_cons_succ]
              refine' ordS_take (i := 3) (oi := { dst := some 89, op := Op.indexAddr 22 (Operand.tmp 87) (Operand.tmp 88), type := 0, pos := _, after := #[{ on := 1, ground := Ground.data }, { on := 2, ground := Ground.data }], guard := none }) (v := _) rfl (by kernel_rfl) (by kernel_rfl) (by kernel_rfl) (by kernel_rfl) (fun _ _ _ h => h) (by assumption) (Or.inl ⟨by rfl, ?hy15⟩) (fun _ => rfl) ?rest15
              case hy15 => (intro w hSw; (try dsimp only at hSw); go_simp; try with_reducible rfl)
              try simp only [Act.put, List.setIfInBounds_toArray, List.set_cons_zero, List.set_cons_succ]
              refine' ordS_take (i := 4) (oi := { dst := some 90, op := Op.fieldAddr 34 (Operand.tmp 89) 1, type := 0, pos := _, after := #[{ on := 3, ground := Ground.data }], guard := none }) (v := _) rfl (by kernel_rfl) (by kernel_rfl) (by kernel_rfl) (by kernel_rfl) (fun _ _ _ h => h) (by assumption) (Or.inl ⟨by rfl, ?hy16⟩) (fun _ => rfl) ?rest16
              case hy16 => (intro w hSw; (try dsimp only at hSw); go_simp; try with_reducible rfl)
              try simp only [Act.put, List.setIfInBounds_toArray, List.set_cons_zero, List.set_cons_succ]
              refine' ordS_take (i := 5) (oi := { dst := some 91, op := Op.load 3 (Operand.tmp 90), type := 3, pos := _, after := #[{ on := 4, ground := Ground.data }], guard := none }) (v := _) rfl (by kernel_rfl) (by kernel_rfl) (by kernel_rfl) (by kernel_rfl) (fun _ _ _ h => h) (by assumption) (Or.inl ⟨by rfl, ?hy17⟩) (fun _ => rfl) ?rest17
              case hy17 => (intro w hSw; (try dsimp only at hSw); go_simp; try with_reducible rfl)
              try simp only [Act.put, List.setIfInBounds_toArray, List.set_cons_zero, List.set_cons_succ]
              refine' ordS_take (i := 6) (oi := { dst := some 92, op := Op.move (Operand.tmp 2), type := 22, pos := _, after := #[], guard := none }) (v := _) rfl (by kernel_rfl) (by kernel_rfl) (by kernel_rfl) (by kernel_rfl) (fun _ _ _ h => h) (by assumption) (Or.inl ⟨by rfl, ?hy18⟩) (fun _ => rfl) ?rest18
              case hy18 => (intro w hSw; (try dsimp only at hSw); go_simp; try with_reducible rfl)
              try simp only [Act.put, List.setIfInBounds_toArray, List.set_cons_zero, List.set_cons_succ]
              refine' ordS_take (i := 7) (oi := { dst := some 93, op := Op.move (Operand.tmp 11), type := 3, pos := _, after := #[], guard := none }) (v := _) rfl (by kernel_rfl) (by kernel_rfl) (by kernel_rfl) (by kernel_rfl) (fun _ _ _ h => h) (by assumption) (Or.inl ⟨by rfl, ?hy19⟩) (fun _ => rfl) ?rest19
              case hy19 => (intro w hSw; (try dsimp only at hSw); go_simp; try with_reducible rfl)
              try simp only [Act.put, List.setIfInBounds_toArray, List.set_cons_zero, List.set_cons_succ]
              refine' ordS_take (i := 8) (oi := { dst := some 94, op := Op.indexAddr 22 (Operand.tmp 92) (Operand.tmp 93), type := 0, pos := _, after := #[{ on := 6, ground := Ground.data }, { on := 7, ground := Ground.data }], guard := none }) (v := _) rfl (by kernel_rfl) (by kernel_rfl) (by kernel_rfl) (by kernel_rfl) (fun _ _ _ h => h) (by assumption) (Or.inl ⟨by rfl, ?hy20⟩) (fun _ => rfl) ?rest20
              case hy20 => (intro w hSw; (try dsimp only at hSw); go_simp; try with_reducible rfl)
              try simp only [Act.put, List.setIfInBounds_toArray, List.set_cons_zero, List.set_cons_succ]
              refine' ordS_take (i := 9) (oi := { dst := some 95, op := Op.fieldAddr 34 (Operand.tmp 94) 2, type := 0, pos := _, after := #[{ on := 8, ground := Ground.data }], guard := none }) (v := _) rfl (by kernel_rfl) (by kernel_rfl) (by kernel_rfl) (by kernel_rfl) (fun _ _ _ h => h) (by assumption) (Or.inl ⟨by rfl, ?hy21⟩) (fun _ => rfl) ?rest21
              case hy21 => (intro w hSw; (try dsimp only at hSw); go_simp; try with_reducible rfl)
              try simp only [Act.put, List.setIfInBounds_toArray, List.set_cons_zero, List.set_cons_succ]
              refine' ordS_take (i := 10) (oi := { dst := some 96, op := Op.load 3 (Operand.tmp 95), type := 3, pos := _, after := #[{ on := 9, ground := Ground.data }], guard := none }) (v := _) rfl (by kernel_rfl) (by kernel_rfl) (by kernel_rfl) (by kernel_rfl) (fun _ _ _ h => h) (by assumption) (Or.inl ⟨by rfl, ?hy22⟩) (fun _ => rfl) ?rest22
              case hy22 => (intro w hSw; (try dsimp only at hSw); go_simp; try with_reducible rfl)
              try simp only [Act.put, List.setIfInBounds_toArray, List.set_cons_zero, List.set_cons_succ]
              refine ordS_one (i := 11) (o := { dst := some 97, op := Op.call { callee := Callee.value (Operand.func 20), args := #[Operand.tmp 86, Operand.tmp 91, Operand.tmp 96], argTypes := #[23, 3, 3] }, type := 35, pos := _, after := #[{ on := 0, ground := Ground.data }, { on := 5, ground := Ground.data }, { on := 10, ground := Ground.data }], guard := none }) (by kernel_rfl) rfl (by rfl) (fun K hK => ?_)
              go_simp
              refine ⟨trivial, ?_⟩
              refine callsIn_wide.2 (hcall.mono ?_)
              rintro e W2 ⟨rfl, hs2, hb2⟩
              have hA2 := (bl_tr HA1.out hD).trans hb2
              obtain ⟨b2, o2, e2, _, d1, d2⟩ := (HR.out.below hA2).at HZ.out
              injection e2 with e3; injection e3 with e4 e5 _; subst e4; subst e5
              refine hK _ _ ⟨d1, d2⟩ ?_
              clear hK K hH d1 d2 hb2 hD hcall zc
              try simp only [Act.put, List.setIfInBounds_toArray, List.set_cons_zero, List.set_cons_succ]
              refine ordS_done (by kernel_rfl) ?_
              rw [List.singleton_append] at hs2
              have hcall := keys_s1 (l1 := []) hs2 (by omega)
              have HA2 := Lib.hid hA2
              clear hs2 hA2
              go_wp2_with fail
              refine hcall.mono ?_
              rintro e W3 ⟨gx, rfl, hs3, hb3⟩
              have HA3 := Lib.hid (bl_tr HA2.out hb3)
              rw [List.nil_append, List.cons_append, List.cons_append] at hs3
              have hcall := keys_s1 (l1 := [CO Try.c1 p less m2]) hs3 (by omega)
              clear hs3 hb3
              go_wp2_with fail
              refine hcall.mono ?_
              rintro e W4 ⟨gy, rfl, hs4, hb4⟩
              have HA4 := Lib.hid (bl_tr HA3.out hb4)
              clear hb4 hcall
              have hS4 : Sep W4 w.heap.size (CO Try.c1 p less m2 :: CO Try.c1 q more n2 :: (l ++ [RowO 3 1 (.slice (some ⟨gx, 0, none⟩) m2.length m2.length) m2.length (cellsI (m2.map Prod.fst)), RowO 3 1 (.slice (some ⟨gy, 0, none⟩) n2.length n2.length) n2.length (cellsI (n2.map Prod.fst))])) := by simpa using hs4
              have hrx : RowI W4 (some ⟨gx, 0, none⟩) (m2.map Prod.fst) := Sep.rowI (l1 := CO Try.c1 p less m2 :: CO Try.c1 q more n2 :: l) (l2 := [RowO 3 1 (.slice (some ⟨gy, 0, none⟩) n2.length n2.length) n2.length (cellsI (n2.map Prod.fst))]) (n := m2.length) (cap := m2.length) (by simpa using hS4) (by simp)
              have hry : RowI W4 (some ⟨gy, 0, none⟩) (n2.map Prod.fst) := Sep.rowI (l1 := CO Try.c1 p less m2 :: CO Try.c1 q more n2 :: (l ++ [RowO 3 1 (.slice (some ⟨gx, 0, none⟩) m2.length m2.length) m2.length (cellsI (m2.map Prod.fst))])) (l2 := []) (n := n2.length) (cap := n2.length) (by simpa using hS4) (by simp)
              have hmn : m2.length ≤ n2.length := by rw [HE2.out, List.length_take]; exact Nat.min_le_right _ _
              have hmnI : (m2.length : Int) ≤ (n2.length : Int) := by omega
              have hmn2 : decide (n2.length < m2.length) = false := decide_eq_false (by omega)
              have hkeys : (m2.map Prod.fst) = (n2.map Prod.fst).take m2.length := by
                rw [← List.map_take]
                congr 1
                have e9 := HE2.out
                have e10 : m2.length = min less.toNat n2.length := by rw [e9, List.length_take]
                rw [e10]
                rw [Nat.min_def]
                split
                · exact e9
                · rw [List.take_length, e9, List.take_of_length_le (by omega)]
              have hcall := ints_any (some ⟨gx, 0, none⟩) (some ⟨gy, 0, none⟩) m2.length n2.length (m2.map Prod.fst) ((n2.map Prod.fst).take m2.length) W4 (by rw [List.length_map]; omega) (by rw [List.length_take, List.length_map]; omega) hrx (hry.take _)
              rw [decide_eq_true hkeys, List.length_map, show ((n2.map Prod.fst).take m2.length).length = m2.length by (rw [List.length_take, List.length_map]; omega)] at hcall
              have HX := Lib.hid hrx
              have HS4 := Lib.hid hS4
              clear hs4 hS4 hrx hry hkeys
              go_wp2_with fail
              refine hcall.mono ?_
              rintro e W5 ⟨rfl, hb5⟩
              have HA5 := Lib.hid (bl_tr HA4.out hb5)
              have HS5 := Lib.hid (HS4.out.below hb5)
              have HX5 := Lib.hid (HX.out.below hb5)
              clear hcall hb5 HX HS4
              go_wp2_with fail
              go_loopw [14] (fun i wr => ∃ j : Nat, j ≤ m2.length ∧ i = .int .i64 j ∧ Hid (Below W5.heap.size W5 wr)) (fun i _ => m2.length - (intOf i).toNat)
              case atStart => exact ⟨0, Nat.zero_le _, rfl, Lib.hid (bl0 _)⟩
              case round =>
                obtain ⟨j, hj, rfl, HB⟩ := hrel
                have hj0 : (0 : Int) ≤ (j : Int) := by omega
                by_cases hjl : j < m2.length
                · have hj2 : (j : Int) < (m2.length : Int) := by omega
                  obtain ⟨y, hy⟩ : ∃ y, m2[j]? = some y := ⟨_, List.getElem?_eq_getElem hjl⟩
                  have hym : y ∈ m2 := List.mem_of_getElem? hy
                  have hyn : y ∈ n2 := by have := HE2.out; rw [this] at hym; exact List.mem_of_mem_take hym
                  obtain ⟨a1, a2⟩ := peek_mem HM2.out.nd hym
                  obtain ⟨a3, a4⟩ := peek_mem HN2.out.nd hyn
                  have d0 := (HX5.out.below HB.out).cell (i := j) (z := y.1) (by rw [List.getElem?_map, hy]; rfl)
                  rw [Nat.zero_add] at d0
                  have zd := blk_lt d0
                  have hcall := peek_s1 (l1 := []) y.1 (HS5.out.below HB.out) (by omega)
                  rw [a1, a2] at hcall
                  have hcall2 := fun (W : World) (hS : Sep W w.heap.size (CO Try.c1 p less m2 :: CO Try.c1 q more n2 :: (l ++ [RowO 3 1 (.slice (some ⟨gx, 0, none⟩) m2.length m2.length) m2.length (cellsI (m2.map Prod.fst)), RowO 3 1 (.slice (some ⟨gy, 0, none⟩) n2.length n2.length) n2.length (cellsI (n2.map Prod.fst))]))) => peek_s1 (l1 := [CO Try.c1 p less m2]) y.1 hS (by omega)
                  rw [a3, a4] at hcall2
                  clear hy hym hyn a1 a2 a3 a4
                  go_wp2_with fail
                  refine hcall.mono ?_
                  rintro e W6 ⟨rfl, hs6, hb6⟩
                  have HB6 := Lib.hid (bl_tr HB.out hb6)
                  replace d0 := cell_later hb6 d0
                  have zd6 := blk_lt d0
                  have hcall := hcall2 _ hs6
                  clear hs6 hb6 hcall2 zd
                  go_wp2_with fail
                  refine hcall.mono ?_
                  rintro e W7 ⟨rfl, hs7, hb7⟩
                  have HB7 := Lib.hid (bl_tr HB6.out hb7)
                  clear hs7 hb7 hcall d0 zd6
                  go_wp2
                  go_roundw
                  case rel => exact ⟨j + 1, by omega, by go_num, HB7⟩
                  case measure => simp [intOf]; omega
                · obtain rfl : j = m2.length := by omega
                  have hge : ¬ (m2.length : Int) < (m2.length : Int) := by omega
                  have HSf := Lib.hid (HS5.out.below HB.out)
                  have HAf := Lib.hid (bl_tr HA5.out HB.out)
                  go_wp2
                  go_roundw
                  case rel => exact ⟨k + 1, m2, n2, _, by omega, by go_num, HM2, HN2, HE2, HSf, HAf⟩
                  case measure => simp [intOf]; omega
            · obtain rfl : k = ls.length := by omega
              have hge : ¬ (ls.length : Int) < (ls.length : Int) := by omega
              have hA := HAr.out
              clear HM HN HE HSr HAr
              have HA := Lib.hid hA
              clear hA
              go_wp2_with fail
              refine (awake16 _).mono ?_
              rintro e w9 ⟨rfl, hb⟩
              have HZ := Lib.hid (bl_tr HA.out hb)
              clear hb HA
              go_wp2
              go_ret
              exact ⟨rfl, HZ.out⟩
    · go_enter Try.func8, Try.ntmps8
      go_wp2_with fail
      refine (new_s1 h0 h1).mono ?_
      rintro e w1 ⟨p, rfl, hs1, hA⟩
      go_wp2_with fail
      refine (new_n1 more h2 w1).mono ?_
      rintro e w2 ⟨rfl, hB⟩
      replace hA := bl_tr hA hB
      clear hs1 hB h0 h1 h2 hr
      have HA := Lib.hid hA
      clear hA
      go_wp2_with fail
      refine (awake16 _).mono ?_
      rintro e w9 ⟨rfl, hb⟩
      have HZ := Lib.hid (bl_tr HA.out hb)
      clear hb HA
      go_wp2
      go_ret
      exact ⟨rfl, HZ.out⟩
  · by_cases h2 : 1 ≤ more ∧ more ≤ 16
    · go_enter Try.func8, Try.ntmps8
      go_wp2_with fail
      refine (new_n1 less h1 w).mono ?_
      rintro e w1 ⟨rfl, hA⟩
      go_wp2_with fail
      refine (new_s1 (h0.below hA) h2).mono ?_
      rintro e w2 ⟨q, rfl, hs2, hB⟩
      replace hA := bl_tr hA hB
      clear hs2 hB h0 h1 h2 hr
      have HA := Lib.hid hA
      clear hA
      go_wp2_with fail
      refine (awake16 _).mono ?_
      rintro e w9 ⟨rfl, hb⟩
      have HZ := Lib.hid (bl_tr HA.out hb)
      clear hb HA
      go_wp2
      go_ret
      exact ⟨rfl, HZ.out⟩
    · go_enter Try.func8, Try.ntmps8
      go_wp2_with fail
      refine (new_n1 less h1 w).mono ?_
      rintro e w1 ⟨rfl, hA⟩
      go_wp2_with fail
      refine (new_n1 more h2 w1).mono ?_
      rintro e w2 ⟨rfl, hB⟩
      replace hA := bl_tr hA hB
      clear hB h0 h1 h2 hr
      have HA := Lib.hid hA
      clear hA
      go_wp2_with fail
      refine (awake16 _).mono ?_
      rintro e w9 ⟨rfl, hb⟩
      have HZ := Lib.hid (bl_tr HA.out hb)
      clear hb HA
      go_wp2
      go_ret
      exact ⟨rfl, HZ.out⟩
end Go.Proofs.Ytbmpgafndpdnbaa
