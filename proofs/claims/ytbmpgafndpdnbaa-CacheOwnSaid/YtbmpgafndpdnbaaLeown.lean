/- CacheOwn: its walk. -/
import Derived.Test.YtbmpgafndpdnbaaEu
namespace Go.Proofs.Ytbmpgafndpdnbaa
open Go.RowKit Go.Maps

set_option maxRecDepth 100000 in
set_option maxHeartbeats 16000000 in
theorem cown_walk (a : Option Addr) (ca : Nat) (ls : List AT) (r n : Int) (w : World) (hr : RowA w a ls) (hca : ls.length ≤ ca) :
    Calls Try.prog 7 #[.int .i64 r, .slice a ls.length ca, .int .i64 n] w fun e w' => e = .returned (.bool true) ∧ Below w.heap.size w w' := by
  have h0 : Sep w w.heap.size [] := Sep.nil (Nat.le_refl _)
  by_cases h1 : 1 ≤ r ∧ r ≤ 16
  · by_cases hbad : 60 < ls.length ∨ n < 0 ∨ (ls.length : Int) < n
    · clear hr
      rcases hbad with hb1 | hb1
      · have hlI : (60 : Int) < (ls.length : Int) := by omega
        go_enter Try.func7, Try.ntmps7
        go_wp2_with fail
        refine (get_n1 1 w).mono ?_
        rintro e v1 ⟨rfl, hA⟩
        go_wp2_with fail
        refine (peek_n1 1 v1).mono ?_
        rintro e v2 ⟨rfl, hB⟩
        replace hA := bl_tr hA hB
        clear hB
        go_wp2_with fail
        refine (put_n1 1 2 v2).mono ?_
        rintro e v3 ⟨rfl, hB⟩
        replace hA := bl_tr hA hB
        clear hB
        go_wp2_with fail
        refine (len_n1 v3).mono ?_
        rintro e v4 ⟨rfl, hB⟩
        replace hA := bl_tr hA hB
        clear hB
        go_wp2_with fail
        refine (keys_n1 v4).mono ?_
        rintro e v5 ⟨rfl, hB⟩
        replace hA := bl_tr hA hB
        clear hB
        go_wp2_with fail
        refine (clone_n1 v5).mono ?_
        rintro e v6 ⟨rfl, hB⟩
        replace hA := bl_tr hA hB
        clear hB
        go_wp2_with fail
        refine (new_s1 (h0.below hA) h1).mono ?_
        rintro e w1 ⟨p, rfl, hs1, hB⟩
        replace hA := bl_tr hA hB
        clear hs1 hB h0 h1
        have HA := Lib.hid hA
        clear hA
        go_wp2_with fail
        refine (awake16 _).mono ?_
        rintro e w9 ⟨rfl, hb⟩
        have HZ := Lib.hid (bl_tr HA.out hb)
        clear hb HA
        go_wp2
        go_ret
        exact ⟨rfl, HZ.out⟩
      · by_cases hl60 : 60 < ls.length
        · have hlI : (60 : Int) < (ls.length : Int) := by omega
          go_enter Try.func7, Try.ntmps7
          go_wp2_with fail
          refine (get_n1 1 w).mono ?_
          rintro e v1 ⟨rfl, hA⟩
          go_wp2_with fail
          refine (peek_n1 1 v1).mono ?_
          rintro e v2 ⟨rfl, hB⟩
          replace hA := bl_tr hA hB
          clear hB
          go_wp2_with fail
          refine (put_n1 1 2 v2).mono ?_
          rintro e v3 ⟨rfl, hB⟩
          replace hA := bl_tr hA hB
          clear hB
          go_wp2_with fail
          refine (len_n1 v3).mono ?_
          rintro e v4 ⟨rfl, hB⟩
          replace hA := bl_tr hA hB
          clear hB
          go_wp2_with fail
          refine (keys_n1 v4).mono ?_
          rintro e v5 ⟨rfl, hB⟩
          replace hA := bl_tr hA hB
          clear hB
          go_wp2_with fail
          refine (clone_n1 v5).mono ?_
          rintro e v6 ⟨rfl, hB⟩
          replace hA := bl_tr hA hB
          clear hB
          go_wp2_with fail
          refine (new_s1 (h0.below hA) h1).mono ?_
          rintro e w1 ⟨p, rfl, hs1, hB⟩
          replace hA := bl_tr hA hB
          clear hs1 hB h0 h1
          have HA := Lib.hid hA
          clear hA
          go_wp2_with fail
          refine (awake16 _).mono ?_
          rintro e w9 ⟨rfl, hb⟩
          have HZ := Lib.hid (bl_tr HA.out hb)
          clear hb HA
          go_wp2
          go_ret
          exact ⟨rfl, HZ.out⟩
        have hlI : decide ((60 : Int) < (ls.length : Int)) = false := decide_eq_false (by omega)
        rcases hb1 with hb1 | hb1
        · skip
          go_enter Try.func7, Try.ntmps7
          go_wp2_with fail
          refine (get_n1 1 w).mono ?_
          rintro e v1 ⟨rfl, hA⟩
          go_wp2_with fail
          refine (peek_n1 1 v1).mono ?_
          rintro e v2 ⟨rfl, hB⟩
          replace hA := bl_tr hA hB
          clear hB
          go_wp2_with fail
          refine (put_n1 1 2 v2).mono ?_
          rintro e v3 ⟨rfl, hB⟩
          replace hA := bl_tr hA hB
          clear hB
          go_wp2_with fail
          refine (len_n1 v3).mono ?_
          rintro e v4 ⟨rfl, hB⟩
          replace hA := bl_tr hA hB
          clear hB
          go_wp2_with fail
          refine (keys_n1 v4).mono ?_
          rintro e v5 ⟨rfl, hB⟩
          replace hA := bl_tr hA hB
          clear hB
          go_wp2_with fail
          refine (clone_n1 v5).mono ?_
          rintro e v6 ⟨rfl, hB⟩
          replace hA := bl_tr hA hB
          clear hB
          go_wp2_with fail
          refine (new_s1 (h0.below hA) h1).mono ?_
          rintro e w1 ⟨p, rfl, hs1, hB⟩
          replace hA := bl_tr hA hB
          clear hs1 hB h0 h1
          have HA := Lib.hid hA
          clear hA
          go_wp2_with fail
          refine (awake16 _).mono ?_
          rintro e w9 ⟨rfl, hb⟩
          have HZ := Lib.hid (bl_tr HA.out hb)
          clear hb HA
          go_wp2
          go_ret
          exact ⟨rfl, HZ.out⟩
        · have hn0 : ¬ n < (0 : Int) := by omega
          go_enter Try.func7, Try.ntmps7
          go_wp2_with fail
          refine (get_n1 1 w).mono ?_
          rintro e v1 ⟨rfl, hA⟩
          go_wp2_with fail
          refine (peek_n1 1 v1).mono ?_
          rintro e v2 ⟨rfl, hB⟩
          replace hA := bl_tr hA hB
          clear hB
          go_wp2_with fail
          refine (put_n1 1 2 v2).mono ?_
          rintro e v3 ⟨rfl, hB⟩
          replace hA := bl_tr hA hB
          clear hB
          go_wp2_with fail
          refine (len_n1 v3).mono ?_
          rintro e v4 ⟨rfl, hB⟩
          replace hA := bl_tr hA hB
          clear hB
          go_wp2_with fail
          refine (keys_n1 v4).mono ?_
          rintro e v5 ⟨rfl, hB⟩
          replace hA := bl_tr hA hB
          clear hB
          go_wp2_with fail
          refine (clone_n1 v5).mono ?_
          rintro e v6 ⟨rfl, hB⟩
          replace hA := bl_tr hA hB
          clear hB
          go_wp2_with fail
          refine (new_s1 (h0.below hA) h1).mono ?_
          rintro e w1 ⟨p, rfl, hs1, hB⟩
          replace hA := bl_tr hA hB
          clear hs1 hB h0 h1
          have HA := Lib.hid hA
          clear hA
          go_wp2_with fail
          refine (awake16 _).mono ?_
          rintro e w9 ⟨rfl, hb⟩
          have HZ := Lib.hid (bl_tr HA.out hb)
          clear hb HA
          go_wp2
          go_ret
          exact ⟨rfl, HZ.out⟩
    · have hl2 : ls.length ≤ 60 := by omega
      have hl1 : (ls.length : Int) ≤ 60 := by omega
      have hl3 : decide ((60 : Int) < (ls.length : Int)) = false := decide_eq_false (by omega)
      obtain ⟨q, rfl⟩ : ∃ q : Nat, n = (q : Int) := ⟨n.toNat, by omega⟩
      have hq : q ≤ ls.length := by omega
      have hqI : (q : Int) ≤ (ls.length : Int) := by omega
      have hq0 : decide ((q : Int) < 0) = false := decide_eq_false (by omega)
      have hq1 : decide (ls.length < q) = false := decide_eq_false (by omega)
      have hcaI : (ls.length : Int) ≤ (ca : Int) := by omega
      have H1 := Lib.hid h1
      have HR := Lib.hid hr
      clear hr hbad
      go_enter Try.func7, Try.ntmps7
      go_wp2_with fail
      refine (get_n1 1 w).mono ?_
      rintro e v1 ⟨rfl, hA⟩
      go_wp2_with fail
      refine (peek_n1 1 v1).mono ?_
      rintro e v2 ⟨rfl, hB⟩
      replace hA := bl_tr hA hB
      clear hB
      go_wp2_with fail
      refine (put_n1 1 2 v2).mono ?_
      rintro e v3 ⟨rfl, hB⟩
      replace hA := bl_tr hA hB
      clear hB
      go_wp2_with fail
      refine (len_n1 v3).mono ?_
      rintro e v4 ⟨rfl, hB⟩
      replace hA := bl_tr hA hB
      clear hB
      go_wp2_with fail
      refine (keys_n1 v4).mono ?_
      rintro e v5 ⟨rfl, hB⟩
      replace hA := bl_tr hA hB
      clear hB
      go_wp2_with fail
      refine (clone_n1 v5).mono ?_
      rintro e v6 ⟨rfl, hB⟩
      replace hA := bl_tr hA hB
      clear hB
      go_wp2_with fail
      refine (new_s1 (h0.below hA) h1).mono ?_
      rintro e w1 ⟨p, rfl, hs1, hB⟩
      have HA := Lib.hid (bl_tr hA hB)
      have HS := Lib.hid (show Sep w1 w.heap.size [CO Try.c1 p r []] from hs1)
      clear hs1 h0 h1 hA hB
      go_wp2_with fail
      go_loopw [16] (fun i wr => ∃ (k : Nat) (m : List IT), k ≤ q ∧ i = .int .i64 k ∧ Hid (PutI r ls k m) ∧ Hid (Sep wr w.heap.size [CO Try.c1 p r m]) ∧ Hid (Below w.heap.size w wr)) (fun i _ => q - (intOf i).toNat)
      case atStart => exact ⟨0, [], Nat.zero_le _, rfl, Lib.hid ⟨Fit.nil H1.out.1, fun x hx => by cases hx⟩, HS, HA⟩
      case round =>
        obtain ⟨k, m, hk, rfl, HM, HSr, HAr⟩ := hrel
        have hk0 : (0 : Int) ≤ (k : Int) := by omega
        have hm16 := HM.out.fit.small H1.out.2
        by_cases hlt : k < q
        · have hlt2 : (k : Int) < (q : Int) := by omega
          have hlt3 : (k : Int) < (ls.length : Int) := by omega
          obtain ⟨z, hz⟩ : ∃ z, ls[k]? = some z := ⟨_, List.getElem?_eq_getElem (by omega)⟩
          obtain ⟨b, o, rfl, c0, c1, c2⟩ := (HR.out.below HAr.out).at hz
          have zc := blk_lt c1
          have HZ := Lib.hid hz
          have hD := bl_dr (bl0 wr)
          have HM2 := Lib.hid (HM.out.put H1.out.1 hz)
          have hcall := put_s1 (l1 := []) (l2 := []) z.k z.v (HSr.out.below hD) (by omega) H1.out.1
          generalize goneK r z.k m = g1 at hcall
          generalize fullB r z.k m = g2 at hcall
          generalize putM r z.k z.v m = m2 at *
          clear c0 HM hm16 hz
          go_upto_region 13 with fail
          refine (wpIn_wide (n := 11)).1 ?_
          refine ordS_begin (S := (fun w' : World => w'.cell? ⟨b, o + k * 3 + 1, none⟩ = some (.int .i64 z.k) ∧ w'.cell? ⟨b, o + k * 3 + 2, none⟩ = some (.int .i64 z.v))) (by kernel_rfl) ⟨cell_later hD c1, cell_later hD c2⟩ (fun hH => ?_)
          refine' ordS_take (i := 0) (oi := { dst := some 114, op := Op.move (Operand.tmp 14), type := 23, pos := _, after := #[], guard := none }) (v := _) rfl (by kernel_rfl) (by kernel_rfl) (by kernel_rfl) (by kernel_rfl) (fun _ _ _ h => h) (by assumption) (Or.inl ⟨by rfl, ?hy1⟩) (fun _ => rfl) ?rest1
          case hy1 => (intro w hSw; (try dsimp only at hSw); go_simp; try with_reducible rfl)
          try simp only [Act.put, List.setIfInBounds_toArray, List.set_cons_zero, List.set_cons_succ]
          refine' ordS_take (i := 1) (oi := { dst := some 115, op := Op.move (Operand.tmp 1), type := 22, pos := _, after := #[], guard := none }) (v := _) rfl (by kernel_rfl) (by kernel_rfl) (by kernel_rfl) (by kernel_rfl) (fun _ _ _ h => h) (by assumption) (Or.inl ⟨by rfl, ?hy2⟩) (fun _ => rfl) ?rest2
          case hy2 => (intro w hSw; (try dsimp only at hSw); go_simp; try with_reducible rfl)
          try simp only [Act.put, List.setIfInBounds_toArray, List.set_cons_zero, List.set_cons_succ]
          refine' ordS_take (i := 2) (oi := { dst := some 116, op := Op.move (Operand.tmp 16), type := 3, pos := _, after := #[], guard := none }) (v := _) rfl (by kernel_rfl) (by kernel_rfl) (by kernel_rfl) (by kernel_rfl) (fun _ _ _ h => h) (by assumption) (Or.inl ⟨by rfl, ?hy3⟩) (fun _ => rfl) ?rest3
          case hy3 => (intro w hSw; (try dsimp only at hSw); go_simp; try with_reducible rfl)
          try simp only [Act.put, List.setIfInBounds_toArray, List.set_cons_zero, List.set_cons_succ]
          refine' ordS_take (i := 3) (oi := { dst := some 117, op := Op.indexAddr 22 (Operand.tmp 115) (Operand.tmp 116), type := 0, pos := _, after := #[{ on := 1, ground := Ground.data }, { on := 2, ground := Ground.data }], guard := none }) (v := _) rfl (by kernel_rfl) (by kernel_rfl) (by kernel_rfl) (by kernel_rfl) (fun _ _ _ h => h) (by assumption) (Or.inl ⟨by rfl, ?hy4⟩) (fun _ => rfl) ?rest4
          case hy4 => (intro w hSw; (try dsimp only at hSw); go_simp; try with_reducible rfl)
          try simp only [Act.put, List.setIfInBounds_toArray, List.set_cons_zero, List.set_cons_succ]
          refine' ordS_take (i := 4) (oi := { dst := some 118, op := Op.fieldAddr 34 (Operand.tmp 117) 1, type := 0, pos := _, after := #[{ on := 3, ground := Ground.data }], guard := none }) (v := _) rfl (by kernel_rfl) (by kernel_rfl) (by kernel_rfl) (by kernel_rfl) (fun _ _ _ h => h) (by assumption) (Or.inl ⟨by rfl, ?hy5⟩) (fun _ => rfl) ?rest5
          case hy5 => (intro w hSw; (try dsimp only at hSw); go_simp; try with_reducible rfl)
          try simp only [Act.put, List.setIfInBounds_toArray, List.set_cons_zero, List.set_cons_succ]
          refine' ordS_take (i := 5) (oi := { dst := some 119, op := Op.load 3 (Operand.tmp 118), type := 3, pos := _, after := #[{ on := 4, ground := Ground.data }], guard := none }) (v := _) rfl (by kernel_rfl) (by kernel_rfl) (by kernel_rfl) (by kernel_rfl) (fun _ _ _ h => h) (by assumption) (Or.inl ⟨by rfl, ?hy6⟩) (fun _ => rfl) ?rest6
          case hy6 => (intro w hSw; (try dsimp only at hSw); go_simp; try with_reducible rfl)
          try simp only [Act.put, List.setIfInBounds_toArray, List.set_cons_zero, List.set_cons_succ]
          refine' ordS_take (i := 6) (oi := { dst := some 120, op := Op.move (Operand.tmp 1), type := 22, pos := _, after := #[], guard := none }) (v := _) rfl (by kernel_rfl) (by kernel_rfl) (by kernel_rfl) (by kernel_rfl) (fun _ _ _ h => h) (by assumption) (Or.inl ⟨by rfl, ?hy7⟩) (fun _ => rfl) ?rest7
          case hy7 => (intro w hSw; (try dsimp only at hSw); go_simp; try with_reducible rfl)
          try simp only [Act.put, List.setIfInBounds_toArray, List.set_cons_zero, List.set_cons_succ]
          refine' ordS_take (i := 7) (oi := { dst := some 121, op := Op.move (Operand.tmp 16), type := 3, pos := _, after := #[], guard := none }) (v := _) rfl (by kernel_rfl) (by kernel_rfl) (by kernel_rfl) (by kernel_rfl) (fun _ _ _ h => h) (by assumption) (Or.inl ⟨by rfl, ?hy8⟩) (fun _ => rfl) ?rest8
          case hy8 => (intro w hSw; (try dsimp only at hSw); go_simp; try with_reducible rfl)
          try simp only [Act.put, List.setIfInBounds_toArray, List.set_cons_zero, List.set_cons_succ]
          refine' ordS_take (i := 8) (oi := { dst := some 122, op := Op.indexAddr 22 (Operand.tmp 120) (Operand.tmp 121), type := 0, pos := _, after := #[{ on := 6, ground := Ground.data }, { on := 7, ground := Ground.data }], guard := none }) (v := _) rfl (by kernel_rfl) (by kernel_rfl) (by kernel_rfl) (by kernel_rfl) (fun _ _ _ h => h) (by assumption) (Or.inl ⟨by rfl, ?hy9⟩) (fun _ => rfl) ?rest9
          case hy9 => (intro w hSw; (try dsimp only at hSw); go_simp; try with_reducible rfl)
          try simp only [Act.put, List.setIfInBounds_toArray, List.set_cons_zero, List.set_cons_succ]
          refine' ordS_take (i := 9) (oi := { dst := some 123, op := Op.fieldAddr 34 (Operand.tmp 122) 2, type := 0, pos := _, after := #[{ on := 8, ground := Ground.data }], guard := none }) (v := _) rfl (by kernel_rfl) (by kernel_rfl) (by kernel_rfl) (by kernel_rfl) (fun _ _ _ h => h) (by assumption) (Or.inl ⟨by rfl, ?hy10⟩) (fun _ => rfl) ?rest10
          case hy10 => (intro w hSw; (try dsimp only at hSw); go_simp; try with_reducible rfl)
          try simp only [Act.put, List.setIfInBounds_toArray, List.set_cons_zero, List.set_cons_succ]
          refine' ordS_take (i := 10) (oi := { dst := some 124, op := Op.load 3 (Operand.tmp 123), type := 3, pos := _, after := #[{ on := 9, ground := Ground.data }], guard := none }) (v := _) rfl (by kernel_rfl) (by kernel_rfl) (by kernel_rfl) (by kernel_rfl) (fun _ _ _ h => h) (by assumption) (Or.inl ⟨by rfl, ?hy11⟩) (fun _ => rfl) ?rest11
          case hy11 => (intro w hSw; (try dsimp only at hSw); go_simp; try with_reducible rfl)
          try simp only [Act.put, List.setIfInBounds_toArray, List.set_cons_zero, List.set_cons_succ]
          refine ordS_one (i := 11) (o := { dst := some 125, op := Op.call { callee := Callee.value (Operand.func 20), args := #[Operand.tmp 114, Operand.tmp 119, Operand.tmp 124], argTypes := #[23, 3, 3] }, type := 35, pos := _, after := #[{ on := 0, ground := Ground.data }, { on := 5, ground := Ground.data }, { on := 10, ground := Ground.data }], guard := none }) (by kernel_rfl) rfl (by rfl) (fun K hK => ?_)
          go_simp
          refine ⟨trivial, ?_⟩
          refine callsIn_wide.2 (hcall.mono ?_)
          rintro e W2 ⟨rfl, hs2, hb2⟩
          have hA2 := (bl_tr HAr.out hD).trans hb2
          obtain ⟨b3, o3, e2, _, d1, d2⟩ := (HR.out.below hA2).at HZ.out
          injection e2 with e3; injection e3 with e4 e5 _; subst e4; subst e5
          refine hK _ _ ⟨d1, d2⟩ ?_
          have HS2 := Lib.hid (show Sep W2 w.heap.size [CO Try.c1 p r m2] from hs2)
          have HA2 := Lib.hid hA2
          clear hK K hH c1 c2 hb2 hD hcall d1 d2 hs2 hA2
          try simp only [Act.put, List.setIfInBounds_toArray, List.set_cons_zero, List.set_cons_succ]
          refine ordS_done (by kernel_rfl) ?_
          go_wp2
          go_roundw
          case rel => exact ⟨k + 1, m2, by omega, by go_num, HM2, HS2, HA2⟩
          case measure => simp [intOf]; omega
        obtain rfl : k = q := by omega
        have hge : ¬ (k : Int) < (k : Int) := by omega
        have hcall := clone_s1 (l1 := []) (l2 := []) HSr.out (by omega)
        clear HSr HS HA
        go_wp2_with fail
        refine hcall.mono ?_
        rintro e W2 ⟨d, rfl, hs2, hb2⟩
        have HA2 := Lib.hid (bl_tr HAr.out hb2)
        have hs2' : Sep W2 w.heap.size ([] ++ CO Try.c1 p r m :: [CO Try.c1 d r m]) := by simpa using hs2
        have hcall := keys_k1 hs2' (by omega)
        clear hs2 hs2' hb2 HAr
        go_wp2_with fail
        refine hcall.mono ?_
        rintro e W3 ⟨g1, rfl, hs3, hb3⟩
        have HA3 := Lib.hid (bl_tr HA2.out hb3)
        have hs3' : Sep W3 w.heap.size ([CO Try.c1 p r m] ++ CO Try.c1 d r m :: [KO g1 m]) := by simpa using hs3
        have hcall := keys_k1 hs3' (by omega)
        clear hs3 hs3' hb3 HA2
        go_wp2_with fail
        refine hcall.mono ?_
        rintro e W4 ⟨g2, rfl, hs4, hb4⟩
        have HA4 := Lib.hid (bl_tr HA3.out hb4)
        have hs4' : Sep W4 w.heap.size (CO Try.c1 p r m :: CO Try.c1 d r m :: [KO g1 m, KO g2 m]) := by simpa using hs4
        have hcall := ints_ko (by omega) (KO.row (l1 := [CO Try.c1 p r m, CO Try.c1 d r m, KO g1 m]) (l2 := []) hs4') (KO.row (l1 := [CO Try.c1 p r m, CO Try.c1 d r m]) (l2 := [KO g2 m]) hs4')
        have HS4 := Lib.hid hs4'
        clear hs4 hs4' hb4 HA3
        go_wp2_with fail
        refine hcall.mono ?_
        rintro e W5 ⟨rfl, hb5⟩
        have HA5 := Lib.hid (bl_tr HA4.out hb5)
        have HS5 := Lib.hid (HS4.out.below hb5)
        clear hcall hb5 HS4 HA4
        go_wp2_with fail
        go_loopw [19] (fun i wr => ∃ (j : Nat) (md : List IT), k ≤ j ∧ j ≤ ls.length ∧ i = .int .i64 j ∧ Hid (Fit r md) ∧ Hid (Sep wr w.heap.size (CO Try.c1 p r m :: CO Try.c1 d r md :: [KO g1 m, KO g2 m])) ∧ Hid (Below w.heap.size w wr)) (fun i _ => ls.length - (intOf i).toNat)
        case atStart => exact ⟨k, m, Nat.le_refl _, hq, rfl, Lib.hid HM.out.fit, HS5, HA5⟩
        case round =>
          obtain ⟨j, md, hkj, hj, rfl, HF, HSj, HAj⟩ := hrel
          have hj0 : (0 : Int) ≤ (j : Int) := by omega
          have hd16 := HF.out.small H1.out.2
          by_cases hjl : j < ls.length
          · have hj2 : (j : Int) < (ls.length : Int) := by omega
            obtain ⟨z, hz⟩ : ∃ z, ls[j]? = some z := ⟨_, List.getElem?_eq_getElem hjl⟩
            obtain ⟨b, o, rfl, c0, c1, c2⟩ := (HR.out.below HAj.out).at hz
            have zc := blk_lt c1
            have HZ := Lib.hid hz
            have hD := bl_dr (bl0 wr)
            obtain ⟨vv, hvv⟩ : ∃ vv, IntKind.i64.wrap (z.v + 1) = vv := ⟨_, rfl⟩
            have HF2 := Lib.hid (HF.out.put (k := z.k) (x := vv) H1.out.1)
            have hcall := put_s1 (l1 := [CO Try.c1 p r m]) (l2 := [KO g1 m, KO g2 m]) z.k vv (HSj.out.below hD) (by omega) H1.out.1
            generalize goneK r z.k md = x1 at hcall
            generalize fullB r z.k md = x2 at hcall
            generalize putM r z.k vv md = md2 at *
            have hd2 := HF2.out.small H1.out.2
            clear c0 HF hd16 hz
            go_upto_region 21 with fail
            refine (wpIn_wide (n := 11)).1 ?_
            refine ordS_begin (S := (fun w' : World => w'.cell? ⟨b, o + j * 3 + 1, none⟩ = some (.int .i64 z.k) ∧ w'.cell? ⟨b, o + j * 3 + 2, none⟩ = some (.int .i64 z.v))) (by kernel_rfl) ⟨cell_later hD c1, cell_later hD c2⟩ (fun hH => ?_)
            refine' ordS_take (i := 0) (oi := { dst := some 146, op := Op.move (Operand.tmp 17), type := 23, pos := _, after := #[], guard := none }) (v := _) rfl (by kernel_rfl) (by kernel_rfl) (by kernel_rfl) (by kernel_rfl) (fun _ _ _ h => h) (by assumption) (Or.inl ⟨by rfl, ?hy12⟩) (fun _ => rfl) ?rest12
            case hy12 => (intro w hSw; (try dsimp only at hSw); go_simp; try with_reducible rfl)
            try simp only [Act.put, List.setIfInBounds_toArray, List.set_cons_zero, List.set_cons_succ]
            refine' ordS_take (i := 1) (oi := { dst := some 147, op := Op.move (Operand.tmp 1), type := 22, pos := _, after := #[], guard := none }) (v := _) rfl (by kernel_rfl) (by kernel_rfl) (by kernel_rfl) (by kernel_rfl) (fun _ _ _ h => h) (by assumption) (Or.inl ⟨by rfl, ?hy13⟩) (fun _ => rfl) ?rest13
            case hy13 => (intro w hSw; (try dsimp only at hSw); go_simp; try with_reducible rfl)
            try simp only [Act.put, List.setIfInBounds_toArray, List.set_cons_zero, List.set_cons_succ]
            refine' ordS_take (i := 2) (oi := { dst := some 148, op := Op.move (Operand.tmp 19), type := 3, pos := _, after := #[], guard := none }) (v := _) rfl (by kernel_rfl) (by kernel_rfl) (by kernel_rfl) (by kernel_rfl) (fun _ _ _ h => h) (by assumption) (Or.inl ⟨by rfl, ?hy14⟩) (fun _ => rfl) ?rest14
            case hy14 => (intro w hSw; (try dsimp only at hSw); go_simp; try with_reducible rfl)
            try simp only [Act.put, List.setIfInBounds_toArray, List.set_cons_zero, List.set_cons_succ]
            refine' ordS_take (i := 3) (oi := { dst := some 149, op := Op.indexAddr 22 (Operand.tmp 147) (Operand.tmp 148), type := 0, pos := _, after := #[{ on := 1, ground := Ground.data }, { on := 2, ground := Ground.data }], guard := none }) (v := _) rfl (by kernel_rfl) (by kernel_rfl) (by kernel_rfl) (by kernel_rfl) (fun _ _ _ h => h) (by assumption) (Or.inl ⟨by rfl, ?hy15⟩) (fun _ => rfl) ?rest15
            case hy15 => (intro w hSw; (try dsimp only at hSw); go_simp; try with_reducible rfl)
            try simp only [Act.put, List.setIfInBounds_toArray, List.set_cons_zero, List.set_cons_succ]
            refine' ordS_take (i := 4) (oi := { dst := some 150, op := Op.fieldAddr 34 (Operand.tmp 149) 1, type := 0, pos := _, after := #[{ on := 3, ground := Ground.data }], guard := none }) (v := _) rfl (by kernel_rfl) (by kernel_rfl) (by kernel_rfl) (by kernel_rfl) (fun _ _ _ h => h) (by assumption) (Or.inl ⟨by rfl, ?hy16⟩) (fun _ => rfl) ?rest16
            case hy16 => (intro w hSw; (try dsimp only at hSw); go_simp; try with_reducible rfl)
            try simp only [Act.put, List.setIfInBounds_toArray, List.set_cons_zero, List.set_cons_succ]
            refine' ordS_take (i := 5) (oi := { dst := some 151, op := Op.load 3 (Operand.tmp 150), type := 3, pos := _, after := #[{ on := 4, ground := Ground.data }], guard := none }) (v := _) rfl (by kernel_rfl) (by kernel_rfl) (by kernel_rfl) (by kernel_rfl) (fun _ _ _ h => h) (by assumption) (Or.inl ⟨by rfl, ?hy17⟩) (fun _ => rfl) ?rest17
            case hy17 => (intro w hSw; (try dsimp only at hSw); go_simp; try with_reducible rfl)
            try simp only [Act.put, List.setIfInBounds_toArray, List.set_cons_zero, List.set_cons_succ]
            refine' ordS_take (i := 6) (oi := { dst := some 152, op := Op.move (Operand.tmp 1), type := 22, pos := _, after := #[], guard := none }) (v := _) rfl (by kernel_rfl) (by kernel_rfl) (by kernel_rfl) (by kernel_rfl) (fun _ _ _ h => h) (by assumption) (Or.inl ⟨by rfl, ?hy18⟩) (fun _ => rfl) ?rest18
            case hy18 => (intro w hSw; (try dsimp only at hSw); go_simp; try with_reducible rfl)
            try simp only [Act.put, List.setIfInBounds_toArray, List.set_cons_zero, List.set_cons_succ]
            refine' ordS_take (i := 7) (oi := { dst := some 153, op := Op.move (Operand.tmp 19), type := 3, pos := _, after := #[], guard := none }) (v := _) rfl (by kernel_rfl) (by kernel_rfl) (by kernel_rfl) (by kernel_rfl) (fun _ _ _ h => h) (by assumption) (Or.inl ⟨by rfl, ?hy19⟩) (fun _ => rfl) ?rest19
            case hy19 => (intro w hSw; (try dsimp only at hSw); go_simp; try with_reducible rfl)
            try simp only [Act.put, List.setIfInBounds_toArray, List.set_cons_zero, List.set_cons_succ]
            refine' ordS_take (i := 8) (oi := { dst := some 154, op := Op.indexAddr 22 (Operand.tmp 152) (Operand.tmp 153), type := 0, pos := _, after := #[{ on := 6, ground := Ground.data }, { on := 7, ground := Ground.data }], guard := none }) (v := _) rfl (by kernel_rfl) (by kernel_rfl) (by kernel_rfl) (by kernel_rfl) (fun _ _ _ h => h) (by assumption) (Or.inl ⟨by rfl, ?hy20⟩) (fun _ => rfl) ?rest20
            case hy20 => (intro w hSw; (try dsimp only at hSw); go_simp; try with_reducible rfl)
            try simp only [Act.put, List.setIfInBounds_toArray, List.set_cons_zero, List.set_cons_succ]
            refine' ordS_take (i := 9) (oi := { dst := some 155, op := Op.fieldAddr 34 (Operand.tmp 154) 2, type := 0, pos := _, after := #[{ on := 8, ground := Ground.data }], guard := none }) (v := _) rfl (by kernel_rfl) (by kernel_rfl) (by kernel_rfl) (by kernel_rfl) (fun _ _ _ h => h) (by assumption) (Or.inl ⟨by rfl, ?hy21⟩) (fun _ => rfl) ?rest21
            case hy21 => (intro w hSw; (try dsimp only at hSw); go_simp; try with_reducible rfl)
            try simp only [Act.put, List.setIfInBounds_toArray, List.set_cons_zero, List.set_cons_succ]
            refine' ordS_take (i := 10) (oi := { dst := some 156, op := Op.load 3 (Operand.tmp 155), type := 3, pos := _, after := #[{ on := 9, ground := Ground.data }], guard := none }) (v := _) rfl (by kernel_rfl) (by kernel_rfl) (by kernel_rfl) (by kernel_rfl) (fun _ _ _ h => h) (by assumption) (Or.inl ⟨by rfl, ?hy22⟩) (fun _ => rfl) ?rest22
            case hy22 => (intro w hSw; (try dsimp only at hSw); go_simp; try with_reducible rfl)
            try simp only [Act.put, List.setIfInBounds_toArray, List.set_cons_zero, List.set_cons_succ]
            refine' ordS_take (i := 11) (oi := { dst := some 157, op := Op.binOp BinOp.add 3 (Operand.tmp 156) (Operand.const (Value.int IntKind.i64 1)) 3, type := 3, pos := _, after := #[{ on := 10, ground := Ground.data }], guard := none }) (v := _) rfl (by kernel_rfl) (by kernel_rfl) (by kernel_rfl) (by kernel_rfl) (fun _ _ _ h => h) (by assumption) (Or.inl ⟨by rfl, ?hy23⟩) (fun _ => rfl) ?rest23
            case hy23 => (intro w hSw; (try dsimp only at hSw); go_simp; try with_reducible rfl)
            try simp only [Act.put, List.setIfInBounds_toArray, List.set_cons_zero, List.set_cons_succ]
            refine ordS_one (i := 12) (o := { dst := some 158, op := Op.call { callee := Callee.value (Operand.func 20), args := #[Operand.tmp 146, Operand.tmp 151, Operand.tmp 157], argTypes := #[23, 3, 3] }, type := 35, pos := _, after := #[{ on := 0, ground := Ground.data }, { on := 5, ground := Ground.data }, { on := 11, ground := Ground.data }], guard := none }) (by kernel_rfl) rfl (by rfl) (fun K hK => ?_)
            go_simp
            refine ⟨trivial, ?_⟩
            refine callsIn_wide.2 (hcall.mono ?_)
            rintro e W6 ⟨rfl, hs6, hb6⟩
            have hA6 := (bl_tr HAj.out hD).trans hb6
            obtain ⟨b3, o3, e2, _, d1, d2⟩ := (HR.out.below hA6).at HZ.out
            injection e2 with e3; injection e3 with e4 e5 _; subst e4; subst e5
            refine hK _ _ ⟨d1, d2⟩ ?_
            clear hK K hH c1 c2 hb6 hD hcall d1 hvv
            try simp only [Act.put, List.setIfInBounds_toArray, List.set_cons_zero, List.set_cons_succ]
            refine ordS_done (by kernel_rfl) ?_
            have zc6 := blk_lt d2
            have HF3 := Lib.hid (HF2.out.get (k := z.v) H1.out.1)
            have hcall := get_s1 (l1 := [CO Try.c1 p r m]) z.v hs6 (by omega)
            generalize peekV z.v md2 = x3 at hcall
            generalize (findI z.v md2).isSome = x4 at hcall
            generalize getM z.v md2 = md3 at *
            have HA6 := Lib.hid hA6
            clear hs6 hA6 HF2
            go_wp2_with fail
            refine hcall.mono ?_
            rintro e W7 ⟨rfl, hs7, hb7⟩
            have HS7 := Lib.hid (show Sep W7 w.heap.size (CO Try.c1 p r m :: CO Try.c1 d r md3 :: [KO g1 m, KO g2 m]) from hs7)
            have HA7 := Lib.hid (HA6.out.trans hb7)
            clear hs7 hb7 hcall d2 zc6
            go_wp2
            go_roundw
            case rel => exact ⟨j + 1, md3, by omega, by omega, by go_num, HF3, HS7, HA7⟩
            case measure => simp [intOf]; omega
          obtain rfl : j = ls.length := by omega
          have hge2 : ¬ (ls.length : Int) < (ls.length : Int) := by omega
          have hcall := keys_k1 (l1 := []) HSj.out (by omega)
          clear HS5 HA5
          go_wp2_with fail
          refine hcall.mono ?_
          rintro e W6 ⟨g3, rfl, hs6, hb6⟩
          have HA6 := Lib.hid (bl_tr HAj.out hb6)
          have hs6' : Sep W6 w.heap.size (CO Try.c1 p r m :: CO Try.c1 d r md :: [KO g1 m, KO g2 m, KO g3 m]) := by simpa using hs6
          have hcall := ints_ko (by omega) (KO.row (l1 := [CO Try.c1 p r m, CO Try.c1 d r md, KO g1 m, KO g2 m]) (l2 := []) hs6') (KO.row (l1 := [CO Try.c1 p r m, CO Try.c1 d r md]) (l2 := [KO g2 m, KO g3 m]) hs6')
          have HS6 := Lib.hid hs6'
          clear hs6 hs6' hb6 HSj HAj
          go_wp2_with fail
          refine hcall.mono ?_
          rintro e W7 ⟨rfl, hb7⟩
          have HA7 := Lib.hid (bl_tr HA6.out hb7)
          have HS7 := Lib.hid (HS6.out.below hb7)
          have HK7 := Lib.hid (KO.row (l1 := [CO Try.c1 p r m, CO Try.c1 d r md]) (l2 := [KO g2 m, KO g3 m]) HS7.out)
          clear hcall hb7 HS6 HA6
          go_wp2_with fail
          go_loopw [20] (fun i wr => ∃ j : Nat, j ≤ m.length ∧ i = .int .i64 j ∧ Hid (Below W7.heap.size W7 wr)) (fun i _ => m.length - (intOf i).toNat)
          case atStart => exact ⟨0, Nat.zero_le _, rfl, Lib.hid (bl0 _)⟩
          case round =>
            obtain ⟨j, hj, rfl, HB⟩ := hrel
            have hj0 : (0 : Int) ≤ (j : Int) := by omega
            by_cases hjl : j < m.length
            · have hj2 : (j : Int) < (m.length : Int) := by omega
              obtain ⟨y, hy⟩ : ∃ y, m[j]? = some y := ⟨_, List.getElem?_eq_getElem hjl⟩
              have hym : y ∈ m := List.mem_of_getElem? hy
              obtain ⟨a1, a2⟩ := peek_mem HM.out.fit.nd hym
              have hyv := HM.out.vals y hym
              have d0 := HK7.out.cell (i := j) (z := y.1) (by rw [List.getElem?_map, hy]; rfl)
              rw [Nat.zero_add] at d0
              have D0 := Lib.hid d0
              have d1 := cell_later HB.out d0
              have zd := blk_lt d1
              have hcall := peek_s1 (l1 := []) y.1 (HS7.out.below HB.out) (by omega)
              rw [a1, a2] at hcall
              have HYV := Lib.hid hyv
              clear hy hym a1 a2 hyv d0
              go_wp2_with fail
              refine hcall.mono ?_
              rintro e W8 ⟨rfl, hs8, hb8⟩
              have HB8 := Lib.hid (bl_tr HB.out hb8)
              clear hs8 hb8 hcall d1 zd
              have hD := bl_dr (bl0 W8)
              have d1 := cell_later (bl_tr HB8.out hD) D0.out
              have hra := (HR.out.below (bl_tr HA7.out (bl_tr HB8.out hD))).take k
              have hput := last16_any a ca (ls.take k) y.1 W8.drew (by rw [List.length_take]; omega) hra
              rw [show (ls.take k).length = k by rw [List.length_take]; omega, ← HYV.out] at hput
              have hk2 : (k : Int) ≤ (ca : Int) := by omega
              have HD8 := Lib.hid (bl_tr HB8.out hD)
              clear hD hra
              go_upto_region 29 with fail
              refine (wpIn_wide (n := 11)).1 ?_
              refine ordS_begin (S := (fun w' : World => w'.cell? ⟨g1, j, none⟩ = some (.int .i64 y.1))) (by kernel_rfl) d1 (fun hH => ?_)
              refine' ordS_take (i := 0) (oi := { dst := some 186, op := Op.move (Operand.tmp 22), type := 4, pos := _, after := #[], guard := none }) (v := _) rfl (by kernel_rfl) (by kernel_rfl) (by kernel_rfl) (by kernel_rfl) (fun _ _ _ h => h) (by assumption) (Or.inl ⟨by rfl, ?hy24⟩) (fun _ => rfl) ?rest24
              case hy24 => (intro w hSw; (try dsimp only at hSw); go_simp; try with_reducible rfl)
              try simp only [Act.put, List.setIfInBounds_toArray, List.set_cons_zero, List.set_cons_succ]
              refine' ordS_take (i := 1) (oi := { dst := some 187, op := Op.unOp UnOp.not 4 (Operand.tmp 186), type := 4, pos := _, after := #[{ on := 0, ground := Ground.data }], guard := none }) (v := _) rfl (by kernel_rfl) (by kernel_rfl) (by kernel_rfl) (by kernel_rfl) (fun _ _ _ h => h) (by assumption) (Or.inl ⟨by rfl, ?hy25⟩) (fun _ => rfl) ?rest25
              case hy25 => (intro w hSw; (try dsimp only at hSw); go_simp; try with_reducible rfl)
              try simp only [Act.put, List.setIfInBounds_toArray, List.set_cons_zero, List.set_cons_succ]
              refine' ordS_take (i := 2) (oi := { dst := some 188, op := Op.move (Operand.tmp 187), type := 4, pos := _, after := #[{ on := 1, ground := Ground.data }], guard := none }) (v := _) rfl (by kernel_rfl) (by kernel_rfl) (by kernel_rfl) (by kernel_rfl) (fun _ _ _ h => h) (by assumption) (Or.inl ⟨by rfl, ?hy26⟩) (fun _ => rfl) ?rest26
              case hy26 => (intro w hSw; (try dsimp only at hSw); go_simp; try with_reducible rfl)
              try simp only [Act.put, List.setIfInBounds_toArray, List.set_cons_zero, List.set_cons_succ]
              refine' ordS_take (i := 3) (oi := { dst := some 189, op := Op.move (Operand.tmp 21), type := 3, pos := _, after := #[{ on := 2, ground := Ground.guard }], guard := some (2, false) }) (v := _) rfl (by kernel_rfl) (by kernel_rfl) (by kernel_rfl) (by kernel_rfl) (fun _ _ _ h => h) (by assumption) (Or.inl ⟨by rfl, ?hy27⟩) (fun _ => rfl) ?rest27
              case hy27 => (intro w hSw; (try dsimp only at hSw); go_simp; try with_reducible rfl)
              try simp only [Act.put, List.setIfInBounds_toArray, List.set_cons_zero, List.set_cons_succ]
              refine' ordS_take (i := 4) (oi := { dst := some 190, op := Op.move (Operand.tmp 1), type := 22, pos := _, after := #[{ on := 2, ground := Ground.guard }], guard := some (2, false) }) (v := _) rfl (by kernel_rfl) (by kernel_rfl) (by kernel_rfl) (by kernel_rfl) (fun _ _ _ h => h) (by assumption) (Or.inl ⟨by rfl, ?hy28⟩) (fun _ => rfl) ?rest28
              case hy28 => (intro w hSw; (try dsimp only at hSw); go_simp; try with_reducible rfl)
              try simp only [Act.put, List.setIfInBounds_toArray, List.set_cons_zero, List.set_cons_succ]
              refine' ordS_take (i := 5) (oi := { dst := some 191, op := Op.move (Operand.tmp 2), type := 3, pos := _, after := #[{ on := 2, ground := Ground.guard }], guard := some (2, false) }) (v := _) rfl (by kernel_rfl) (by kernel_rfl) (by kernel_rfl) (by kernel_rfl) (fun _ _ _ h => h) (by assumption) (Or.inl ⟨by rfl, ?hy29⟩) (fun _ => rfl) ?rest29
              case hy29 => (intro w hSw; (try dsimp only at hSw); go_simp; try with_reducible rfl)
              try simp only [Act.put, List.setIfInBounds_toArray, List.set_cons_zero, List.set_cons_succ]
              refine' ordS_take (i := 6) (oi := { dst := some 192, op := Op.slice 22 (Operand.tmp 190) none (some (Operand.tmp 191)) none, type := 22, pos := _, after := #[{ on := 4, ground := Ground.data }, { on := 5, ground := Ground.data }, { on := 2, ground := Ground.guard }], guard := some (2, false) }) (v := _) rfl (by kernel_rfl) (by kernel_rfl) (by kernel_rfl) (by kernel_rfl) (fun _ _ _ h => h) (by assumption) (Or.inl ⟨by rfl, ?hy30⟩) (fun _ => rfl) ?rest30
              case hy30 => (intro w hSw; (try dsimp only at hSw); go_simp; try with_reducible rfl)
              try simp only [Act.put, List.setIfInBounds_toArray, List.set_cons_zero, List.set_cons_succ]
              refine' ordS_take (i := 7) (oi := { dst := some 193, op := Op.move (Operand.tmp 18), type := 47, pos := _, after := #[{ on := 2, ground := Ground.guard }], guard := some (2, false) }) (v := _) rfl (by kernel_rfl) (by kernel_rfl) (by kernel_rfl) (by kernel_rfl) (fun _ _ _ h => h) (by assumption) (Or.inl ⟨by rfl, ?hy31⟩) (fun _ => rfl) ?rest31
              case hy31 => (intro w hSw; (try dsimp only at hSw); go_simp; try with_reducible rfl)
              try simp only [Act.put, List.setIfInBounds_toArray, List.set_cons_zero, List.set_cons_succ]
              refine' ordS_take (i := 8) (oi := { dst := some 194, op := Op.move (Operand.tmp 20), type := 3, pos := _, after := #[{ on := 2, ground := Ground.guard }], guard := some (2, false) }) (v := _) rfl (by kernel_rfl) (by kernel_rfl) (by kernel_rfl) (by kernel_rfl) (fun _ _ _ h => h) (by assumption) (Or.inl ⟨by rfl, ?hy32⟩) (fun _ => rfl) ?rest32
              case hy32 => (intro w hSw; (try dsimp only at hSw); go_simp; try with_reducible rfl)
              try simp only [Act.put, List.setIfInBounds_toArray, List.set_cons_zero, List.set_cons_succ]
              refine' ordS_take (i := 9) (oi := { dst := some 195, op := Op.indexAddr 47 (Operand.tmp 193) (Operand.tmp 194), type := 0, pos := _, after := #[{ on := 7, ground := Ground.data }, { on := 8, ground := Ground.data }, { on := 2, ground := Ground.guard }], guard := some (2, false) }) (v := _) rfl (by kernel_rfl) (by kernel_rfl) (by kernel_rfl) (by kernel_rfl) (fun _ _ _ h => h) (by assumption) (Or.inl ⟨by rfl, ?hy33⟩) (fun _ => rfl) ?rest33
              case hy33 => (intro w hSw; (try dsimp only at hSw); go_simp; try with_reducible rfl)
              try simp only [Act.put, List.setIfInBounds_toArray, List.set_cons_zero, List.set_cons_succ]
              refine' ordS_take (i := 10) (oi := { dst := some 196, op := Op.load 3 (Operand.tmp 195), type := 3, pos := _, after := #[{ on := 9, ground := Ground.data }, { on := 2, ground := Ground.guard }], guard := some (2, false) }) (v := _) rfl (by kernel_rfl) (by kernel_rfl) (by kernel_rfl) (by kernel_rfl) (fun _ _ _ h => h) (by assumption) (Or.inl ⟨by rfl, ?hy34⟩) (fun _ => rfl) ?rest34
              case hy34 => (intro w hSw; (try dsimp only at hSw); go_simp; try with_reducible rfl)
              try simp only [Act.put, List.setIfInBounds_toArray, List.set_cons_zero, List.set_cons_succ]
              refine ordS_one (i := 11) (o := { dst := some 197, op := Op.call { callee := Callee.value (Operand.func 36), args := #[Operand.tmp 192, Operand.tmp 196], argTypes := #[22, 3] }, type := 3, pos := _, after := #[{ on := 6, ground := Ground.data }, { on := 10, ground := Ground.data }, { on := 2, ground := Ground.chain }, { on := 2, ground := Ground.guard }], guard := some (2, false) }) (by kernel_rfl) rfl (by rfl) (fun K hK => ?_)
              go_simp
              refine ⟨trivial, ?_⟩
              refine callsIn_wide.2 (hput.mono ?_)
              rintro e W9 ⟨rfl, rfl⟩
              refine hK _ _ d1 ?_
              clear hK K hH hput
              try simp only [Act.put, List.setIfInBounds_toArray, List.set_cons_zero, List.set_cons_succ]
              refine' ordS_take (i := 12) (oi := { dst := some 198, op := Op.binOp BinOp.neq 3 (Operand.tmp 189) (Operand.tmp 197) 3, type := 4, pos := _, after := #[{ on := 3, ground := Ground.data }, { on := 11, ground := Ground.data }, { on := 2, ground := Ground.guard }], guard := some (2, false) }) (v := _) rfl (by kernel_rfl) (by kernel_rfl) (by kernel_rfl) (by kernel_rfl) (fun _ _ _ h => h) (by assumption) (Or.inl ⟨by rfl, ?hy35⟩) (fun _ => rfl) ?rest35
              case hy35 => (intro w hSw; (try dsimp only at hSw); go_simp; try with_reducible rfl)
              try simp only [Act.put, List.setIfInBounds_toArray, List.set_cons_zero, List.set_cons_succ]
              refine' ordS_take (i := 13) (oi := { dst := some 199, op := Op.pick (Operand.tmp 188) (Operand.const (Value.bool true)) (Operand.tmp 198), type := 4, pos := _, after := #[{ on := 2, ground := Ground.data }, { on := 12, ground := Ground.data }], guard := none }) (v := _) rfl (by kernel_rfl) (by kernel_rfl) (by kernel_rfl) (by kernel_rfl) (fun _ _ _ h => h) (by assumption) (Or.inl ⟨by rfl, ?hy36⟩) (fun _ => rfl) ?rest36
              case hy36 => (intro w hSw; (try dsimp only at hSw); go_simp; try with_reducible rfl)
              try simp only [Act.put, List.setIfInBounds_toArray, List.set_cons_zero, List.set_cons_succ]
              refine ordS_done (by kernel_rfl) ?_
              clear d1
              go_wp2
              go_roundw
              case rel => exact ⟨j + 1, by omega, by go_num, HD8⟩
              case measure => simp [intOf]; omega
            obtain rfl : j = m.length := by omega
            have hge3 : ¬ (m.length : Int) < (m.length : Int) := by omega
            have hcall := keys_k1 (l1 := []) (HS7.out.below HB.out) (by omega)
            have HA8 := Lib.hid (bl_tr HA7.out HB.out)
            clear HK7 HA7 HS7 HB
            go_wp2_with fail
            refine hcall.mono ?_
            rintro e W8 ⟨g4, rfl, hs8, hb8⟩
            have HA9 := Lib.hid (bl_tr HA8.out hb8)
            have HS9 := Lib.hid (show Sep W8 w.heap.size ([CO Try.c1 p r m, CO Try.c1 d r md, KO g1 m, KO g2 m, KO g3 m] ++ RowO 3 1 (.slice (some ⟨g4, 0, none⟩) m.length m.length) m.length (cellsI (m.map Prod.fst)) :: []) by simpa using hs8)
            clear hs8 hb8 hcall HA8
            go_wp2_with fail
            go_loopw [24] (fun i wr => ∃ (j : Nat) (ts : List Int), j ≤ m.length ∧ i = .int .i64 j ∧ ts.length = m.length ∧ Hid (Sep wr w.heap.size ([CO Try.c1 p r m, CO Try.c1 d r md, KO g1 m, KO g2 m, KO g3 m] ++ RowO 3 1 (.slice (some ⟨g4, 0, none⟩) m.length m.length) m.length (cellsI ts) :: [])) ∧ Hid (Below w.heap.size w wr)) (fun i _ => m.length - (intOf i).toNat)
            case atStart => exact ⟨0, _, Nat.zero_le _, rfl, List.length_map _, HS9, HA9⟩
            case round =>
              obtain ⟨j, ts, hj, rfl, hts, HSt, HAt⟩ := hrel
              have hj0 : (0 : Int) ≤ (j : Int) := by omega
              by_cases hjl : j < m.length
              · have hj2 : (j : Int) < (m.length : Int) := by omega
                obtain ⟨y, hy⟩ : ∃ y, ts[j]? = some y := ⟨_, List.getElem?_eq_getElem (by omega)⟩
                obtain ⟨r1, r2, r3, r4, _⟩ := Sep.row HSt.out
                have d0 := r1 j (.int .i64 y) (by rw [cellsI, List.getElem?_map, hy]; rfl)
                have d1 := r2 j
                have zd := blk_lt d0
                obtain ⟨u, hu⟩ : ∃ u, IntKind.i64.wrap (y + 1) = u := ⟨_, rfl⟩
                have HS2 := Lib.hid (Sep.rowset HSt.out j (.int .i64 u))
                rw [← cellsI_set] at HS2
                have HB2 := Lib.hid (bl_st HAt.out r3 (o := j) (.int .i64 u))
                clear r1 r2 r3 r4 hy
                go_wp2
                go_roundw
                case rel => exact ⟨j + 1, ts.set j u, by omega, by go_num, by rw [List.length_set]; exact hts, HS2, HB2⟩
                case measure => simp [intOf]; omega
              obtain rfl : j = m.length := by omega
              have hge4 : ¬ (m.length : Int) < (m.length : Int) := by omega
              have hcall := keys_k1 (l1 := []) HSt.out (by omega)
              go_wp2_with fail
              refine hcall.mono ?_
              rintro e W9 ⟨g5, rfl, hs9, hb9⟩
              have hA := bl_tr HAt.out hb9
              have hs9' : Sep W9 w.heap.size (CO Try.c1 p r m :: CO Try.c1 d r md :: [KO g1 m, KO g2 m, KO g3 m, RowO 3 1 (.slice (some ⟨g4, 0, none⟩) m.length m.length) m.length (cellsI ts), KO g5 m]) := by simpa using hs9
              have hcall := ints_ko (by omega) (KO.row (l1 := [CO Try.c1 p r m, CO Try.c1 d r md, KO g1 m, KO g2 m, KO g3 m, RowO 3 1 (.slice (some ⟨g4, 0, none⟩) m.length m.length) m.length (cellsI ts)]) (l2 := []) hs9') (KO.row (l1 := [CO Try.c1 p r m, CO Try.c1 d r md]) (l2 := [KO g2 m, KO g3 m, RowO 3 1 (.slice (some ⟨g4, 0, none⟩) m.length m.length) m.length (cellsI ts), KO g5 m]) hs9')
              clear hs9 hs9' hb9 HSt HAt HS9 HA9
              go_wp2_with fail
              refine hcall.mono ?_
              rintro e W10 ⟨rfl, hb10⟩
              replace hA := bl_tr hA hb10
              clear hb10 hcall
              have HA := Lib.hid hA
              clear hA
              go_wp2_with fail
              refine (awake16 _).mono ?_
              rintro e w9 ⟨rfl, hb⟩
              have HZ := Lib.hid (bl_tr HA.out hb)
              clear hb HA
              go_wp2
              go_ret
              exact ⟨rfl, HZ.out⟩
  · clear hr
    go_enter Try.func7, Try.ntmps7
    go_wp2_with fail
    refine (get_n1 1 w).mono ?_
    rintro e v1 ⟨rfl, hA⟩
    go_wp2_with fail
    refine (peek_n1 1 v1).mono ?_
    rintro e v2 ⟨rfl, hB⟩
    replace hA := bl_tr hA hB
    clear hB
    go_wp2_with fail
    refine (put_n1 1 2 v2).mono ?_
    rintro e v3 ⟨rfl, hB⟩
    replace hA := bl_tr hA hB
    clear hB
    go_wp2_with fail
    refine (len_n1 v3).mono ?_
    rintro e v4 ⟨rfl, hB⟩
    replace hA := bl_tr hA hB
    clear hB
    go_wp2_with fail
    refine (keys_n1 v4).mono ?_
    rintro e v5 ⟨rfl, hB⟩
    replace hA := bl_tr hA hB
    clear hB
    go_wp2_with fail
    refine (clone_n1 v5).mono ?_
    rintro e v6 ⟨rfl, hB⟩
    replace hA := bl_tr hA hB
    clear hB
    go_wp2_with fail
    refine (new_n1 r h1 v6).mono ?_
    rintro e w1 ⟨rfl, hB⟩
    replace hA := bl_tr hA hB
    clear h0 h1 hB
    have HA := Lib.hid hA
    clear hA
    go_wp2_with fail
    refine (awake16 _).mono ?_
    rintro e w9 ⟨rfl, hb⟩
    have HZ := Lib.hid (bl_tr HA.out hb)
    clear hb HA
    go_wp2
    go_ret
    exact ⟨rfl, HZ.out⟩
end Go.Proofs.Ytbmpgafndpdnbaa
