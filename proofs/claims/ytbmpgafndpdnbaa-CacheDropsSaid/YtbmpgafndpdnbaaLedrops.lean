/- CacheDrops: its walk. -/
import Derived.Test.YtbmpgafndpdnbaaEza
namespace Go.Proofs.Ytbmpgafndpdnbaa
open Go.RowKit Go.Maps

theorem stay_step {is : List Int} {k : Nat} {q : Int → Bool} {x : Int} (hx : is[k]? = some x) : (is.take (k + 1)).filter (fun y => !q y) = (is.take k).filter (fun y => !q y) ++ (if q x then [] else [x]) := by
  obtain ⟨h1, e1⟩ := List.getElem?_eq_some_iff.1 hx
  rw [List.take_succ_eq_append_getElem h1, List.filter_append, e1]
  cases e : q x <;> simp [e]
theorem drop_keys (q : Int → Bool) (m : List IT) : (dropM q m).map Prod.fst = (m.map Prod.fst).filter (fun y => !q y) := by
  unfold dropM
  rw [List.filter_map]
  rfl
theorem goes_ne (n l x : Int) : ((x.tmod n + n).tmod n != l) = !goes n l x := rfl
set_option maxRecDepth 100000 in
set_option maxHeartbeats 16000000 in
theorem cdrops_walk (a : Option Addr) (ca : Nat) (ls : List AT) (r : Int) (t : AT) (w : World) (hr : RowA w a ls) :
    Calls Try.prog 6 #[.int .i64 r, .slice a ls.length ca, .agg #[.int .i64 t.d, .int .i64 t.k, .int .i64 t.v]] w fun e w' => e = .returned (.bool true) ∧ Below w.heap.size w w' := by
  have hmf : ∀ (fn : Fn) (first cap : Array Value) (w : World), (Instr.makeFunc fn first cap).run Try.prog w = .ok (.func fn first cap) w := fun _ _ _ _ => rfl
  obtain ⟨W0, hW0⟩ : ∃ W0, w.alloc (.cells #[.int .i64 t.d, .int .i64 t.k, .int .i64 t.v] 34) = W0 := ⟨_, rfl⟩
  have hB0 : Below w.heap.size w W0 := by rw [← hW0]; exact bl_al (bl0 w) _
  have h0 : Sep W0 w.heap.size ([] ++ [CellsO w.heap.size #[.int .i64 t.d, .int .i64 t.k, .int .i64 t.v] 34]) := by rw [← hW0]; exact (Sep.nil (Nat.le_refl _)).box _ _
  by_cases h1 : 1 ≤ r ∧ r ≤ 16
  · by_cases hl : 60 < ls.length
    · have hlI : (60 : Int) < (ls.length : Int) := by omega
      clear hr
      go_enter Try.func6, Try.ntmps6
      go_wp2_with fail
      refine (new_s1 h0 h1).mono ?_
      rintro e w1 ⟨p, rfl, hs1, hA⟩
      replace hA := bl_tr hB0 hA
      clear hs1 h0 h1 hW0 hB0
      have HA := Lib.hid hA
      clear hA
      go_wp2_with fail
      refine (awake16 _).mono ?_
      rintro e w9 ⟨rfl, hb⟩
      have HZ := Lib.hid (bl_tr HA.out hb)
      clear hb HA
      go_wp2
      go_ret
      exact ⟨rfl, HZ.out⟩
    · have hl1 : (ls.length : Int) ≤ 60 := by omega
      have hl2 : ls.length ≤ 60 := by omega
      have hl3 : decide ((60 : Int) < (ls.length : Int)) = false := decide_eq_false (by omega)
      have H1 := Lib.hid h1
      have HR := Lib.hid hr
      clear hr hl
      go_enter Try.func6, Try.ntmps6
      go_wp2_with fail
      refine (new_s1 h0 h1).mono ?_
      rintro e w1 ⟨p, rfl, hs1, hA⟩
      have HA := Lib.hid (bl_tr hB0 hA)
      obtain ⟨O1, hO1⟩ : ∃ O1, CellsO w.heap.size #[.int .i64 t.d, .int .i64 t.k, .int .i64 t.v] 34 = O1 := ⟨_, rfl⟩
      rw [hO1] at hs1
      have HO1 := Lib.hid hO1
      have HS := Lib.hid (show Sep w1 w.heap.size ([O1] ++ CO Try.c1 p r [] :: []) from hs1)
      clear hs1 h0 h1 hA hW0 hB0 hO1
      go_wp2_with fail
      go_loopw [9] (fun i wr => ∃ (k : Nat) (m : List IT), k ≤ ls.length ∧ i = .int .i64 k ∧ Hid (Fit r m) ∧ Hid (Sep wr w.heap.size ([O1] ++ CO Try.c1 p r m :: [])) ∧ Hid (Below w.heap.size w wr)) (fun i _ => ls.length - (intOf i).toNat)
      case atStart => exact ⟨0, [], Nat.zero_le _, rfl, Lib.hid (Fit.nil H1.out.1), HS, HA⟩
      case round =>
        obtain ⟨k, m, hk, rfl, HM, HSr, HAr⟩ := hrel
        have hk0 : (0 : Int) ≤ (k : Int) := by omega
        have hm16 := HM.out.small H1.out.2
        by_cases hlt : k < ls.length
        · have hlt2 : (k : Int) < (ls.length : Int) := by omega
          obtain ⟨z, hz⟩ : ∃ z, ls[k]? = some z := ⟨_, List.getElem?_eq_getElem (by omega)⟩
          obtain ⟨b, o, rfl, c0, c1, c2⟩ := (HR.out.below HAr.out).at hz
          have zc := blk_lt c1
          have HZ := Lib.hid hz
          have hD := bl_dr (bl0 wr)
          have HM2 := Lib.hid (HM.out.put (k := z.k) (x := z.v) H1.out.1)
          have hcall := put_s1 z.k z.v (HSr.out.below hD) (by omega) H1.out.1
          generalize goneK r z.k m = g1 at hcall
          generalize fullB r z.k m = g2 at hcall
          generalize putM r z.k z.v m = m2 at *
          clear c0 HM hm16 hz
          go_upto_region 7 with fail
          refine (wpIn_wide (n := 11)).1 ?_
          refine ordS_begin (S := (fun w' : World => w'.cell? ⟨b, o + k * 3 + 1, none⟩ = some (.int .i64 z.k) ∧ w'.cell? ⟨b, o + k * 3 + 2, none⟩ = some (.int .i64 z.v))) (by kernel_rfl) ⟨cell_later hD c1, cell_later hD c2⟩ (fun hH => ?_)
          refine' ordS_take (i := 0) (oi := { dst := some 49, op := Op.move (Operand.tmp 7), type := 23, pos := _, after := #[], guard := none }) (v := _) rfl (by kernel_rfl) (by kernel_rfl) (by kernel_rfl) (by kernel_rfl) (fun _ _ _ h => h) (by assumption) (Or.inl ⟨by rfl, ?hy1⟩) (fun _ => rfl) ?rest1
          case hy1 => (intro w hSw; (try dsimp only at hSw); go_simp; try with_reducible rfl)
          try simp only [Act.put, List.setIfInBounds_toArray, List.set_cons_zero, List.set_cons_succ]
          refine' ordS_take (i := 1) (oi := { dst := some 50, op := Op.move (Operand.tmp 1), type := 22, pos := _, after := #[], guard := none }) (v := _) rfl (by kernel_rfl) (by kernel_rfl) (by kernel_rfl) (by kernel_rfl) (fun _ _ _ h => h) (by assumption) (Or.inl ⟨by rfl, ?hy2⟩) (fun _ => rfl) ?rest2
          case hy2 => (intro w hSw; (try dsimp only at hSw); go_simp; try with_reducible rfl)
          try simp only [Act.put, List.setIfInBounds_toArray, List.set_cons_zero, List.set_cons_succ]
          refine' ordS_take (i := 2) (oi := { dst := some 51, op := Op.move (Operand.tmp 9), type := 3, pos := _, after := #[], guard := none }) (v := _) rfl (by kernel_rfl) (by kernel_rfl) (by kernel_rfl) (by kernel_rfl) (fun _ _ _ h => h) (by assumption) (Or.inl ⟨by rfl, ?hy3⟩) (fun _ => rfl) ?rest3
          case hy3 => (intro w hSw; (try dsimp only at hSw); go_simp; try with_reducible rfl)
          try simp only [Act.put, List.setIfInBounds_toArray, List.set_cons_zero, List.set_cons_succ]
          refine' ordS_take (i := 3) (oi := { dst := some 52, op := Op.indexAddr 22 (Operand.tmp 50) (Operand.tmp 51), type := 0, pos := _, after := #[{ on := 1, ground := Ground.data }, { on := 2, ground := Ground.data }], guard := none }) (v := _) rfl (by kernel_rfl) (by kernel_rfl) (by kernel_rfl) (by kernel_rfl) (fun _ _ _ h => h) (by assumption) (Or.inl ⟨by rfl, ?hy4⟩) (fun _ => rfl) ?rest4
          case hy4 => (intro w hSw; (try dsimp only at hSw); go_simp; try with_reducible rfl)
          try simp only [Act.put, List.setIfInBounds_toArray, List.set_cons_zero, List.set_cons_succ]
          refine' ordS_take (i := 4) (oi := { dst := some 53, op := Op.fieldAddr 34 (Operand.tmp 52) 1, type := 0, pos := _, after := #[{ on := 3, ground := Ground.data }], guard := none }) (v := _) rfl (by kernel_rfl) (by kernel_rfl) (by kernel_rfl) (by kernel_rfl) (fun _ _ _ h => h) (by assumption) (Or.inl ⟨by rfl, ?hy5⟩) (fun _ => rfl) ?rest5
          case hy5 => (intro w hSw; (try dsimp only at hSw); go_simp; try with_reducible rfl)
          try simp only [Act.put, List.setIfInBounds_toArray, List.set_cons_zero, List.set_cons_succ]
          refine' ordS_take (i := 5) (oi := { dst := some 54, op := Op.load 3 (Operand.tmp 53), type := 3, pos := _, after := #[{ on := 4, ground := Ground.data }], guard := none }) (v := _) rfl (by kernel_rfl) (by kernel_rfl) (by kernel_rfl) (by kernel_rfl) (fun _ _ _ h => h) (by assumption) (Or.inl ⟨by rfl, ?hy6⟩) (fun _ => rfl) ?rest6
          case hy6 => (intro w hSw; (try dsimp only at hSw); go_simp; try with_reducible rfl)
          try simp only [Act.put, List.setIfInBounds_toArray, List.set_cons_zero, List.set_cons_succ]
          refine' ordS_take (i := 6) (oi := { dst := some 55, op := Op.move (Operand.tmp 1), type := 22, pos := _, after := #[], guard := none }) (v := _) rfl (by kernel_rfl) (by kernel_rfl) (by kernel_rfl) (by kernel_rfl) (fun _ _ _ h => h) (by assumption) (Or.inl ⟨by rfl, ?hy7⟩) (fun _ => rfl) ?rest7
          case hy7 => (intro w hSw; (try dsimp only at hSw); go_simp; try with_reducible rfl)
          try simp only [Act.put, List.setIfInBounds_toArray, List.set_cons_zero, List.set_cons_succ]
          refine' ordS_take (i := 7) (oi := { dst := some 56, op := Op.move (Operand.tmp 9), type := 3, pos := _, after := #[], guard := none }) (v := _) rfl (by kernel_rfl) (by kernel_rfl) (by kernel_rfl) (by kernel_rfl) (fun _ _ _ h => h) (by assumption) (Or.inl ⟨by rfl, ?hy8⟩) (fun _ => rfl) ?rest8
          case hy8 => (intro w hSw; (try dsimp only at hSw); go_simp; try with_reducible rfl)
          try simp only [Act.put, List.setIfInBounds_toArray, List.set_cons_zero, List.set_cons_succ]
          refine' ordS_take (i := 8) (oi := { dst := some 57, op := Op.indexAddr 22 (Operand.tmp 55) (Operand.tmp 56), type := 0, pos := _, after := #[{ on := 6, ground := Ground.data }, { on := 7, ground := Ground.data }], guard := none }) (v := _) rfl (by kernel_rfl) (by kernel_rfl) (by kernel_rfl) (by kernel_rfl) (fun _ _ _ h => h) (by assumption) (Or.inl ⟨by rfl, ?hy9⟩) (fun _ => rfl) ?rest9
          case hy9 => (intro w hSw; (try dsimp only at hSw); go_simp; try with_reducible rfl)
          try simp only [Act.put, List.setIfInBounds_toArray, List.set_cons_zero, List.set_cons_succ]
          refine' ordS_take (i := 9) (oi := { dst := some 58, op := Op.fieldAddr 34 (Operand.tmp 57) 2, type := 0, pos := _, after := #[{ on := 8, ground := Ground.data }], guard := none }) (v := _) rfl (by kernel_rfl) (by kernel_rfl) (by kernel_rfl) (by kernel_rfl) (fun _ _ _ h => h) (by assumption) (Or.inl ⟨by rfl, ?hy10⟩) (fun _ => rfl) ?rest10
          case hy10 => (intro w hSw; (try dsimp only at hSw); go_simp; try with_reducible rfl)
          try simp only [Act.put, List.setIfInBounds_toArray, List.set_cons_zero, List.set_cons_succ]
          refine' ordS_take (i := 10) (oi := { dst := some 59, op := Op.load 3 (Operand.tmp 58), type := 3, pos := _, after := #[{ on := 9, ground := Ground.data }], guard := none }) (v := _) rfl (by kernel_rfl) (by kernel_rfl) (by kernel_rfl) (by kernel_rfl) (fun _ _ _ h => h) (by assumption) (Or.inl ⟨by rfl, ?hy11⟩) (fun _ => rfl) ?rest11
          case hy11 => (intro w hSw; (try dsimp only at hSw); go_simp; try with_reducible rfl)
          try simp only [Act.put, List.setIfInBounds_toArray, List.set_cons_zero, List.set_cons_succ]
          refine ordS_one (i := 11) (o := { dst := some 60, op := Op.call { callee := Callee.value (Operand.func 20), args := #[Operand.tmp 49, Operand.tmp 54, Operand.tmp 59], argTypes := #[23, 3, 3] }, type := 35, pos := _, after := #[{ on := 0, ground := Ground.data }, { on := 5, ground := Ground.data }, { on := 10, ground := Ground.data }], guard := none }) (by kernel_rfl) rfl (by rfl) (fun K hK => ?_)
          go_simp
          refine ⟨trivial, ?_⟩
          refine callsIn_wide.2 (hcall.mono ?_)
          rintro e W2 ⟨rfl, hs2, hb2⟩
          have hA2 := (bl_tr HAr.out hD).trans hb2
          obtain ⟨b3, o3, e2, _, d1, d2⟩ := (HR.out.below hA2).at HZ.out
          injection e2 with e3; injection e3 with e4 e5 _; subst e4; subst e5
          refine hK _ _ ⟨d1, d2⟩ ?_
          have HS2 := Lib.hid hs2
          have HA2 := Lib.hid hA2
          clear hK K hH c1 c2 hb2 hD hcall d1 d2 hs2 hA2
          try simp only [Act.put, List.setIfInBounds_toArray, List.set_cons_zero, List.set_cons_succ]
          refine ordS_done (by kernel_rfl) ?_
          go_wp2
          go_roundw
          case rel => exact ⟨k + 1, m2, by omega, by go_num, HM2, HS2, HA2⟩
          case measure => simp [intOf]; omega
        obtain rfl : k = ls.length := by omega
        have hge : ¬ (ls.length : Int) < (ls.length : Int) := by omega
        have hcall := keys_k1 HSr.out (by omega)
        clear HSr HS HA
        go_wp2_with fail
        refine hcall.mono ?_
        rintro e W2 ⟨g1, rfl, hs2, hb2⟩
        have HA2 := Lib.hid (bl_tr HAr.out hb2)
        have HS2 := Lib.hid hs2
        have hcb : W2.heap[w.heap.size]? = some (.cells #[.int .i64 t.d, .int .i64 t.k, .int .i64 t.v] 34 (0, 0)) := by
          have := hs2
          rw [← HO1.out] at this
          exact (Sep.cells (l1 := []) this).1
        have e0 : W2.cell? ⟨w.heap.size, 0, none⟩ = some (.int .i64 t.d) := by simp [World.cell?, hcb]
        have e1 : W2.cell? ⟨w.heap.size, 1, none⟩ = some (.int .i64 t.k) := by simp [World.cell?, hcb]
        have e2 : W2.cell? ⟨w.heap.size, 2, none⟩ = some (.int .i64 t.v) := by simp [World.cell?, hcb]
        have ze := blk_lt e0
        have HN := Lib.hid (byN_in t)
        have hby := by16_any t W2
        generalize byN t = n at *
        generalize byL t = lf at *
        clear hs2 hb2 HAr hcall hcb
        go_wp2_with fail
        refine hby.mono ?_
        rintro e W3 ⟨rfl, hb3⟩
        have HS3 := Lib.hid (HS2.out.below hb3)
        have HA3 := Lib.hid (bl_tr HA2.out hb3)
        clear hb3 hby e0 e1 e2 ze HS2 HA2
        go_upto_region 11 with fail
        obtain ⟨W4, hW4⟩ : ∃ W4, (W3.alloc (.cells #[.int .i64 n] 3)).alloc (.cells #[.int .i64 lf] 3) = W4 := ⟨_, rfl⟩
        obtain ⟨Q, hQ⟩ : ∃ Q, W3.heap.size = Q := ⟨_, rfl⟩
        have hs4 := (HS3.out.box #[.int .i64 n] 3).box #[.int .i64 lf] 3
        rw [World.size_alloc, hW4, hQ] at hs4
        have HA4 := Lib.hid (show Below w.heap.size w W4 from by rw [← hW4]; exact bl_al (bl_al HA3.out _) _)
        rw [hW4, hQ]
        obtain ⟨O2, hO2⟩ : ∃ O2, CellsO Q #[.int .i64 n] 3 = O2 := ⟨_, rfl⟩
        obtain ⟨O3, hO3⟩ : ∃ O3, CellsO (Q + 1) #[.int .i64 lf] 3 = O3 := ⟨_, rfl⟩
        rw [hO2, hO3] at hs4
        have HO2 := Lib.hid hO2
        have HO3 := Lib.hid hO3
        have HS4 := Lib.hid (show Sep W4 w.heap.size ([O1, CO Try.c1 p r m, KO g1 m, O2, O3] ++ RowO 3 1 (.slice none 0 0) ([] : List Int).length (cellsI []) :: []) from Sep.nilrow (by simpa using hs4))
        obtain ⟨hn1, hn2⟩ := HN.out
        have hn0 : ¬ n = 0 := by omega
        clear hs4 hW4 hQ hO2 hO3 HS3 HA3
        go_wp2_with fail
        go_loopw [13, 14] (fun s i wr => ∃ (j : Nat) (sts : List Int), j ≤ m.length ∧ i = .int .i64 j ∧ Hid (sts = ((m.map Prod.fst).take j).filter (fun x => !goes n lf x)) ∧ Hid (Sep wr w.heap.size ([O1, CO Try.c1 p r m, KO g1 m, O2, O3] ++ RowO 3 1 s sts.length (cellsI sts) :: [])) ∧ Hid (Below w.heap.size w wr)) (fun _ i _ => m.length - (intOf i).toNat)
        case atStart => exact ⟨0, [], Nat.zero_le _, rfl, Lib.hid (by simp), HS4, HA4⟩
        case round =>
          obtain ⟨j, sts, hj, rfl, HST, HSj, HAj⟩ := hrel
          have hj0 : (0 : Int) ≤ (j : Int) := by omega
          have hstl : sts.length ≤ j := by
            have := HST.out
            rw [this]
            exact Nat.le_trans (List.length_filter_le _ _) (by rw [List.length_take]; omega)
          obtain ⟨sa, sc, rfl, hsl, hsc, hsr⟩ := Sep.rowv HSj.out
          have hq1 : wr.heap[Q]? = some (.cells #[.int .i64 n] 3 (0, 0)) := by
            have := HSj.out
            rw [← HO2.out] at this
            exact (Sep.cells (l1 := [O1, CO Try.c1 p r m, KO g1 m]) this).1
          have hq2 : wr.heap[Q + 1]? = some (.cells #[.int .i64 lf] 3 (0, 0)) := by
            have := HSj.out
            rw [← HO3.out] at this
            exact (Sep.cells (l1 := [O1, CO Try.c1 p r m, KO g1 m, O2]) this).1
          have e1 : wr.cell? ⟨Q, 0, none⟩ = some (.int .i64 n) := by simp [World.cell?, hq1]
          have e2 : wr.cell? ⟨Q + 1, 0, none⟩ = some (.int .i64 lf) := by simp [World.cell?, hq2]
          clear hq1 hq2
          by_cases hjl : j < m.length
          · have hj2 : (j : Int) < (m.length : Int) := by omega
            obtain ⟨x, hx⟩ : ∃ x, (m.map Prod.fst)[j]? = some x := ⟨_, List.getElem?_eq_getElem (by rw [List.length_map]; exact hjl)⟩
            have d0 := (KO.row (l1 := [O1, CO Try.c1 p r m]) (l2 := O2 :: O3 :: RowO 3 1 (.slice sa sts.length sc) sts.length (cellsI sts) :: []) HSj.out).cell hx
            rw [Nat.zero_add] at d0
            have hst := stay_step (q := goes n lf) hx
            rw [← HST.out] at hst
            have HST2 := Lib.hid hst
            have k1 := tmod_lt (x := x) hn1
            have k3 := tmod_lt (x := x.tmod n + n) hn1
            have v1 : IntKind.i64.wrap (x.tmod n) = x.tmod n := IntWalk.i64_in _ (by omega)
            have v2 : IntKind.i64.wrap (x.tmod n + n) = x.tmod n + n := IntWalk.i64_in _ (by omega)
            have v3 : IntKind.i64.wrap ((x.tmod n + n).tmod n) = (x.tmod n + n).tmod n := IntWalk.i64_in _ (by omega)
            have hgn := goes_ne n lf x
            have hD := bl_dr (bl0 wr)
            have d1 := cell_later hD d0
            clear hst hx k1 k3 hsl hsc hsr
            go_upto_region 14 with fail
            refine (wpIn_wide (n := 11)).1 ?_
            refine ordS_begin (S := (fun w' : World => w'.cell? ⟨g1, j, none⟩ = some (.int .i64 x) ∧ w'.cell? ⟨Q, 0, none⟩ = some (.int .i64 n) ∧ w'.cell? ⟨Q + 1, 0, none⟩ = some (.int .i64 lf))) (by kernel_rfl) ⟨d1, cell_later hD e1, cell_later hD e2⟩ (fun hH => ?_)
            refine' ordS_take (i := 0) (oi := { dst := some 74, op := Op.move (Operand.tmp 10), type := 47, pos := _, after := #[], guard := none }) (v := _) rfl (by kernel_rfl) (by kernel_rfl) (by kernel_rfl) (by kernel_rfl) (fun _ _ _ h => h) (by assumption) (Or.inl ⟨by rfl, ?hy12⟩) (fun _ => rfl) ?rest12
            case hy12 => (intro w hSw; (try dsimp only at hSw); go_simp; try with_reducible rfl)
            try simp only [Act.put, List.setIfInBounds_toArray, List.set_cons_zero, List.set_cons_succ]
            refine' ordS_take (i := 1) (oi := { dst := some 75, op := Op.move (Operand.tmp 14), type := 3, pos := _, after := #[], guard := none }) (v := _) rfl (by kernel_rfl) (by kernel_rfl) (by kernel_rfl) (by kernel_rfl) (fun _ _ _ h => h) (by assumption) (Or.inl ⟨by rfl, ?hy13⟩) (fun _ => rfl) ?rest13
            case hy13 => (intro w hSw; (try dsimp only at hSw); go_simp; try with_reducible rfl)
            try simp only [Act.put, List.setIfInBounds_toArray, List.set_cons_zero, List.set_cons_succ]
            refine' ordS_take (i := 2) (oi := { dst := some 76, op := Op.indexAddr 47 (Operand.tmp 74) (Operand.tmp 75), type := 0, pos := _, after := #[{ on := 0, ground := Ground.data }, { on := 1, ground := Ground.data }], guard := none }) (v := _) rfl (by kernel_rfl) (by kernel_rfl) (by kernel_rfl) (by kernel_rfl) (fun _ _ _ h => h) (by assumption) (Or.inl ⟨by rfl, ?hy14⟩) (fun _ => rfl) ?rest14
            case hy14 => (intro w hSw; (try dsimp only at hSw); go_simp; try with_reducible rfl)
            try simp only [Act.put, List.setIfInBounds_toArray, List.set_cons_zero, List.set_cons_succ]
            refine' ordS_take (i := 3) (oi := { dst := some 77, op := Op.load 3 (Operand.tmp 76), type := 3, pos := _, after := #[{ on := 2, ground := Ground.data }], guard := none }) (v := _) rfl (by kernel_rfl) (by kernel_rfl) (by kernel_rfl) (by kernel_rfl) (fun _ _ _ h => h) (by assumption) (Or.inl ⟨by rfl, ?hy15⟩) (fun _ => rfl) ?rest15
            case hy15 => (intro w hSw; (try dsimp only at hSw); go_simp; try with_reducible rfl)
            try simp only [Act.put, List.setIfInBounds_toArray, List.set_cons_zero, List.set_cons_succ]
            refine' ordS_take (i := 4) (oi := { dst := some 78, op := Op.load 3 (Operand.tmp 11), type := 3, pos := _, after := #[], guard := none }) (v := _) rfl (by kernel_rfl) (by kernel_rfl) (by kernel_rfl) (by kernel_rfl) (fun _ _ _ h => h) (by assumption) (Or.inl ⟨by rfl, ?hy16⟩) (fun _ => rfl) ?rest16
            case hy16 => (intro w hSw; (try dsimp only at hSw); go_simp; try with_reducible rfl)
            try simp only [Act.put, List.setIfInBounds_toArray, List.set_cons_zero, List.set_cons_succ]
            refine' ordS_take (i := 6) (oi := { dst := some 80, op := Op.load 3 (Operand.tmp 11), type := 3, pos := _, after := #[], guard := none }) (v := _) rfl (by kernel_rfl) (by kernel_rfl) (by kernel_rfl) (by kernel_rfl) (fun _ _ _ h => h) (by assumption) (Or.inl ⟨by rfl, ?hy17⟩) (fun _ => rfl) ?rest17
            case hy17 => (intro w hSw; (try dsimp only at hSw); go_simp; try with_reducible rfl)
            try simp only [Act.put, List.setIfInBounds_toArray, List.set_cons_zero, List.set_cons_succ]
            refine' ordS_take (i := 8) (oi := { dst := some 82, op := Op.load 3 (Operand.tmp 11), type := 3, pos := _, after := #[], guard := none }) (v := _) rfl (by kernel_rfl) (by kernel_rfl) (by kernel_rfl) (by kernel_rfl) (fun _ _ _ h => h) (by assumption) (Or.inl ⟨by rfl, ?hy18⟩) (fun _ => rfl) ?rest18
            case hy18 => (intro w hSw; (try dsimp only at hSw); go_simp; try with_reducible rfl)
            try simp only [Act.put, List.setIfInBounds_toArray, List.set_cons_zero, List.set_cons_succ]
            refine' ordS_take (i := 10) (oi := { dst := some 84, op := Op.load 3 (Operand.tmp 12), type := 3, pos := _, after := #[], guard := none }) (v := _) rfl (by kernel_rfl) (by kernel_rfl) (by kernel_rfl) (by kernel_rfl) (fun _ _ _ h => h) (by assumption) (Or.inl ⟨by rfl, ?hy19⟩) (fun _ => rfl) ?rest19
            case hy19 => (intro w hSw; (try dsimp only at hSw); go_simp; try with_reducible rfl)
            try simp only [Act.put, List.setIfInBounds_toArray, List.set_cons_zero, List.set_cons_succ]
            refine' ordS_take (i := 5) (oi := { dst := some 79, op := Op.binOp BinOp.rem 3 (Operand.tmp 77) (Operand.tmp 78) 3, type := 3, pos := _, after := #[{ on := 3, ground := Ground.data }, { on := 4, ground := Ground.data }], guard := none }) (v := _) rfl (by kernel_rfl) (by kernel_rfl) (by kernel_rfl) (by kernel_rfl) (fun _ _ _ h => h) (by assumption) (Or.inl ⟨by rfl, ?hy20⟩) (fun _ => rfl) ?rest20
            case hy20 => (intro w hSw; (try dsimp only at hSw); go_simp; try with_reducible rfl)
            try simp only [Act.put, List.setIfInBounds_toArray, List.set_cons_zero, List.set_cons_succ]
            refine' ordS_take (i := 7) (oi := { dst := some 81, op := Op.binOp BinOp.add 3 (Operand.tmp 79) (Operand.tmp 80) 3, type := 3, pos := _, after := #[{ on := 5, ground := Ground.data }, { on := 6, ground := Ground.data }], guard := none }) (v := _) rfl (by kernel_rfl) (by kernel_rfl) (by kernel_rfl) (by kernel_rfl) (fun _ _ _ h => h) (by assumption) (Or.inl ⟨by rfl, ?hy21⟩) (fun _ => rfl) ?rest21
            case hy21 => (intro w hSw; (try dsimp only at hSw); go_simp; try with_reducible rfl)
            try simp only [Act.put, List.setIfInBounds_toArray, List.set_cons_zero, List.set_cons_succ]
            refine' ordS_take (i := 9) (oi := { dst := some 83, op := Op.binOp BinOp.rem 3 (Operand.tmp 81) (Operand.tmp 82) 3, type := 3, pos := _, after := #[{ on := 7, ground := Ground.data }, { on := 8, ground := Ground.data }], guard := none }) (v := _) rfl (by kernel_rfl) (by kernel_rfl) (by kernel_rfl) (by kernel_rfl) (fun _ _ _ h => h) (by assumption) (Or.inl ⟨by rfl, ?hy22⟩) (fun _ => rfl) ?rest22
            case hy22 => (intro w hSw; (try dsimp only at hSw); go_simp; try with_reducible rfl)
            try simp only [Act.put, List.setIfInBounds_toArray, List.set_cons_zero, List.set_cons_succ]
            refine' ordS_take (i := 11) (oi := { dst := some 85, op := Op.binOp BinOp.neq 3 (Operand.tmp 83) (Operand.tmp 84) 3, type := 4, pos := _, after := #[{ on := 9, ground := Ground.data }, { on := 10, ground := Ground.data }], guard := none }) (v := _) rfl (by kernel_rfl) (by kernel_rfl) (by kernel_rfl) (by kernel_rfl) (fun _ _ _ h => h) (by assumption) (Or.inl ⟨by rfl, ?hy23⟩) (fun _ => rfl) ?rest23
            case hy23 => (intro w hSw; (try dsimp only at hSw); go_simp; try with_reducible rfl)
            try simp only [Act.put, List.setIfInBounds_toArray, List.set_cons_zero, List.set_cons_succ]
            refine ordS_done (by kernel_rfl) ?_
            obtain ⟨W5, hW5⟩ : ∃ W5, wr.drew = W5 := ⟨_, rfl⟩
            rw [hW5] at hD d1 ⊢
            have zd := blk_lt d1
            have HS5 := Lib.hid (HSj.out.below hD)
            have HA5 := Lib.hid (bl_tr HAj.out hD)
            clear hH d0 hW5 hD e1 e2 v1 v2 v3
            cases hg : goes n lf x
            · rw [hg] at hgn
              have HE : Hid (sts ++ [x] = ((m.map Prod.fst).take (j + 1)).filter (fun x => !goes n lf x)) := Lib.hid (by rw [HST2.out, hg]; rfl)
              have hS := HS5.out
              clear hg HST2
              go_wp2_with (at_builtin; refine wpList_append_intv (W := W5) rfl _ _ rfl x (by rfl) (l1 := [O1, CO Try.c1 p r m, KO g1 m, O2, O3]) (l2 := []) (n := sts.length) (is := sts) (B := w.heap.size) hS (by omega) (by rfl) W5.heap.size (by rfl) (by rfl) ?_)
              intro v' W6 h6 hb6
              have H6 := Lib.hid (show Sep W6 w.heap.size ([O1, CO Try.c1 p r m, KO g1 m, O2, O3] ++ RowO 3 1 v' (sts ++ [x]).length (cellsI (sts ++ [x])) :: []) by rw [List.length_append]; exact h6)
              have HB6 := Lib.hid (HA5.out.trans hb6)
              clear h6 hb6 hS d1 zd
              go_wp2
              go_roundw
              case rel => exact ⟨j + 1, sts ++ [x], by omega, by go_num, HE, H6, HB6⟩
              case measure => simp [intOf]; omega
            · rw [hg] at hgn
              have HE : Hid (sts = ((m.map Prod.fst).take (j + 1)).filter (fun x => !goes n lf x)) := Lib.hid (by rw [HST2.out, hg]; simp)
              clear hg HST2 d1 zd
              go_wp2
              go_roundw
              case rel => exact ⟨j + 1, sts, by omega, by go_num, HE, HS5, HA5⟩
              case measure => simp [intOf]; omega
          obtain rfl : j = m.length := by omega
          have hge2 : ¬ (m.length : Int) < (m.length : Int) := by omega
          have hst := HST.out
          rw [List.take_of_length_le (by rw [List.length_map]; exact Nat.le_refl _), ← drop_keys] at hst
          have hdl : sts.length = (dropM (goes n lf) m).length := by rw [hst, List.length_map]
          have hdle := dropM_le (goes n lf) m
          have hcall : Calls Try.prog 17 #[.pointer (some ⟨p, 0, none⟩), .func (.func 33) #[] #[.pointer (some ⟨Q, 0, none⟩), .pointer (some ⟨Q + 1, 0, none⟩)]] wr _ :=
            (show Sep wr w.heap.size ([O1] ++ CO Try.c1 p r m :: [KO g1 m, O2, O3, RowO 3 1 (.slice sa sts.length sc) sts.length (cellsI sts)]) from HSj.out).op (fun S hS => drop_d1 (.pointer (some ⟨Q, 0, none⟩)) (.pointer (some ⟨Q + 1, 0, none⟩)) (goes n lf) p r m S wr hS (by omega) (fun x W' hb => goes_d n lf x Q (Q + 1) W' hn1 hn2 (cell_later hb e1) (cell_later hb e2)))
          have HF2 := Lib.hid (HM.out.drop (goes n lf))
          obtain ⟨m2, hm2⟩ : ∃ m2, dropM (goes n lf) m = m2 := ⟨_, rfl⟩
          rw [hm2] at hst hdl hdle hcall HF2
          have hwl : IntKind.i64.wrap ((m.length : Int) - (m2.length : Int)) = (m.length : Int) - (m2.length : Int) := IntWalk.i64_in _ (by omega)
          have HKE := Lib.hid hst
          rw [hdl] at hcall ⊢
          clear hst hsl hsc hsr e1 e2 hn0 hm2 HS4 HA4 HSj
          go_wp2_with fail
          refine hcall.mono ?_
          rintro e W5 ⟨rfl, hs5, hb5⟩
          have HA5 := Lib.hid (HAj.out.trans hb5)
          have hcall := keys_k1 hs5 (by omega)
          clear hs5 hb5 hstl
          go_wp2_with fail
          refine hcall.mono ?_
          rintro e W6 ⟨g2, rfl, hs6, hb6⟩
          have HA6 := Lib.hid (bl_tr HA5.out hb6)
          have hrk := KO.row (l1 := [O1, CO Try.c1 p r m2, KO g1 m, O2, O3, RowO 3 1 (.slice sa m2.length sc) m2.length (cellsI sts)]) (l2 := []) hs6
          have hrs := Sep.rowI (l1 := [O1, CO Try.c1 p r m2, KO g1 m, O2, O3]) (l2 := [KO g2 m2]) hs6 hdl
          have hrw := KO.row (l1 := [O1, CO Try.c1 p r m2]) (l2 := [O2, O3, RowO 3 1 (.slice sa m2.length sc) m2.length (cellsI sts), KO g2 m2]) hs6
          have hcall := ints_any (some ⟨g2, 0, none⟩) sa m2.length sc (m2.map Prod.fst) sts W6 (by rw [List.length_map]; omega) (by omega) hrk hrs
          rw [decide_eq_true HKE.out.symm, List.length_map, hdl] at hcall
          have HS6 := Lib.hid hs6
          have HRS := Lib.hid hrs
          have HRW := Lib.hid hrw
          clear hs6 hb6 hrk hrs hrw
          go_wp2_with fail
          refine hcall.mono ?_
          rintro e W7 ⟨rfl, hb7⟩
          have HA7 := Lib.hid (bl_tr HA6.out hb7)
          have hcall := drop_n1 p W7
          have HB7 := Lib.hid hb7
          clear hb7
          go_wp2_with fail
          refine hcall.mono ?_
          rintro e W8 ⟨rfl, hb8⟩
          have HA8 := Lib.hid (bl_tr HA7.out hb8)
          have HB8 := Lib.hid (bl_tr HB7.out hb8)
          have HS8 := Lib.hid (HS6.out.below HB8.out)
          have hcall := len_s1 HS8.out
          clear hb8
          go_wp2_with fail
          refine hcall.mono ?_
          rintro e W9 ⟨rfl, rfl⟩
          have HRS9 := Lib.hid (HRS.out.below HB8.out)
          have HRW9 := Lib.hid (HRW.out.below HB8.out)
          clear hcall HS6 HRS HRW HB7 HB8
          go_wp2_with fail
          go_loopw [16] (fun i wr => ∃ j : Nat, j ≤ m.length ∧ i = .int .i64 j ∧ Hid (Below W9.heap.size W9 wr)) (fun i _ => m.length - (intOf i).toNat)
          case atStart => exact ⟨0, Nat.zero_le _, rfl, Lib.hid (bl0 _)⟩
          case round =>
            obtain ⟨j, hj, rfl, HB⟩ := hrel
            have hj0 : (0 : Int) ≤ (j : Int) := by omega
            by_cases hjl : j < m.length
            · have hj2 : (j : Int) < (m.length : Int) := by omega
              obtain ⟨x, hx⟩ : ∃ x, (m.map Prod.fst)[j]? = some x := ⟨_, List.getElem?_eq_getElem (by rw [List.length_map]; exact hjl)⟩
              have d0 := HRW9.out.cell hx
              rw [Nat.zero_add] at d0
              have D0 := Lib.hid d0
              have d1 := cell_later HB.out d0
              have zd := blk_lt d1
              have hcall := peek_s1 x (HS8.out.below HB.out) (by omega)
              rw [findI_mem, ← HKE.out] at hcall
              generalize peekV x m2 = pv at hcall
              clear hx d0
              go_wp2_with fail
              refine hcall.mono ?_
              rintro e W10 ⟨rfl, hs10, hb10⟩
              have HB10 := Lib.hid (bl_tr HB.out hb10)
              clear hs10 hb10 hcall d1 zd
              have d1 := cell_later HB10.out D0.out
              have zd := blk_lt d1
              have hin := in16_any sa sc sts x W10 (by omega) (HRS9.out.below HB10.out)
              rw [hdl] at hin
              generalize decide (x ∈ sts) = tt at *
              go_wp2_with fail
              refine hin.mono ?_
              rintro e W11 ⟨rfl, rfl⟩
              have hne : (tt != tt) = false := by cases tt <;> rfl
              clear hin d1 zd
              go_wp2
              go_roundw
              case rel => exact ⟨j + 1, by omega, by go_num, HB10⟩
              case measure => simp [intOf]; omega
            obtain rfl : j = m.length := by omega
            have hge3 : ¬ (m.length : Int) < (m.length : Int) := by omega
            have hA := bl_tr HA8.out HB.out
            clear HRS9 HRW9 HS8 HB HA8
            have HA := Lib.hid hA
            clear hA
            go_wp2_with fail
            refine (awake16 _).mono ?_
            rintro e w9 ⟨rfl, hb⟩
            have HZ := Lib.hid (bl_tr HA.out hb)
            clear hb HA
            go_wp2
            go_ret
            exact ⟨rfl, HZ.out⟩
  · clear hr
    go_enter Try.func6, Try.ntmps6
    go_wp2_with fail
    refine (new_n1 r h1 W0).mono ?_
    rintro e w1 ⟨rfl, hA⟩
    replace hA := bl_tr hB0 hA
    clear h0 h1 hW0 hB0
    have HA := Lib.hid hA
    clear hA
    go_wp2_with fail
    refine (awake16 _).mono ?_
    rintro e w9 ⟨rfl, hb⟩
    have HZ := Lib.hid (bl_tr HA.out hb)
    clear hb HA
    go_wp2
    go_ret
    exact ⟨rfl, HZ.out⟩
end Go.Proofs.Ytbmpgafndpdnbaa
