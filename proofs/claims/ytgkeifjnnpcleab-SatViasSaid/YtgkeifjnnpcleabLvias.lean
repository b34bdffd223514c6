/- SatVias: the law's walk. -/
import Derived.Test.YtgkeifjnnpcleabUs
namespace Go.Proofs.Ytgkeifjnnpcleab
open Go.RowKit

set_option maxRecDepth 100000 in
set_option maxHeartbeats 8000000 in
theorem vias_walk (a t u : Option Addr) (ca ct cu : Nat) (xs : List Int) (ts us : List (Option Addr × Nat × List Int)) (w : World) (ra : RowU w a xs) (rt : TabU w t ts) (ru : TabU w u us) (ux : AllU xs) (ut : AllT (rowsT ts)) (uu : AllT (rowsT us)) :
    Calls Try.prog 7 #[.slice a xs.length ca, .slice t ts.length ct, .slice u us.length cu] w fun e w' => e = .returned (.bool true) ∧ Below w.heap.size w w' := by
  obtain ⟨i0, hi, hz0, hz1, hz2⟩ := info_parts Try.infoU64
  obtain ⟨j0, hj, hy0, hy1, hy2⟩ := info_parts Try.infoRowU
  have HB := Lib.hid (bl0 w)
  have RA := Lib.hid ra
  have RT := Lib.hid rt
  have RU := Lib.hid ru
  clear ra rt ru
  go_enter Try.func7, Try.ntmps7
  by_cases l0 : (30 : Int) < (xs.length : Int)
  · skip
    go_wp2_with fail
    refine (awake_any _).mono ?_
    rintro e w99 ⟨rfl, hb⟩
    replace HB := Lib.hid (bl_tr HB.out hb)
    clear hb
    go_wp2
    go_ret
    exact ⟨rfl, HB.out⟩
  · go_wp2_with fail
    with_reducible refine (small_any t ct ts w RT.out).mono ?_
    rintro e w' ⟨rfl, rfl⟩
    cases hs : smallT (rowsT ts)
    · skip
      go_wp2_with fail
      refine (awake_any _).mono ?_
      rintro e w99 ⟨rfl, hb⟩
      replace HB := Lib.hid (bl_tr HB.out hb)
      clear hb
      go_wp2
      go_ret
      exact ⟨rfl, HB.out⟩
    · go_wp2_with fail
      with_reducible refine (small_any u cu us w RU.out).mono ?_
      rintro e w' ⟨rfl, rfl⟩
      cases hs2 : smallT (rowsT us)
      · skip
        go_wp2_with fail
        refine (awake_any _).mono ?_
        rintro e w99 ⟨rfl, hb⟩
        replace HB := Lib.hid (bl_tr HB.out hb)
        clear hb
        go_wp2
        go_ret
        exact ⟨rfl, HB.out⟩
      · have lt : ts.length ≤ 30 := by have := (smallT_iff hs).1; rwa [rowsT_len] at this
        have lu : us.length ≤ 30 := by have := (smallT_iff hs2).1; rwa [rowsT_len] at this
        have lwt := wideT_small hs
        have lwu := wideT_small hs2
        have lx : xs.length ≤ 30 := by omega
        clear hs hs2 l0
        by_cases z1 : ts.length = 0
        · have y1 : ((ts.length : Int) == 0) = true := by rw [beq_iff_eq]; omega
          clear z1
          go_wp2_with fail
          refine (awake_any _).mono ?_
          rintro e w99 ⟨rfl, hb⟩
          replace HB := Lib.hid (bl_tr HB.out hb)
          clear hb
          go_wp2
          go_ret
          exact ⟨rfl, HB.out⟩
        · have y1 : ((ts.length : Int) == 0) = false := by rw [beq_eq_false_iff_ne]; omega
          by_cases z2 : us.length = 0
          · have y2 : ((us.length : Int) == 0) = true := by rw [beq_iff_eq]; omega
            clear z1 z2
            go_wp2_with fail
            refine (awake_any _).mono ?_
            rintro e w99 ⟨rfl, hb⟩
            replace HB := Lib.hid (bl_tr HB.out hb)
            clear hb
            go_wp2
            go_ret
            exact ⟨rfl, HB.out⟩
          · have y2 : ((us.length : Int) == 0) = false := by rw [beq_eq_false_iff_ne]; omega
            have pt : 0 < ts.length := by omega
            have pu : 0 < us.length := by omega
            clear z1 z2
            by_cases hk : viaOk xs (rowsT ts) = true
            · simp only [viaOk, Bool.and_eq_true, decide_eq_true_eq, rowsT_len] at hk
              obtain ⟨hxl, hev⟩ := hk
              have HXL := Lib.hid hxl
              have HEV := Lib.hid hev
              have UX := Lib.hid ux
              have UT := Lib.hid ut
              have UU := Lib.hid uu
              clear hxl hev ux ut uu
              go_wp2_with fail
              refine (via_new a t ca ct xs ts _ (by omega) (by omega) HXL.out HEV.out RA.out RT.out UX.out UT.out).mono ?_
              rintro e w1 ⟨g1, _, rfl, mx, hb⟩
              have MX := Lib.hid mx
              replace HB := Lib.hid (bl_tr HB.out hb)
              replace RA := Lib.hid (RA.out.below hb)
              replace RT := Lib.hid (RT.out.below hb)
              replace RU := Lib.hid (RU.out.below hb)
              clear hb mx
              have HXV := Lib.hid (viaC_len xs (rowsT ts))
              have HPT := Lib.hid (show 0 < (rowsT ts).length by rw [rowsT_len]; exact pt)
              have HXU := Lib.hid (viaC_all (show xs.length = (rowsT ts).length by rw [rowsT_len]; exact HXL.out) UX.out UT.out)
              obtain ⟨X, hX⟩ : ∃ X, viaC xs (rowsT ts) = X := ⟨_, rfl⟩
              rw [hX] at HXV HXU MX
              rw [hX]
              have HX := Lib.hid hX
              clear hX
              have lX : X.length ≤ 30 := by rw [HXV.out]; omega
              by_cases hk : X.length = us.length ∧ evenT (rowsT us) = true
              · obtain ⟨hul, heu⟩ := hk
                have HUL := Lib.hid hul
                have HEU := Lib.hid heu
                clear hul heu
                go_wp2_with fail
                refine (via_new _ u _ cu X us _ (by omega) (by omega) HUL.out HEU.out MX.out RU.out HXU.out UU.out).mono ?_
                rintro e w2 ⟨g2, _, rfl, my, hb⟩
                have MY := Lib.hid my
                replace MX := Lib.hid (MX.out.below hb)
                replace HB := Lib.hid (bl_tr HB.out hb)
                replace RA := Lib.hid (RA.out.below hb)
                replace RT := Lib.hid (RT.out.below hb)
                replace RU := Lib.hid (RU.out.below hb)
                clear hb my
                have HVV := Lib.hid (via_via HPT.out (show xs.length = (rowsT ts).length by rw [rowsT_len]; exact HXL.out) HEV.out (show (rowsT us).length = wideT (rowsT ts) by rw [rowsT_len, ← HUL.out]; exact HXV.out) UU.out UX.out)
                rw [HX.out] at HVV
                have l2t : (ts.length : Int) ≤ 30 := by omega
                have B0 := Lib.hid (bothIn_zero (w := w2) ts us)
                go_wp2
                go_loopw [11, 12] (fun v i wr => ∃ k : Nat, k ≤ ts.length ∧ i = .int .i64 k ∧ BothIn w2 ts us k v wr) (fun _ i _ => ts.length - (intOf i).toNat)
                case atStart => exact ⟨0, Nat.zero_le _, rfl, B0.out⟩
                case round =>
                  clear B0
                  obtain ⟨k, hk, rfl, hbo⟩ := hrel
                  have BO := Lib.hid hbo
                  clear hbo
                  by_cases hlt : k < ts.length
                  · have hlt2 : (k : Int) < (ts.length : Int) := by omega
                    have hk0 : (0 : Int) ≤ (k : Int) := by omega
                    obtain ⟨bt, ot, cz, dz, zs, ht, rfl, q, rq⟩ := RT.out.cell hlt
                    have HZ := Lib.hid (rowsT_at hlt ht)
                    have HZL := Lib.hid (show zs.length = us.length by rw [evenT_at HEV.out HZ.out, ← HXV.out, HUL.out])
                    have RZ := Lib.hid (rq.below BO.out.bel)
                    have UZ := Lib.hid (UT.out zs (List.mem_of_getElem? HZ.out))
                    have RU2 := Lib.hid (RU.out.below BO.out.bel)
                    replace q := cell_later BO.out.bel q
                    clear ht rq
                    go_wp2_with fail
                    refine (via_new _ u _ cu zs us _ (by rw [HZL.out]; omega) (by omega) HZL.out HEU.out RZ.out RU2.out UZ.out UU.out).mono ?_
                    rintro e w3 ⟨g3, hg3, rfl, mr, hb⟩
                    have MR := Lib.hid mr
                    have HG3 := Lib.hid hg3
                    have HB3 := Lib.hid hb
                    have hb3 := hb
                    clear mr hg3 hb q
                    obtain ⟨bs, _, _, h3, _, h5⟩ := BO.out
                    have hown := own_later h3 hb3
                    have hsz : w2.heap.size ≤ w3.heap.size := Nat.le_trans h5.size hb3.size
                    have H3 := Lib.hid h3
                    clear h3 h5 hb3
                    go_wp2_with (at_builtin; refine wpList_append_own_at _ rfl _ _ 35 rfl w2.heap.size 22 j0 (.slice none 0 0) 1 24 Try.underlying35 hj hy0 hy1 hy2 rfl (by decide) _ _ _ rfl (hown.alloc _) ⟨w3.heap.size, 0, none⟩ 1 1 [.slice (some ⟨g3, 0, none⟩) (viaC zs (rowsT us)).length (viaC zs (rowsT us)).length] rfl rfl ?c1 ?c2 ?c3 ?c4 ?c5 ?_)
                    case c1 => exact cell_one_new _ _ _
                    case c2 => intro u hu; simp at hu; rcases hu with rfl; rfl
                    case c3 => unfold maxLen; omega
                    case c4 => omega
                    case c5 => (rw [World.size_alloc]; omega)
                    intro v' w5 hown' hgrow _ hat
                    have hbn := BO.out.next HZ.out HG3.out MR.out HB3.out hgrow (by rw [World.size_alloc]; exact hat) (fun bs' hb' => by rw [own_unique hb' H3.out]; exact hown')
                    have HBN := Lib.hid hbn
                    clear hgrow hown hown' hat hbn
                    go_wp2
                    go_roundw
                    case rel => exact ⟨k + 1, by omega, by go_num, HBN.out⟩
                    case measure => simp [intOf]; omega
                  · have HKE := Lib.hid (show k = ts.length by omega)
                    have hge : (ts.length : Int) ≤ (k : Int) := by omega
                    obtain ⟨bs, q1, q2, q3, q4, q5⟩ := BO.out
                    have hb := q5
                    have HBS := Lib.hid (show rowsT bs = byT (rowsT ts) (rowsT us) by rw [q2, List.take_of_length_le (by rw [rowsT_len]; omega)])
                    have HBL := Lib.hid (show xs.length = bs.length by rw [HXL.out, q1]; omega)
                    rw [← q1] at q3
                    obtain ⟨zb, cb, hv, mb⟩ := tabU_of_own q3 (fun t ht => (q4 t ht).row)
                    rw [← HBL.out] at hv
                    subst hv
                    have MB := Lib.hid mb
                    replace MX := Lib.hid (MX.out.below hb)
                    replace MY := Lib.hid (MY.out.below hb)
                    replace HB := Lib.hid (bl_tr HB.out hb)
                    replace RA := Lib.hid (RA.out.below hb)
                    replace RT := Lib.hid (RT.out.below hb)
                    replace RU := Lib.hid (RU.out.below hb)
                    clear hb q1 q2 q3 q4 q5 mb BO
                    have BW := Lib.hid (byT_wide (rs := rowsT ts) (us := rowsT us) HPT.out)
                    have BE := Lib.hid (byT_even (rs := rowsT ts) (us := rowsT us) HPT.out)
                    have BA := Lib.hid (show AllT (byT (rowsT ts) (rowsT us)) from fun z hz => by
                      simp only [byT, List.mem_map] at hz
                      obtain ⟨r, hr, rfl⟩ := hz
                      obtain ⟨i, hi'⟩ := List.getElem?_of_mem hr
                      exact viaC_all (by rw [rowsT_len, evenT_at HEV.out hi', ← HXV.out]; exact HUL.out) (UT.out r hr) UU.out)
                    have h6 := via_new a zb ca cb xs bs wr (by omega) (by rw [HBS.out, BW.out]; omega) HBL.out (by rw [HBS.out]; exact BE.out) RA.out MB.out UX.out (by rw [HBS.out]; exact BA.out)
                    rw [HBS.out, ← HVV.out, ← HBL.out] at h6
                    go_wp2_with fail
                    refine h6.mono ?_
                    clear h6
                    rintro e w4 ⟨g4, _, rfl, mz, hb⟩
                    have MZ := Lib.hid mz
                    replace MX := Lib.hid (MX.out.below hb)
                    replace MY := Lib.hid (MY.out.below hb)
                    replace HB := Lib.hid (bl_tr HB.out hb)
                    replace RA := Lib.hid (RA.out.below hb)
                    replace RT := Lib.hid (RT.out.below hb)
                    replace RU := Lib.hid (RU.out.below hb)
                    clear hb mz MB
                    have lY : (viaC X (rowsT us)).length ≤ 1048576 := by rw [viaC_len]; omega
                    go_wp2_with fail
                    with_reducible refine (same_yes (some ⟨g2, 0, none⟩) (some ⟨g4, 0, none⟩) _ _ (viaC X (rowsT us)) _ MY.out MZ.out lY).mono ?_
                    rintro e w6 ⟨rfl, hb⟩
                    replace MX := Lib.hid (MX.out.below hb)
                    replace HB := Lib.hid (bl_tr HB.out hb)
                    replace RA := Lib.hid (RA.out.below hb)
                    replace RT := Lib.hid (RT.out.below hb)
                    replace RU := Lib.hid (RU.out.below hb)
                    clear hb MY MZ lY
                    obtain ⟨bt, ot, rfl⟩ := RT.out.some_of pt
                    obtain ⟨bx, ox, rfl⟩ := RA.out.some_of (by rw [HXL.out]; exact pt)
                    have o0 := own_empty (w := w6) (B := w6.heap.size) 22 (Nat.le_refl _)
                    have b0 := bl_al (bl0 w6) (.cells #[] 22)
                    have s0 := (RT.out.below b0).src
                    have v1 := tabVals_one ts
                    have lv : (tabVals ts).length = ts.length * 1 := by simp [tabVals]
                    have S0 := Lib.hid s0
                    have V1 := Lib.hid v1
                    have LV := Lib.hid lv
                    have BB := Lib.hid b0
                    clear s0 v1 lv b0
                    go_wp2_with (at_builtin; refine wpList_append_own _ rfl _ _ 35 rfl w6.heap.size 22 j0 (.slice none 0 0) 1 24 Try.underlying35 hj hy0 hy1 hy2 rfl (by decide) _ _ _ rfl o0 ⟨bt, ot, none⟩ ts.length ct (tabVals ts) rfl LV.out S0.out V1.out ?d3 ?d4 ?d5 ?_)
                    case d3 => unfold maxLen; omega
                    case d4 => omega
                    case d5 => simp
                    intro v7 w7 o1 gr1 _
                    have b1 : Below w6.heap.size w6 w7 := BB.out.grown gr1 (by simp) (fun j hj => (o0.lt j hj).1)
                    have S1 := Lib.hid (RT.out.below b1).src
                    have BB1 := Lib.hid b1
                    clear gr1 o0 b1
                    go_wp2_with (at_builtin; refine wpList_append_own _ rfl _ _ 35 rfl w6.heap.size 22 j0 (.slice none 0 0) 1 24 Try.underlying35 hj hy0 hy1 hy2 rfl (by decide) _ _ _ rfl o1 ⟨bt, ot, none⟩ ts.length ct (tabVals ts) rfl LV.out S1.out V1.out ?d3 ?d4 ?d5 ?_)
                    case d3 => unfold maxLen; omega
                    case d4 => omega
                    case d5 => exact BB1.out.size
                    intro v8 w8 o2 gr2 _
                    have hb : Below w6.heap.size w6 w8 := BB1.out.grown gr2 BB1.out.size (fun j hj => (o1.lt j hj).1)
                    rw [← tabVals_app, ← List.length_append] at o2
                    obtain ⟨zt, c8, hv, mt⟩ := tabU_of_own o2 (fun x hx => by
                      rw [List.mem_append, or_self] at hx
                      exact (RT.out.below hb).rows x hx)
                    rw [List.length_append] at hv
                    subst hv
                    have MT := Lib.hid mt
                    replace MX := Lib.hid (MX.out.below hb)
                    replace HB := Lib.hid (bl_tr HB.out hb)
                    replace RA := Lib.hid (RA.out.below hb)
                    replace RT := Lib.hid (RT.out.below hb)
                    replace RU := Lib.hid (RU.out.below hb)
                    clear hb mt o1 o2 gr2 S0 S1 V1 LV BB BB1
                    have o0 := own_empty (w := w8) (B := w8.heap.size) 23 (Nat.le_refl _)
                    have BB := Lib.hid (bl_al (bl0 w8) (.cells #[] 23))
                    have S0 := Lib.hid (RA.out.below BB.out).src
                    have V1 := Lib.hid (cellsU_one xs)
                    have LV := Lib.hid (show (cellsU xs).length = xs.length * 1 by simp [cellsU])
                    go_wp2_with (at_builtin; refine wpList_append_own _ rfl _ _ 22 rfl w8.heap.size 23 i0 (.int .u64 0) 1 8 Try.underlying22 hi hz0 hz1 hz2 rfl (by decide) _ _ _ rfl o0 ⟨bx, ox, none⟩ xs.length ca (cellsU xs) rfl LV.out S0.out V1.out ?d3 ?d4 ?d5 ?_)
                    case d3 => unfold maxLen; omega
                    case d4 => omega
                    case d5 => simp
                    intro v9 w9 o1 gr1 _
                    have b1 : Below w8.heap.size w8 w9 := BB.out.grown gr1 (by simp) (fun j hj => (o0.lt j hj).1)
                    have S1 := Lib.hid (RA.out.below b1).src
                    have BB1 := Lib.hid b1
                    clear gr1 o0 b1
                    go_wp2_with (at_builtin; refine wpList_append_own _ rfl _ _ 22 rfl w8.heap.size 23 i0 (.int .u64 0) 1 8 Try.underlying22 hi hz0 hz1 hz2 rfl (by decide) _ _ _ rfl o1 ⟨bx, ox, none⟩ xs.length ca (cellsU xs) rfl LV.out S1.out V1.out ?d3 ?d4 ?d5 ?_)
                    case d3 => unfold maxLen; omega
                    case d4 => omega
                    case d5 => exact BB1.out.size
                    intro v10 w10 o2 gr2 _
                    have hb : Below w8.heap.size w8 w10 := BB1.out.grown gr2 BB1.out.size (fun j hj => (o1.lt j hj).1)
                    rw [← cellsU_app, ← List.length_append] at o2
                    obtain ⟨zx, c10, hv, mxx⟩ := rowU_of_own o2
                    rw [List.length_append] at hv
                    subst hv
                    have MXX := Lib.hid mxx
                    replace MX := Lib.hid (MX.out.below hb)
                    replace MT := Lib.hid (MT.out.below hb)
                    replace HB := Lib.hid (bl_tr HB.out hb)
                    replace RA := Lib.hid (RA.out.below hb)
                    replace RT := Lib.hid (RT.out.below hb)
                    replace RU := Lib.hid (RU.out.below hb)
                    clear hb mxx o1 o2 gr2 S0 S1 V1 LV BB BB1
                    obtain ⟨ev2, wd2⟩ := even_twice HPT.out HEV.out
                    have h9 := via_new zx zt c10 c8 (xs ++ xs) (ts ++ ts) w10 (by rw [List.length_append]; omega) (by rw [rowsT_app, wd2]; omega) (by rw [List.length_append, List.length_append, HXL.out]) (by rw [rowsT_app]; exact ev2) MXX.out MT.out
                      (fun z hz => UX.out z (by rwa [List.mem_append, or_self] at hz)) (fun z hz => UT.out z (by rwa [rowsT_app, List.mem_append, or_self] at hz))
                    rw [rowsT_app, via_twice HPT.out (show xs.length = (rowsT ts).length by rw [rowsT_len]; exact HXL.out), HX.out, List.length_append, List.length_append] at h9
                    clear ev2 wd2
                    go_wp2_with fail
                    refine h9.mono ?_
                    clear h9
                    rintro e w11 ⟨g11, _, rfl, mw, hb⟩
                    have MW := Lib.hid mw
                    replace MX := Lib.hid (MX.out.below hb)
                    replace HB := Lib.hid (bl_tr HB.out hb)
                    replace RA := Lib.hid (RA.out.below hb)
                    replace RT := Lib.hid (RT.out.below hb)
                    replace RU := Lib.hid (RU.out.below hb)
                    clear hb mw MXX MT
                    have h10 := join_yes (some ⟨g1, 0, none⟩) (some ⟨g11, 0, none⟩) X.length X.length X X w11 (by omega) rfl MX.out MW.out
                    rw [joinC_self] at h10
                    go_wp2_with fail
                    with_reducible refine h10.mono ?_
                    clear h10
                    rintro e w12 ⟨z12, rfl, mj, hb⟩
                    have MJ := Lib.hid mj
                    replace MX := Lib.hid (MX.out.below hb)
                    replace MW := Lib.hid (MW.out.below hb)
                    replace HB := Lib.hid (bl_tr HB.out hb)
                    replace RA := Lib.hid (RA.out.below hb)
                    replace RT := Lib.hid (RT.out.below hb)
                    replace RU := Lib.hid (RU.out.below hb)
                    clear hb mj
                    have lX2 : X.length ≤ 1048576 := by omega
                    go_wp2_with fail
                    with_reducible refine (same_yes (some ⟨g11, 0, none⟩) (some ⟨g1, 0, none⟩) _ _ X _ MW.out MX.out lX2).mono ?_
                    rintro e w13 ⟨rfl, hb⟩
                    replace MX := Lib.hid (MX.out.below hb)
                    replace MJ := Lib.hid (MJ.out.below hb)
                    replace HB := Lib.hid (bl_tr HB.out hb)
                    replace RA := Lib.hid (RA.out.below hb)
                    replace RT := Lib.hid (RT.out.below hb)
                    replace RU := Lib.hid (RU.out.below hb)
                    clear hb MW
                    go_wp2_with fail
                    with_reducible refine (same_yes z12 (some ⟨g1, 0, none⟩) _ _ X _ MJ.out MX.out lX2).mono ?_
                    rintro e w14 ⟨rfl, hb⟩
                    replace HB := Lib.hid (bl_tr HB.out hb)
                    replace RA := Lib.hid (RA.out.below hb)
                    replace RT := Lib.hid (RT.out.below hb)
                    replace RU := Lib.hid (RU.out.below hb)
                    clear hb MJ MX
                    go_wp2_with fail
                    refine (awake_any _).mono ?_
                    rintro e w99 ⟨rfl, hb⟩
                    replace HB := Lib.hid (bl_tr HB.out hb)
                    clear hb
                    go_wp2
                    go_ret
                    exact ⟨rfl, HB.out⟩
              · have h2 := via_no (some ⟨g1, 0, none⟩) u X.length cu X.length us w1 (by omega) (by
                  by_cases e : X.length = us.length
                  · refine .inr ?_
                    cases e2 : evenT (rowsT us)
                    · rfl
                    · exact absurd ⟨e, e2⟩ hk
                  · exact .inl e) RU.out
                clear hk
                go_wp2_with fail
                with_reducible refine h2.mono ?_
                clear h2
                rintro e w2 ⟨rfl, hb⟩
                replace HB := Lib.hid (bl_tr HB.out hb)
                replace RA := Lib.hid (RA.out.below hb)
                replace RT := Lib.hid (RT.out.below hb)
                replace RU := Lib.hid (RU.out.below hb)
                clear hb MX
                go_wp2_with fail
                refine (awake_any _).mono ?_
                rintro e w99 ⟨rfl, hb⟩
                replace HB := Lib.hid (bl_tr HB.out hb)
                clear hb
                go_wp2
                go_ret
                exact ⟨rfl, HB.out⟩
            · have kv : viaE xs (rowsT ts) = 12 := if_neg hk
              have kr : viaR xs (rowsT ts) = [] := if_neg hk
              have h1 := viaall a t ca ct xs ts w (by omega) (by omega) RA.out RT.out ux ut
              rw [kv, kr] at h1
              clear hk kv kr
              go_wp2_with fail
              refine h1.mono ?_
              rintro e w1 ⟨z, cap, rfl, _, hb⟩
              replace HB := Lib.hid (bl_tr HB.out hb)
              replace RA := Lib.hid (RA.out.below hb)
              replace RT := Lib.hid (RT.out.below hb)
              replace RU := Lib.hid (RU.out.below hb)
              clear h1 hb
              have h2 := via_no z u cap cu 0 us w1 (by omega) (.inl (by omega)) RU.out
              go_wp2_with fail
              refine h2.mono ?_
              rintro e w2 ⟨rfl, hb⟩
              replace HB := Lib.hid (bl_tr HB.out hb)
              replace RA := Lib.hid (RA.out.below hb)
              replace RT := Lib.hid (RT.out.below hb)
              replace RU := Lib.hid (RU.out.below hb)
              clear h2 hb
              go_wp2_with fail
              refine (awake_any _).mono ?_
              rintro e w99 ⟨rfl, hb⟩
              replace HB := Lib.hid (bl_tr HB.out hb)
              clear hb
              go_wp2
              go_ret
              exact ⟨rfl, HB.out⟩
end Go.Proofs.Ytgkeifjnnpcleab
