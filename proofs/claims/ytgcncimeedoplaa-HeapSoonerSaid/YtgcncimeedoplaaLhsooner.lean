/- HeapSooner: its walk. -/
import Derived.Test.YtgcncimeedoplaaHy
namespace Go.Proofs.Ytgcncimeedoplaa
open Go.RowKit Go.Maps

set_option maxRecDepth 100000 in
set_option maxHeartbeats 16000000 in
theorem hsooner_walk (a : Option Addr) (ca : Nat) (ks : List Th) (d : Int) (q : Th) (w : World) (hr : RowK w a ks) (wd : (Lit.int .i64 d).wf = true) :
    Calls Try.prog 6 #[.slice a ks.length ca, .int .i64 d, .agg #[.int .u64 q.F, .int .u64 q.H, .int .i64 q.Y, .int .i64 q.X]] w fun e w' => e = .returned (.bool true) ∧ Below w.heap.size w w' := by
  obtain ⟨W, hW⟩ : ∃ W, w.alloc (.cells #[.int .u64 q.F, .int .u64 q.H, .int .i64 q.Y, .int .i64 q.X] 24) = W := ⟨_, rfl⟩
  have hAW : Below w.heap.size w W := by rw [← hW]; exact bl_al (bl0 w) _
  have x0 : W.cell? ⟨w.heap.size, 0, none⟩ = some (.int .u64 q.F) := by rw [← hW]; simp [go_sem]
  have x1 : W.cell? ⟨w.heap.size, 1, none⟩ = some (.int .u64 q.H) := by rw [← hW]; simp [go_sem]
  have x2 : W.cell? ⟨w.heap.size, 2, none⟩ = some (.int .i64 q.Y) := by rw [← hW]; simp [go_sem]
  have x3 : W.cell? ⟨w.heap.size, 3, none⟩ = some (.int .i64 q.X) := by rw [← hW]; simp [go_sem]
  by_cases hb1 : 60 < ks.length
  · have hb1I : (60 : Int) < (ks.length : Int) := by omega
    go_enter Try.func6, Try.ntmps6
    go_wp2_with fail
    refine (hawake _).mono ?_
    rintro e w9 ⟨rfl, hb⟩
    have HA := Lib.hid (bl_tr hAW hb)
    clear hW hAW hb x0 x1 x2 x3
    go_wp2
    go_ret
    exact ⟨rfl, HA.out⟩
  have hb1I : (ks.length : Int) ≤ 60 := by omega
  have hb1N : ks.length ≤ 60 := by omega
  have hb1D : decide ((60 : Int) < (ks.length : Int)) = false := decide_eq_false (by omega)
  clear hb1
  go_enter Try.func6, Try.ntmps6
  go_upto_region 3 with fail
  clear hW
  have h0 : Sep W W.heap.size [] := Sep.nil (Nat.le_refl _)
  have hrW := hr.below hAW
  go_wp2_with fail
  refine (new_sep h0).mono ?_
  rintro e w1 ⟨p, rfl, h1, hA⟩
  clear h0 hr
  go_wp2
  go_loopw [8] (fun i wr => ∃ k : Nat, k ≤ ks.length ∧ i = .int .i64 k ∧ Sep wr W.heap.size [HeapO p (idxM (ks.take k))] ∧ Below W.heap.size W wr) (fun i _ => ks.length - (intOf i).toNat)
  case atStart => exact ⟨0, Nat.zero_le _, rfl, h1, hA⟩
  case round =>
    obtain ⟨k, hk, rfl, hS, hAr⟩ := hrel
    clear h1 hA
    by_cases hlt : k < ks.length
    · have hlt2 : (k : Int) < (ks.length : Int) := by omega
      have hk0 : (0 : Int) ≤ (k : Int) := by omega
      have hk1 : (k : Int) ≤ 60 := by omega
      have hR := Lib.hid hrW
      obtain ⟨gb, go, rfl, q0, q1, q2, q3⟩ := hrW.at hlt
      clear hrW
      have HN := Lib.hid (find_next hlt)
      have HSN := Lib.hid (idxM_snoc hlt)
      generalize atT ks k = t at *
      replace q0 := cell_later hAr q0
      replace q1 := cell_later hAr q1
      replace q2 := cell_later hAr q2
      replace q3 := cell_later hAr q3
      have hwk : wfT (withId (k : Int) t) := show (Lit.int .i64 (k : Int)).wf = true from WalkArith.wf_i64 (by omega)
      have hcall := push_sep (l1 := []) (l2 := []) (withId (k : Int) t) hS hwk (by rw [idxM_len, List.length_take]; omega)
      rw [show pushE (idxM (ks.take k)) (withId (k : Int) t).id = 0 by unfold pushE; rw [show (withId (k : Int) t).id = (k : Int) from rfl, HN.out]; rfl,
        show pushM (idxM (ks.take k)) (withId (k : Int) t) = idxM (ks.take (k + 1)) by unfold pushM; rw [show (withId (k : Int) t).id = (k : Int) from rfl, HN.out, HSN.out]; rfl] at hcall
      simp only [withId] at hcall
      go_wp2_with fail
      refine hcall.mono ?_
      rintro e w3 ⟨rfl, h3, hb⟩
      have hAr3 := hAr.trans hb
      clear hcall hb hS q0 q1 q2 q3 hAr
      go_wp2
      go_roundw
      case rel => exact ⟨k + 1, by omega, by go_num, h3, hAr3⟩
      case measure => simp [intOf]; omega
    · have hge : (ks.length : Int) ≤ (k : Int) := by omega
      obtain rfl : k = ks.length := by omega
      rw [List.take_length] at hS
      clear hlt hge hk hrW
      have hcall := clone_sep (l1 := []) (l2 := []) hS (by rw [idxM_len]; omega)
      go_wp2_with fail
      refine hcall.mono ?_
      rintro e w3 ⟨g, rfl, h3, hb⟩
      have hA3 := bl_tr hAr hb
      clear hcall hb hS hAr
      replace x0 := cell_later hA3 x0
      replace x1 := cell_later hA3 x1
      replace x2 := cell_later hA3 x2
      replace x3 := cell_later hA3 x3
      have hcall := lower_sep (l1 := [HeapO p (idxM ks)]) (l2 := []) (withId d q) h3 wd (by rw [idxM_len]; omega)
      obtain ⟨le, hle⟩ : ∃ le, lowerE (idxM ks) (withId d q) = le := ⟨_, rfl⟩
      obtain ⟨lm, hlm⟩ : ∃ lm, lowerM (idxM ks) (withId d q) = lm := ⟨_, rfl⟩
      have hlml : lm.length = ks.length := by rw [← hlm, lowerM_len, idxM_len]
      rw [hle, hlm] at hcall
      simp only [withId] at hcall
      go_wp2_with fail
      refine hcall.mono ?_
      rintro e w4 ⟨rfl, h4, hb⟩
      have hA4 := hA3.trans hb
      have HLE := Lib.hid hle
      have HLM := Lib.hid hlm
      have HLL := Lib.hid hlml
      clear hcall hb h3 hA3 x0 x1 x2 x3 hle hlm hlml
      have hB := Lib.hid hAW
      by_cases hz : le = 0
      · subst hz
        have HM := Lib.hid (sooner_idx (ks := ks) (t := withId d q) (n := ks.length) rfl HLE.out)
        rw [show (withId d q).id = d from rfl, HLM.out] at HM
        have hcall := order_sep (l1 := []) (l2 := [HeapO g lm]) (n := ks.length) h4 (by rw [idxM_len]; omega) (by omega)
        obtain ⟨xs, hxs⟩ : ∃ xs, (outN ks.length (idxM ks)).map Th.id = xs := ⟨_, rfl⟩
        obtain ⟨ys, hys⟩ : ∃ ys, (outN ks.length lm).map Th.id = ys := ⟨_, rfl⟩
        rw [hxs, hys] at HM
        rw [hxs] at hcall
        have hxl : xs.length = ks.length := HM.out.1
        have hyl : ys.length = ks.length := HM.out.2.1
        rw [hxl] at hcall
        have HXL := Lib.hid hxl
        have HYL := Lib.hid hyl
        have HYS := Lib.hid hys
        clear hxs hxl hyl hys
        go_wp2_with fail
        refine hcall.mono ?_
        rintro e w5 ⟨gx, cx, mp, rfl, h5, hb⟩
        have hA5 := hA4.trans hb
        clear hcall hb h4 hA4
        have hcall := order_sep (l1 := [HeapO p mp]) (l2 := [RowO 3 1 (.slice (some ⟨gx, 0, none⟩) ks.length cx) ks.length (cellsI xs)]) (n := ks.length) h5 (by rw [HLL.out]; omega) (by omega)
        rw [HYS.out, HYL.out] at hcall
        go_wp2_with fail
        refine hcall.mono ?_
        rintro e w6 ⟨gy, cy, mg, rfl, h6, hb⟩
        have hA6 := hA5.trans hb
        clear hcall hb h5 hA5
        have hnn : ((ks.length : Int) != (ks.length : Int)) = false := by simp
        have h7 := h6.ints.ints
        rw [World.size_alloc] at h7
        have hA7 := hA6.trans ((bl_al (bl_al (bl0 w6) (.cells #[] 3)) (.cells #[] 3)).mono h6.base)
        clear h6 hA6
        go_wp2
        go_loopw [12, 13, 14, 15, 16] (fun sp sq sa sb i wr => ∃ (k : Nat) (px py : Int) (ga La ca2 : Nat) (A : List Int) (gb Lb cb2 : Nat) (Bq : List Int), k ≤ ks.length ∧ i = .int .i64 k ∧ sp = .int .i64 px ∧ sq = .int .i64 py ∧ sa = .slice (some ⟨ga, 0, none⟩) La ca2 ∧ sb = .slice (some ⟨gb, 0, none⟩) Lb cb2 ∧ Hid (HalfR d xs k px La A) ∧ Hid (HalfR d ys k py Lb Bq) ∧ Sep wr W.heap.size [HeapO p mp, HeapO g mg, RowO 3 1 (.slice (some ⟨gx, 0, none⟩) ks.length cx) ks.length (cellsI xs), RowO 3 1 (.slice (some ⟨gy, 0, none⟩) ks.length cy) ks.length (cellsI ys), RowO 3 1 (.slice (some ⟨ga, 0, none⟩) La ca2) La (cellsI A), RowO 3 1 (.slice (some ⟨gb, 0, none⟩) Lb cb2) Lb (cellsI Bq)] ∧ Below W.heap.size W wr) (fun _ _ _ _ i _ => ks.length - (intOf i).toNat)
        case atStart => exact ⟨0, -1, -1, w6.heap.size, 0, 0, [], w6.heap.size + 1, 0, 0, [], Nat.zero_le _, rfl, rfl, rfl, rfl, rfl, Lib.hid (HalfR.start d xs), Lib.hid (HalfR.start d ys), h7, hA7⟩
        case round =>
          obtain ⟨k, px, py, ga, La, ca2, A, gb, Lb, cb2, Bq, hk, rfl, rfl, rfl, rfl, rfl, HX, HY, hS, hAr⟩ := hrel
          clear h7 hA7
          have hLa := HX.out.le
          have hLb := HY.out.le
          by_cases hlt : k < ks.length
          · have hlI : (k : Int) < (ks.length : Int) := by omega
            have hk0 : (0 : Int) ≤ (k : Int) := by omega
            have hk1 : (k : Int) ≤ 60 := by omega
            have exk := cellsI_at (is := xs) (i := k) (by rw [HXL.out]; exact hlt)
            have eyk := cellsI_at (is := ys) (i := k) (by rw [HYL.out]; exact hlt)
            obtain ⟨hxr, _, _, _, _⟩ := Sep.row (l1 := [HeapO p mp, HeapO g mg]) (l2 := [RowO 3 1 (.slice (some ⟨gy, 0, none⟩) ks.length cy) ks.length (cellsI ys), RowO 3 1 (.slice (some ⟨ga, 0, none⟩) La ca2) La (cellsI A), RowO 3 1 (.slice (some ⟨gb, 0, none⟩) Lb cb2) Lb (cellsI Bq)]) hS
            obtain ⟨hyr, _, _, _, _⟩ := Sep.row (l1 := [HeapO p mp, HeapO g mg, RowO 3 1 (.slice (some ⟨gx, 0, none⟩) ks.length cx) ks.length (cellsI xs)]) (l2 := [RowO 3 1 (.slice (some ⟨ga, 0, none⟩) La ca2) La (cellsI A), RowO 3 1 (.slice (some ⟨gb, 0, none⟩) Lb cb2) Lb (cellsI Bq)]) hS
            have xk := hxr _ _ exk
            have yk := hyr _ _ eyk
            obtain ⟨xv, hxv⟩ : ∃ xv, xs.getD k 0 = xv := ⟨_, rfl⟩
            obtain ⟨yv, hyv⟩ : ∃ yv, ys.getD k 0 = yv := ⟨_, rfl⟩
            rw [hxv] at xk
            rw [hyv] at yk eyk
            have HXV := Lib.hid hxv
            have HYV := Lib.hid hyv
            clear hxr hyr exk hxv hyv
            by_cases hxk : xv = d
            · by_cases hyk : yv = d
              · clear eyk
                have nx : (xv == d) = true := by rw [beq_iff_eq]; exact hxk
                have ny : (yv == d) = true := by rw [beq_iff_eq]; exact hyk
                have HX2 := Lib.hid (HX.out.eq (by rw [HXL.out]; exact hlt) (HXV.out.trans hxk))
                have HY2 := Lib.hid (HY.out.eq (by rw [HYL.out]; exact hlt) (HYV.out.trans hyk))
                have HXK := Lib.hid hxk
                have HYK := Lib.hid hyk
                clear hxk hyk
                have HS := Lib.hid hS
                have HA := Lib.hid hAr
                clear hS hAr
                go_wp2
                go_roundw
                case rel => exact ⟨k + 1, (k : Int), (k : Int), ga, La, ca2, A, gb, Lb, cb2, Bq, by omega, by go_num, rfl, rfl, rfl, rfl, HX2, HY2, HS.out, HA.out⟩
                case measure => simp [intOf]; omega
              · clear eyk
                have nx : (xv == d) = true := by rw [beq_iff_eq]; exact hxk
                have ny : (yv == d) = false := by rw [beq_eq_false_iff_ne]; exact hyk
                have HX2 := Lib.hid (HX.out.eq (by rw [HXL.out]; exact hlt) (HXV.out.trans hxk))
                have HY2 : Hid (HalfR d ys (k + 1) py (Lb + 1) (Bq ++ [yv])) := Lib.hid (by have h := HY.out.ne (by rw [HYL.out]; exact hlt) (by rw [HYV.out]; exact hyk); rw [HYV.out] at h; exact h)
                have HXK := Lib.hid hxk
                have HYK := Lib.hid hyk
                clear hxk hyk
                go_wp2_with (at_builtin; refine wpList_append_int (W := wr) rfl _ _ rfl yv (by rfl) (l1 := [HeapO p mp, HeapO g mg, RowO 3 1 (.slice (some ⟨gx, 0, none⟩) ks.length cx) ks.length (cellsI xs), RowO 3 1 (.slice (some ⟨gy, 0, none⟩) ks.length cy) ks.length (cellsI ys), RowO 3 1 (.slice (some ⟨ga, 0, none⟩) La ca2) La (cellsI A)]) (l2 := []) (g := gb) (n := Lb) (cap := cb2) (is := Bq) (B := W.heap.size) hS (by omega) (by rfl) wr.heap.size rfl (by rfl) ?_)
                intro gb1 cb1 w7 h7 hb7
                have hA7 := hAr.trans hb7
                clear hS hAr hb7 yk
                have HS := Lib.hid h7
                have HA := Lib.hid hA7
                clear h7 hA7
                go_wp2
                go_roundw
                case rel => exact ⟨k + 1, (k : Int), py, ga, La, ca2, A, gb1, (Lb + 1), cb1, (Bq ++ [yv]), by omega, by go_num, rfl, rfl, rfl, rfl, HX2, HY2, HS.out, HA.out⟩
                case measure => simp [intOf]; omega
            · by_cases hyk : yv = d
              · have EYK := Lib.hid eyk
                have nx : (xv == d) = false := by rw [beq_eq_false_iff_ne]; exact hxk
                have ny : (yv == d) = true := by rw [beq_iff_eq]; exact hyk
                have HX2 : Hid (HalfR d xs (k + 1) px (La + 1) (A ++ [xv])) := Lib.hid (by have h := HX.out.ne (by rw [HXL.out]; exact hlt) (by rw [HXV.out]; exact hxk); rw [HXV.out] at h; exact h)
                have HY2 := Lib.hid (HY.out.eq (by rw [HYL.out]; exact hlt) (HYV.out.trans hyk))
                have HXK := Lib.hid hxk
                have HYK := Lib.hid hyk
                clear hxk hyk
                go_wp2_with (at_builtin; refine wpList_append_int (W := wr) rfl _ _ rfl xv (by rfl) (l1 := [HeapO p mp, HeapO g mg, RowO 3 1 (.slice (some ⟨gx, 0, none⟩) ks.length cx) ks.length (cellsI xs), RowO 3 1 (.slice (some ⟨gy, 0, none⟩) ks.length cy) ks.length (cellsI ys)]) (l2 := [RowO 3 1 (.slice (some ⟨gb, 0, none⟩) Lb cb2) Lb (cellsI Bq)]) (g := ga) (n := La) (cap := ca2) (is := A) (B := W.heap.size) hS (by omega) (by rfl) wr.heap.size rfl (by rfl) ?_)
                intro ga1 ca1 w6 h6 hb6
                have hA6 := hAr.trans hb6
                obtain ⟨hyr6, _, _, _, _⟩ := Sep.row (l1 := [HeapO p mp, HeapO g mg, RowO 3 1 (.slice (some ⟨gx, 0, none⟩) ks.length cx) ks.length (cellsI xs)]) (l2 := [RowO 3 1 (.slice (some ⟨ga1, 0, none⟩) (La + 1) ca1) (La + 1) (cellsI (A ++ [xv])), RowO 3 1 (.slice (some ⟨gb, 0, none⟩) Lb cb2) Lb (cellsI Bq)]) h6
                replace yk := hyr6 _ _ eyk
                clear hS hAr hb6 hyr6 xk
                have HS := Lib.hid h6
                have HA := Lib.hid hA6
                clear h6 hA6
                go_wp2
                go_roundw
                case rel => exact ⟨k + 1, px, (k : Int), ga1, (La + 1), ca1, (A ++ [xv]), gb, Lb, cb2, Bq, by omega, by go_num, rfl, rfl, rfl, rfl, HX2, HY2, HS.out, HA.out⟩
                case measure => simp [intOf]; omega
              · have EYK := Lib.hid eyk
                have nx : (xv == d) = false := by rw [beq_eq_false_iff_ne]; exact hxk
                have ny : (yv == d) = false := by rw [beq_eq_false_iff_ne]; exact hyk
                have HX2 : Hid (HalfR d xs (k + 1) px (La + 1) (A ++ [xv])) := Lib.hid (by have h := HX.out.ne (by rw [HXL.out]; exact hlt) (by rw [HXV.out]; exact hxk); rw [HXV.out] at h; exact h)
                have HY2 : Hid (HalfR d ys (k + 1) py (Lb + 1) (Bq ++ [yv])) := Lib.hid (by have h := HY.out.ne (by rw [HYL.out]; exact hlt) (by rw [HYV.out]; exact hyk); rw [HYV.out] at h; exact h)
                have HXK := Lib.hid hxk
                have HYK := Lib.hid hyk
                clear hxk hyk
                go_wp2_with (at_builtin; refine wpList_append_int (W := wr) rfl _ _ rfl xv (by rfl) (l1 := [HeapO p mp, HeapO g mg, RowO 3 1 (.slice (some ⟨gx, 0, none⟩) ks.length cx) ks.length (cellsI xs), RowO 3 1 (.slice (some ⟨gy, 0, none⟩) ks.length cy) ks.length (cellsI ys)]) (l2 := [RowO 3 1 (.slice (some ⟨gb, 0, none⟩) Lb cb2) Lb (cellsI Bq)]) (g := ga) (n := La) (cap := ca2) (is := A) (B := W.heap.size) hS (by omega) (by rfl) wr.heap.size rfl (by rfl) ?_)
                intro ga1 ca1 w6 h6 hb6
                have hA6 := hAr.trans hb6
                obtain ⟨hyr6, _, _, _, _⟩ := Sep.row (l1 := [HeapO p mp, HeapO g mg, RowO 3 1 (.slice (some ⟨gx, 0, none⟩) ks.length cx) ks.length (cellsI xs)]) (l2 := [RowO 3 1 (.slice (some ⟨ga1, 0, none⟩) (La + 1) ca1) (La + 1) (cellsI (A ++ [xv])), RowO 3 1 (.slice (some ⟨gb, 0, none⟩) Lb cb2) Lb (cellsI Bq)]) h6
                replace yk := hyr6 _ _ eyk
                clear hS hAr hb6 hyr6 xk
                go_wp2_with (at_builtin; refine wpList_append_int (W := w6) rfl _ _ rfl yv (by rfl) (l1 := [HeapO p mp, HeapO g mg, RowO 3 1 (.slice (some ⟨gx, 0, none⟩) ks.length cx) ks.length (cellsI xs), RowO 3 1 (.slice (some ⟨gy, 0, none⟩) ks.length cy) ks.length (cellsI ys), RowO 3 1 (.slice (some ⟨ga1, 0, none⟩) (La + 1) ca1) (La + 1) (cellsI (A ++ [xv]))]) (l2 := []) (g := gb) (n := Lb) (cap := cb2) (is := Bq) (B := W.heap.size) h6 (by omega) (by rfl) w6.heap.size rfl (by rfl) ?_)
                intro gb1 cb1 w7 h7 hb7
                have hA7 := hA6.trans hb7
                clear h6 hA6 hb7 yk
                have HS := Lib.hid h7
                have HA := Lib.hid hA7
                clear h7 hA7
                go_wp2
                go_roundw
                case rel => exact ⟨k + 1, px, py, ga1, (La + 1), ca1, (A ++ [xv]), gb1, (Lb + 1), cb1, (Bq ++ [yv]), by omega, by go_num, rfl, rfl, rfl, rfl, HX2, HY2, HS.out, HA.out⟩
                case measure => simp [intOf]; omega
          · obtain rfl : k = ks.length := by omega
            obtain ⟨at_, to_, c2, c3, c4⟩ := HM.out.2.2.2
            have heq := HM.out.2.2.1
            have hxa := HX.out.a
            have hya := HY.out.a
            rw [List.take_of_length_le (by rw [HXL.out]; omega)] at hxa
            rw [List.take_of_length_le (by rw [HYL.out]; omega)] at hya
            obtain rfl : A = Bq := by rw [hxa, hya, heq]
            obtain rfl : La = Lb := by rw [HX.out.l, HY.out.l]
            obtain rfl : px = (at_ : Int) := by rw [HX.out.p, c2]
            obtain rfl : py = (to_ : Int) := by rw [HY.out.p, c3]
            have HLA := Lib.hid HX.out.l
            have n1 : decide ((at_ : Int) < 0) = false := decide_eq_false (by omega)
            have n2 : decide ((to_ : Int) < 0) = false := decide_eq_false (by omega)
            have n3 : decide ((at_ : Int) < (to_ : Int)) = false := decide_eq_false (by omega)
            have n4 : decide (at_ < to_) = false := decide_eq_false (by omega)
            have n5 : ((La : Int) != (La : Int)) = false := by simp
            have hge : (ks.length : Int) ≤ (ks.length : Int) := Int.le_refl _
            clear hlt hk c2 c3 c4 heq hxa hya HX HY
            go_wp2
            go_loopw [17] (fun i wr => ∃ k : Nat, k ≤ La ∧ i = .int .i64 k ∧ Sep wr W.heap.size [HeapO p mp, HeapO g mg, RowO 3 1 (.slice (some ⟨gx, 0, none⟩) ks.length cx) ks.length (cellsI xs), RowO 3 1 (.slice (some ⟨gy, 0, none⟩) ks.length cy) ks.length (cellsI ys), RowO 3 1 (.slice (some ⟨ga, 0, none⟩) La ca2) La (cellsI A), RowO 3 1 (.slice (some ⟨gb, 0, none⟩) La cb2) La (cellsI A)] ∧ Below W.heap.size W wr) (fun i _ => La - (intOf i).toNat)
            case atStart => exact ⟨0, Nat.zero_le _, rfl, hS, hAr⟩
            case round =>
              obtain ⟨k, hk, rfl, hS, hAr⟩ := hrel
              by_cases hlt : k < La
              · have hlI : (k : Int) < (La : Int) := by omega
                have hk0 : (0 : Int) ≤ (k : Int) := by omega
                have hk1 : (k : Int) ≤ 60 := by omega
                have ek := cellsI_at (is := A) (i := k) (by rw [← HLA.out]; exact hlt)
                obtain ⟨v, hv⟩ : ∃ v, A.getD k 0 = v := ⟨_, rfl⟩
                rw [hv] at ek
                obtain ⟨har, _, _, _, _⟩ := Sep.row (l1 := [HeapO p mp, HeapO g mg, RowO 3 1 (.slice (some ⟨gx, 0, none⟩) ks.length cx) ks.length (cellsI xs), RowO 3 1 (.slice (some ⟨gy, 0, none⟩) ks.length cy) ks.length (cellsI ys)]) (l2 := [RowO 3 1 (.slice (some ⟨gb, 0, none⟩) La cb2) La (cellsI A)]) hS
                obtain ⟨hbr, _, _, _, _⟩ := Sep.row (l1 := [HeapO p mp, HeapO g mg, RowO 3 1 (.slice (some ⟨gx, 0, none⟩) ks.length cx) ks.length (cellsI xs), RowO 3 1 (.slice (some ⟨gy, 0, none⟩) ks.length cy) ks.length (cellsI ys), RowO 3 1 (.slice (some ⟨ga, 0, none⟩) La ca2) La (cellsI A)]) (l2 := []) hS
                have ak := har _ _ ek
                have bk := hbr _ _ ek
                have hvv : (v != v) = false := by simp
                clear har hbr ek hv
                go_wp2
                go_quiet (fail)
                have hS2 := fun n => hS.below (bl_drn wr n)
                have hA2 := fun n => bl_tr hAr (bl_drn wr n)
                have HS2 := Lib.hid hS2
                have HA2 := Lib.hid hA2
                clear hS2 hA2 hS hAr ak bk
                go_wp2
                go_roundw
                case rel => exact ⟨k + 1, by omega, by go_num, HS2.out _, HA2.out _⟩
                case measure => simp [intOf]; omega
              · have hge2 : (La : Int) ≤ (k : Int) := by omega
                have hA := hAW.trans (hAr.mono hAW.size)
                clear hS hAr hAW
                go_wp2_with fail
                refine (hawake _).mono ?_
                rintro e w9 ⟨rfl, hb⟩
                have HA := Lib.hid (bl_tr hA hb)
                clear hA hb
                go_wp2
                go_ret
                exact ⟨rfl, HA.out⟩
      · have hz1 : (le == 0) = false := by rw [beq_eq_false_iff_ne]; exact hz
        have hz2 : (le != 0) = true := by rw [bne_iff_ne]; exact hz
        have hA := hAW.trans (hA4.mono hAW.size)
        clear h4 hA4 hAW
        go_wp2_with fail
        refine (hawake _).mono ?_
        rintro e w9 ⟨rfl, hb⟩
        have HA := Lib.hid (bl_tr hA hb)
        clear hA hb
        go_wp2
        go_ret
        exact ⟨rfl, HA.out⟩
end Go.Proofs.Ytgcncimeedoplaa
