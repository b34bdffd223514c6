/- HeapSorts: its walk. -/
import Derived.Test.YtgcncimeedoplaaHu
namespace Go.Proofs.Ytgcncimeedoplaa
open Go.RowKit Go.Maps

set_option maxRecDepth 100000 in
set_option maxHeartbeats 16000000 in
theorem hsorts_walk (a b : Option Addr) (ca cb : Nat) (ks : List Th) (ls : List ActD) (w : World) (hr : RowK w a ks) (hd : RowD w b ls) (wf : ∀ k ∈ ls, WfT k.t) (hcn : a = none → ca = 0) :
    Calls Try.prog 5 #[.slice a ks.length ca, .slice b ls.length cb] w fun e w' => e = .returned (.bool true) ∧ Below w.heap.size w w' := by
  by_cases hb1 : 150 < ks.length
  · have hb1I : (150 : Int) < (ks.length : Int) := by omega
    go_enter Try.func5, Try.ntmps5
    go_wp2_with fail
    refine (hawake _).mono ?_
    rintro e w1 ⟨rfl, hA⟩
    go_wp2
    go_ret
    exact ⟨rfl, hA⟩
  have hb1I : (ks.length : Int) ≤ 150 := by omega
  have hb1N : ks.length ≤ 150 := by omega
  have hb1D : decide ((150 : Int) < (ks.length : Int)) = false := decide_eq_false (by omega)
  clear hb1
  by_cases hb2 : 150 < ls.length
  · have hb2I : (150 : Int) < (ls.length : Int) := by omega
    go_enter Try.func5, Try.ntmps5
    go_wp2_with fail
    refine (hawake _).mono ?_
    rintro e w1 ⟨rfl, hA⟩
    go_wp2
    go_ret
    exact ⟨rfl, hA⟩
  have hb2I : (ls.length : Int) ≤ 150 := by omega
  have hb2N : ls.length ≤ 150 := by omega
  have hb2D : decide ((150 : Int) < (ls.length : Int)) = false := decide_eq_false (by omega)
  clear hb2
  have h0 : Sep w w.heap.size [] := Sep.nil (Nat.le_refl _)
  go_enter Try.func5, Try.ntmps5
  go_wp2_with fail
  refine (new_sep h0).mono ?_
  rintro e w1 ⟨p, rfl, h1, hA⟩
  have hb1 := bl_al (bl0 w1) (.cells #[] 24)
  go_wp2_with (at_builtin; refine wpList_append_rowK rfl _ _ rfl w1.heap.size w1.heap.size rfl (kown_empty (Nat.le_refl _)) a ca ks rfl ((hr.below hA).below hb1) hcn (by omega) (by rw [World.size_alloc]; omega) ?_)
  intro g cap w2 hown hgrow
  have hB2 : Below w1.heap.size w1 w2 := hb1.grown hgrow (by rw [World.size_alloc]; omega) (fun j hj => by cases hj; exact Nat.le_refl _)
  have h2 := h1.new hB2 (o := RowO 24 4 (.slice (some ⟨g, 0, none⟩) ks.length cap) ks.length (flatK ks)) (S := fun k => k = g) ⟨hown_base hown (Nat.zero_le _), fun k => by simp only [Value.ownBlock, Option.some.injEq]; exact eq_comm⟩ (fun k e => by rw [e]; exact (hown.lt g rfl).1)
  have hA2 := bl_tr hA hB2
  clear hown hgrow hB2 hb1 h1 hA h0
  go_wp2
  go_loopw [7] (fun i wr => ∃ k : Nat, k ≤ ks.length ∧ i = .int .i64 k ∧ Sep wr w.heap.size [HeapO p (idxM (ks.take k)), RowO 24 4 (.slice (some ⟨g, 0, none⟩) ks.length cap) ks.length (flatK ks)] ∧ Below w.heap.size w wr) (fun i _ => ks.length - (intOf i).toNat)
  case atStart => exact ⟨0, Nat.zero_le _, rfl, h2, hA2⟩
  case round =>
    obtain ⟨k, hk, rfl, hS, hAr⟩ := hrel
    clear h2 hA2
    by_cases hlt : k < ks.length
    · have hlt2 : (k : Int) < (ks.length : Int) := by omega
      have hk0 : (0 : Int) ≤ (k : Int) := by omega
      have hk1 : (k : Int) ≤ 150 := by omega
      have hw1 : IntKind.i64.wrap ((k : Int) + 1) = (k : Int) + 1 := IntWalk.i64_in _ (by omega)
      have hR := Lib.hid hr
      obtain ⟨gb, go, rfl, q0, q1, q2, q3⟩ := hr.at hlt
      clear hr
      have HN := Lib.hid (find_next hlt)
      have HT := Lib.hid (find_there hlt)
      have HSN := Lib.hid (idxM_snoc hlt)
      have HLEN : (idxM (ks.take (k + 1))).length = k + 1 := by rw [idxM_len, List.length_take]; omega
      have HL := Lib.hid HLEN
      clear HLEN
      generalize atT ks k = t at *
      have p0 := cell_later hAr q0
      have p1 := cell_later hAr q1
      have p2 := cell_later hAr q2
      have p3 := cell_later hAr q3
      have hwk : wfT (withId (k : Int) t) := show (Lit.int .i64 (k : Int)).wf = true from WalkArith.wf_i64 (by omega)
      have hcall := push_sep (l1 := []) (l2 := [RowO 24 4 (.slice (some ⟨g, 0, none⟩) ks.length cap) ks.length (flatK ks)]) (withId (k : Int) t) hS hwk (by rw [idxM_len, List.length_take]; omega)
      rw [show pushE (idxM (ks.take k)) (withId (k : Int) t).id = 0 by unfold pushE; rw [show (withId (k : Int) t).id = (k : Int) from rfl, HN.out]; rfl,
        show pushM (idxM (ks.take k)) (withId (k : Int) t) = idxM (ks.take (k + 1)) by unfold pushM; rw [show (withId (k : Int) t).id = (k : Int) from rfl, HN.out, HSN.out]; rfl] at hcall
      simp only [withId] at hcall
      go_wp2_with fail
      refine hcall.mono ?_
      rintro e w3 ⟨rfl, h3, hb⟩
      have hAr3 := hAr.trans hb
      clear hcall hb hS p0 p1 p2 p3 hAr
      have p0 := cell_later hAr3 q0
      have p1 := cell_later hAr3 q1
      have p2 := cell_later hAr3 q2
      have p3 := cell_later hAr3 q3
      have hcall := push_sep (l1 := []) (l2 := [RowO 24 4 (.slice (some ⟨g, 0, none⟩) ks.length cap) ks.length (flatK ks)]) (withId (k : Int) t) h3 hwk (by rw [HL.out]; omega)
      rw [show pushE (idxM (ks.take (k + 1))) (withId (k : Int) t).id = 15 by unfold pushE; rw [show (withId (k : Int) t).id = (k : Int) from rfl, HT.out]; rfl,
        show pushM (idxM (ks.take (k + 1))) (withId (k : Int) t) = idxM (ks.take (k + 1)) by unfold pushM; rw [show (withId (k : Int) t).id = (k : Int) from rfl, HT.out]; rfl] at hcall
      simp only [withId] at hcall
      go_wp2_with fail
      refine hcall.mono ?_
      rintro e w4 ⟨rfl, h4, hb⟩
      have hAr4 := hAr3.trans hb
      clear hcall hb h3 p0 p1 p2 p3 hAr3 q0 q1 q2 q3
      have hcall := len_sep (l1 := []) (l2 := [RowO 24 4 (.slice (some ⟨g, 0, none⟩) ks.length cap) ks.length (flatK ks)]) h4
      rw [HL.out, show (((k + 1 : Nat) : Int)) = (k : Int) + 1 by omega] at hcall
      go_wp2_with fail
      refine hcall.mono ?_
      rintro e w5 ⟨rfl, rfl⟩
      clear hcall
      go_wp2
      go_roundw
      case rel => exact ⟨k + 1, by omega, by go_num, h4, hAr4⟩
      case measure => simp [intOf]; omega
    · have hge : (ks.length : Int) ≤ (k : Int) := by omega
      obtain rfl : k = ks.length := by omega
      rw [List.take_length] at hS
      clear hlt hge hk
      go_wp2
      go_loopw [8] (fun i wr => ∃ (k : Nat) (qs : List Th), k ≤ ls.length ∧ i = .int .i64 k ∧ Hid (qs.length = ks.length) ∧ Sep wr w.heap.size [HeapO p (idxM qs), RowO 24 4 (.slice (some ⟨g, 0, none⟩) ks.length cap) ks.length (flatK qs)] ∧ Below w.heap.size w wr) (fun i _ => ls.length - (intOf i).toNat)
      case atStart => exact ⟨0, ks, Nat.zero_le _, rfl, Lib.hid rfl, hS, hAr⟩
      case round =>
        obtain ⟨k, qs, hk, rfl, HQ, hS, hAr⟩ := hrel
        by_cases hlt : k < ls.length
        · have hlt2 : (k : Int) < (ls.length : Int) := by omega
          have hk0 : (0 : Int) ≤ (k : Int) := by omega
          have hk1 : (k : Int) ≤ 150 := by omega
          have hw1 : IntKind.i64.wrap ((k : Int) + 1) = (k : Int) + 1 := IntWalk.i64_in _ (by omega)
          obtain ⟨gb, go, rfl, q0, q1, q2, q3, q4, q5⟩ := hd.at hlt
          have hwt : WfT (atD ls k).t := wf _ (by simp [atD, List.getD_eq_getElem?_getD, hlt])
          generalize (atD ls k).d = dd at *
          generalize (atD ls k).t = t at *
          replace q0 := cell_later hAr q0
          replace q1 := cell_later hAr q1
          replace q2 := cell_later hAr q2
          replace q3 := cell_later hAr q3
          replace q4 := cell_later hAr q4
          replace q5 := cell_later hAr q5
          have h3 := hS.box #[.int .i64 dd, .int .i64 t.id, .int .u64 t.F, .int .u64 t.H, .int .i64 t.Y, .int .i64 t.X] 41
          have hA3 := bl_al hAr (.cells #[.int .i64 dd, .int .i64 t.id, .int .u64 t.F, .int .u64 t.H, .int .i64 t.Y, .int .i64 t.X] 41)
          have hcall := lower_sep (l1 := []) (l2 := [RowO 24 4 (.slice (some ⟨g, 0, none⟩) ks.length cap) ks.length (flatK qs), CellsO wr.heap.size #[.int .i64 dd, .int .i64 t.id, .int .u64 t.F, .int .u64 t.H, .int .i64 t.Y, .int .i64 t.X] 41]) t h3 hwt.id (by rw [idxM_len, HQ.out]; omega)
          obtain ⟨le, hle⟩ : ∃ le, lowerE (idxM qs) t = le := ⟨_, rfl⟩
          obtain ⟨lm, hlm⟩ : ∃ lm, lowerM (idxM qs) t = lm := ⟨_, rfl⟩
          rw [hle, hlm] at hcall
          have HLE := Lib.hid hle
          have HLM := Lib.hid hlm
          clear hS hAr h3 hle hlm
          go_wp2_with fail
          refine hcall.mono ?_
          rintro e w4 ⟨rfl, h4, hb⟩
          have hA4 := hA3.trans hb
          obtain ⟨rb, zb⟩ := Sep.cells (l1 := [HeapO p lm, RowO 24 4 (.slice (some ⟨g, 0, none⟩) ks.length cap) ks.length (flatK qs)]) (l2 := []) h4
          have b1 : w4.cell? ⟨wr.heap.size, 1, none⟩ = some (.int .i64 t.id) := by simp [World.cell?, rb]
          have b2 : w4.cell? ⟨wr.heap.size, 2, none⟩ = some (.int .u64 t.F) := by simp [World.cell?, rb]
          have b3 : w4.cell? ⟨wr.heap.size, 3, none⟩ = some (.int .u64 t.H) := by simp [World.cell?, rb]
          have b4 : w4.cell? ⟨wr.heap.size, 4, none⟩ = some (.int .i64 t.Y) := by simp [World.cell?, rb]
          have b5 : w4.cell? ⟨wr.heap.size, 5, none⟩ = some (.int .i64 t.X) := by simp [World.cell?, rb]
          clear hcall hb hA3 q0 q1 q2 q3 q4 q5 rb
          have hfi := find_idx qs t.id
          by_cases hin : 0 ≤ t.id ∧ t.id < (ks.length : Int)
          · rw [if_pos (by rw [HQ.out]; exact hin)] at hfi
            obtain ⟨i, hi⟩ : ∃ i : Nat, t.id = (i : Int) := ⟨t.id.toNat, by omega⟩
            have hil : i < ks.length := by omega
            have hil2 : i < qs.length := by rw [HQ.out]; exact hil
            have hi0 : (0 : Int) ≤ (i : Int) := by omega
            have hi1 : (i : Int) < (ks.length : Int) := by omega
            rw [hi, Int.toNat_natCast] at hfi
            obtain ⟨hrow, hfz, hgB, hgW, hncap⟩ := Sep.row (l1 := [HeapO p lm]) (l2 := [CellsO wr.heap.size #[.int .i64 dd, .int .i64 t.id, .int .u64 t.F, .int .u64 t.H, .int .i64 t.Y, .int .i64 t.X] 41]) h4
            obtain ⟨e0, e1, e2, e3⟩ := flatK_at qs i hil2
            have y0 := hrow _ _ e0
            have y1 := hrow _ _ e1
            have y2 := hrow _ _ e2
            have y3 := hrow _ _ e3
            have zg := blk_lt y0
            have zb1 := blk_lt b1
            have hT := Lib.hid (show t.id = (i : Int) from hi)
            generalize hqx : atT qs i = q at *
            clear hrow e0 e1 e2 e3 hin
            cases hls : lessK t q
            · have e14 : le = 1 := by rw [← HLE.out]; unfold lowerE; rw [hT.out, hfi]; simp only [less_id, hls]; rfl
              have elm : lm = idxM qs := by rw [← HLM.out]; unfold lowerM; rw [hT.out, hfi]; simp only [less_id, hls]; rfl
              subst e14
              rw [elm] at h4
              have h5 := Sep.drop (l1 := [HeapO p (idxM qs), RowO 24 4 (.slice (some ⟨g, 0, none⟩) ks.length cap) ks.length (flatK qs)]) (l2 := []) h4
              clear h4 hfi elm HLE HLM hqx hfz
              have hB := bl_dr (bl0 w4)
              go_upto_region 18 with fail
              go_region_held3 (fun w' => w'.cell? ⟨wr.heap.size, 1, none⟩ = some (.int .i64 t.id) ∧ w'.cell? ⟨wr.heap.size, 2, none⟩ = some (.int .u64 t.F) ∧ w'.cell? ⟨wr.heap.size, 3, none⟩ = some (.int .u64 t.H) ∧ w'.cell? ⟨wr.heap.size, 4, none⟩ = some (.int .i64 t.Y) ∧ w'.cell? ⟨wr.heap.size, 5, none⟩ = some (.int .i64 t.X) ∧ w'.cell? ⟨g, i * 4, none⟩ = some (.int .u64 q.F) ∧ w'.cell? ⟨g, i * 4 + 1, none⟩ = some (.int .u64 q.H) ∧ w'.cell? ⟨g, i * 4 + 2, none⟩ = some (.int .i64 q.Y) ∧ w'.cell? ⟨g, i * 4 + 3, none⟩ = some (.int .i64 q.X))
                (exact ⟨cell_later hB b1, cell_later hB b2, cell_later hB b3, cell_later hB b4, cell_later hB b5, cell_later hB y0, cell_later hB y1, cell_later hB y2, cell_later hB y3⟩)
                ((go_at_call 9; (with_reducible refine (less_any t q _).mono ?_); rintro e W2 ⟨rfl, hb⟩; replace hB := bl_tr hB hb; clear hb))
              all_goals
                have h6 := h5.below hB
                have hA6 := bl_tr hA4 hB
                clear hB h5 hA4 y0 y1 y2 y3 b1 b2 b3 b4 b5
                go_wp2
                go_roundw
                case rel => exact ⟨k + 1, qs, by omega, by go_num, HQ, h6, hA6⟩
                case measure => simp [intOf]; omega
            · have e14 : le = 0 := by rw [← HLE.out]; unfold lowerE; rw [hT.out, hfi]; simp only [less_id, hls]; rfl
              have elm : lm = idxM (qs.set i t) := by
                rw [← HLM.out]
                unfold lowerM
                rw [hT.out, hfi]
                simp only [less_id, hls, if_true]
                rw [← idx_set hil2 hT.out, hT.out]
              subst e14
              rw [elm] at h4
              have h5 := Sep.drop (l1 := [HeapO p (idxM (qs.set i t)), RowO 24 4 (.slice (some ⟨g, 0, none⟩) ks.length cap) ks.length (flatK qs)]) (l2 := []) h4
              clear h4 hfi elm HLE HLM hqx
              have hB := bl_dr (bl0 w4)
              go_upto_region 18 with fail
              go_region_held3 (fun w' => w'.cell? ⟨wr.heap.size, 1, none⟩ = some (.int .i64 t.id) ∧ w'.cell? ⟨wr.heap.size, 2, none⟩ = some (.int .u64 t.F) ∧ w'.cell? ⟨wr.heap.size, 3, none⟩ = some (.int .u64 t.H) ∧ w'.cell? ⟨wr.heap.size, 4, none⟩ = some (.int .i64 t.Y) ∧ w'.cell? ⟨wr.heap.size, 5, none⟩ = some (.int .i64 t.X) ∧ w'.cell? ⟨g, i * 4, none⟩ = some (.int .u64 q.F) ∧ w'.cell? ⟨g, i * 4 + 1, none⟩ = some (.int .u64 q.H) ∧ w'.cell? ⟨g, i * 4 + 2, none⟩ = some (.int .i64 q.Y) ∧ w'.cell? ⟨g, i * 4 + 3, none⟩ = some (.int .i64 q.X))
                (exact ⟨cell_later hB b1, cell_later hB b2, cell_later hB b3, cell_later hB b4, cell_later hB b5, cell_later hB y0, cell_later hB y1, cell_later hB y2, cell_later hB y3⟩)
                ((go_at_call 9; (with_reducible refine (less_any t q _).mono ?_); rintro e W2 ⟨rfl, hb⟩; replace hB := bl_tr hB hb; clear hb))
              all_goals
                have h6 := h5.below hB
                have hA6 := bl_tr hA4 hB
                obtain ⟨_, hfz6, _, _, _⟩ := Sep.row (l1 := [HeapO p (idxM (qs.set i t))]) (l2 := []) h6
                have f0 := hfz6 (i * 4)
                have f1 := hfz6 (i * 4 + 1)
                have f2 := hfz6 (i * 4 + 2)
                have f3 := hfz6 (i * 4 + 3)
                replace b1 := cell_later hB b1
                replace b2 := cell_later hB b2
                replace b3 := cell_later hB b3
                replace b4 := cell_later hB b4
                replace b5 := cell_later hB b5
                replace y0 := cell_later hB y0
                replace y1 := cell_later hB y1
                replace y2 := cell_later hB y2
                replace y3 := cell_later hB y3
                have h7 := Sep.rowset (l1 := [HeapO p (idxM (qs.set i t))]) (l2 := []) h6 (i * 4) (.int .u64 t.F)
                replace h7 := Sep.rowset (l1 := [HeapO p (idxM (qs.set i t))]) (l2 := []) h7 (i * 4 + 1) (.int .u64 t.H)
                replace h7 := Sep.rowset (l1 := [HeapO p (idxM (qs.set i t))]) (l2 := []) h7 (i * 4 + 2) (.int .i64 t.Y)
                replace h7 := Sep.rowset (l1 := [HeapO p (idxM (qs.set i t))]) (l2 := []) h7 (i * 4 + 3) (.int .i64 t.X)
                rw [← flatK_set qs i t hil2] at h7
                have q0 := hgrown_set W2 g (i * 4) (.int .u64 t.F)
                have q1 := q0.trans (hgrown_set _ g (i * 4 + 1) (.int .u64 t.H))
                have q2 := q1.trans (hgrown_set _ g (i * 4 + 2) (.int .i64 t.Y))
                have q3 := q2.trans (hgrown_set _ g (i * 4 + 3) (.int .i64 t.X))
                have hA7 := hA6.grown q3 hA6.size (fun j e => by cases e; exact hgB)
                have H7 := Lib.hid h7
                have HA7 := Lib.hid hA7
                have HQ2 := Lib.hid (show (qs.set i t).length = ks.length by rw [List.length_set]; exact HQ.out)
                clear hB h5 hA4 h6 hA6 h7 hA7 q0 q1 q2 q3 hfz hfz6
                go_wp2
                go_roundw
                case rel => exact ⟨k + 1, qs.set i t, by omega, by go_num, HQ2, H7.out, HA7.out⟩
                case measure => simp [intOf]; omega
          · rw [if_neg (by rw [HQ.out]; exact hin)] at hfi
            have e14 : le = 14 := by rw [← HLE.out]; unfold lowerE; rw [hfi]
            have elm : lm = idxM qs := by rw [← HLM.out]; unfold lowerM; rw [hfi]
            subst e14
            rw [elm] at h4
            have h5 := Sep.drop (l1 := [HeapO p (idxM qs), RowO 24 4 (.slice (some ⟨g, 0, none⟩) ks.length cap) ks.length (flatK qs)]) (l2 := []) h4
            clear h4 hfi elm HLE HLM
            by_cases hneg : t.id < 0
            · go_wp2
              go_roundw
              case rel => exact ⟨k + 1, qs, by omega, by go_num, HQ, h5, hA4⟩
              case measure => simp [intOf]; omega
            · have hge : (ks.length : Int) ≤ t.id := by omega
              have hneg2 : 0 ≤ t.id := by omega
              clear hin hneg
              go_wp2
              go_roundw
              case rel => exact ⟨k + 1, qs, by omega, by go_num, HQ, h5, hA4⟩
              case measure => simp [intOf]; omega
        · have hge : (ls.length : Int) ≤ (k : Int) := by omega
          obtain rfl : k = ls.length := by omega
          clear hlt hge hk hd hr wf
          have hmk := fun w => make_bool ks.length (by omega) w
          have h3 := (hS.bools ks.length (by omega)).box #[.int .u64 0, .int .u64 0, .int .i64 0, .int .i64 0] 24
          have hA3 := bl_al (bl_al hAr (.cells (Array.replicate ks.length (Value.bool false)) 4)) (.cells #[.int .u64 0, .int .u64 0, .int .i64 0, .int .i64 0] 24)
          rw [World.size_alloc] at h3
          obtain ⟨c0, hc0⟩ : ∃ c0, wr.heap.size = c0 := ⟨_, rfl⟩
          rw [hc0] at h3
          have hPI := PopI.start qs
          rw [HQ.out] at hPI
          have HPI := Lib.hid hPI
          clear hS hAr hPI
          go_wp2
          clear hc0 hmk
          go_loopw [13, 14] (fun bf i wr => ∃ (k : Nat) (m : List Th) (cs : List Bool) (last : Th), k ≤ ks.length ∧ i = .int .i64 k ∧ bf = .int .i64 last.id ∧ Hid (PopI qs k m cs last) ∧ Sep wr w.heap.size [HeapO p m, RowO 24 4 (.slice (some ⟨g, 0, none⟩) ks.length cap) ks.length (flatK qs), RowO 4 1 (.slice (some ⟨c0, 0, none⟩) ks.length ks.length) ks.length (flatB cs), CellsO (c0 + 1) #[.int .u64 last.F, .int .u64 last.H, .int .i64 last.Y, .int .i64 last.X] 24] ∧ Below w.heap.size w wr) (fun _ i _ => ks.length - (intOf i).toNat)
          case atStart => exact ⟨0, idxM qs, _, ⟨-1, 0, 0, 0, 0⟩, Nat.zero_le _, rfl, rfl, HPI, h3, hA3⟩
          case round =>
            obtain ⟨k, m, cs, last, hk, rfl, rfl, HP, hS, hAr⟩ := hrel
            clear h3 hA3
            by_cases hlt : k < ks.length
            · have hlt2 : (k : Int) < (ks.length : Int) := by omega
              have hk0 : (0 : Int) ≤ (k : Int) := by omega
              have hk1 : (k : Int) ≤ 150 := by omega
              have hw1 : IntKind.i64.wrap ((k : Int) + 1) = (k : Int) + 1 := IntWalk.i64_in _ (by omega)
              have hw2 : IntKind.i64.wrap ((ks.length : Int) - 1) = (ks.length : Int) - 1 := IntWalk.i64_in _ (by omega)
              have hw3 : IntKind.i64.wrap ((ks.length : Int) - 1 - (k : Int)) = (ks.length : Int) - 1 - (k : Int) := IntWalk.i64_in _ (by omega)
              obtain ⟨i, hi, hfst, hcs, hme, hpl, hsr, hfn, hP2⟩ := HP.out.step (by rw [HQ.out]; exact hlt)
              have hcl := HP.out.cl
              rw [HQ.out] at hi hpl hcl
              have hml : m.length ≤ 150 := by have := HP.out.len; rw [HQ.out] at this; omega
              have HP2 := Lib.hid hP2
              have hcall := pop_sep (l1 := []) (l2 := [RowO 24 4 (.slice (some ⟨g, 0, none⟩) ks.length cap) ks.length (flatK qs), RowO 4 1 (.slice (some ⟨c0, 0, none⟩) ks.length ks.length) ks.length (flatB cs), CellsO (c0 + 1) #[.int .u64 last.F, .int .u64 last.H, .int .i64 last.Y, .int .i64 last.X] 24]) hS (by omega)
              rw [hfst, hme] at hcall
              have hplI : ((popM m).length : Int) = (ks.length : Int) - 1 - (k : Int) := by omega
              obtain ⟨e0, e1, e2, e3⟩ := flatK_at qs i (by rw [HQ.out]; exact hi)
              have ec := flatB_at (cs := cs) (i := i) (by rw [hcl]; exact hi)
              rw [hcs] at ec
              generalize hqx : atT qs i = q at *
              simp only [withId] at hcall
              generalize hm2 : popM m = m2 at *
              have HCL := Lib.hid hcl
              have HSR := Lib.hid hsr
              have HFN := Lib.hid hfn
              have HPL := Lib.hid hpl
              have HPLI := Lib.hid hplI
              clear HP hP2 hS hfst hcs hme hcl hqx hm2 hsr hfn hpl hplI
              go_wp2_with fail
              refine hcall.mono ?_
              rintro e w4 ⟨rfl, h4, hb⟩
              have hA4 := hAr.trans hb
              clear hcall hb hAr
              replace h4 := h4.box #[.int .u64 q.F, .int .u64 q.H, .int .i64 q.Y, .int .i64 q.X] 24
              replace hA4 := bl_al hA4 (.cells #[.int .u64 q.F, .int .u64 q.H, .int .i64 q.Y, .int .i64 q.X] 24)
              go_upto_region 31 with fail
              generalize hW5 : w4.alloc _ = w5 at *
              clear hW5
              generalize w4.heap.size = tb at *
              obtain ⟨hrow, _, _, hgW, _⟩ := Sep.row (l1 := [HeapO p m2]) (l2 := [RowO 4 1 (.slice (some ⟨c0, 0, none⟩) ks.length ks.length) ks.length (flatB cs), CellsO (c0 + 1) #[.int .u64 last.F, .int .u64 last.H, .int .i64 last.Y, .int .i64 last.X] 24, CellsO tb #[.int .u64 q.F, .int .u64 q.H, .int .i64 q.Y, .int .i64 q.X] 24]) h4
              obtain ⟨hcrow, _, _, hcW, _⟩ := Sep.row (l1 := [HeapO p m2, RowO 24 4 (.slice (some ⟨g, 0, none⟩) ks.length cap) ks.length (flatK qs)]) (l2 := [CellsO (c0 + 1) #[.int .u64 last.F, .int .u64 last.H, .int .i64 last.Y, .int .i64 last.X] 24, CellsO tb #[.int .u64 q.F, .int .u64 q.H, .int .i64 q.Y, .int .i64 q.X] 24]) h4
              obtain ⟨rl, _⟩ := Sep.cells (l1 := [HeapO p m2, RowO 24 4 (.slice (some ⟨g, 0, none⟩) ks.length cap) ks.length (flatK qs), RowO 4 1 (.slice (some ⟨c0, 0, none⟩) ks.length ks.length) ks.length (flatB cs)]) (l2 := [CellsO tb #[.int .u64 q.F, .int .u64 q.H, .int .i64 q.Y, .int .i64 q.X] 24]) h4
              obtain ⟨rt, _⟩ := Sep.cells (l1 := [HeapO p m2, RowO 24 4 (.slice (some ⟨g, 0, none⟩) ks.length cap) ks.length (flatK qs), RowO 4 1 (.slice (some ⟨c0, 0, none⟩) ks.length ks.length) ks.length (flatB cs), CellsO (c0 + 1) #[.int .u64 last.F, .int .u64 last.H, .int .i64 last.Y, .int .i64 last.X] 24]) (l2 := []) h4
              have y0 := hrow _ _ e0
              have y1 := hrow _ _ e1
              have y2 := hrow _ _ e2
              have y3 := hrow _ _ e3
              have yc := hcrow _ _ ec
              have x0 : w5.cell? ⟨tb, 0, none⟩ = some (.int .u64 q.F) := by simp [World.cell?, rt]
              have x1 : w5.cell? ⟨tb, 1, none⟩ = some (.int .u64 q.H) := by simp [World.cell?, rt]
              have x2 : w5.cell? ⟨tb, 2, none⟩ = some (.int .i64 q.Y) := by simp [World.cell?, rt]
              have x3 : w5.cell? ⟨tb, 3, none⟩ = some (.int .i64 q.X) := by simp [World.cell?, rt]
              have v0 : w5.cell? ⟨c0 + 1, 0, none⟩ = some (.int .u64 last.F) := by simp [World.cell?, rl]
              have v1 : w5.cell? ⟨c0 + 1, 1, none⟩ = some (.int .u64 last.H) := by simp [World.cell?, rl]
              have v2 : w5.cell? ⟨c0 + 1, 2, none⟩ = some (.int .i64 last.Y) := by simp [World.cell?, rl]
              have v3 : w5.cell? ⟨c0 + 1, 3, none⟩ = some (.int .i64 last.X) := by simp [World.cell?, rl]
              have hlenc : ∀ W, Below w5.heap.size w5 W → Calls Try.prog 23 #[.pointer (some ⟨p, 0, none⟩)] W fun e w' => e = .returned (.int .i64 ((ks.length : Int) - 1 - (k : Int))) ∧ w' = W := fun W hW => by
                have := len_sep (l1 := []) (l2 := [RowO 24 4 (.slice (some ⟨g, 0, none⟩) ks.length cap) ks.length (flatK qs), RowO 4 1 (.slice (some ⟨c0, 0, none⟩) ks.length ks.length) ks.length (flatB cs), CellsO (c0 + 1) #[.int .u64 last.F, .int .u64 last.H, .int .i64 last.Y, .int .i64 last.X] 24, CellsO tb #[.int .u64 q.F, .int .u64 q.H, .int .i64 q.Y, .int .i64 q.X] 24]) (h4.below hW)
                rw [HPLI.out] at this
                exact this
              have hi0 : (0 : Int) ≤ (i : Int) := by omega
              have hi1 : (i : Int) < (ks.length : Int) := by omega
              have hineg : decide ((i : Int) < 0) = false := decide_eq_false (by omega)
              have hige : decide (ks.length ≤ i) = false := decide_eq_false (by omega)
              have hige2 : decide ((ks.length : Int) ≤ (i : Int)) = false := decide_eq_false (by omega)
              clear hrow hcrow rl rt e0 e1 e2 e3 ec
              have hB := bl_dr (bl0 w5)
              go_region_held3 (fun w' => w'.cell? ⟨c0, i, none⟩ = some (.bool false) ∧ w'.cell? ⟨tb, 0, none⟩ = some (.int .u64 q.F) ∧ w'.cell? ⟨tb, 1, none⟩ = some (.int .u64 q.H) ∧ w'.cell? ⟨tb, 2, none⟩ = some (.int .i64 q.Y) ∧ w'.cell? ⟨tb, 3, none⟩ = some (.int .i64 q.X) ∧ w'.cell? ⟨g, i * 4, none⟩ = some (.int .u64 q.F) ∧ w'.cell? ⟨g, i * 4 + 1, none⟩ = some (.int .u64 q.H) ∧ w'.cell? ⟨g, i * 4 + 2, none⟩ = some (.int .i64 q.Y) ∧ w'.cell? ⟨g, i * 4 + 3, none⟩ = some (.int .i64 q.X))
                (exact ⟨cell_later hB yc, cell_later hB x0, cell_later hB x1, cell_later hB x2, cell_later hB x3, cell_later hB y0, cell_later hB y1, cell_later hB y2, cell_later hB y3⟩)
                ((go_at_call 23; (with_reducible refine (hlenc _ hB).mono ?_); rintro e W2 ⟨rfl, rfl⟩))
              all_goals
                have h6 := h4.below hB
                have hA6 := bl_tr hA4 hB
                have heq := fun w => eql_key q last w
                generalize hW6 : w5.drew = w6 at *
                replace x0 := cell_later hB x0
                replace x1 := cell_later hB x1
                replace x2 := cell_later hB x2
                replace x3 := cell_later hB x3
                replace v0 := cell_later hB v0
                replace v1 := cell_later hB v1
                replace v2 := cell_later hB v2
                replace v3 := cell_later hB v3
                clear hB h4 hA4 hlenc y0 y1 y2 y3 yc hW6
                by_cases hkz : k = 0
                · have hkz2 : decide ((0 : Int) < (k : Int)) = false := decide_eq_false (by omega)
                  have hkz3 : decide (0 < k) = false := decide_eq_false (by omega)
                  obtain ⟨w7, hw7⟩ : ∃ w7, w6 = w7 := ⟨_, rfl⟩
                  rw [hw7] at h6 hA6 ⊢
                  clear v0 v1 v2 v3 x0 x1 x2 x3 heq hw7
                  have hcall := key_sep (l1 := []) (l2 := [RowO 24 4 (.slice (some ⟨g, 0, none⟩) ks.length cap) ks.length (flatK qs), RowO 4 1 (.slice (some ⟨c0, 0, none⟩) ks.length ks.length) ks.length (flatB cs), CellsO (c0 + 1) #[.int .u64 last.F, .int .u64 last.H, .int .i64 last.Y, .int .i64 last.X] 24, CellsO tb #[.int .u64 q.F, .int .u64 q.H, .int .i64 q.Y, .int .i64 q.X] 24]) (i : Int) h6 (WalkArith.wf_i64 (by omega))
                  unfold keyA at hcall
                  rw [HFN.out] at hcall
                  rw [show ((none : Option Th).getD default) = ⟨0, 0, 0, 0, 0⟩ from rfl, show (none : Option Th).isSome = false from rfl] at hcall
                  dsimp only at hcall
                  go_wp2_with fail
                  refine hcall.mono ?_
                  rintro e w8 ⟨rfl, h8, hb⟩
                  have hA8 := bl_tr hA6 hb
                  replace h8 := h8.box #[.int .u64 0, .int .u64 0, .int .i64 0, .int .i64 0] 24
                  replace hA8 := bl_al hA8 (.cells #[.int .u64 0, .int .u64 0, .int .i64 0, .int .i64 0] 24)
                  clear hcall hb h6 hA6
                  go_upto_region 38 with fail
                  generalize hW9 : w8.alloc _ = w9 at *
                  generalize w8.heap.size = zb at *
                  clear hW9
                  obtain ⟨hcrow, hcf, hcB, hcW, _⟩ := Sep.row (l1 := [HeapO p m2, RowO 24 4 (.slice (some ⟨g, 0, none⟩) ks.length cap) ks.length (flatK qs)]) (l2 := [CellsO (c0 + 1) #[.int .u64 last.F, .int .u64 last.H, .int .i64 last.Y, .int .i64 last.X] 24, CellsO tb #[.int .u64 q.F, .int .u64 q.H, .int .i64 q.Y, .int .i64 q.X] 24, CellsO zb #[.int .u64 0, .int .u64 0, .int .i64 0, .int .i64 0] 24]) h8
                  obtain ⟨rl, hlB⟩ := Sep.cells (l1 := [HeapO p m2, RowO 24 4 (.slice (some ⟨g, 0, none⟩) ks.length cap) ks.length (flatK qs), RowO 4 1 (.slice (some ⟨c0, 0, none⟩) ks.length ks.length) ks.length (flatB cs)]) (l2 := [CellsO tb #[.int .u64 q.F, .int .u64 q.H, .int .i64 q.Y, .int .i64 q.X] 24, CellsO zb #[.int .u64 0, .int .u64 0, .int .i64 0, .int .i64 0] 24]) h8
                  obtain ⟨rt, _⟩ := Sep.cells (l1 := [HeapO p m2, RowO 24 4 (.slice (some ⟨g, 0, none⟩) ks.length cap) ks.length (flatK qs), RowO 4 1 (.slice (some ⟨c0, 0, none⟩) ks.length ks.length) ks.length (flatB cs), CellsO (c0 + 1) #[.int .u64 last.F, .int .u64 last.H, .int .i64 last.Y, .int .i64 last.X] 24]) (l2 := [CellsO zb #[.int .u64 0, .int .u64 0, .int .i64 0, .int .i64 0] 24]) h8
                  have yc := hcrow _ _ (flatB_at (cs := cs) (i := i) (by rw [HCL.out]; exact hi))
                  have fc := hcf i
                  have g10 := hgrown_set w9 c0 i (.bool true)
                  have h10 := Sep.rowset (l1 := [HeapO p m2, RowO 24 4 (.slice (some ⟨g, 0, none⟩) ks.length cap) ks.length (flatK qs)]) (l2 := [CellsO (c0 + 1) #[.int .u64 last.F, .int .u64 last.H, .int .i64 last.Y, .int .i64 last.X] 24, CellsO tb #[.int .u64 q.F, .int .u64 q.H, .int .i64 q.Y, .int .i64 q.X] 24, CellsO zb #[.int .u64 0, .int .u64 0, .int .i64 0, .int .i64 0] 24]) h8 i (.bool true)
                  rw [flatB_set] at h10
                  have hA10 := hA8.grown g10 hA8.size (fun j e => by cases e; exact hcB)
                  clear hcrow hcf rl rt h8 hA8 g10
                  go_upto_region 39 with fail
                  generalize hW10 : w9.setCell _ _ = w10 at *
                  clear hW10 yc fc
                  obtain ⟨rl, _⟩ := Sep.cells (l1 := [HeapO p m2, RowO 24 4 (.slice (some ⟨g, 0, none⟩) ks.length cap) ks.length (flatK qs), RowO 4 1 (.slice (some ⟨c0, 0, none⟩) ks.length ks.length) ks.length (flatB (cs.set i true))]) (l2 := [CellsO tb #[.int .u64 q.F, .int .u64 q.H, .int .i64 q.Y, .int .i64 q.X] 24, CellsO zb #[.int .u64 0, .int .u64 0, .int .i64 0, .int .i64 0] 24]) h10
                  obtain ⟨rt, _⟩ := Sep.cells (l1 := [HeapO p m2, RowO 24 4 (.slice (some ⟨g, 0, none⟩) ks.length cap) ks.length (flatK qs), RowO 4 1 (.slice (some ⟨c0, 0, none⟩) ks.length ks.length) ks.length (flatB (cs.set i true)), CellsO (c0 + 1) #[.int .u64 last.F, .int .u64 last.H, .int .i64 last.Y, .int .i64 last.X] 24]) (l2 := [CellsO zb #[.int .u64 0, .int .u64 0, .int .i64 0, .int .i64 0] 24]) h10
                  have x0 : w10.cell? ⟨tb, 0, none⟩ = some (.int .u64 q.F) := by simp [World.cell?, rt]
                  have x1 : w10.cell? ⟨tb, 1, none⟩ = some (.int .u64 q.H) := by simp [World.cell?, rt]
                  have x2 : w10.cell? ⟨tb, 2, none⟩ = some (.int .i64 q.Y) := by simp [World.cell?, rt]
                  have x3 : w10.cell? ⟨tb, 3, none⟩ = some (.int .i64 q.X) := by simp [World.cell?, rt]
                  have v0 : w10.cell? ⟨c0 + 1, 0, none⟩ = some (.int .u64 last.F) := by simp [World.cell?, rl]
                  have v1 : w10.cell? ⟨c0 + 1, 1, none⟩ = some (.int .u64 last.H) := by simp [World.cell?, rl]
                  have v2 : w10.cell? ⟨c0 + 1, 2, none⟩ = some (.int .i64 last.Y) := by simp [World.cell?, rl]
                  have v3 : w10.cell? ⟨c0 + 1, 3, none⟩ = some (.int .i64 last.X) := by simp [World.cell?, rl]
                  have f0 : w10.frozen? ⟨c0 + 1, 0, none⟩ = false := by simp [World.frozen?, rl]
                  have f1 : w10.frozen? ⟨c0 + 1, 1, none⟩ = false := by simp [World.frozen?, rl]
                  have f2 : w10.frozen? ⟨c0 + 1, 2, none⟩ = false := by simp [World.frozen?, rl]
                  have f3 : w10.frozen? ⟨c0 + 1, 3, none⟩ = false := by simp [World.frozen?, rl]
                  clear rl rt
                  have h11 := Sep.set (l1 := [HeapO p m2, RowO 24 4 (.slice (some ⟨g, 0, none⟩) ks.length cap) ks.length (flatK qs), RowO 4 1 (.slice (some ⟨c0, 0, none⟩) ks.length ks.length) ks.length (flatB (cs.set i true))]) (l2 := [CellsO tb #[.int .u64 q.F, .int .u64 q.H, .int .i64 q.Y, .int .i64 q.X] 24, CellsO zb #[.int .u64 0, .int .u64 0, .int .i64 0, .int .i64 0] 24]) h10 0 (.int .u64 q.F)
                  replace h11 := Sep.set (l1 := [HeapO p m2, RowO 24 4 (.slice (some ⟨g, 0, none⟩) ks.length cap) ks.length (flatK qs), RowO 4 1 (.slice (some ⟨c0, 0, none⟩) ks.length ks.length) ks.length (flatB (cs.set i true))]) (l2 := [CellsO tb #[.int .u64 q.F, .int .u64 q.H, .int .i64 q.Y, .int .i64 q.X] 24, CellsO zb #[.int .u64 0, .int .u64 0, .int .i64 0, .int .i64 0] 24]) h11 1 (.int .u64 q.H)
                  replace h11 := Sep.set (l1 := [HeapO p m2, RowO 24 4 (.slice (some ⟨g, 0, none⟩) ks.length cap) ks.length (flatK qs), RowO 4 1 (.slice (some ⟨c0, 0, none⟩) ks.length ks.length) ks.length (flatB (cs.set i true))]) (l2 := [CellsO tb #[.int .u64 q.F, .int .u64 q.H, .int .i64 q.Y, .int .i64 q.X] 24, CellsO zb #[.int .u64 0, .int .u64 0, .int .i64 0, .int .i64 0] 24]) h11 2 (.int .i64 q.Y)
                  replace h11 := Sep.set (l1 := [HeapO p m2, RowO 24 4 (.slice (some ⟨g, 0, none⟩) ks.length cap) ks.length (flatK qs), RowO 4 1 (.slice (some ⟨c0, 0, none⟩) ks.length ks.length) ks.length (flatB (cs.set i true))]) (l2 := [CellsO tb #[.int .u64 q.F, .int .u64 q.H, .int .i64 q.Y, .int .i64 q.X] 24, CellsO zb #[.int .u64 0, .int .u64 0, .int .i64 0, .int .i64 0] 24]) h11 3 (.int .i64 q.X)
                  have q0 := hgrown_set w10 (c0 + 1) 0 (.int .u64 q.F)
                  have q1 := q0.trans (hgrown_set _ (c0 + 1) 1 (.int .u64 q.H))
                  have q2 := q1.trans (hgrown_set _ (c0 + 1) 2 (.int .i64 q.Y))
                  have q3 := q2.trans (hgrown_set _ (c0 + 1) 3 (.int .i64 q.X))
                  have hA11 := hA10.grown q3 hA10.size (fun j e => by cases e; exact hlB)
                  have LBN : CellsO (c0 + 1) ((((#[Value.int .u64 last.F, .int .u64 last.H, .int .i64 last.Y, .int .i64 last.X].setIfInBounds 0 (.int .u64 q.F)).setIfInBounds 1 (.int .u64 q.H)).setIfInBounds 2 (.int .i64 q.Y)).setIfInBounds 3 (.int .i64 q.X)) 24 = CellsO (c0 + 1) #[.int .u64 (withId (i : Int) q).F, .int .u64 (withId (i : Int) q).H, .int .i64 (withId (i : Int) q).Y, .int .i64 (withId (i : Int) q).X] 24 := by simp [withId]
                  rw [LBN] at h11
                  have h12 := Sep.drop (l1 := [HeapO p m2, RowO 24 4 (.slice (some ⟨g, 0, none⟩) ks.length cap) ks.length (flatK qs), RowO 4 1 (.slice (some ⟨c0, 0, none⟩) ks.length ks.length) ks.length (flatB (cs.set i true)), CellsO (c0 + 1) #[.int .u64 (withId (i : Int) q).F, .int .u64 (withId (i : Int) q).H, .int .i64 (withId (i : Int) q).Y, .int .i64 (withId (i : Int) q).X] 24]) (l2 := [CellsO zb #[.int .u64 0, .int .u64 0, .int .i64 0, .int .i64 0] 24]) h11
                  replace h12 := Sep.drop (l1 := [HeapO p m2, RowO 24 4 (.slice (some ⟨g, 0, none⟩) ks.length cap) ks.length (flatK qs), RowO 4 1 (.slice (some ⟨c0, 0, none⟩) ks.length ks.length) ks.length (flatB (cs.set i true)), CellsO (c0 + 1) #[.int .u64 (withId (i : Int) q).F, .int .u64 (withId (i : Int) q).H, .int .i64 (withId (i : Int) q).Y, .int .i64 (withId (i : Int) q).X] 24]) (l2 := []) h12
                  have H12 := Lib.hid h12
                  have HA11 := Lib.hid hA11
                  clear h12 hA11 h11 h10 hA10 q0 q1 q2 q3 LBN
                  go_wp2
                  go_roundw
                  case rel => exact ⟨k + 1, m2, cs.set i true, withId (i : Int) q, by omega, by go_num, rfl, HP2, H12.out, HA11.out⟩
                  case measure => simp [intOf]; omega
                · have hkz2 : (0 : Int) < (k : Int) := by omega
                  have hkz3 : 0 < k := by omega
                  obtain ⟨hl1, hl2⟩ := HSR.out hkz3
                  cases hsm : sameK q last
                  · go_wp2_with fail
                    refine (less_any q last _).mono ?_
                    rintro e w7 ⟨rfl, hB⟩
                    replace x0 := cell_later hB x0
                    replace x1 := cell_later hB x1
                    replace x2 := cell_later hB x2
                    replace x3 := cell_later hB x3
                    replace v0 := cell_later hB v0
                    replace v1 := cell_later hB v1
                    replace v2 := cell_later hB v2
                    replace v3 := cell_later hB v3
                    replace h6 := h6.below hB
                    replace hA6 := bl_tr hA6 hB
                    clear hB
                    have hcall := key_sep (l1 := []) (l2 := [RowO 24 4 (.slice (some ⟨g, 0, none⟩) ks.length cap) ks.length (flatK qs), RowO 4 1 (.slice (some ⟨c0, 0, none⟩) ks.length ks.length) ks.length (flatB cs), CellsO (c0 + 1) #[.int .u64 last.F, .int .u64 last.H, .int .i64 last.Y, .int .i64 last.X] 24, CellsO tb #[.int .u64 q.F, .int .u64 q.H, .int .i64 q.Y, .int .i64 q.X] 24]) (i : Int) h6 (WalkArith.wf_i64 (by omega))
                    unfold keyA at hcall
                    rw [HFN.out] at hcall
                    rw [show ((none : Option Th).getD default) = ⟨0, 0, 0, 0, 0⟩ from rfl, show (none : Option Th).isSome = false from rfl] at hcall
                    dsimp only at hcall
                    go_wp2_with fail
                    refine hcall.mono ?_
                    rintro e w8 ⟨rfl, h8, hb⟩
                    have hA8 := bl_tr hA6 hb
                    replace h8 := h8.box #[.int .u64 0, .int .u64 0, .int .i64 0, .int .i64 0] 24
                    replace hA8 := bl_al hA8 (.cells #[.int .u64 0, .int .u64 0, .int .i64 0, .int .i64 0] 24)
                    clear hcall hb h6 hA6
                    go_upto_region 38 with fail
                    generalize hW9 : w8.alloc _ = w9 at *
                    generalize w8.heap.size = zb at *
                    clear hW9
                    obtain ⟨hcrow, hcf, hcB, hcW, _⟩ := Sep.row (l1 := [HeapO p m2, RowO 24 4 (.slice (some ⟨g, 0, none⟩) ks.length cap) ks.length (flatK qs)]) (l2 := [CellsO (c0 + 1) #[.int .u64 last.F, .int .u64 last.H, .int .i64 last.Y, .int .i64 last.X] 24, CellsO tb #[.int .u64 q.F, .int .u64 q.H, .int .i64 q.Y, .int .i64 q.X] 24, CellsO zb #[.int .u64 0, .int .u64 0, .int .i64 0, .int .i64 0] 24]) h8
                    obtain ⟨rl, hlB⟩ := Sep.cells (l1 := [HeapO p m2, RowO 24 4 (.slice (some ⟨g, 0, none⟩) ks.length cap) ks.length (flatK qs), RowO 4 1 (.slice (some ⟨c0, 0, none⟩) ks.length ks.length) ks.length (flatB cs)]) (l2 := [CellsO tb #[.int .u64 q.F, .int .u64 q.H, .int .i64 q.Y, .int .i64 q.X] 24, CellsO zb #[.int .u64 0, .int .u64 0, .int .i64 0, .int .i64 0] 24]) h8
                    obtain ⟨rt, _⟩ := Sep.cells (l1 := [HeapO p m2, RowO 24 4 (.slice (some ⟨g, 0, none⟩) ks.length cap) ks.length (flatK qs), RowO 4 1 (.slice (some ⟨c0, 0, none⟩) ks.length ks.length) ks.length (flatB cs), CellsO (c0 + 1) #[.int .u64 last.F, .int .u64 last.H, .int .i64 last.Y, .int .i64 last.X] 24]) (l2 := [CellsO zb #[.int .u64 0, .int .u64 0, .int .i64 0, .int .i64 0] 24]) h8
                    have yc := hcrow _ _ (flatB_at (cs := cs) (i := i) (by rw [HCL.out]; exact hi))
                    have fc := hcf i
                    have g10 := hgrown_set w9 c0 i (.bool true)
                    have h10 := Sep.rowset (l1 := [HeapO p m2, RowO 24 4 (.slice (some ⟨g, 0, none⟩) ks.length cap) ks.length (flatK qs)]) (l2 := [CellsO (c0 + 1) #[.int .u64 last.F, .int .u64 last.H, .int .i64 last.Y, .int .i64 last.X] 24, CellsO tb #[.int .u64 q.F, .int .u64 q.H, .int .i64 q.Y, .int .i64 q.X] 24, CellsO zb #[.int .u64 0, .int .u64 0, .int .i64 0, .int .i64 0] 24]) h8 i (.bool true)
                    rw [flatB_set] at h10
                    have hA10 := hA8.grown g10 hA8.size (fun j e => by cases e; exact hcB)
                    clear hcrow hcf rl rt h8 hA8 g10
                    go_upto_region 39 with fail
                    generalize hW10 : w9.setCell _ _ = w10 at *
                    clear hW10 yc fc
                    obtain ⟨rl, _⟩ := Sep.cells (l1 := [HeapO p m2, RowO 24 4 (.slice (some ⟨g, 0, none⟩) ks.length cap) ks.length (flatK qs), RowO 4 1 (.slice (some ⟨c0, 0, none⟩) ks.length ks.length) ks.length (flatB (cs.set i true))]) (l2 := [CellsO tb #[.int .u64 q.F, .int .u64 q.H, .int .i64 q.Y, .int .i64 q.X] 24, CellsO zb #[.int .u64 0, .int .u64 0, .int .i64 0, .int .i64 0] 24]) h10
                    obtain ⟨rt, _⟩ := Sep.cells (l1 := [HeapO p m2, RowO 24 4 (.slice (some ⟨g, 0, none⟩) ks.length cap) ks.length (flatK qs), RowO 4 1 (.slice (some ⟨c0, 0, none⟩) ks.length ks.length) ks.length (flatB (cs.set i true)), CellsO (c0 + 1) #[.int .u64 last.F, .int .u64 last.H, .int .i64 last.Y, .int .i64 last.X] 24]) (l2 := [CellsO zb #[.int .u64 0, .int .u64 0, .int .i64 0, .int .i64 0] 24]) h10
                    have x0 : w10.cell? ⟨tb, 0, none⟩ = some (.int .u64 q.F) := by simp [World.cell?, rt]
                    have x1 : w10.cell? ⟨tb, 1, none⟩ = some (.int .u64 q.H) := by simp [World.cell?, rt]
                    have x2 : w10.cell? ⟨tb, 2, none⟩ = some (.int .i64 q.Y) := by simp [World.cell?, rt]
                    have x3 : w10.cell? ⟨tb, 3, none⟩ = some (.int .i64 q.X) := by simp [World.cell?, rt]
                    have v0 : w10.cell? ⟨c0 + 1, 0, none⟩ = some (.int .u64 last.F) := by simp [World.cell?, rl]
                    have v1 : w10.cell? ⟨c0 + 1, 1, none⟩ = some (.int .u64 last.H) := by simp [World.cell?, rl]
                    have v2 : w10.cell? ⟨c0 + 1, 2, none⟩ = some (.int .i64 last.Y) := by simp [World.cell?, rl]
                    have v3 : w10.cell? ⟨c0 + 1, 3, none⟩ = some (.int .i64 last.X) := by simp [World.cell?, rl]
                    have f0 : w10.frozen? ⟨c0 + 1, 0, none⟩ = false := by simp [World.frozen?, rl]
                    have f1 : w10.frozen? ⟨c0 + 1, 1, none⟩ = false := by simp [World.frozen?, rl]
                    have f2 : w10.frozen? ⟨c0 + 1, 2, none⟩ = false := by simp [World.frozen?, rl]
                    have f3 : w10.frozen? ⟨c0 + 1, 3, none⟩ = false := by simp [World.frozen?, rl]
                    clear rl rt
                    have h11 := Sep.set (l1 := [HeapO p m2, RowO 24 4 (.slice (some ⟨g, 0, none⟩) ks.length cap) ks.length (flatK qs), RowO 4 1 (.slice (some ⟨c0, 0, none⟩) ks.length ks.length) ks.length (flatB (cs.set i true))]) (l2 := [CellsO tb #[.int .u64 q.F, .int .u64 q.H, .int .i64 q.Y, .int .i64 q.X] 24, CellsO zb #[.int .u64 0, .int .u64 0, .int .i64 0, .int .i64 0] 24]) h10 0 (.int .u64 q.F)
                    replace h11 := Sep.set (l1 := [HeapO p m2, RowO 24 4 (.slice (some ⟨g, 0, none⟩) ks.length cap) ks.length (flatK qs), RowO 4 1 (.slice (some ⟨c0, 0, none⟩) ks.length ks.length) ks.length (flatB (cs.set i true))]) (l2 := [CellsO tb #[.int .u64 q.F, .int .u64 q.H, .int .i64 q.Y, .int .i64 q.X] 24, CellsO zb #[.int .u64 0, .int .u64 0, .int .i64 0, .int .i64 0] 24]) h11 1 (.int .u64 q.H)
                    replace h11 := Sep.set (l1 := [HeapO p m2, RowO 24 4 (.slice (some ⟨g, 0, none⟩) ks.length cap) ks.length (flatK qs), RowO 4 1 (.slice (some ⟨c0, 0, none⟩) ks.length ks.length) ks.length (flatB (cs.set i true))]) (l2 := [CellsO tb #[.int .u64 q.F, .int .u64 q.H, .int .i64 q.Y, .int .i64 q.X] 24, CellsO zb #[.int .u64 0, .int .u64 0, .int .i64 0, .int .i64 0] 24]) h11 2 (.int .i64 q.Y)
                    replace h11 := Sep.set (l1 := [HeapO p m2, RowO 24 4 (.slice (some ⟨g, 0, none⟩) ks.length cap) ks.length (flatK qs), RowO 4 1 (.slice (some ⟨c0, 0, none⟩) ks.length ks.length) ks.length (flatB (cs.set i true))]) (l2 := [CellsO tb #[.int .u64 q.F, .int .u64 q.H, .int .i64 q.Y, .int .i64 q.X] 24, CellsO zb #[.int .u64 0, .int .u64 0, .int .i64 0, .int .i64 0] 24]) h11 3 (.int .i64 q.X)
                    have q0 := hgrown_set w10 (c0 + 1) 0 (.int .u64 q.F)
                    have q1 := q0.trans (hgrown_set _ (c0 + 1) 1 (.int .u64 q.H))
                    have q2 := q1.trans (hgrown_set _ (c0 + 1) 2 (.int .i64 q.Y))
                    have q3 := q2.trans (hgrown_set _ (c0 + 1) 3 (.int .i64 q.X))
                    have hA11 := hA10.grown q3 hA10.size (fun j e => by cases e; exact hlB)
                    have LBN : CellsO (c0 + 1) ((((#[Value.int .u64 last.F, .int .u64 last.H, .int .i64 last.Y, .int .i64 last.X].setIfInBounds 0 (.int .u64 q.F)).setIfInBounds 1 (.int .u64 q.H)).setIfInBounds 2 (.int .i64 q.Y)).setIfInBounds 3 (.int .i64 q.X)) 24 = CellsO (c0 + 1) #[.int .u64 (withId (i : Int) q).F, .int .u64 (withId (i : Int) q).H, .int .i64 (withId (i : Int) q).Y, .int .i64 (withId (i : Int) q).X] 24 := by simp [withId]
                    rw [LBN] at h11
                    have h12 := Sep.drop (l1 := [HeapO p m2, RowO 24 4 (.slice (some ⟨g, 0, none⟩) ks.length cap) ks.length (flatK qs), RowO 4 1 (.slice (some ⟨c0, 0, none⟩) ks.length ks.length) ks.length (flatB (cs.set i true)), CellsO (c0 + 1) #[.int .u64 (withId (i : Int) q).F, .int .u64 (withId (i : Int) q).H, .int .i64 (withId (i : Int) q).Y, .int .i64 (withId (i : Int) q).X] 24]) (l2 := [CellsO zb #[.int .u64 0, .int .u64 0, .int .i64 0, .int .i64 0] 24]) h11
                    replace h12 := Sep.drop (l1 := [HeapO p m2, RowO 24 4 (.slice (some ⟨g, 0, none⟩) ks.length cap) ks.length (flatK qs), RowO 4 1 (.slice (some ⟨c0, 0, none⟩) ks.length ks.length) ks.length (flatB (cs.set i true)), CellsO (c0 + 1) #[.int .u64 (withId (i : Int) q).F, .int .u64 (withId (i : Int) q).H, .int .i64 (withId (i : Int) q).Y, .int .i64 (withId (i : Int) q).X] 24]) (l2 := []) h12
                    have H12 := Lib.hid h12
                    have HA11 := Lib.hid hA11
                    clear h12 hA11 h11 h10 hA10 q0 q1 q2 q3 LBN
                    go_wp2
                    go_roundw
                    case rel => exact ⟨k + 1, m2, cs.set i true, withId (i : Int) q, by omega, by go_num, rfl, HP2, H12.out, HA11.out⟩
                    case measure => simp [intOf]; omega
                  · have hnl : decide ((i : Int) < last.id) = false := decide_eq_false (by have := hl2 hsm; omega)
                    go_wp2_with fail
                    refine (less_any q last _).mono ?_
                    rintro e w7 ⟨rfl, hB⟩
                    replace x0 := cell_later hB x0
                    replace x1 := cell_later hB x1
                    replace x2 := cell_later hB x2
                    replace x3 := cell_later hB x3
                    replace v0 := cell_later hB v0
                    replace v1 := cell_later hB v1
                    replace v2 := cell_later hB v2
                    replace v3 := cell_later hB v3
                    replace h6 := h6.below hB
                    replace hA6 := bl_tr hA6 hB
                    clear hB
                    have hcall := key_sep (l1 := []) (l2 := [RowO 24 4 (.slice (some ⟨g, 0, none⟩) ks.length cap) ks.length (flatK qs), RowO 4 1 (.slice (some ⟨c0, 0, none⟩) ks.length ks.length) ks.length (flatB cs), CellsO (c0 + 1) #[.int .u64 last.F, .int .u64 last.H, .int .i64 last.Y, .int .i64 last.X] 24, CellsO tb #[.int .u64 q.F, .int .u64 q.H, .int .i64 q.Y, .int .i64 q.X] 24]) (i : Int) h6 (WalkArith.wf_i64 (by omega))
                    unfold keyA at hcall
                    rw [HFN.out] at hcall
                    rw [show ((none : Option Th).getD default) = ⟨0, 0, 0, 0, 0⟩ from rfl, show (none : Option Th).isSome = false from rfl] at hcall
                    dsimp only at hcall
                    go_wp2_with fail
                    refine hcall.mono ?_
                    rintro e w8 ⟨rfl, h8, hb⟩
                    have hA8 := bl_tr hA6 hb
                    replace h8 := h8.box #[.int .u64 0, .int .u64 0, .int .i64 0, .int .i64 0] 24
                    replace hA8 := bl_al hA8 (.cells #[.int .u64 0, .int .u64 0, .int .i64 0, .int .i64 0] 24)
                    clear hcall hb h6 hA6
                    go_upto_region 38 with fail
                    generalize hW9 : w8.alloc _ = w9 at *
                    generalize w8.heap.size = zb at *
                    clear hW9
                    obtain ⟨hcrow, hcf, hcB, hcW, _⟩ := Sep.row (l1 := [HeapO p m2, RowO 24 4 (.slice (some ⟨g, 0, none⟩) ks.length cap) ks.length (flatK qs)]) (l2 := [CellsO (c0 + 1) #[.int .u64 last.F, .int .u64 last.H, .int .i64 last.Y, .int .i64 last.X] 24, CellsO tb #[.int .u64 q.F, .int .u64 q.H, .int .i64 q.Y, .int .i64 q.X] 24, CellsO zb #[.int .u64 0, .int .u64 0, .int .i64 0, .int .i64 0] 24]) h8
                    obtain ⟨rl, hlB⟩ := Sep.cells (l1 := [HeapO p m2, RowO 24 4 (.slice (some ⟨g, 0, none⟩) ks.length cap) ks.length (flatK qs), RowO 4 1 (.slice (some ⟨c0, 0, none⟩) ks.length ks.length) ks.length (flatB cs)]) (l2 := [CellsO tb #[.int .u64 q.F, .int .u64 q.H, .int .i64 q.Y, .int .i64 q.X] 24, CellsO zb #[.int .u64 0, .int .u64 0, .int .i64 0, .int .i64 0] 24]) h8
                    obtain ⟨rt, _⟩ := Sep.cells (l1 := [HeapO p m2, RowO 24 4 (.slice (some ⟨g, 0, none⟩) ks.length cap) ks.length (flatK qs), RowO 4 1 (.slice (some ⟨c0, 0, none⟩) ks.length ks.length) ks.length (flatB cs), CellsO (c0 + 1) #[.int .u64 last.F, .int .u64 last.H, .int .i64 last.Y, .int .i64 last.X] 24]) (l2 := [CellsO zb #[.int .u64 0, .int .u64 0, .int .i64 0, .int .i64 0] 24]) h8
                    have yc := hcrow _ _ (flatB_at (cs := cs) (i := i) (by rw [HCL.out]; exact hi))
                    have fc := hcf i
                    have g10 := hgrown_set w9 c0 i (.bool true)
                    have h10 := Sep.rowset (l1 := [HeapO p m2, RowO 24 4 (.slice (some ⟨g, 0, none⟩) ks.length cap) ks.length (flatK qs)]) (l2 := [CellsO (c0 + 1) #[.int .u64 last.F, .int .u64 last.H, .int .i64 last.Y, .int .i64 last.X] 24, CellsO tb #[.int .u64 q.F, .int .u64 q.H, .int .i64 q.Y, .int .i64 q.X] 24, CellsO zb #[.int .u64 0, .int .u64 0, .int .i64 0, .int .i64 0] 24]) h8 i (.bool true)
                    rw [flatB_set] at h10
                    have hA10 := hA8.grown g10 hA8.size (fun j e => by cases e; exact hcB)
                    clear hcrow hcf rl rt h8 hA8 g10
                    go_upto_region 39 with fail
                    generalize hW10 : w9.setCell _ _ = w10 at *
                    clear hW10 yc fc
                    obtain ⟨rl, _⟩ := Sep.cells (l1 := [HeapO p m2, RowO 24 4 (.slice (some ⟨g, 0, none⟩) ks.length cap) ks.length (flatK qs), RowO 4 1 (.slice (some ⟨c0, 0, none⟩) ks.length ks.length) ks.length (flatB (cs.set i true))]) (l2 := [CellsO tb #[.int .u64 q.F, .int .u64 q.H, .int .i64 q.Y, .int .i64 q.X] 24, CellsO zb #[.int .u64 0, .int .u64 0, .int .i64 0, .int .i64 0] 24]) h10
                    obtain ⟨rt, _⟩ := Sep.cells (l1 := [HeapO p m2, RowO 24 4 (.slice (some ⟨g, 0, none⟩) ks.length cap) ks.length (flatK qs), RowO 4 1 (.slice (some ⟨c0, 0, none⟩) ks.length ks.length) ks.length (flatB (cs.set i true)), CellsO (c0 + 1) #[.int .u64 last.F, .int .u64 last.H, .int .i64 last.Y, .int .i64 last.X] 24]) (l2 := [CellsO zb #[.int .u64 0, .int .u64 0, .int .i64 0, .int .i64 0] 24]) h10
                    have x0 : w10.cell? ⟨tb, 0, none⟩ = some (.int .u64 q.F) := by simp [World.cell?, rt]
                    have x1 : w10.cell? ⟨tb, 1, none⟩ = some (.int .u64 q.H) := by simp [World.cell?, rt]
                    have x2 : w10.cell? ⟨tb, 2, none⟩ = some (.int .i64 q.Y) := by simp [World.cell?, rt]
                    have x3 : w10.cell? ⟨tb, 3, none⟩ = some (.int .i64 q.X) := by simp [World.cell?, rt]
                    have v0 : w10.cell? ⟨c0 + 1, 0, none⟩ = some (.int .u64 last.F) := by simp [World.cell?, rl]
                    have v1 : w10.cell? ⟨c0 + 1, 1, none⟩ = some (.int .u64 last.H) := by simp [World.cell?, rl]
                    have v2 : w10.cell? ⟨c0 + 1, 2, none⟩ = some (.int .i64 last.Y) := by simp [World.cell?, rl]
                    have v3 : w10.cell? ⟨c0 + 1, 3, none⟩ = some (.int .i64 last.X) := by simp [World.cell?, rl]
                    have f0 : w10.frozen? ⟨c0 + 1, 0, none⟩ = false := by simp [World.frozen?, rl]
                    have f1 : w10.frozen? ⟨c0 + 1, 1, none⟩ = false := by simp [World.frozen?, rl]
                    have f2 : w10.frozen? ⟨c0 + 1, 2, none⟩ = false := by simp [World.frozen?, rl]
                    have f3 : w10.frozen? ⟨c0 + 1, 3, none⟩ = false := by simp [World.frozen?, rl]
                    clear rl rt
                    have h11 := Sep.set (l1 := [HeapO p m2, RowO 24 4 (.slice (some ⟨g, 0, none⟩) ks.length cap) ks.length (flatK qs), RowO 4 1 (.slice (some ⟨c0, 0, none⟩) ks.length ks.length) ks.length (flatB (cs.set i true))]) (l2 := [CellsO tb #[.int .u64 q.F, .int .u64 q.H, .int .i64 q.Y, .int .i64 q.X] 24, CellsO zb #[.int .u64 0, .int .u64 0, .int .i64 0, .int .i64 0] 24]) h10 0 (.int .u64 q.F)
                    replace h11 := Sep.set (l1 := [HeapO p m2, RowO 24 4 (.slice (some ⟨g, 0, none⟩) ks.length cap) ks.length (flatK qs), RowO 4 1 (.slice (some ⟨c0, 0, none⟩) ks.length ks.length) ks.length (flatB (cs.set i true))]) (l2 := [CellsO tb #[.int .u64 q.F, .int .u64 q.H, .int .i64 q.Y, .int .i64 q.X] 24, CellsO zb #[.int .u64 0, .int .u64 0, .int .i64 0, .int .i64 0] 24]) h11 1 (.int .u64 q.H)
                    replace h11 := Sep.set (l1 := [HeapO p m2, RowO 24 4 (.slice (some ⟨g, 0, none⟩) ks.length cap) ks.length (flatK qs), RowO 4 1 (.slice (some ⟨c0, 0, none⟩) ks.length ks.length) ks.length (flatB (cs.set i true))]) (l2 := [CellsO tb #[.int .u64 q.F, .int .u64 q.H, .int .i64 q.Y, .int .i64 q.X] 24, CellsO zb #[.int .u64 0, .int .u64 0, .int .i64 0, .int .i64 0] 24]) h11 2 (.int .i64 q.Y)
                    replace h11 := Sep.set (l1 := [HeapO p m2, RowO 24 4 (.slice (some ⟨g, 0, none⟩) ks.length cap) ks.length (flatK qs), RowO 4 1 (.slice (some ⟨c0, 0, none⟩) ks.length ks.length) ks.length (flatB (cs.set i true))]) (l2 := [CellsO tb #[.int .u64 q.F, .int .u64 q.H, .int .i64 q.Y, .int .i64 q.X] 24, CellsO zb #[.int .u64 0, .int .u64 0, .int .i64 0, .int .i64 0] 24]) h11 3 (.int .i64 q.X)
                    have q0 := hgrown_set w10 (c0 + 1) 0 (.int .u64 q.F)
                    have q1 := q0.trans (hgrown_set _ (c0 + 1) 1 (.int .u64 q.H))
                    have q2 := q1.trans (hgrown_set _ (c0 + 1) 2 (.int .i64 q.Y))
                    have q3 := q2.trans (hgrown_set _ (c0 + 1) 3 (.int .i64 q.X))
                    have hA11 := hA10.grown q3 hA10.size (fun j e => by cases e; exact hlB)
                    have LBN : CellsO (c0 + 1) ((((#[Value.int .u64 last.F, .int .u64 last.H, .int .i64 last.Y, .int .i64 last.X].setIfInBounds 0 (.int .u64 q.F)).setIfInBounds 1 (.int .u64 q.H)).setIfInBounds 2 (.int .i64 q.Y)).setIfInBounds 3 (.int .i64 q.X)) 24 = CellsO (c0 + 1) #[.int .u64 (withId (i : Int) q).F, .int .u64 (withId (i : Int) q).H, .int .i64 (withId (i : Int) q).Y, .int .i64 (withId (i : Int) q).X] 24 := by simp [withId]
                    rw [LBN] at h11
                    have h12 := Sep.drop (l1 := [HeapO p m2, RowO 24 4 (.slice (some ⟨g, 0, none⟩) ks.length cap) ks.length (flatK qs), RowO 4 1 (.slice (some ⟨c0, 0, none⟩) ks.length ks.length) ks.length (flatB (cs.set i true)), CellsO (c0 + 1) #[.int .u64 (withId (i : Int) q).F, .int .u64 (withId (i : Int) q).H, .int .i64 (withId (i : Int) q).Y, .int .i64 (withId (i : Int) q).X] 24]) (l2 := [CellsO zb #[.int .u64 0, .int .u64 0, .int .i64 0, .int .i64 0] 24]) h11
                    replace h12 := Sep.drop (l1 := [HeapO p m2, RowO 24 4 (.slice (some ⟨g, 0, none⟩) ks.length cap) ks.length (flatK qs), RowO 4 1 (.slice (some ⟨c0, 0, none⟩) ks.length ks.length) ks.length (flatB (cs.set i true)), CellsO (c0 + 1) #[.int .u64 (withId (i : Int) q).F, .int .u64 (withId (i : Int) q).H, .int .i64 (withId (i : Int) q).Y, .int .i64 (withId (i : Int) q).X] 24]) (l2 := []) h12
                    have H12 := Lib.hid h12
                    have HA11 := Lib.hid hA11
                    clear h12 hA11 h11 h10 hA10 q0 q1 q2 q3 LBN
                    go_wp2
                    go_roundw
                    case rel => exact ⟨k + 1, m2, cs.set i true, withId (i : Int) q, by omega, by go_num, rfl, HP2, H12.out, HA11.out⟩
                    case measure => simp [intOf]; omega
            · have hge : (ks.length : Int) ≤ (k : Int) := by omega
              obtain rfl : k = ks.length := by omega
              obtain rfl : m = [] := PopI.done (by have := HP.out; rw [← HQ.out] at this; exact this)
              have hcall := pop_sep (l1 := []) (l2 := [RowO 24 4 (.slice (some ⟨g, 0, none⟩) ks.length cap) ks.length (flatK qs), RowO 4 1 (.slice (some ⟨c0, 0, none⟩) ks.length ks.length) ks.length (flatB cs), CellsO (c0 + 1) #[.int .u64 last.F, .int .u64 last.H, .int .i64 last.Y, .int .i64 last.X] 24]) hS (by simp)
              rw [show firstT [] = default from rfl, show (!([] : List Th).isEmpty) = false from rfl] at hcall
              have hcall' : Calls Try.prog 18 #[.pointer (some ⟨p, 0, none⟩)] wr fun e w' => e = .returned (.tuple #[.int .i64 0, .agg #[.int .u64 0, .int .u64 0, .int .i64 0, .int .i64 0], .bool false]) ∧ Below w.heap.size wr w' := hcall.mono fun e w' h => ⟨h.1, h.2.2⟩
              clear hcall hS HP hlt hge hk
              go_wp2_with fail
              refine hcall'.mono ?_
              rintro e w4 ⟨rfl, hb⟩
              have hA4 := hAr.trans hb
              clear hcall' hb hAr
              go_wp2_with fail
              refine (hawake _).mono ?_
              rintro e w5 ⟨rfl, hb⟩
              have HA5 := Lib.hid (bl_tr (bl_al hA4 _) hb)
              clear hb hA4
              go_wp2
              go_ret
              exact ⟨rfl, HA5.out⟩
end Go.Proofs.Ytgcncimeedoplaa
