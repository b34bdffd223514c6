/- Heap: sinking. -/
import Derived.Test.YtofpoenehdmkpaaDoorHd
namespace Go.Proofs.YtofpoenehdmkpaaDoor
open Go.RowKit Go.Maps

/-- What sinking holds on its way. -/
structure SinkR (w wr : World) (B p b g cap : Nat) (s : HS) (i : Nat) (t : Th) (s' : HS) (i' : Nat) : Prop where
  h : HeapAt wr B p b (.slice (some ⟨g, 0, none⟩) s'.ts.length cap) s'
  e : sinkS s' i' t = sinkS s i t
  lt : i' < s'.ts.length
  len : s'.ts.length = s.ts.length
  n : s'.n + i ≤ s.n + i'
  k : KeptS (HB p b (.slice (some ⟨g, 0, none⟩) s.ts.length cap)) w wr
  t0 : wr.cell? ⟨w.heap.size, 0, none⟩ = some (.int .i64 t.id)
  t1 : wr.cell? ⟨w.heap.size, 1, none⟩ = some (.int .u64 t.F)
  t2 : wr.cell? ⟨w.heap.size, 2, none⟩ = some (.int .u64 t.H)
  t3 : wr.cell? ⟨w.heap.size, 3, none⟩ = some (.int .i64 t.Y)
  t4 : wr.cell? ⟨w.heap.size, 4, none⟩ = some (.int .i64 t.X)

theorem sink_end {s : HS} {i : Nat} {t : Th} (h : s.ts.length ≤ 2 * i + 1) : sinkS s i t = putS s i t := by rw [sinkS, dif_pos h]
theorem sink_down {s : HS} {i : Nat} {t : Th} (h0 : 2 * i + 1 < s.ts.length) (h : aheadT (atT s.ts (downN s.ts i)) t = true) : sinkS s i t = sinkS (putS s i (atT s.ts (downN s.ts i))) (downN s.ts i) t := by
  rw [sinkS, dif_neg (by omega)]
  unfold downN at h ⊢
  rw [if_pos h]
theorem sink_stay {s : HS} {i : Nat} {t : Th} (h0 : 2 * i + 1 < s.ts.length) (h : aheadT (atT s.ts (downN s.ts i)) t = false) : sinkS s i t = putS s i t := by
  rw [sinkS, dif_neg (by omega)]
  unfold downN at h
  rw [if_neg (by rw [h]; decide)]

set_option maxRecDepth 100000 in
set_option maxHeartbeats 8000000 in
theorem sink_any (B p b g cap : Nat) (s : HS) (i : Nat) (t : Th) (w : World) (h : HeapAt w B p b (.slice (some ⟨g, 0, none⟩) s.ts.length cap) s) (hi : i < s.ts.length) (hl : s.ts.length ≤ 1048576) (hn : s.n ≤ 1048576) (ht : wfT t) :
    Calls Tryd.prog 79 #[.pointer (some ⟨p, 0, none⟩), .int .i64 (i : Int), .agg #[.int .i64 t.id, .int .u64 t.F, .int .u64 t.H, .int .i64 t.Y, .int .i64 t.X]] w fun e w' =>
      e = .returned (.tuple #[]) ∧ HeapAt w' B p b (.slice (some ⟨g, 0, none⟩) s.ts.length cap) (sinkS s i t) ∧ KeptS (HB p b (.slice (some ⟨g, 0, none⟩) s.ts.length cap)) w w' := by
  have h0 := h
  have hA := bl_al (bl0 w) (.cells #[.int .i64 t.id, .int .u64 t.F, .int .u64 t.H, .int .i64 t.Y, .int .i64 t.X] 138)
  have hR : SinkR w (w.alloc (.cells #[.int .i64 t.id, .int .u64 t.F, .int .u64 t.H, .int .i64 t.Y, .int .i64 t.X] 138)) B p b g cap s i t s i :=
    ⟨h.below hA, rfl, hi, rfl, Nat.le_refl _, .of_below hA, by simp [go_sem], by simp [go_sem], by simp [go_sem], by simp [go_sem], by simp [go_sem]⟩
  go_enter Tryd.func79, Tryd.ntmps79
  go_wp2
  go_step3
  go_wp2
  go_step3
  go_wp2
  go_loopw [1] (fun a wr => ∃ (i' : Nat) (s' : HS), a = .int .i64 i' ∧ SinkR w wr B p b g cap s i t s' i') (fun a _ => s.ts.length - (intOf a).toNat)
  case atStart => exact ⟨i, s, rfl, hR⟩
  case round =>
    obtain ⟨i', s', rfl, R⟩ := hrel
    clear h hA hR
    have hlt := R.lt
    have hlen := R.len
    have hRn := R.n
    have hl2 : s'.ts.length ≤ 1048576 := by omega
    have hn2 : s'.n ≤ 2097152 := by omega
    have t0 := R.t0; have t1 := R.t1; have t2 := R.t2; have t3 := R.t3; have t4 := R.t4
    have zt0 := blk_lt t0
    have HR := Lib.hid R
    have HL := Lib.hid hlen
    by_cases hA : s'.ts.length ≤ 2 * i' + 1
    · have hcall0 := below_no B p b g cap s' i' wr R.h hl2 hlt hA
      clear R hlen hRn
      go_wp2_with fail
      refine hcall0.mono ?_
      rintro e w2 ⟨rfl, hk2⟩
      replace t0 := cell_later hk2 t0
      replace t1 := cell_later hk2 t1
      replace t2 := cell_later hk2 t2
      replace t3 := cell_later hk2 t3
      replace t4 := cell_later hk2 t4
      have h2 := HR.out.h.below hk2
      have hk3 := HR.out.k.below hk2
      have HK3 := Lib.hid hk3
      clear hcall0 hk2 hk3
      go_wp2
      go_quiet (fail)
      generalize hw3 : World.drewN _ _ = w3
      have hk2 : Below w2.heap.size w2 w3 := by rw [← hw3]; exact bl_drn _ _
      replace t0 := cell_later hk2 t0
      replace t1 := cell_later hk2 t1
      replace t2 := cell_later hk2 t2
      replace t3 := cell_later hk2 t3
      replace t4 := cell_later hk2 t4
      replace h2 := h2.below hk2
      have hk3 := HK3.out.below hk2
      clear HK3 hw3 hk2
      have HK3 := Lib.hid hk3
      clear hk3
      have hcall := put_any B p b g cap s' i' t w3 h2 HR.out.lt hl2 hn2 ht
      have hst := sink_end (t := t) hA
      have HST := Lib.hid hst
      clear hst
      go_wp2_with fail
      refine hcall.mono ?_
      rintro e w4 ⟨rfl, hH, hk⟩
      rw [HL.out] at hH hk
      rw [← HST.out, HR.out.e] at hH
      have HH := Lib.hid hH
      have HK := Lib.hid hk
      clear hH hk t0 t1 t2 t3 t4 h2 hcall
      go_wp2
      rw [Exit.noGoto_normal]
      go_end0
      exact ⟨rfl, HH.out, HK3.out.trans HK.out (fun _ _ h => h)⟩
    · have hA' : 2 * i' + 1 < s'.ts.length := by omega
      have hcall0 := below_yes B p b g cap s' i' wr R.h hl2 hA'
      obtain ⟨hd1, hd2⟩ := downN_bd s'.ts i' hA'
      obtain ⟨d, hd⟩ : ∃ d, downN s'.ts i' = d := ⟨_, rfl⟩
      rw [hd] at hd1 hd2 hcall0
      have hd0 : (0 : Int) ≤ (d : Int) := by omega
      have hd3 : (d : Int) < (s'.ts.length : Int) := by omega
      have hdm : (d : Int) ≤ 1048576 := by omega
      obtain ⟨y0, y1, y2, y3, y4⟩ := R.h.at hd2
      have hwu := R.h.wf _ (atT_mem hd2)
      have c0 := R.h.c0
      have HD := Lib.hid hd
      generalize hx : atT s'.ts d = x at *
      have HX := Lib.hid hx
      clear R hlen hRn hd hx hA
      go_wp2_with fail
      refine hcall0.mono ?_
      rintro e w2 ⟨rfl, hk2⟩
      replace t0 := cell_later hk2 t0
      replace t1 := cell_later hk2 t1
      replace t2 := cell_later hk2 t2
      replace t3 := cell_later hk2 t3
      replace t4 := cell_later hk2 t4
      replace y0 := cell_later hk2 y0
      replace y1 := cell_later hk2 y1
      replace y2 := cell_later hk2 y2
      replace y3 := cell_later hk2 y3
      replace y4 := cell_later hk2 y4
      replace c0 := cell_later hk2 c0
      have h2 := HR.out.h.below hk2
      have hk3 := HR.out.k.below hk2
      have HK3 := Lib.hid hk3
      clear hcall0 hk2 hk3
      have hB := bl_dr (bl0 w2)
      go_upto_region 2 with fail
      go_region_held3 (fun w' => w'.cell? ⟨p, 0, none⟩ = some (.slice (some ⟨g, 0, none⟩) s'.ts.length cap) ∧ w'.cell? ⟨g, d * 5, none⟩ = some (.int .i64 x.id) ∧ w'.cell? ⟨g, d * 5 + 1, none⟩ = some (.int .u64 x.F) ∧ w'.cell? ⟨g, d * 5 + 2, none⟩ = some (.int .u64 x.H) ∧ w'.cell? ⟨g, d * 5 + 3, none⟩ = some (.int .i64 x.Y) ∧ w'.cell? ⟨g, d * 5 + 4, none⟩ = some (.int .i64 x.X) ∧ w'.cell? ⟨w.heap.size, 0, none⟩ = some (.int .i64 t.id) ∧ w'.cell? ⟨w.heap.size, 1, none⟩ = some (.int .u64 t.F) ∧ w'.cell? ⟨w.heap.size, 2, none⟩ = some (.int .u64 t.H) ∧ w'.cell? ⟨w.heap.size, 3, none⟩ = some (.int .i64 t.Y) ∧ w'.cell? ⟨w.heap.size, 4, none⟩ = some (.int .i64 t.X))
        (exact ⟨cell_later hB c0, cell_later hB y0, cell_later hB y1, cell_later hB y2, cell_later hB y3, cell_later hB y4, cell_later hB t0, cell_later hB t1, cell_later hB t2, cell_later hB t3, cell_later hB t4⟩)
        ((go_at_call 93; (with_reducible refine (ahead_any x t _).mono ?_); rintro e W2 ⟨rfl, hb⟩; replace hB := bl_tr hB hb; clear hb))
      all_goals
        replace t0 := cell_later hB t0
        replace t1 := cell_later hB t1
        replace t2 := cell_later hB t2
        replace t3 := cell_later hB t3
        replace t4 := cell_later hB t4
        replace y0 := cell_later hB y0
        replace y1 := cell_later hB y1
        replace y2 := cell_later hB y2
        replace y3 := cell_later hB y3
        replace y4 := cell_later hB y4
        replace c0 := cell_later hB c0
        replace h2 := h2.below hB
        have hk3 := HK3.out.below hB
        clear HK3 hB
        have HK3 := Lib.hid hk3
        clear hk3
        cases ha : aheadT x t
        · have hcall := put_any B p b g cap s' i' t _ h2 HR.out.lt hl2 hn2 ht
          have HST := Lib.hid (sink_stay hA' (t := t) (by rw [HD.out, HX.out]; exact ha))
          go_wp2_with fail
          refine hcall.mono ?_
          rintro e w4 ⟨rfl, hH, hk⟩
          rw [HL.out] at hH hk
          rw [← HST.out, HR.out.e] at hH
          have HH := Lib.hid hH
          have HK := Lib.hid hk
          clear hH hk t0 t1 t2 t3 t4 h2 hcall y0 y1 y2 y3 y4 c0
          go_wp2
          rw [Exit.noGoto_normal]
          go_end0
          exact ⟨rfl, HH.out, HK3.out.trans HK.out (fun _ _ h => h)⟩
        · have hcall := put_any B p b g cap s' i' x _ h2 HR.out.lt hl2 hn2 hwu
          have hdn := sink_down hA' (t := t) (by rw [HD.out, HX.out]; exact ha)
          rw [HD.out, HX.out] at hdn
          have HDN := Lib.hid hdn
          clear hdn
          go_wp2_with fail
          refine hcall.mono ?_
          rintro e w4 ⟨rfl, hH, hk⟩
          have hnb : ¬ HB p b (.slice (some ⟨g, 0, none⟩) s'.ts.length cap) w.heap.size := fun e => by have := (h0.lt _ (HL.out ▸ e)).2; omega
          replace t0 := hk.cell t0 hnb
          replace t1 := hk.cell t1 hnb
          replace t2 := hk.cell t2 hnb
          replace t3 := hk.cell t3 hnb
          replace t4 := hk.cell t4 hnb
          have hR3 : SinkR w w4 B p b g cap s i t (putS s' i' x) d := by
            refine ⟨by rw [putS_len]; exact hH, HDN.out ▸ HR.out.e, by rw [putS_len]; exact hd2, by rw [putS_len]; exact HL.out, ?_, HK3.out.trans hk (fun k _ e => by rw [HL.out] at e; exact e), t0, t1, t2, t3, t4⟩
            have := putS_n s' i' x
            have := HR.out.n
            omega
          have HR3 := Lib.hid hR3
          have hms : i' < s.ts.length ∧ d < s.ts.length := by rw [← HL.out]; exact ⟨hlt, hd2⟩
          clear hR3 hH hk t0 t1 t2 t3 t4 h2 hcall HR HK3 hnb y0 y1 y2 y3 y4 c0
          go_wp2
          go_roundw
          case rel => exact ⟨d, putS s' i' x, rfl, HR3.out⟩
          case measure => simp [intOf]; omega
end Go.Proofs.YtofpoenehdmkpaaDoor
