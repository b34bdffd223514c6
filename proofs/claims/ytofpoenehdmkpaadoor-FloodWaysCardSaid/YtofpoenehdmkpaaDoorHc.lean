/- Heap: what stands below; rising and sinking. -/
import Derived.Test.YtofpoenehdmkpaaDoorHb
import Derived.WalkMore
namespace Go.Proofs.YtofpoenehdmkpaaDoor
open Go.RowKit Go.Maps

/-- What rising holds on its way. -/
structure RiseR (w wr : World) (B p b g cap : Nat) (s : HS) (i : Nat) (t : Th) (s' : HS) (i' : Nat) : Prop where
  h : HeapAt wr B p b (.slice (some ⟨g, 0, none⟩) s'.ts.length cap) s'
  e : riseS s' i' t = riseS s i t
  lt : i' < s'.ts.length
  len : s'.ts.length = s.ts.length
  n : s'.n + i' ≤ s.n + i
  k : KeptS (HB p b (.slice (some ⟨g, 0, none⟩) s.ts.length cap)) w wr
  t0 : wr.cell? ⟨w.heap.size, 0, none⟩ = some (.int .i64 t.id)
  t1 : wr.cell? ⟨w.heap.size, 1, none⟩ = some (.int .u64 t.F)
  t2 : wr.cell? ⟨w.heap.size, 2, none⟩ = some (.int .u64 t.H)
  t3 : wr.cell? ⟨w.heap.size, 3, none⟩ = some (.int .i64 t.Y)
  t4 : wr.cell? ⟨w.heap.size, 4, none⟩ = some (.int .i64 t.X)

theorem putS_len (s : HS) (i : Nat) (t : Th) : (putS s i t).ts.length = s.ts.length := by simp [putS]
theorem putS_n (s : HS) (i : Nat) (t : Th) : (putS s i t).n ≤ s.n + 1 := by simp only [putS]; split <;> omega
theorem rise_zero (s : HS) (t : Th) : riseS s 0 t = putS s 0 t := by rw [riseS, dif_pos rfl]
theorem rise_up {s : HS} {i : Nat} {t : Th} (h0 : i ≠ 0) (h : aheadT t (atT s.ts ((i - 1) / 2)) = true) : riseS s i t = riseS (putS s i (atT s.ts ((i - 1) / 2))) ((i - 1) / 2) t := by
  rw [riseS, dif_neg h0, if_pos h]
theorem rise_stay {s : HS} {i : Nat} {t : Th} (h0 : i ≠ 0) (h : aheadT t (atT s.ts ((i - 1) / 2)) = false) : riseS s i t = putS s i t := by
  rw [riseS, dif_neg h0, if_neg (by rw [h]; decide)]

set_option maxRecDepth 100000 in
set_option maxHeartbeats 4000000 in
theorem rise_any (B p b g cap : Nat) (s : HS) (i : Nat) (t : Th) (w : World) (h : HeapAt w B p b (.slice (some ⟨g, 0, none⟩) s.ts.length cap) s) (hi : i < s.ts.length) (hl : s.ts.length ≤ 1048576) (hn : s.n ≤ 1048576) (ht : wfT t) :
    Calls Tryd.prog 91 #[.pointer (some ⟨p, 0, none⟩), .int .i64 (i : Int), .agg #[.int .i64 t.id, .int .u64 t.F, .int .u64 t.H, .int .i64 t.Y, .int .i64 t.X]] w fun e w' =>
      e = .returned (.tuple #[]) ∧ HeapAt w' B p b (.slice (some ⟨g, 0, none⟩) s.ts.length cap) (riseS s i t) ∧ KeptS (HB p b (.slice (some ⟨g, 0, none⟩) s.ts.length cap)) w w' := by
  have h0 := h
  have hA := bl_al (bl0 w) (.cells #[.int .i64 t.id, .int .u64 t.F, .int .u64 t.H, .int .i64 t.Y, .int .i64 t.X] 138)
  have hR : RiseR w (w.alloc (.cells #[.int .i64 t.id, .int .u64 t.F, .int .u64 t.H, .int .i64 t.Y, .int .i64 t.X] 138)) B p b g cap s i t s i :=
    ⟨h.below hA, rfl, hi, rfl, Nat.le_refl _, .of_below hA, by simp [go_sem], by simp [go_sem], by simp [go_sem], by simp [go_sem], by simp [go_sem]⟩
  go_enter Tryd.func91, Tryd.ntmps91
  go_wp2
  go_step3
  go_wp2
  go_step3
  go_wp2
  go_loopw [1] (fun a wr => ∃ (i' : Nat) (s' : HS), a = .int .i64 i' ∧ RiseR w wr B p b g cap s i t s' i') (fun a _ => (intOf a).toNat)
  case atStart => exact ⟨i, s, rfl, hR⟩
  case round =>
    obtain ⟨i', s', rfl, R⟩ := hrel
    clear h hA hR
    have hlt := R.lt
    have hlen := R.len
    have hRn := R.n
    have hi0 : (0 : Int) ≤ (i' : Int) := by omega
    have hi1 : (i' : Int) ≤ 1048576 := by omega
    by_cases hz : i' = 0
    · subst hz
      have t0 := R.t0; have t1 := R.t1; have t2 := R.t2; have t3 := R.t3; have t4 := R.t4
      have hcall := put_any B p b g cap s' 0 t wr R.h (by omega) (by omega) (by omega) ht
      have HR := Lib.hid R
      clear R hlt hlen hRn hi0 hi1
      go_wp2_with fail
      refine hcall.mono ?_
      rintro e w2 ⟨rfl, hH, hk⟩
      rw [HR.out.len] at hH hk
      rw [← rise_zero, HR.out.e] at hH
      have HH := Lib.hid hH
      have HK := Lib.hid hk
      clear hH hk t0 t1 t2 t3 t4 hcall
      go_wp2
      rw [Exit.noGoto_normal]
      go_end0
      exact ⟨rfl, HH.out, HR.out.k.trans HK.out (fun _ _ h => h)⟩
    · have hpos : (0 : Int) < (i' : Int) := by omega
      obtain ⟨u, hu⟩ : ∃ u, (i' - 1) / 2 = u := ⟨_, rfl⟩
      have hul : u < i' := by omega
      have hus : u < s'.ts.length := by omega
      have huI : ((i' : Int) - 1) / 2 = (u : Int) := by omega
      have hu0 : (0 : Int) ≤ (u : Int) := by omega
      have hu1 : (u : Int) < (s'.ts.length : Int) := by omega
      have t0 := R.t0; have t1 := R.t1; have t2 := R.t2; have t3 := R.t3; have t4 := R.t4
      have c0 := R.h.c0
      have zt0 := blk_lt t0
      obtain ⟨y0, y1, y2, y3, y4⟩ := R.h.at hus
      have hwu := R.h.wf _ (atT_mem hus)
      have HU := Lib.hid hu
      have HR := Lib.hid R
      generalize hx : atT s'.ts u = x at *
      have HX := Lib.hid hx
      clear R hlt hRn hu hlen hx
      go_wp2_with fail
      refine (ahead_any t x _).mono ?_
      rintro e w2 ⟨rfl, hb⟩
      have hk2 := bl_tr (bl_al (bl0 wr) (.cells #[.int .i64 x.id, .int .u64 x.F, .int .u64 x.H, .int .i64 x.Y, .int .i64 x.X] 138)) hb
      have x0 := cell_later hb (v := .int .i64 x.id) (a := ⟨wr.heap.size, 0, none⟩) (by simp [go_sem])
      have x1 := cell_later hb (v := .int .u64 x.F) (a := ⟨wr.heap.size, 1, none⟩) (by simp [go_sem])
      have x2 := cell_later hb (v := .int .u64 x.H) (a := ⟨wr.heap.size, 2, none⟩) (by simp [go_sem])
      have x3 := cell_later hb (v := .int .i64 x.Y) (a := ⟨wr.heap.size, 3, none⟩) (by simp [go_sem])
      have x4 := cell_later hb (v := .int .i64 x.X) (a := ⟨wr.heap.size, 4, none⟩) (by simp [go_sem])
      replace t0 := cell_later hk2 t0
      replace t1 := cell_later hk2 t1
      replace t2 := cell_later hk2 t2
      replace t3 := cell_later hk2 t3
      replace t4 := cell_later hk2 t4
      have h2 := HR.out.h.below hk2
      have hk3 := HR.out.k.below hk2
      have hn2 : s'.n ≤ 2097152 := by have := HR.out.n; omega
      have hl2 : s'.ts.length ≤ 1048576 := by have := HR.out.len; omega
      have hls := HR.out.len
      have HK3 := Lib.hid hk3
      have HL := Lib.hid hls
      clear hb hk2 y0 y1 y2 y3 y4 c0 hk3 hls
      cases ha : aheadT t x
      · have hcall := put_any B p b g cap s' i' t w2 h2 HR.out.lt hl2 hn2 ht
        go_wp2_with fail
        refine hcall.mono ?_
        rintro e w3 ⟨rfl, hH, hk⟩
        rw [HL.out] at hH hk
        rw [← HX.out, ← HU.out] at ha
        rw [← rise_stay hz ha, HR.out.e] at hH
        have HH := Lib.hid hH
        have HK := Lib.hid hk
        clear hH hk t0 t1 t2 t3 t4 x0 x1 x2 x3 x4 h2 hcall
        go_wp2
        rw [Exit.noGoto_normal]
        go_end0
        exact ⟨rfl, HH.out, HK3.out.trans HK.out (fun _ _ h => h)⟩
      · have hcall := put_any B p b g cap s' i' x w2 h2 HR.out.lt hl2 hn2 hwu
        go_wp2_with fail
        refine hcall.mono ?_
        rintro e w3 ⟨rfl, hH, hk⟩
        have hnb : ¬ HB p b (.slice (some ⟨g, 0, none⟩) s'.ts.length cap) w.heap.size := fun e => by have := (h0.lt _ e).2; omega
        replace t0 := hk.cell t0 hnb
        replace t1 := hk.cell t1 hnb
        replace t2 := hk.cell t2 hnb
        replace t3 := hk.cell t3 hnb
        replace t4 := hk.cell t4 hnb
        have hR3 : RiseR w w3 B p b g cap s i t (putS s' i' x) u := by
          have hup : riseS s' i' t = riseS (putS s' i' x) u t := by
            have := rise_up hz (s := s') (t := t) (by rw [HU.out, HX.out]; exact ha)
            rw [HU.out, HX.out] at this
            exact this
          refine ⟨by rw [putS_len]; exact hH, hup ▸ HR.out.e, by rw [putS_len]; exact hus, by rw [putS_len]; exact HL.out, ?_, HK3.out.trans hk (fun k _ e => by rw [HL.out] at e; exact e), t0, t1, t2, t3, t4⟩
          have := putS_n s' i' x
          have := HR.out.n
          omega
        have HR3 := Lib.hid hR3
        clear hR3 hH hk t0 t1 t2 t3 t4 x0 x1 x2 x3 x4 h2 hcall HR HK3 HL hnb
        go_wp2
        go_roundw
        case rel => exact ⟨u, putS s' i' x, rfl, HR3.out⟩
        case measure => simp [intOf]; omega
end Go.Proofs.YtofpoenehdmkpaaDoor
