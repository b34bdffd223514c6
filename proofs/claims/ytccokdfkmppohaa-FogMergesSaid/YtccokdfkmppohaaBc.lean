/- FogMerges: the reference's View. -/
import Derived.Test.YtccokdfkmppohaaBb
namespace Go.Proofs.Ytccokdfkmppohaa
open Go.RowKit Go.Shelf

/-- The view's costs. -/
def viewR (rs : List Int) : List Int := rs.map (fun z => if z < 0 then 1 else z)
theorem viewR_len (rs : List Int) : (viewR rs).length = rs.length := by simp [viewR]
theorem viewR_next {rs : List Int} {k : Nat} (hk : k < rs.length) : viewR (rs.take (k + 1)) = viewR (rs.take k) ++ [if rs[k] < 0 then 1 else rs[k]] := by
  unfold viewR
  rw [List.take_succ_eq_append_getElem hk, List.map_append]
  rfl

set_option maxRecDepth 100000 in
set_option maxHeartbeats 6400000 in
theorem rfview_any (B g : Nat) (X Y : Int) (v : Value) (rs : List Int) (k : Int) (w : World) (m : RFogAt w B g X Y v rs k) (hl : rs.length ≤ 65536) (hu : ∀ z ∈ rs, z ≤ 65535) :
    Calls Try.prog 21 #[.pointer (some ⟨g, 0, none⟩)] w fun e w' => ∃ a cap, e = .returned (.agg #[.int .i64 X, .int .i64 Y, .slice a rs.length cap]) ∧ RowH w' a (viewR rs) ∧ Below w.heap.size w w' := by
  obtain ⟨a, cap, rfl, hr⟩ := rowR_of_own m.2.2
  have c0 := m.c0
  have c1 := m.c1
  have c2 := m.c2
  have hgw := m.lt
  have HM := Lib.hid hr
  clear m hr
  go_enter Try.func21, Try.ntmps21
  go_wp2
  obtain ⟨w0, hw0⟩ : ∃ w0, ((w.alloc (.cells #[.int .i64 0, .int .i64 0, .slice none 0 0] 37)).alloc (.cells #[.int .i64 X, .int .i64 Y, .slice none 0 0] 37)) = w0 := ⟨_, rfl⟩
  rw [hw0]
  have hb0 : Below w.heap.size w w0 := by rw [← hw0]; exact bl_al (bl_al (bl0 w) _) _
  have r0 : FAt w0 w.heap.size (.int .i64 0) (.int .i64 0) (.slice none 0 0) := by rw [← hw0]; exact (two_allocs _ _ _).1
  have r1 : FAt w0 (w.heap.size + 1) (.int .i64 X) (.int .i64 Y) (.slice none 0 0) := by rw [← hw0]; exact (two_allocs _ _ _).2
  have hm0 : w.heap.size + 1 < w0.heap.size := r1.lt
  clear hw0
  replace c2 := cell_later hb0 c2
  clear c0 c1
  go_loopw [4, 5] (fun i _ wr => ∃ j : Nat, j ≤ rs.length ∧ i = .int .i64 j ∧ FieldG wr w0.heap.size (w.heap.size + 1) X Y (viewR (rs.take j)) ∧ w0.grownBy wr (some (w.heap.size + 1))) (fun i _ _ => rs.length - (intOf i).toNat)
  case atStart => exact ⟨0, Nat.zero_le _, rfl, ⟨_, r1, by simpa [viewR, cellsH] using World.ownsRow_nil _ _ _ _⟩, World.grownBy.refl _ _⟩
  case round =>
    obtain ⟨j, hj, rfl, ⟨u, FV, FO⟩, hg⟩ := hrel
    have d2 := hg.cell c2 (by simp; omega)
    by_cases hlt : j < rs.length
    · have hlI : (j : Int) < (rs.length : Int) := by omega
      have hj0 : (0 : Int) ≤ (j : Int) := by omega
      have hl2 : (rs.length : Int) ≤ 65536 := by omega
      obtain ⟨b, rfl, y⟩ := (HM.out).cell hlt
      replace y := cell_later hb0 y
      have hbw : b < w.heap.size := by
        rcases HM.out with h | ⟨b', e, h⟩
        · rw [h] at hlt; simp at hlt
        · cases e; exact blk_lt (h j _ (List.getElem?_eq_getElem hlt))
      replace y := hg.cell y (by simp; omega)
      have hzu := hu _ (List.getElem_mem hlt)
      have hn : (if rs[j] < 0 then 1 else rs[j]) = (if rs[j] < 0 then 1 else rs[j]) := rfl
      obtain ⟨z, hz⟩ : ∃ z, rs[j] = z := ⟨_, rfl⟩
      rw [hz] at y hzu
      by_cases h0 : z < 0
      · have HZ : Hid ((if rs[j] < 0 then (1 : Int) else rs[j]) = 1) := Lib.hid (by rw [hz, if_pos h0])
        clear hz hn
        obtain ⟨i0, hi, hz0, hz1, hz2⟩ := info_parts Try.infoH
        have f2 := FV.c2
        have hlen : (viewR (rs.take j)).length = j := by rw [viewR_len, List.length_take]; omega
        rw [hlen] at FO
        have fo := own_later FO (bl_al (bl0 wr) (.cells #[.int .u16 1] 53))
        have HFV := Lib.hid FV
        have HFO := Lib.hid FO
        have hsz := hg.size
        have HG := Lib.hid hg
        clear FV FO hg
        go_wp2_with (at_builtin; refine wpList_append_own_at _ rfl _ _ 35 rfl w0.heap.size 53 i0 (.int .u16 0) 1 2 Try.underlying35 hi hz0 hz1 hz2 rfl (by decide) u _ _ (by rfl) fo ⟨wr.heap.size, 0, none⟩ 1 1 [.int .u16 1] rfl rfl (cell_one_new _ _ _) ?c2 ?c3 ?c4 ?c5 ?_)
        case c2 => intro x hx; simp at hx; subst hx; rfl
        case c3 => unfold maxLen; omega
        case c4 => omega
        case c5 => (simp; omega)
        intro v2 w10 hown hgrow _ hat
        obtain ⟨g9, cp9, rfl⟩ := ownsRow_succ hown
        obtain ⟨p1, p2, p3⟩ := FieldG.next HG.out hm0 HFV.out (by rw [hlen]; exact HFO.out) (bl_al (bl0 wr) (.cells #[.int .u16 1] 53)) (by rw [hlen]; exact hown) hgrow
        have P1 := Lib.hid p1
        have P2 := Lib.hid p2
        have q1 := p3.c2
        have q2 := p3.f2
        have q3 := p3.lt
        clear p1 p2 p3 hown hgrow hat fo f2 y d2
        go_wp2
        go_roundw
        case rel => exact ⟨j + 1, by omega, by go_num, by rw [viewR_next hlt, HZ.out]; exact P1.out, P2.out⟩
        case measure => simp [intOf]; omega
      · have h1 : 0 ≤ z := by omega
        have HZ : Hid ((if rs[j] < 0 then (1 : Int) else rs[j]) = z) := Lib.hid (by rw [hz, if_neg h0])
        have e6 : IntKind.u16.wrap z = z := IntWalk.u16_in _ (by omega)
        clear hz hn h0
        obtain ⟨i0, hi, hz0, hz1, hz2⟩ := info_parts Try.infoH
        have f2 := FV.c2
        have hlen : (viewR (rs.take j)).length = j := by rw [viewR_len, List.length_take]; omega
        rw [hlen] at FO
        have fo := own_later FO (bl_al (bl0 wr) (.cells #[.int .u16 z] 53))
        have HFV := Lib.hid FV
        have HFO := Lib.hid FO
        have hsz := hg.size
        have HG := Lib.hid hg
        clear FV FO hg
        go_wp2_with (at_builtin; refine wpList_append_own_at _ rfl _ _ 35 rfl w0.heap.size 53 i0 (.int .u16 0) 1 2 Try.underlying35 hi hz0 hz1 hz2 rfl (by decide) u _ _ (by rfl) fo ⟨wr.heap.size, 0, none⟩ 1 1 [.int .u16 z] rfl rfl (cell_one_new _ _ _) ?c2 ?c3 ?c4 ?c5 ?_)
        case c2 => intro x hx; simp at hx; subst hx; rfl
        case c3 => unfold maxLen; omega
        case c4 => omega
        case c5 => (simp; omega)
        intro v2 w10 hown hgrow _ hat
        obtain ⟨g9, cp9, rfl⟩ := ownsRow_succ hown
        obtain ⟨p1, p2, p3⟩ := FieldG.next HG.out hm0 HFV.out (by rw [hlen]; exact HFO.out) (bl_al (bl0 wr) (.cells #[.int .u16 z] 53)) (by rw [hlen]; exact hown) hgrow
        have P1 := Lib.hid p1
        have P2 := Lib.hid p2
        have q1 := p3.c2
        have q2 := p3.f2
        have q3 := p3.lt
        clear p1 p2 p3 hown hgrow hat fo f2 y d2
        go_wp2
        go_roundw
        case rel => exact ⟨j + 1, by omega, by go_num, by rw [viewR_next hlt, HZ.out]; exact P1.out, P2.out⟩
        case measure => simp [intOf]; omega
    · have hge : (rs.length : Int) ≤ (j : Int) := by omega
      obtain rfl : j = rs.length := by omega
      rw [List.take_length] at FO
      obtain ⟨av, cv, rfl, hrow⟩ := rowH_of_own FO
      rw [viewR_len] at FV
      have F0 := FV.c0
      have F1 := FV.c1
      have F2 := FV.c2
      have rb := r0.kept hg (by simp)
      have R0 := rb.c0
      have R1 := rb.c1
      have R2 := rb.c2
      have Z0 := rb.f0
      have Z1 := rb.f1
      have Z2 := rb.f2
      have zR := blk_lt R0
      have hBw : Below w.heap.size w wr := hb0.grown hg hb0.size (fun r e => by cases e; omega)
      have HB := Lib.hid hBw
      have hlow : ∀ gb o, av = some ⟨gb, o, none⟩ → gb ≠ w.heap.size := fun gb o e h => by
        subst e
        have := (FO.lt gb rfl).1
        omega
      have HR := Lib.hid hrow
      have HL := Lib.hid hlow
      clear hg FV FO hBw rb r0 r1 hrow hlow
      go_wp2
      refine bodyPost_ret (v := .agg #[.int .i64 X, .int .i64 Y, .slice av rs.length cv]) (by simp [results, Try.results21, go_sem, R0, R1, R2]) rfl ⟨av, cv, rfl, ?_, ?_⟩
      · rcases HR.out with h | ⟨gb, o, e, h⟩
        · exact .inl h
        · refine .inr ⟨gb, o, e, fun i z hz => ?_⟩
          have hne := HL.out gb o e
          have := h i z hz
          rw [World.cell?_setCell_other _ _ _ _ (by intro h; have := congrArg Addr.block h; simp at this; omega), World.cell?_setCell_other _ _ _ _ (by intro h; have := congrArg Addr.block h; simp at this; omega), World.cell?_setCell_other _ _ _ _ (by intro h; have := congrArg Addr.block h; simp at this; omega)]
          exact this
      · exact bl_st (bl_st (bl_st HB.out (Nat.le_refl _) _) (Nat.le_refl _) _) (Nat.le_refl _) _
end Go.Proofs.Ytccokdfkmppohaa
