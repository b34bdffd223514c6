/- FogMerges: the reference's fog in memory; its New. -/
import Derived.Test.YtccokdfkmppohaaQ2
import Derived.Maps.AppendAt
namespace Go.Proofs.Ytccokdfkmppohaa
open Go.RowKit Go.Shelf
attribute [local go_sem] Oper.semAt_some

/-- Numbers in memory. -/
def flatR (rs : List Int) : List Value := rs.map (Value.int .i64)
theorem flatR_len (rs : List Int) : (flatR rs).length = rs.length := by simp [flatR]
theorem flatR_snoc (rs : List Int) (z : Int) : flatR rs ++ [.int .i64 z] = flatR (rs ++ [z]) := by simp [flatR]
theorem flatR_at {rs : List Int} {i : Nat} {z : Int} (h : rs[i]? = some z) : (flatR rs)[i]? = some (.int .i64 z) := by simp [flatR, h]
theorem Try.infoR6 : (Try.prog.info? 3).map (fun i => (i.zero, i.size, i.bytes)) = some (some (.int .i64 0), 1, 8) := by kernel_rfl

/-- The reference's fog in memory: its block g, its row v of numbers. -/
def RFogAt (W : World) (B g : Nat) (X Y : Int) (v : Value) (rs : List Int) (k : Int) : Prop :=
  B ≤ g ∧ W.heap[g]? = some (.cells #[.int .i64 X, .int .i64 Y, v, .int .i64 k] 52 (0, 0)) ∧ W.ownsRow B 3 1 v rs.length (flatR rs)
section
variable {W : World} {B g : Nat} {X Y : Int} {v : Value} {rs : List Int} {k : Int}
theorem RFogAt.below {W' : World} (m : RFogAt W B g X Y v rs k) (hb : Below W.heap.size W W') : RFogAt W' B g X Y v rs k :=
  ⟨m.1, (hb.block g (Array.getElem?_eq_some_iff.1 m.2.1).1).trans m.2.1, own_later m.2.2 hb⟩
theorem RFogAt.c0 (m : RFogAt W B g X Y v rs k) : W.cell? ⟨g, 0, none⟩ = some (.int .i64 X) := by simp [World.cell?, m.2.1]
theorem RFogAt.c1 (m : RFogAt W B g X Y v rs k) : W.cell? ⟨g, 1, none⟩ = some (.int .i64 Y) := by simp [World.cell?, m.2.1]
theorem RFogAt.c2 (m : RFogAt W B g X Y v rs k) : W.cell? ⟨g, 2, none⟩ = some v := by simp [World.cell?, m.2.1]
theorem RFogAt.c3 (m : RFogAt W B g X Y v rs k) : W.cell? ⟨g, 3, none⟩ = some (.int .i64 k) := by simp [World.cell?, m.2.1]
theorem RFogAt.fz (m : RFogAt W B g X Y v rs k) (o : Nat) : W.frozen? ⟨g, o, none⟩ = false := by simp [World.frozen?, m.2.1]
theorem RFogAt.lt (m : RFogAt W B g X Y v rs k) : g < W.heap.size := (Array.getElem?_eq_some_iff.1 m.2.1).1
theorem RFogAt.ne (m : RFogAt W B g X Y v rs k) : v.ownBlock ≠ some g := by
  intro h
  rcases m.2.2.2 with ⟨e, _⟩ | ⟨g', cap', cur, e, _, hg, _⟩
  · subst e
    cases h
  · subst e
    cases h
    rw [m.2.1] at hg
    simp at hg
theorem RFogAt.base {B' : Nat} (m : RFogAt W B g X Y v rs k) (h : B' ≤ B) : RFogAt W B' g X Y v rs k := ⟨Nat.le_trans h m.1, m.2.1, own_baseM m.2.2 h⟩
/-- One number more. -/
theorem RFogAt.next {W1 W2 : World} {v' : Value} {z : Int} (m : RFogAt W B g X Y v rs k) (hb : Below W.heap.size W W1) (hown : W2.ownsRow B 3 1 v' (rs.length + 1) (flatR rs ++ [.int .i64 z])) (hg : W1.grownBy W2 v.ownBlock) (hv : v'.ownBlock = v.ownBlock ∨ v'.ownBlock = some W1.heap.size) :
    RFogAt (W2.setCell ⟨g, 2, none⟩ v') B g X Y v' (rs ++ [z]) k ∧ W2.cell? ⟨g, 2, none⟩ = some v ∧ W2.frozen? ⟨g, 2, none⟩ = false ∧ g < W2.heap.size := by
  have m1 := m.below hb
  have hp : W2.heap[g]? = some (.cells #[.int .i64 X, .int .i64 Y, v, .int .i64 k] 52 (0, 0)) := (hg.block g m1.lt (fun e => m1.ne e.symm)).trans m1.2.1
  refine ⟨⟨m.1, ?_, ?_⟩, by simp [World.cell?, hp], by simp [World.frozen?, hp], (Array.getElem?_eq_some_iff.1 hp).1⟩
  · rw [heap_set_same _ _ _ _ _ _ hp]
    rfl
  · have h2 : v'.ownBlock ≠ some g := by
      rcases hv with e | e
      · rw [e]; exact m1.ne
      · rw [e]; intro e; cases e; exact absurd m1.lt (Nat.lt_irrefl _)
    rw [flatR_snoc] at hown
    have := hown.kept (grown_set W2 g 2 v') (.inr h2)
    simpa using this
end

set_option maxHeartbeats 1600000 in
theorem rfnew_no (X Y : Int) (w : World) (hm : mayB X Y = false) :
    Calls Try.prog 7 #[.agg #[.int .i64 X, .int .i64 Y]] w fun e w' => e = .returned (.pointer none) ∧ Below w.heap.size w w' := by
  go_enter Try.func7, Try.ntmps7
  go_wp2_with (go_at_call 26; refine (rmay_any _ _ _).mono ?_; rintro e w' ⟨rfl, hb⟩; rw [hm])
  go_ret
  exact ⟨rfl, bl_tr (bl_al (bl0 w) _) hb⟩

set_option maxRecDepth 100000 in
set_option maxHeartbeats 3200000 in
theorem rfnew_yes (X Y : Int) (w : World) (hm : mayB X Y = true) (n : Nat) (hn : (n : Int) = X * Y) :
    Calls Try.prog 7 #[.agg #[.int .i64 X, .int .i64 Y]] w fun e w' => ∃ g v, e = .returned (.pointer (some ⟨g, 0, none⟩)) ∧ RFogAt w' w.heap.size g X Y v (List.replicate n (-1)) 0 ∧ Below w.heap.size w w' := by
  obtain ⟨m1, m2⟩ := area_bd hm
  have hn1 : n ≤ 65536 := by omega
  have hww : IntKind.i64.wrap (X * Y) = X * Y := IntWalk.i64_in _ (by omega)
  go_enter Try.func7, Try.ntmps7
  go_wp2_with (go_at_call 26; refine (rmay_any _ _ _).mono ?_; rintro e w1 ⟨rfl, hb⟩; rw [hm]; obtain ⟨hc, hf⟩ := bcell hb)
  have c0 : w1.cell? ⟨w.heap.size, 0, none⟩ = some (.int .i64 X) := (hc _ _ (by simp)).trans (by simp [go_sem])
  have c1 : w1.cell? ⟨w.heap.size, 1, none⟩ = some (.int .i64 Y) := (hc _ _ (by simp)).trans (by simp [go_sem])
  have hs1 : w.heap.size < w1.heap.size := blk_lt c0
  have hbw := Lib.hid (bl_tr (bl_al (bl0 w) _) hb)
  clear hb hc hf
  go_wp2
  go_loopw [4] (fun i wr => ∃ (k : Nat) (v : Value), k ≤ n ∧ i = .int .i64 k ∧ Hid (RFogAt wr w1.heap.size w1.heap.size X Y v (List.replicate k (-1)) 0) ∧ Below w1.heap.size w1 wr) (fun i _ => n - (intOf i).toNat)
  case atStart =>
    exact ⟨0, .slice none 0 0, Nat.zero_le _, rfl, Lib.hid ⟨Nat.le_refl _, heap_alloc_new _ _, World.ownsRow_nil _ _ _ _⟩, bl_al (bl0 w1) _⟩
  case round =>
    obtain ⟨k, v, hk, rfl, HM, hB⟩ := hrel
    have d0 := cell_later hB c0
    have d1 := cell_later hB c1
    by_cases hlt : k < n
    · have hlI : (k : Int) < X * Y := by omega
      have d2 := (HM.out).c2
      obtain ⟨i0, hi, hz0, hz1, hz2⟩ := info_parts Try.infoR6
      go_wp2_with (at_builtin; refine wpList_append_own_at _ rfl _ _ 50 rfl w1.heap.size 3 i0 (.int .i64 0) 1 8 Try.underlying50 hi hz0 hz1 hz2 rfl (by decide) v _ _ (by rfl) (own_later (HM.out).2.2 (bl_al (bl0 wr) (.cells #[.int .i64 (-1)] 3))) ⟨wr.heap.size, 0, none⟩ 1 1 [.int .i64 (-1)] rfl rfl (cell_one_new _ _ _) ?c2 ?c3 ?c4 ?c5 ?_)
      case c2 => intro u hu; simp at hu; subst hu; rfl
      case c3 => simp only [List.length_replicate]; unfold maxLen; omega
      case c4 => simp only [List.length_replicate]; omega
      case c5 => (have := hB.size; simp; omega)
      intro v2 w10 hown hgrow _ hat
      obtain ⟨g9, cp9, rfl⟩ := ownsRow_succ hown
      have hlow : ∀ j, v.ownBlock = some j → w1.heap.size ≤ j := fun j e => ((HM.out).2.2.lt j e).1
      have hbD : Below wr.heap.size wr (wr.alloc (.cells #[.int .i64 (-1)] 3)) := bl_al (bl0 wr) _
      obtain ⟨p1, p2, p3, p4⟩ := RFogAt.next (HM.out) hbD (by rw [List.length_replicate]; exact hown) hgrow (by rw [World.size_alloc]; exact hat)
      have hb1 : Below w1.heap.size w1 w10 := (bl_tr hB hbD).grown hgrow (by have := (bl_tr hB hbD).size; exact this) hlow
      have P1 : Hid (RFogAt (w10.setCell ⟨w1.heap.size, 2, none⟩ (.slice (some ⟨g9, 0, none⟩) (k + 1) cp9)) w1.heap.size w1.heap.size X Y (.slice (some ⟨g9, 0, none⟩) (k + 1) cp9) (List.replicate (k + 1) (-1)) 0) := Lib.hid (by
        rw [List.replicate_succ']
        exact p1)
      have P2 := Lib.hid (bl_st hb1 (Nat.le_refl _) (o := 2) (.slice (some ⟨g9, 0, none⟩) (k + 1) cp9))
      clear p1 hgrow hown hlow hbD HM hb1 hB d0 d1 d2 hat
      go_wp2
      go_roundw
      case rel => exact ⟨k + 1, _, by omega, by go_num, P1, P2.out⟩
      case measure => simp [intOf]; omega
    · have hge : X * Y ≤ (k : Int) := by omega
      obtain rfl : k = n := by omega
      have HB := Lib.hid hB
      clear hB hlt hk
      go_wp2
      go_ret
      exact ⟨_, v, rfl, (HM.out).base (Nat.le_of_lt hs1), bl_tr hbw.out HB.out⟩
end Go.Proofs.Ytccokdfkmppohaa
