/- MaskLaws: the law's walk. -/
import Derived.Test.YtcbhbekhogcedaaKj
import Derived.Test.YtcbhbekhogcedaaKn
namespace Go.Proofs.Ytcbhbekhogcedaa
open Go.RowKit

theorem same_yes (b h b2 h2 : Nat) (X Y : Int) (cs ds : List Nat) (w : World) (hm : MaskAt w b h X Y cs) (hm2 : MaskAt w b2 h2 X Y ds) (hc : Good X Y cs) (hd : Good X Y ds) (he : cs = ds) :
    Calls Try.prog 33 #[.pointer (some ⟨b, 0, none⟩), .pointer (some ⟨b2, 0, none⟩)] w fun e w' => e = .returned (.bool true) ∧ Below w.heap.size w w' := by
  have := same_any b h b2 h2 X Y cs ds w hm hm2 hc.2.2.1 hd.2.2.1
  rw [decide_eq_true he] at this
  exact this

/-- An array of three pointers. -/
def Arr (W : World) (M : Nat) (v0 v1 v2 : Value) : Prop := W.heap[M]? = some (.cells #[v0, v1, v2] 71 (0, 0))
theorem Arr.below {W W' : World} {M : Nat} {v0 v1 v2 : Value} (h : Arr W M v0 v1 v2) (hb : Below W.heap.size W W') : Arr W' M v0 v1 v2 := (hb.block M (Array.getElem?_eq_some_iff.1 h).1).trans h
theorem Arr.a0 {W : World} {M : Nat} {v0 v1 v2 : Value} (h : Arr W M v0 v1 v2) : W.cell? ⟨M, 0, none⟩ = some v0 := by simp [World.cell?, show W.heap[M]? = _ from h]
theorem Arr.a1 {W : World} {M : Nat} {v0 v1 v2 : Value} (h : Arr W M v0 v1 v2) : W.cell? ⟨M, 1, none⟩ = some v1 := by simp [World.cell?, show W.heap[M]? = _ from h]
theorem Arr.a2 {W : World} {M : Nat} {v0 v1 v2 : Value} (h : Arr W M v0 v1 v2) : W.cell? ⟨M, 2, none⟩ = some v2 := by simp [World.cell?, show W.heap[M]? = _ from h]
theorem Arr.fz {W : World} {M k : Nat} {v0 v1 v2 : Value} (h : Arr W M v0 v1 v2) : W.frozen? ⟨M, k, none⟩ = false := by simp [World.frozen?, show W.heap[M]? = _ from h]
theorem Arr.s0 {W : World} {M : Nat} {v0 v1 v2 : Value} (h : Arr W M v0 v1 v2) (u : Value) : Arr (W.setCell ⟨M, 0, none⟩ u) M u v1 v2 := by unfold Arr; rw [heap_set_same _ _ _ _ _ _ h]; simp
theorem Arr.s1 {W : World} {M : Nat} {v0 v1 v2 : Value} (h : Arr W M v0 v1 v2) (u : Value) : Arr (W.setCell ⟨M, 1, none⟩ u) M v0 u v2 := by unfold Arr; rw [heap_set_same _ _ _ _ _ _ h]; simp
theorem Arr.s2 {W : World} {M : Nat} {v0 v1 v2 : Value} (h : Arr W M v0 v1 v2) (u : Value) : Arr (W.setCell ⟨M, 2, none⟩ u) M v0 v1 u := by unfold Arr; rw [heap_set_same _ _ _ _ _ _ h]; simp

/-- What the loop leaves as it lay: the size, and the three rows. -/
def FixL (w W : World) (A B : Int) (u0 u1 u2 : Value) : Prop := Below w.heap.size w W ∧ W.cell? ⟨w.heap.size, 0, none⟩ = some (.int .i64 A) ∧ W.cell? ⟨w.heap.size, 1, none⟩ = some (.int .i64 B) ∧
  W.cell? ⟨w.heap.size + 1, 0, none⟩ = some u0 ∧ W.cell? ⟨w.heap.size + 1, 1, none⟩ = some u1 ∧ W.cell? ⟨w.heap.size + 1, 2, none⟩ = some u2
theorem FixL.below {w W W' : World} {A B : Int} {u0 u1 u2 : Value} (h : FixL w W A B u0 u1 u2) (hb : Below W.heap.size W W') : FixL w W' A B u0 u1 u2 := by
  obtain ⟨h1, h2, h3, h4, h5, h6⟩ := h
  exact ⟨bl_tr h1 hb, cell_later hb h2, cell_later hb h3, cell_later hb h4, cell_later hb h5, cell_later hb h6⟩
theorem cell_set {W : World} {k i j o : Nat} {v u : Value} (h : W.cell? ⟨k, i, none⟩ = some v) (hne : k ≠ j) : (W.setCell ⟨j, o, none⟩ u).cell? ⟨k, i, none⟩ = some v :=
  (World.cell?_of_block (a := ⟨k, i, none⟩) (Below.heap_setCell W ⟨j, o, none⟩ u k (by show k ≠ j; exact hne))).trans h
theorem FixL.set {w W : World} {A B : Int} {u0 u1 u2 : Value} (h : FixL w W A B u0 u1 u2) {M o : Nat} (hM : w.heap.size + 1 < M) (u : Value) : FixL w (W.setCell ⟨M, o, none⟩ u) A B u0 u1 u2 := by
  obtain ⟨h1, h2, h3, h4, h5, h6⟩ := h
  exact ⟨bl_st h1 (by omega) _, cell_set h2 (by omega), cell_set h3 (by omega), cell_set h4 (by omega), cell_set h5 (by omega), cell_set h6 (by omega)⟩

/-- The set of the cells of a row that are on the map. -/
def setOf (A B : Int) (zs : List (Int × Int)) : List Nat := setAll A (List.replicate ((A * B + 7) / 8).toNat 0) (onMap A B zs)
theorem onMap_in (A B : Int) (zs : List (Int × Int)) : ∀ z ∈ onMap A B zs, inB A B z.1 z.2 = true := fun _ hz => (List.mem_filter.1 hz).2
theorem setOf_good {A B : Int} (h : mayB A B = true) (zs : List (Int × Int)) : Good A B (setOf A B zs) := (good_zero h).setAll _ (onMap_in A B zs)

def PtrV (b : Nat) : Value := .pointer (some ⟨b, 0, none⟩)
/-- What the loop holds. -/
def InvL (w : World) (M : Nat) (A B : Int) (u0 u1 u2 : Value) (z0 z1 z2 : List (Int × Int)) (i : Value) (W : World) : Prop :=
  FixL w W A B u0 u1 u2 ∧ ((i = .int .i64 0 ∧ Arr W M (.pointer none) (.pointer none) (.pointer none)) ∨
    (∃ b0 h0, i = .int .i64 1 ∧ Arr W M (.pointer (some ⟨b0, 0, none⟩)) (.pointer none) (.pointer none) ∧ MaskAt W b0 h0 A B (setOf A B z0) ∧ M < b0 ∧ M < h0) ∨
    (∃ b0 h0 b1 h1, i = .int .i64 2 ∧ Arr W M (.pointer (some ⟨b0, 0, none⟩)) (.pointer (some ⟨b1, 0, none⟩)) (.pointer none) ∧ MaskAt W b0 h0 A B (setOf A B z0) ∧ M < b0 ∧ M < h0 ∧ MaskAt W b1 h1 A B (setOf A B z1) ∧ M < b1 ∧ M < h1) ∨
    (∃ b0 h0 b1 h1 b2 h2, i = .int .i64 3 ∧ Arr W M (.pointer (some ⟨b0, 0, none⟩)) (.pointer (some ⟨b1, 0, none⟩)) (.pointer (some ⟨b2, 0, none⟩)) ∧ MaskAt W b0 h0 A B (setOf A B z0) ∧ MaskAt W b1 h1 A B (setOf A B z1) ∧ MaskAt W b2 h2 A B (setOf A B z2)))

set_option maxRecDepth 100000 in
set_option maxHeartbeats 4000000 in
theorem laws_walk (A B : Int) (a0 a1 a2 : Option Addr) (c0 c1 c2 : Nat) (z0 z1 z2 : List (Int × Int)) (w : World) (r0 : RowC w a0 z0) (r1 : RowC w a1 z1) (r2 : RowC w a2 z2) :
    Calls Try.prog 8 #[.agg #[.int .i64 A, .int .i64 B], .agg #[.slice a0 z0.length c0, .slice a1 z1.length c1, .slice a2 z2.length c2]] w fun e w' => e = .returned (.bool true) ∧ Below w.heap.size w w' := by
  have hA := bl0 w
  go_enter Try.func8, Try.ntmps8
  go_wp2_with fail
  refine (small_any _ _ _).mono ?_
  rintro e w1 ⟨rfl, hb⟩
  have hk : Below w.heap.size w w1 := by first | exact hb | exact bl_tr (bl_al (bl0 _) _) hb | exact bl_tr (bl_dr (bl_al (bl0 _) _)) hb | exact bl_tr (bl_al (bl_al (bl0 _) _) _) hb | exact bl_tr (bl_dr (bl_al (bl_al (bl0 _) _) _)) hb | exact bl_tr (bl_al (bl_al (bl_al (bl0 _) _) _) _) hb | exact bl_tr (bl_dr (bl_al (bl_al (bl_al (bl0 _) _) _) _)) hb | exact bl_tr (bl_al (bl_al (bl_al (bl_al (bl0 _) _) _) _) _) hb | exact bl_tr (bl_dr (bl_al (bl_al (bl_al (bl_al (bl0 _) _) _) _) _)) hb | exact bl_tr (bl_al (bl_al (bl_al (bl_al (bl_al (bl0 _) _) _) _) _) _) hb | exact bl_tr (bl_dr (bl_al (bl_al (bl_al (bl_al (bl_al (bl0 _) _) _) _) _) _)) hb | exact bl_tr (bl_al (bl_al (bl_al (bl_al (bl_al (bl_al (bl0 _) _) _) _) _) _) _) hb | exact bl_tr (bl_dr (bl_al (bl_al (bl_al (bl_al (bl_al (bl_al (bl0 _) _) _) _) _) _) _)) hb | exact bl_tr (bl_dr (bl0 _)) hb
  replace hA := bl_tr hA hk
  have s0 := cell_later hb (v := .int .i64 A) (a := ⟨w.heap.size, 0, none⟩) (by simp [go_sem])
  have s1 := cell_later hb (v := .int .i64 B) (a := ⟨w.heap.size, 1, none⟩) (by simp [go_sem])
  have t0 := cell_later hb (v := .slice a0 z0.length c0) (a := ⟨w.heap.size + 1, 0, none⟩) (by simp [go_sem])
  have t1 := cell_later hb (v := .slice a1 z1.length c1) (a := ⟨w.heap.size + 1, 1, none⟩) (by simp [go_sem])
  have t2 := cell_later hb (v := .slice a2 z2.length c2) (a := ⟨w.heap.size + 1, 2, none⟩) (by simp [go_sem])
  clear hb hk
  have zs0 := blk_lt s0
  have zs1 := blk_lt s1
  have zt0 := blk_lt t0
  have zt1 := blk_lt t1
  have zt2 := blk_lt t2
  cases hsm : smallB A B
  case' false =>
    go_wp2_with fail
    refine (awake_any _).mono ?_
    rintro e w9 ⟨rfl, hb⟩
    have hA9 := bl_tr hA hb
    clear hb
    go_wp2
    go_ret
    exact ⟨rfl, hA9⟩
  case' true =>
    go_wp2_with fail
    refine (may_any _ _ _).mono ?_
    rintro e w2 ⟨rfl, hb⟩
    have hk : Below w1.heap.size w1 w2 := by first | exact hb | exact bl_tr (bl_al (bl0 _) _) hb | exact bl_tr (bl_dr (bl_al (bl0 _) _)) hb | exact bl_tr (bl_al (bl_al (bl0 _) _) _) hb | exact bl_tr (bl_dr (bl_al (bl_al (bl0 _) _) _)) hb | exact bl_tr (bl_al (bl_al (bl_al (bl0 _) _) _) _) hb | exact bl_tr (bl_dr (bl_al (bl_al (bl_al (bl0 _) _) _) _)) hb | exact bl_tr (bl_al (bl_al (bl_al (bl_al (bl0 _) _) _) _) _) hb | exact bl_tr (bl_dr (bl_al (bl_al (bl_al (bl_al (bl0 _) _) _) _) _)) hb | exact bl_tr (bl_al (bl_al (bl_al (bl_al (bl_al (bl0 _) _) _) _) _) _) hb | exact bl_tr (bl_dr (bl_al (bl_al (bl_al (bl_al (bl_al (bl0 _) _) _) _) _) _)) hb | exact bl_tr (bl_al (bl_al (bl_al (bl_al (bl_al (bl_al (bl0 _) _) _) _) _) _) _) hb | exact bl_tr (bl_dr (bl_al (bl_al (bl_al (bl_al (bl_al (bl_al (bl0 _) _) _) _) _) _) _)) hb | exact bl_tr (bl_dr (bl0 _)) hb
    replace hA := bl_tr hA hk
    replace s0 := cell_later hk s0
    replace s1 := cell_later hk s1
    replace t0 := cell_later hk t0
    replace t1 := cell_later hk t1
    replace t2 := cell_later hk t2
    clear hb hk
    have zs0 := blk_lt s0
    have zs1 := blk_lt s1
    have zt0 := blk_lt t0
    have zt1 := blk_lt t1
    have zt2 := blk_lt t2
    cases hma : mayB A B
    case' false =>
      go_wp2_with fail
      refine (awake_any _).mono ?_
      rintro e w9 ⟨rfl, hb⟩
      have hA9 := bl_tr hA hb
      clear hb
      go_wp2
      go_ret
      exact ⟨rfl, hA9⟩
    case' true =>
      by_cases l0 : (60 : Int) < (z0.length : Int)
      case' pos =>
        go_wp2_with fail
        refine (awake_any _).mono ?_
        rintro e w9 ⟨rfl, hb⟩
        have hA9 := bl_tr hA hb
        clear hb
        go_wp2
        go_ret
        exact ⟨rfl, hA9⟩
      case' neg =>
        by_cases l1 : (60 : Int) < (z1.length : Int)
        case' pos =>
          go_wp2_with fail
          refine (awake_any _).mono ?_
          rintro e w9 ⟨rfl, hb⟩
          have hA9 := bl_tr hA hb
          clear hb
          go_wp2
          go_ret
          exact ⟨rfl, hA9⟩
        case' neg =>
          by_cases l2 : (60 : Int) < (z2.length : Int)
          case' pos =>
            go_wp2_with fail
            refine (awake_any _).mono ?_
            rintro e w9 ⟨rfl, hb⟩
            have hA9 := bl_tr hA hb
            clear hb
            go_wp2
            go_ret
            exact ⟨rfl, hA9⟩
          case' neg =>
            go_wp2
            have hl0 : z0.length ≤ 60 := by omega
            have hl1 : z1.length ≤ 60 := by omega
            have hl2 : z2.length ≤ 60 := by omega
            obtain ⟨M, hM⟩ : ∃ M, w2.heap.size = M := ⟨_, rfl⟩
            have hMw : w.heap.size + 1 < M := by rw [← hM]; exact blk_lt t0
            have hbA : Below w2.heap.size w2 (w2.alloc (.cells #[.pointer none, .pointer none, .pointer none] 71)) := bl_al (bl0 w2) _
            have hfix : FixL w (w2.alloc (.cells #[.pointer none, .pointer none, .pointer none] 71)) A B (.slice a0 z0.length c0) (.slice a1 z1.length c1) (.slice a2 z2.length c2) :=
              ⟨bl_tr hA hbA, cell_later hbA s0, cell_later hbA s1, cell_later hbA t0, cell_later hbA t1, cell_later hbA t2⟩
            have harr0 : Arr (w2.alloc (.cells #[.pointer none, .pointer none, .pointer none] 71)) M (.pointer none) (.pointer none) (.pointer none) := by rw [← hM]; exact heap_alloc_new w2 _
            rw [hM]
            clear s0 s1 t0 t1 t2 hbA hA hM
            go_loopw [6] (fun i wr => InvL w M A B (.slice a0 z0.length c0) (.slice a1 z1.length c1) (.slice a2 z2.length c2) z0 z1 z2 i wr) (fun i _ => (3 - intOf i).toNat)
            case atStart => exact ⟨hfix, .inl ⟨rfl, harr0⟩⟩
            case round =>
              clear hfix harr0
              obtain ⟨hf, ⟨rfl, ar⟩ | ⟨b0, h0, rfl, ar, m0, q0, q0'⟩ | ⟨b0, h0, b1, h1, rfl, ar, m0, q0, q0', m1, q1, q1'⟩ | ⟨b0, h0, b1, h1, b2, h2, rfl, ar, m0, m1, m2⟩⟩ := hrel
              · skip
                have hfk := hf
                obtain ⟨hBw, s0, s1, t0, t1, t2⟩ := hfk
                have hfzz := ar.fz (k := 0)
                have hcell := ar.a0
                go_upto_region 7 with fail
                have hA3 := bl_dr (bl0 wr)
                go_region_held3 (fun w' => w'.cell? ⟨w.heap.size, 0, none⟩ = some (.int .i64 A) ∧ w'.cell? ⟨w.heap.size, 1, none⟩ = some (.int .i64 B) ∧ w'.cell? ⟨w.heap.size + 1, 0, none⟩ = some (.slice a0 z0.length c0))
                  (exact ⟨cell_later hA3 s0, cell_later hA3 s1, cell_later hA3 t0⟩)
                  (first
                    | (go_at_call 29; refine (inside_any A B a0 c0 z0 _ ((r0.below hBw).below hA3) (by omega)).mono ?_; rintro e W4 ⟨a9, cap9, rfl, hrc, hb⟩; have HRC := Lib.hid hrc; replace hA3 := bl_tr hA3 hb; clear hb hrc)
                    | (go_at_call 28; refine (made_yes A B a9 cap9 (onMap A B z0) _ hma HRC.out (Nat.le_trans (onMap_le _ _ _) (by omega)) (onMap_in A B z0)).mono ?_; rintro e W5 ⟨b9, h9, rfl, hmk, hb9, hh9, hne9, hb⟩; have HMK := Lib.hid hmk; have hsz9 := hA3.size; replace hA3 := bl_tr hA3 hb; clear hb hmk))
                have harr := ar.below hA3
                replace hcell := cell_later hA3 hcell
                replace hfzz := frozen_later hA3 ar.a0 hfzz
                have hlt := (Array.getElem?_eq_some_iff.1 ar).1
                have hm9 : MaskAt (W5.setCell ⟨M, 0, none⟩ (.pointer (some ⟨b9, 0, none⟩))) b9 h9 A B (setOf A B z0) := (show MaskAt W5 b9 h9 A B (setOf A B z0) from HMK.out).apart (by omega) (by omega) _
                have hf4 := (hf.below hA3).set (M := M) (o := 0) hMw (.pointer (some ⟨b9, 0, none⟩))
                clear s0 s1 t0 t1 t2 hf ar HMK hBw hA3
                go_wp2
                go_roundw
                case rel => exact ⟨hf4, .inr (.inl ⟨b9, h9, rfl, harr.s0 _, hm9, by omega, by omega⟩)⟩
                case measure => simp [intOf]
              · skip
                have hfk := hf
                obtain ⟨hBw, s0, s1, t0, t1, t2⟩ := hfk
                have hfzz := ar.fz (k := 1)
                have hcell := ar.a1
                go_upto_region 7 with fail
                have hA3 := bl_dr (bl0 wr)
                go_region_held3 (fun w' => w'.cell? ⟨w.heap.size, 0, none⟩ = some (.int .i64 A) ∧ w'.cell? ⟨w.heap.size, 1, none⟩ = some (.int .i64 B) ∧ w'.cell? ⟨w.heap.size + 1, 1, none⟩ = some (.slice a1 z1.length c1))
                  (exact ⟨cell_later hA3 s0, cell_later hA3 s1, cell_later hA3 t1⟩)
                  (first
                    | (go_at_call 29; refine (inside_any A B a1 c1 z1 _ ((r1.below hBw).below hA3) (by omega)).mono ?_; rintro e W4 ⟨a9, cap9, rfl, hrc, hb⟩; have HRC := Lib.hid hrc; replace hA3 := bl_tr hA3 hb; clear hb hrc)
                    | (go_at_call 28; refine (made_yes A B a9 cap9 (onMap A B z1) _ hma HRC.out (Nat.le_trans (onMap_le _ _ _) (by omega)) (onMap_in A B z1)).mono ?_; rintro e W5 ⟨b9, h9, rfl, hmk, hb9, hh9, hne9, hb⟩; have HMK := Lib.hid hmk; have hsz9 := hA3.size; replace hA3 := bl_tr hA3 hb; clear hb hmk))
                have harr := ar.below hA3
                replace hcell := cell_later hA3 hcell
                replace hfzz := frozen_later hA3 ar.a1 hfzz
                have hlt := (Array.getElem?_eq_some_iff.1 ar).1
                have hm9 : MaskAt (W5.setCell ⟨M, 1, none⟩ (.pointer (some ⟨b9, 0, none⟩))) b9 h9 A B (setOf A B z1) := (show MaskAt W5 b9 h9 A B (setOf A B z1) from HMK.out).apart (by omega) (by omega) _
                have m0' := (m0.below hA3).apart (g := M) (k := 1) (by omega) (by omega) (.pointer (some ⟨b9, 0, none⟩))
                have hf4 := (hf.below hA3).set (M := M) (o := 1) hMw (.pointer (some ⟨b9, 0, none⟩))
                clear s0 s1 t0 t1 t2 m0 hf ar HMK hBw hA3
                go_wp2
                go_roundw
                case rel => exact ⟨hf4, .inr (.inr (.inl ⟨b0, h0, b9, h9, rfl, harr.s1 _, m0', q0, q0', hm9, by omega, by omega⟩))⟩
                case measure => simp [intOf]
              · skip
                have hfk := hf
                obtain ⟨hBw, s0, s1, t0, t1, t2⟩ := hfk
                have hfzz := ar.fz (k := 2)
                have hcell := ar.a2
                go_upto_region 7 with fail
                have hA3 := bl_dr (bl0 wr)
                go_region_held3 (fun w' => w'.cell? ⟨w.heap.size, 0, none⟩ = some (.int .i64 A) ∧ w'.cell? ⟨w.heap.size, 1, none⟩ = some (.int .i64 B) ∧ w'.cell? ⟨w.heap.size + 1, 2, none⟩ = some (.slice a2 z2.length c2))
                  (exact ⟨cell_later hA3 s0, cell_later hA3 s1, cell_later hA3 t2⟩)
                  (first
                    | (go_at_call 29; refine (inside_any A B a2 c2 z2 _ ((r2.below hBw).below hA3) (by omega)).mono ?_; rintro e W4 ⟨a9, cap9, rfl, hrc, hb⟩; have HRC := Lib.hid hrc; replace hA3 := bl_tr hA3 hb; clear hb hrc)
                    | (go_at_call 28; refine (made_yes A B a9 cap9 (onMap A B z2) _ hma HRC.out (Nat.le_trans (onMap_le _ _ _) (by omega)) (onMap_in A B z2)).mono ?_; rintro e W5 ⟨b9, h9, rfl, hmk, hb9, hh9, hne9, hb⟩; have HMK := Lib.hid hmk; have hsz9 := hA3.size; replace hA3 := bl_tr hA3 hb; clear hb hmk))
                have harr := ar.below hA3
                replace hcell := cell_later hA3 hcell
                replace hfzz := frozen_later hA3 ar.a2 hfzz
                have hlt := (Array.getElem?_eq_some_iff.1 ar).1
                have hm9 : MaskAt (W5.setCell ⟨M, 2, none⟩ (.pointer (some ⟨b9, 0, none⟩))) b9 h9 A B (setOf A B z2) := (show MaskAt W5 b9 h9 A B (setOf A B z2) from HMK.out).apart (by omega) (by omega) _
                have m0' := (m0.below hA3).apart (g := M) (k := 2) (by omega) (by omega) (.pointer (some ⟨b9, 0, none⟩))
                have m1' := (m1.below hA3).apart (g := M) (k := 2) (by omega) (by omega) (.pointer (some ⟨b9, 0, none⟩))
                have hf4 := (hf.below hA3).set (M := M) (o := 2) hMw (.pointer (some ⟨b9, 0, none⟩))
                clear s0 s1 t0 t1 t2 m0 m1 hf ar HMK hBw hA3
                go_wp2
                go_roundw
                case rel => exact ⟨hf4, .inr (.inr (.inr ⟨b0, h0, b1, h1, b9, h9, rfl, harr.s2 _, m0', m1', hm9⟩))⟩
                case measure => simp [intOf]
              · skip
                have hA := hf.1
                have e0 := ar.a0
                have e1 := ar.a1
                have e2 := ar.a2
                have g0 := setOf_good hma z0
                have g1 := setOf_good hma z1
                have g2 := setOf_good hma z2
                clear hf ar
                generalize setOf A B z0 = d0 at m0 g0
                generalize setOf A B z1 = d1 at m1 g1
                generalize setOf A B z2 = d2 at m2 g2
                have g3 := g0.or g1
                have g4 := g1.or g0
                have g5 := g3.or g2
                have g6 := g1.or g2
                have g7 := g0.or g6
                have g8 := g0.and g1
                have g9 := g1.and g0
                have g11 := g8.and g2
                have g12 := g1.and g2
                have g13 := g0.and g12
                have g14 := g1.or g2
                have g15 := g0.and g14
                have g16 := g0.and g1
                have g17 := g0.and g2
                have g18 := g16.or g17
                have g20 := g0.or g16
                have q34 := or_comm_b (g0.len g1)
                have q57 := or_assoc_b d0 d1 d2
                have q89 := and_comm_b (g0.len g1)
                have q1113 := and_assoc_b d0 d1 d2
                have q1518 := and_or_b d0 d1 d2 (g0.len g1) (g0.len g2)
                have q200 := absorb_b (g0.len g1)
                have Q34 := Lib.hid q34
                have Q57 := Lib.hid q57
                have Q89 := Lib.hid q89
                have Q1113 := Lib.hid q1113
                have Q1518 := Lib.hid q1518
                have Q200 := Lib.hid q200
                clear q34 q57 q89 q1113 q1518 q200 hMw
                go_wp2_with fail
                refine (joined_any _ _ _ _ A B _ _ _ m0 m1 g0 g1).mono ?_
                rintro e w3 ⟨b3, h3, rfl, m3, _, _, _, hb⟩
                replace hA := bl_tr hA hb; replace e0 := cell_later hb e0; replace e1 := cell_later hb e1; replace e2 := cell_later hb e2; replace m0 := m0.below hb; replace m1 := m1.below hb; replace m2 := m2.below hb; try (replace m4 := m4.below hb); clear hb
                go_wp2_with fail
                refine (joined_any _ _ _ _ A B _ _ _ m1 m0 g1 g0).mono ?_
                rintro e w4 ⟨b4, h4, rfl, m4, _, _, _, hb⟩
                replace hA := bl_tr hA hb; replace e0 := cell_later hb e0; replace e1 := cell_later hb e1; replace e2 := cell_later hb e2; replace m0 := m0.below hb; replace m1 := m1.below hb; replace m2 := m2.below hb; try (replace m3 := m3.below hb); clear hb
                go_wp2_with fail
                have hb := bl_dr (bl0 w4)
                replace hA := bl_tr hA hb; replace e0 := cell_later hb e0; replace e1 := cell_later hb e1; replace e2 := cell_later hb e2; replace m0 := m0.below hb; replace m1 := m1.below hb; replace m2 := m2.below hb; try (replace m3 := m3.below hb); try (replace m4 := m4.below hb); clear hb
                go_upto_region 13 with fail
                go_region_held3 (fun w' => w'.cell? ⟨M, 0, none⟩ = some (.pointer (some ⟨b0, 0, none⟩)) ∧ w'.cell? ⟨M, 1, none⟩ = some (.pointer (some ⟨b1, 0, none⟩)) ∧ w'.cell? ⟨M, 2, none⟩ = some (.pointer (some ⟨b2, 0, none⟩)))
                  (exact ⟨e0, e1, e2⟩)
                  (first
                    | (go_at_call 33; (with_reducible refine (same_yes _ _ _ _ A B _ _ _ m3 m4 g3 g4 Q34.out).mono ?_); rintro e W9 ⟨rfl, hb⟩; replace hA := bl_tr hA hb; replace e0 := cell_later hb e0; replace e1 := cell_later hb e1; replace e2 := cell_later hb e2; replace m0 := m0.below hb; replace m1 := m1.below hb; replace m2 := m2.below hb; try (replace m3 := m3.below hb); try (replace m4 := m4.below hb); try (replace m5 := m5.below hb); try (replace m6 := m6.below hb); try (replace m7 := m7.below hb); clear hb)
                    | (go_at_call 37; (with_reducible refine (joined_any _ _ _ _ A B _ _ _ m3 m2 g3 g2).mono ?_); rintro e W9 ⟨b5, h5, rfl, m5, _, _, _, hb⟩; replace hA := bl_tr hA hb; replace e0 := cell_later hb e0; replace e1 := cell_later hb e1; replace e2 := cell_later hb e2; replace m0 := m0.below hb; replace m1 := m1.below hb; replace m2 := m2.below hb; try (replace m3 := m3.below hb); try (replace m4 := m4.below hb); try (replace m6 := m6.below hb); try (replace m7 := m7.below hb); clear hb)
                    | (go_at_call 37; (with_reducible refine (joined_any _ _ _ _ A B _ _ _ m1 m2 g1 g2).mono ?_); rintro e W9 ⟨b6, h6, rfl, m6, _, _, _, hb⟩; replace hA := bl_tr hA hb; replace e0 := cell_later hb e0; replace e1 := cell_later hb e1; replace e2 := cell_later hb e2; replace m0 := m0.below hb; replace m1 := m1.below hb; replace m2 := m2.below hb; try (replace m3 := m3.below hb); try (replace m4 := m4.below hb); try (replace m5 := m5.below hb); try (replace m7 := m7.below hb); clear hb)
                    | (go_at_call 37; (with_reducible refine (joined_any _ _ _ _ A B _ _ _ m0 m6 g0 g6).mono ?_); rintro e W9 ⟨b7, h7, rfl, m7, _, _, _, hb⟩; replace hA := bl_tr hA hb; replace e0 := cell_later hb e0; replace e1 := cell_later hb e1; replace e2 := cell_later hb e2; replace m0 := m0.below hb; replace m1 := m1.below hb; replace m2 := m2.below hb; try (replace m3 := m3.below hb); try (replace m4 := m4.below hb); try (replace m5 := m5.below hb); try (replace m6 := m6.below hb); clear hb)
                    | (go_at_call 33; (with_reducible refine (same_yes _ _ _ _ A B _ _ _ m5 m7 g5 g7 Q57.out).mono ?_); rintro e W9 ⟨rfl, hb⟩; replace hA := bl_tr hA hb; replace e0 := cell_later hb e0; replace e1 := cell_later hb e1; replace e2 := cell_later hb e2; replace m0 := m0.below hb; replace m1 := m1.below hb; replace m2 := m2.below hb; try (replace m3 := m3.below hb); try (replace m4 := m4.below hb); try (replace m5 := m5.below hb); try (replace m6 := m6.below hb); try (replace m7 := m7.below hb); clear hb))
                clear m3 m4 m5 m6 m7
                go_upto_region 15 with fail
                have hb := bl_dr (bl0 W9)
                replace hA := bl_tr hA hb; replace e0 := cell_later hb e0; replace e1 := cell_later hb e1; replace e2 := cell_later hb e2; replace m0 := m0.below hb; replace m1 := m1.below hb; replace m2 := m2.below hb; try (replace m8 := m8.below hb); try (replace m9 := m9.below hb); try (replace m11 := m11.below hb); try (replace m12 := m12.below hb); try (replace m13 := m13.below hb); clear hb
                go_region_held3 (fun w' => w'.cell? ⟨M, 0, none⟩ = some (.pointer (some ⟨b0, 0, none⟩)) ∧ w'.cell? ⟨M, 1, none⟩ = some (.pointer (some ⟨b1, 0, none⟩)) ∧ w'.cell? ⟨M, 2, none⟩ = some (.pointer (some ⟨b2, 0, none⟩)))
                  (exact ⟨e0, e1, e2⟩)
                  (first
                    | (go_at_call 38; (with_reducible refine (both_any _ _ _ _ A B _ _ _ m0 m1 g0 g1).mono ?_); rintro e W9 ⟨b8, h8, rfl, m8, _, _, _, hb⟩; replace hA := bl_tr hA hb; replace e0 := cell_later hb e0; replace e1 := cell_later hb e1; replace e2 := cell_later hb e2; replace m0 := m0.below hb; replace m1 := m1.below hb; replace m2 := m2.below hb; try (replace m9 := m9.below hb); try (replace m11 := m11.below hb); try (replace m12 := m12.below hb); try (replace m13 := m13.below hb); clear hb)
                    | (go_at_call 38; (with_reducible refine (both_any _ _ _ _ A B _ _ _ m1 m0 g1 g0).mono ?_); rintro e W9 ⟨b9, h9, rfl, m9, _, _, _, hb⟩; replace hA := bl_tr hA hb; replace e0 := cell_later hb e0; replace e1 := cell_later hb e1; replace e2 := cell_later hb e2; replace m0 := m0.below hb; replace m1 := m1.below hb; replace m2 := m2.below hb; try (replace m8 := m8.below hb); try (replace m11 := m11.below hb); try (replace m12 := m12.below hb); try (replace m13 := m13.below hb); clear hb)
                    | (go_at_call 33; (with_reducible refine (same_yes _ _ _ _ A B _ _ _ m8 m9 g8 g9 Q89.out).mono ?_); rintro e W9 ⟨rfl, hb⟩; replace hA := bl_tr hA hb; replace e0 := cell_later hb e0; replace e1 := cell_later hb e1; replace e2 := cell_later hb e2; replace m0 := m0.below hb; replace m1 := m1.below hb; replace m2 := m2.below hb; try (replace m8 := m8.below hb); try (replace m9 := m9.below hb); try (replace m11 := m11.below hb); try (replace m12 := m12.below hb); try (replace m13 := m13.below hb); clear hb)
                    | (go_at_call 38; (with_reducible refine (both_any _ _ _ _ A B _ _ _ m8 m2 g8 g2).mono ?_); rintro e W9 ⟨b11, h11, rfl, m11, _, _, _, hb⟩; replace hA := bl_tr hA hb; replace e0 := cell_later hb e0; replace e1 := cell_later hb e1; replace e2 := cell_later hb e2; replace m0 := m0.below hb; replace m1 := m1.below hb; replace m2 := m2.below hb; try (replace m8 := m8.below hb); try (replace m9 := m9.below hb); try (replace m12 := m12.below hb); try (replace m13 := m13.below hb); clear hb)
                    | (go_at_call 38; (with_reducible refine (both_any _ _ _ _ A B _ _ _ m1 m2 g1 g2).mono ?_); rintro e W9 ⟨b12, h12, rfl, m12, _, _, _, hb⟩; replace hA := bl_tr hA hb; replace e0 := cell_later hb e0; replace e1 := cell_later hb e1; replace e2 := cell_later hb e2; replace m0 := m0.below hb; replace m1 := m1.below hb; replace m2 := m2.below hb; try (replace m8 := m8.below hb); try (replace m9 := m9.below hb); try (replace m11 := m11.below hb); try (replace m13 := m13.below hb); clear hb)
                    | (go_at_call 38; (with_reducible refine (both_any _ _ _ _ A B _ _ _ m0 m12 g0 g12).mono ?_); rintro e W9 ⟨b13, h13, rfl, m13, _, _, _, hb⟩; replace hA := bl_tr hA hb; replace e0 := cell_later hb e0; replace e1 := cell_later hb e1; replace e2 := cell_later hb e2; replace m0 := m0.below hb; replace m1 := m1.below hb; replace m2 := m2.below hb; try (replace m8 := m8.below hb); try (replace m9 := m9.below hb); try (replace m11 := m11.below hb); try (replace m12 := m12.below hb); clear hb)
                    | (go_at_call 33; (with_reducible refine (same_yes _ _ _ _ A B _ _ _ m11 m13 g11 g13 Q1113.out).mono ?_); rintro e W9 ⟨rfl, hb⟩; replace hA := bl_tr hA hb; replace e0 := cell_later hb e0; replace e1 := cell_later hb e1; replace e2 := cell_later hb e2; replace m0 := m0.below hb; replace m1 := m1.below hb; replace m2 := m2.below hb; try (replace m8 := m8.below hb); try (replace m9 := m9.below hb); try (replace m11 := m11.below hb); try (replace m12 := m12.below hb); try (replace m13 := m13.below hb); clear hb))
                clear m8 m9 m11 m12 m13
                go_upto_region 17 with fail
                have hb := bl_dr (bl0 W9)
                replace hA := bl_tr hA hb; replace e0 := cell_later hb e0; replace e1 := cell_later hb e1; replace e2 := cell_later hb e2; replace m0 := m0.below hb; replace m1 := m1.below hb; replace m2 := m2.below hb; try (replace m14 := m14.below hb); try (replace m15 := m15.below hb); try (replace m16 := m16.below hb); try (replace m17 := m17.below hb); try (replace m18 := m18.below hb); try (replace m20 := m20.below hb); clear hb
                go_region_held3 (fun w' => w'.cell? ⟨M, 0, none⟩ = some (.pointer (some ⟨b0, 0, none⟩)) ∧ w'.cell? ⟨M, 1, none⟩ = some (.pointer (some ⟨b1, 0, none⟩)) ∧ w'.cell? ⟨M, 2, none⟩ = some (.pointer (some ⟨b2, 0, none⟩)))
                  (exact ⟨e0, e1, e2⟩)
                  (first
                    | (go_at_call 37; (with_reducible refine (joined_any _ _ _ _ A B _ _ _ m1 m2 g1 g2).mono ?_); rintro e W9 ⟨b14, h14, rfl, m14, _, _, _, hb⟩; replace hA := bl_tr hA hb; replace e0 := cell_later hb e0; replace e1 := cell_later hb e1; replace e2 := cell_later hb e2; replace m0 := m0.below hb; replace m1 := m1.below hb; replace m2 := m2.below hb; try (replace m15 := m15.below hb); try (replace m16 := m16.below hb); try (replace m17 := m17.below hb); try (replace m18 := m18.below hb); try (replace m20 := m20.below hb); clear hb)
                    | (go_at_call 38; (with_reducible refine (both_any _ _ _ _ A B _ _ _ m0 m14 g0 g14).mono ?_); rintro e W9 ⟨b15, h15, rfl, m15, _, _, _, hb⟩; replace hA := bl_tr hA hb; replace e0 := cell_later hb e0; replace e1 := cell_later hb e1; replace e2 := cell_later hb e2; replace m0 := m0.below hb; replace m1 := m1.below hb; replace m2 := m2.below hb; try (replace m14 := m14.below hb); try (replace m16 := m16.below hb); try (replace m17 := m17.below hb); try (replace m18 := m18.below hb); try (replace m20 := m20.below hb); clear hb)
                    | (go_at_call 38; (with_reducible refine (both_any _ _ _ _ A B _ _ _ m0 m1 g0 g1).mono ?_); rintro e W9 ⟨b16, h16, rfl, m16, _, _, _, hb⟩; replace hA := bl_tr hA hb; replace e0 := cell_later hb e0; replace e1 := cell_later hb e1; replace e2 := cell_later hb e2; replace m0 := m0.below hb; replace m1 := m1.below hb; replace m2 := m2.below hb; try (replace m14 := m14.below hb); try (replace m15 := m15.below hb); try (replace m17 := m17.below hb); try (replace m18 := m18.below hb); try (replace m20 := m20.below hb); clear hb)
                    | (go_at_call 38; (with_reducible refine (both_any _ _ _ _ A B _ _ _ m0 m2 g0 g2).mono ?_); rintro e W9 ⟨b17, h17, rfl, m17, _, _, _, hb⟩; replace hA := bl_tr hA hb; replace e0 := cell_later hb e0; replace e1 := cell_later hb e1; replace e2 := cell_later hb e2; replace m0 := m0.below hb; replace m1 := m1.below hb; replace m2 := m2.below hb; try (replace m14 := m14.below hb); try (replace m15 := m15.below hb); try (replace m16 := m16.below hb); try (replace m18 := m18.below hb); try (replace m20 := m20.below hb); clear hb)
                    | (go_at_call 37; (with_reducible refine (joined_any _ _ _ _ A B _ _ _ m16 m17 g16 g17).mono ?_); rintro e W9 ⟨b18, h18, rfl, m18, _, _, _, hb⟩; replace hA := bl_tr hA hb; replace e0 := cell_later hb e0; replace e1 := cell_later hb e1; replace e2 := cell_later hb e2; replace m0 := m0.below hb; replace m1 := m1.below hb; replace m2 := m2.below hb; try (replace m14 := m14.below hb); try (replace m15 := m15.below hb); try (replace m16 := m16.below hb); try (replace m17 := m17.below hb); try (replace m20 := m20.below hb); clear hb)
                    | (go_at_call 33; (with_reducible refine (same_yes _ _ _ _ A B _ _ _ m15 m18 g15 g18 Q1518.out).mono ?_); rintro e W9 ⟨rfl, hb⟩; replace hA := bl_tr hA hb; replace e0 := cell_later hb e0; replace e1 := cell_later hb e1; replace e2 := cell_later hb e2; replace m0 := m0.below hb; replace m1 := m1.below hb; replace m2 := m2.below hb; try (replace m14 := m14.below hb); try (replace m15 := m15.below hb); try (replace m16 := m16.below hb); try (replace m17 := m17.below hb); try (replace m18 := m18.below hb); try (replace m20 := m20.below hb); clear hb)
                    | (go_at_call 37; (with_reducible refine (joined_any _ _ _ _ A B _ _ _ m0 m16 g0 g16).mono ?_); rintro e W9 ⟨b20, h20, rfl, m20, _, _, _, hb⟩; replace hA := bl_tr hA hb; replace e0 := cell_later hb e0; replace e1 := cell_later hb e1; replace e2 := cell_later hb e2; replace m0 := m0.below hb; replace m1 := m1.below hb; replace m2 := m2.below hb; try (replace m14 := m14.below hb); try (replace m15 := m15.below hb); try (replace m16 := m16.below hb); try (replace m17 := m17.below hb); try (replace m18 := m18.below hb); clear hb)
                    | (go_at_call 33; (with_reducible refine (same_yes _ _ _ _ A B _ _ _ m20 m0 g20 g0 Q200.out).mono ?_); rintro e W9 ⟨rfl, hb⟩; replace hA := bl_tr hA hb; replace e0 := cell_later hb e0; replace e1 := cell_later hb e1; replace e2 := cell_later hb e2; replace m0 := m0.below hb; replace m1 := m1.below hb; replace m2 := m2.below hb; try (replace m14 := m14.below hb); try (replace m15 := m15.below hb); try (replace m16 := m16.below hb); try (replace m17 := m17.below hb); try (replace m18 := m18.below hb); try (replace m20 := m20.below hb); clear hb)
                    | (go_at_call 10; (with_reducible refine (awake_any _).mono ?_); rintro e W9 ⟨rfl, hb⟩; replace hA := bl_tr hA hb; replace e0 := cell_later hb e0; replace e1 := cell_later hb e1; replace e2 := cell_later hb e2; replace m0 := m0.below hb; replace m1 := m1.below hb; replace m2 := m2.below hb; try (replace m14 := m14.below hb); try (replace m15 := m15.below hb); try (replace m16 := m16.below hb); try (replace m17 := m17.below hb); try (replace m18 := m18.below hb); try (replace m20 := m20.below hb); clear hb))
                go_wp2
                go_ret
                exact ⟨rfl, hA⟩
end Go.Proofs.Ytcbhbekhogcedaa
