/- Texts joined: Ct, Lgways. -/
import Derived.Test.YtofpoenehdmkpaaDoorQ1
/- Least costs: a way cell by cell: the mathematics. -/
namespace Go.Proofs.YtofpoenehdmkpaaDoor
open Go.RowKit

theorem way_head {A B : Int} {zs ds : List Int} {b : BX} {s t : Nat} (hm : mayB A B = true) (hn : (zs.length : Int) = A * B) (hz : AllH zs) (h : Far (gphB A B b zs) s (atD ds)) (ht : atD ds t ≠ 18446744073709551615) : (wayL A B zs ds t)[0]? = some t := by
  rw [wayL_next hm hn hz h ht]; rfl
theorem way_step {A B : Int} {zs ds : List Int} {b : BX} {s : Nat} (hm : mayB A B = true) (hn : (zs.length : Int) = A * B) (hz : AllH zs) (h : Far (gphB A B b zs) s (atD ds)) :
    ∀ (n t : Nat), atD ds t ≠ 18446744073709551615 → atD ds t ≤ (n : Int) → ∀ (j x y : Nat), (wayL A B zs ds t)[j]? = some x → (wayL A B zs ds t)[j + 1]? = some y → aheadF A B zs ds x = some y := by
  intro n
  induction n with
  | zero =>
    intro t ht hle j x y h1 h2
    rw [wayL_next hm hn hz h ht] at h1 h2
    cases ha : aheadF A B zs ds t with
    | none => rw [ha] at h2; simp at h2
    | some k =>
      obtain ⟨q1, q2, q3, q4, q5⟩ := aheadF_some hm hn hz h ha ht
      omega
  | succ n ih =>
    intro t ht hle j x y h1 h2
    rw [wayL_next hm hn hz h ht] at h1 h2
    cases ha : aheadF A B zs ds t with
    | none => rw [ha] at h2; simp at h2
    | some k =>
      rw [ha] at h1 h2
      simp only at h1 h2
      obtain ⟨q1, q2, q3, q4, q5⟩ := aheadF_some hm hn hz h ha ht
      rw [List.getElem?_cons_succ] at h2
      match j, h1, h2 with
      | 0, h1, h2 =>
        rw [way_head hm hn hz h q2] at h2
        rw [List.getElem?_cons_zero] at h1
        cases h1
        cases h2
        exact ha
      | j + 1, h1, h2 =>
        rw [List.getElem?_cons_succ] at h1
        exact ih k q2 (by omega) j x y h1 h2
theorem ahead_none {A B : Int} {zs ds : List Int} {b : BX} {s t : Nat} (_ : mayB A B = true) (hn : (zs.length : Int) = A * B) (_ : AllH zs) (h : Far (gphB A B b zs) s (atD ds)) (ht : atD ds t ≠ 18446744073709551615) (ha : aheadF A B zs ds t = none) : t = s := by
  apply Classical.byContradiction
  intro hne
  obtain ⟨j, hj1, hj2, hj3, hj4⟩ := h.of t hne ht
  unfold aheadF at ha
  have hot := h.opn ht
  have hk : (gphB A B b zs).k t = zs.getD t 0 := gphB_k (gphB_opn.1 hot).2.1
  obtain ⟨o1, o2, o3⟩ := gphB_opn.1 hj2
  have hmem : j ∈ nbO A B zs t := (mem_nbO hn).2 ⟨hj1, o1, o3⟩
  have hf := List.find?_eq_none.1 ha j hmem
  apply hf
  unfold fromB
  rw [beq_iff_eq]
  rw [hk] at hj4
  have bt := h.bd t
  unfold addC
  rw [if_pos (by omega)]
  exact hj4.symm
theorem way_last {A B : Int} {zs ds : List Int} {b : BX} {s : Nat} (hm : mayB A B = true) (hn : (zs.length : Int) = A * B) (hz : AllH zs) (h : Far (gphB A B b zs) s (atD ds)) :
    ∀ (n t : Nat), atD ds t ≠ 18446744073709551615 → atD ds t ≤ (n : Int) → (wayL A B zs ds t).getLast? = some s := by
  intro n
  induction n with
  | zero =>
    intro t ht hle
    rw [wayL_next hm hn hz h ht]
    cases ha : aheadF A B zs ds t with
    | none => rw [ahead_none hm hn hz h ht ha]; rfl
    | some k =>
      obtain ⟨q1, q2, q3, q4, q5⟩ := aheadF_some hm hn hz h ha ht
      omega
  | succ n ih =>
    intro t ht hle
    rw [wayL_next hm hn hz h ht]
    cases ha : aheadF A B zs ds t with
    | none => rw [ahead_none hm hn hz h ht ha]; rfl
    | some k =>
      obtain ⟨q1, q2, q3, q4, q5⟩ := aheadF_some hm hn hz h ha ht
      have := ih k q2 (by omega)
      simp only
      rw [List.getLast?_cons, this]
      rfl
/-- The number of a path's i-th cell. -/
def xN (A B : Int) (zs ds : List Int) (t i : Nat) : Nat := (wayL A B zs ds t).getD ((wayL A B zs ds t).length - 1 - i) 0
/-- What a path is, cell by cell. -/
def WayOk (A : Int) (zs ds : List Int) (b : BX) (s t : Nat) (p : List IC) (x : Nat → Nat) : Prop :=
  1 ≤ p.length ∧ x 0 = s ∧ x (p.length - 1) = t ∧ (∀ i (hi : i < p.length), p[i] = cellN A (x i) ∧ x i < zs.length ∧ atD ds (x i) ≠ 18446744073709551615 ∧ inBx b (cellN A (x i)) = true ∧ zs.getD (x i) 0 ≠ 0) ∧
  (∀ i, i + 1 < p.length → atD ds (x (i + 1)) = atD ds (x i) + zs.getD (x (i + 1)) 0 ∧ ∃ d : Int, 0 ≤ d ∧ d ≤ 3 ∧ stepI (cellN A (x i)) d = cellN A (x (i + 1)))
theorem way_ok {A B : Int} {zs ds : List Int} {b : BX} {s t : Nat} (hm : mayB A B = true) (hn : (zs.length : Int) = A * B) (hz : AllH zs) (h : Far (gphB A B b zs) s (atD ds)) (ht : atD ds t ≠ 18446744073709551615) :
    WayOk A zs ds b s t (pathL A B zs ds t) (xN A B zs ds t) := by
  have h0 := h.ge0 t
  obtain ⟨hall, _⟩ := wayL_mem hm hn hz h (atD ds t).toNat t ht (by omega)
  have hhd := way_head hm hn hz h ht
  have hst := way_step hm hn hz h (atD ds t).toNat t ht (by omega)
  have hla := way_last hm hn hz h (atD ds t).toNat t ht (by omega)
  have hx : ∀ i, xN A B zs ds t i = (wayL A B zs ds t).getD ((wayL A B zs ds t).length - 1 - i) 0 := fun i => rfl
  have hp : pathL A B zs ds t = ((wayL A B zs ds t).map (cellN A)).reverse := rfl
  generalize wayL A B zs ds t = w at *
  generalize xN A B zs ds t = x at *
  have hl : (pathL A B zs ds t).length = w.length := by rw [hp]; simp
  have hpos : 0 < w.length := by
    apply Classical.byContradiction
    intro hc
    have : w = [] := List.eq_nil_of_length_eq_zero (by omega)
    rw [this] at hhd
    cases hhd
  have hw : ∀ i, i < w.length → w[w.length - 1 - i]? = some (x i) := fun i hi => by
    rw [hx, List.getD_eq_getElem?_getD, List.getElem?_eq_getElem (by omega)]
    rfl
  refine ⟨by omega, ?_, ?_, fun i hi => ?_, fun i hi => ?_⟩
  · have h1 := hw 0 hpos
    rw [List.getLast?_eq_getElem?] at hla
    rw [Nat.sub_zero] at h1
    rw [h1] at hla
    exact Option.some.inj hla
  · have h1 := hw (w.length - 1) (by omega)
    rw [hl]
    rw [show w.length - 1 - (w.length - 1) = 0 by omega, hhd] at h1
    exact (Option.some.inj h1).symm
  · rw [hl] at hi
    have h1 := hw i hi
    have hmem : x i ∈ w := List.mem_of_getElem? h1
    obtain ⟨m1, _, m3⟩ := hall (x i) hmem
    obtain ⟨o1, o2, o3⟩ := gphB_opn.1 (h.opn m1)
    refine ⟨?_, m3, m1, o2, o3⟩
    have h2 : (pathL A B zs ds t)[i]? = some (cellN A (x i)) := by
      rw [hp, List.getElem?_reverse (by simp; omega), List.getElem?_map, List.length_map, h1]
      rfl
    rw [List.getElem?_eq_getElem (by omega)] at h2
    exact Option.some.inj h2
  · rw [hl] at hi
    have h1 := hw i (by omega)
    have h2 := hw (i + 1) hi
    have ha := hst (w.length - 1 - (i + 1)) (x (i + 1)) (x i) h2 (by rw [show w.length - 1 - (i + 1) + 1 = w.length - 1 - i by omega]; exact h1)
    obtain ⟨m1, _, m3⟩ := hall (x (i + 1)) (List.mem_of_getElem? h2)
    obtain ⟨m4, _, m6⟩ := hall (x i) (List.mem_of_getElem? h1)
    obtain ⟨q1, q2, q3, q4, q5⟩ := aheadF_some hm hn hz h ha m1
    refine ⟨q3, ?_⟩
    obtain ⟨d, d0, d3, hon, hnum⟩ := mem_nbL.1 ((mem_nbO hn).1 q1).1
    obtain ⟨e, e0, e3, he⟩ := step_back (cellN A (x (i + 1))) d0 d3
    refine ⟨e, e0, e3, ?_⟩
    have : cellN A (x i) = stepI (cellN A (x (i + 1))) d := by rw [← hnum]; exact cellN_num hon
    rw [this]
    exact he
end Go.Proofs.YtofpoenehdmkpaaDoor

/- FloodWays: the law's walk. -/
namespace Go.Proofs.YtofpoenehdmkpaaDoor
open Go.RowKit

/-- Whether one of the first k ways leads from a cell to another. -/
def besK (a c : IC) : Nat → Bool
  | 0 => false
  | k + 1 => besK a c k || decide (stepI a (k : Int) = c)
theorem besK_yes {a c : IC} {d : Int} (h0 : 0 ≤ d) (h3 : d ≤ 3) (h : stepI a d = c) : besK a c 4 = true := by
  rcases (show d = 0 ∨ d = 1 ∨ d = 2 ∨ d = 3 by omega) with rfl | rfl | rfl | rfl
  all_goals
    unfold besK besK besK besK besK
    simp [h]
set_option maxRecDepth 100000 in
set_option maxHeartbeats 8000000 in
theorem gways_walk (A B : Int) (a : Option Addr) (cap : Nat) (zs : List Int) (X Y U V : Int) (F T : IC) (w : World) (hT : wf64 T.1 ∧ wf64 T.2) (hs : Stp w) (hr : RowH w a zs) (hu : AllH zs) :
    Calls Tryd.prog 5 #[.agg #[.int .i64 A, .int .i64 B, .slice a zs.length cap], .agg #[.int .i64 X, .int .i64 Y, .int .i64 U, .int .i64 V], .agg #[.int .i64 F.1, .int .i64 F.2, .int .i64 T.1, .int .i64 T.2]] w fun e w' => e = .returned (.bool true) ∧ Below w.heap.size w w' := by
  have hA := bl0 w
  by_cases hsm : (zs.length : Int) ≤ 150
  case neg =>
    have hd : decide ((zs.length : Int) ≤ 150) = false := decide_eq_false hsm
    clear hsm
    go_enter Tryd.func5, Tryd.ntmps5
    go_wp2_with fail
    refine (small8_any _ _ _ _ _ _).mono ?_
    rintro e w1 ⟨rfl, hb⟩
    have hk : Below w.heap.size w w1 := by first | exact hb | exact bl_tr (bl_al (bl0 _) _) hb | exact bl_tr (bl_dr (bl_al (bl0 _) _)) hb | exact bl_tr (bl_al (bl_al (bl0 _) _) _) hb | exact bl_tr (bl_dr (bl_al (bl_al (bl0 _) _) _)) hb | exact bl_tr (bl_al (bl_al (bl_al (bl0 _) _) _) _) hb | exact bl_tr (bl_dr (bl_al (bl_al (bl_al (bl0 _) _) _) _)) hb | exact bl_tr (bl_al (bl_al (bl_al (bl_al (bl0 _) _) _) _) _) hb | exact bl_tr (bl_dr (bl_al (bl_al (bl_al (bl_al (bl0 _) _) _) _) _)) hb | exact bl_tr (bl_al (bl_al (bl_al (bl_al (bl_al (bl0 _) _) _) _) _) _) hb | exact bl_tr (bl_dr (bl_al (bl_al (bl_al (bl_al (bl_al (bl0 _) _) _) _) _) _)) hb | exact bl_tr (bl_al (bl_al (bl_al (bl_al (bl_al (bl_al (bl0 _) _) _) _) _) _) _) hb | exact bl_tr (bl_dr (bl_al (bl_al (bl_al (bl_al (bl_al (bl_al (bl0 _) _) _) _) _) _) _)) hb | exact bl_tr (bl_dr (bl0 _)) hb
    replace hA := bl_tr hA hk
    clear hb hk
    rw [hd]
    go_wp2_with fail
    refine (awake8 _ (hs.below hA)).mono ?_
    rintro e w2 ⟨rfl, hb⟩
    have hA2 := bl_tr hA hb
    clear hb
    go_wp2
    go_ret
    exact ⟨rfl, hA2⟩
  case pos =>
    have hd : decide ((zs.length : Int) ≤ 150) = true := decide_eq_true hsm
    go_enter Tryd.func5, Tryd.ntmps5
    go_wp2_with fail
    refine (small8_any _ _ _ _ _ _).mono ?_
    rintro e w1 ⟨rfl, hb⟩
    have hk : Below w.heap.size w w1 := by first | exact hb | exact bl_tr (bl_al (bl0 _) _) hb | exact bl_tr (bl_dr (bl_al (bl0 _) _)) hb | exact bl_tr (bl_al (bl_al (bl0 _) _) _) hb | exact bl_tr (bl_dr (bl_al (bl_al (bl0 _) _) _)) hb | exact bl_tr (bl_al (bl_al (bl_al (bl0 _) _) _) _) hb | exact bl_tr (bl_dr (bl_al (bl_al (bl_al (bl0 _) _) _) _)) hb | exact bl_tr (bl_al (bl_al (bl_al (bl_al (bl0 _) _) _) _) _) hb | exact bl_tr (bl_dr (bl_al (bl_al (bl_al (bl_al (bl0 _) _) _) _) _)) hb | exact bl_tr (bl_al (bl_al (bl_al (bl_al (bl_al (bl0 _) _) _) _) _) _) hb | exact bl_tr (bl_dr (bl_al (bl_al (bl_al (bl_al (bl_al (bl0 _) _) _) _) _) _)) hb | exact bl_tr (bl_al (bl_al (bl_al (bl_al (bl_al (bl_al (bl0 _) _) _) _) _) _) _) hb | exact bl_tr (bl_dr (bl_al (bl_al (bl_al (bl_al (bl_al (bl_al (bl0 _) _) _) _) _) _) _)) hb | exact bl_tr (bl_dr (bl0 _)) hb
    replace hA := bl_tr hA hk
    have f0 := cell_later hb (v := .int .i64 A) (a := ⟨w.heap.size, 0, none⟩) (by simp [go_sem])
    have f1 := cell_later hb (v := .int .i64 B) (a := ⟨w.heap.size, 1, none⟩) (by simp [go_sem])
    have f2 := cell_later hb (v := .slice a zs.length cap) (a := ⟨w.heap.size, 2, none⟩) (by simp [go_sem])
    have g0 := cell_later hb (v := .int .i64 X) (a := ⟨w.heap.size + 1, 0, none⟩) (by simp [go_sem])
    have g1 := cell_later hb (v := .int .i64 Y) (a := ⟨w.heap.size + 1, 1, none⟩) (by simp [go_sem])
    have g2 := cell_later hb (v := .int .i64 U) (a := ⟨w.heap.size + 1, 2, none⟩) (by simp [go_sem])
    have g3 := cell_later hb (v := .int .i64 V) (a := ⟨w.heap.size + 1, 3, none⟩) (by simp [go_sem])
    have x0 := cell_later hb (v := .int .i64 F.1) (a := ⟨w.heap.size + 1 + 1, 0, none⟩) (by simp [go_sem])
    have x1 := cell_later hb (v := .int .i64 F.2) (a := ⟨w.heap.size + 1 + 1, 1, none⟩) (by simp [go_sem])
    have y0 := cell_later hb (v := .int .i64 T.1) (a := ⟨w.heap.size + 1 + 1, 2, none⟩) (by simp [go_sem])
    have y1 := cell_later hb (v := .int .i64 T.2) (a := ⟨w.heap.size + 1 + 1, 3, none⟩) (by simp [go_sem])
    clear hb hk
    have zf0 := blk_lt f0
    have zf1 := blk_lt f1
    have zf2 := blk_lt f2
    have zg0 := blk_lt g0
    have zg1 := blk_lt g1
    have zg2 := blk_lt g2
    have zg3 := blk_lt g3
    have zx0 := blk_lt x0
    have zx1 := blk_lt x1
    have zy0 := blk_lt y0
    have zy1 := blk_lt y1
    rw [hd]
    clear hd
    go_wp2_with fail
    refine (within_any A B a cap zs (X, Y, U, V) F _ hu (hr.below (by first | exact hA | exact (bl_al hA _) | exact (bl_dr (bl_al hA _)) | exact (bl_al (bl_al hA _) _) | exact (bl_dr (bl_al (bl_al hA _) _)) | exact (bl_al (bl_al (bl_al hA _) _) _) | exact (bl_dr (bl_al (bl_al (bl_al hA _) _) _)) | exact (bl_al (bl_al (bl_al (bl_al hA _) _) _) _) | exact (bl_dr (bl_al (bl_al (bl_al (bl_al hA _) _) _) _)) | exact (bl_al (bl_al (bl_al (bl_al (bl_al hA _) _) _) _) _) | exact (bl_dr (bl_al (bl_al (bl_al (bl_al (bl_al hA _) _) _) _) _)) | exact (bl_al (bl_al (bl_al (bl_al (bl_al (bl_al hA _) _) _) _) _) _) | exact (bl_dr (bl_al (bl_al (bl_al (bl_al (bl_al (bl_al hA _) _) _) _) _) _)) | exact (bl_dr hA))) (hs.below (by first | exact hA | exact (bl_al hA _) | exact (bl_dr (bl_al hA _)) | exact (bl_al (bl_al hA _) _) | exact (bl_dr (bl_al (bl_al hA _) _)) | exact (bl_al (bl_al (bl_al hA _) _) _) | exact (bl_dr (bl_al (bl_al (bl_al hA _) _) _)) | exact (bl_al (bl_al (bl_al (bl_al hA _) _) _) _) | exact (bl_dr (bl_al (bl_al (bl_al (bl_al hA _) _) _) _)) | exact (bl_al (bl_al (bl_al (bl_al (bl_al hA _) _) _) _) _) | exact (bl_dr (bl_al (bl_al (bl_al (bl_al (bl_al hA _) _) _) _) _)) | exact (bl_al (bl_al (bl_al (bl_al (bl_al (bl_al hA _) _) _) _) _) _) | exact (bl_dr (bl_al (bl_al (bl_al (bl_al (bl_al (bl_al hA _) _) _) _) _) _)) | exact (bl_dr hA)))).mono ?_
    rintro e w2 ⟨⟨b1, cap1, l, rfl, hru1, hn1, hy1⟩, hb⟩
    have hk : Below w1.heap.size w1 w2 := by first | exact hb | exact bl_tr (bl_al (bl0 _) _) hb | exact bl_tr (bl_dr (bl_al (bl0 _) _)) hb | exact bl_tr (bl_al (bl_al (bl0 _) _) _) hb | exact bl_tr (bl_dr (bl_al (bl_al (bl0 _) _) _)) hb | exact bl_tr (bl_al (bl_al (bl_al (bl0 _) _) _) _) hb | exact bl_tr (bl_dr (bl_al (bl_al (bl_al (bl0 _) _) _) _)) hb | exact bl_tr (bl_al (bl_al (bl_al (bl_al (bl0 _) _) _) _) _) hb | exact bl_tr (bl_dr (bl_al (bl_al (bl_al (bl_al (bl0 _) _) _) _) _)) hb | exact bl_tr (bl_al (bl_al (bl_al (bl_al (bl_al (bl0 _) _) _) _) _) _) hb | exact bl_tr (bl_dr (bl_al (bl_al (bl_al (bl_al (bl_al (bl0 _) _) _) _) _) _)) hb | exact bl_tr (bl_al (bl_al (bl_al (bl_al (bl_al (bl_al (bl0 _) _) _) _) _) _) _) hb | exact bl_tr (bl_dr (bl_al (bl_al (bl_al (bl_al (bl_al (bl_al (bl0 _) _) _) _) _) _) _)) hb | exact bl_tr (bl_dr (bl0 _)) hb
    replace hA := bl_tr hA hk
    replace f0 := cell_later hk f0
    replace f1 := cell_later hk f1
    replace f2 := cell_later hk f2
    replace g0 := cell_later hk g0
    replace g1 := cell_later hk g1
    replace g2 := cell_later hk g2
    replace g3 := cell_later hk g3
    replace x0 := cell_later hk x0
    replace x1 := cell_later hk x1
    replace y0 := cell_later hk y0
    replace y1 := cell_later hk y1
    clear hb hk
    have zf0 := blk_lt f0
    have zf1 := blk_lt f1
    have zf2 := blk_lt f2
    have zg0 := blk_lt g0
    have zg1 := blk_lt g1
    have zg2 := blk_lt g2
    have zg3 := blk_lt g3
    have zx0 := blk_lt x0
    have zx1 := blk_lt x1
    have zy0 := blk_lt y0
    have zy1 := blk_lt y1
    obtain ⟨E1, hE1⟩ : ∃ E1, errW A B zs.length (X, Y, U, V) F = E1 := ⟨_, rfl⟩
    rw [hE1] at hn1 hy1 ⊢
    have HE1 := Lib.hid hE1
    have HY1 := Lib.hid hy1
    have HN1 := Lib.hid hn1
    clear hE1 hy1 hn1
    go_wp2_with fail
    refine (path_any A B a cap zs (X, Y, U, V) F T _ hu (hr.below (by first | exact hA | exact (bl_al hA _) | exact (bl_dr (bl_al hA _)) | exact (bl_al (bl_al hA _) _) | exact (bl_dr (bl_al (bl_al hA _) _)) | exact (bl_al (bl_al (bl_al hA _) _) _) | exact (bl_dr (bl_al (bl_al (bl_al hA _) _) _)) | exact (bl_al (bl_al (bl_al (bl_al hA _) _) _) _) | exact (bl_dr (bl_al (bl_al (bl_al (bl_al hA _) _) _) _)) | exact (bl_al (bl_al (bl_al (bl_al (bl_al hA _) _) _) _) _) | exact (bl_dr (bl_al (bl_al (bl_al (bl_al (bl_al hA _) _) _) _) _)) | exact (bl_al (bl_al (bl_al (bl_al (bl_al (bl_al hA _) _) _) _) _) _) | exact (bl_dr (bl_al (bl_al (bl_al (bl_al (bl_al (bl_al hA _) _) _) _) _) _)) | exact (bl_dr hA))) (hs.below (by first | exact hA | exact (bl_al hA _) | exact (bl_dr (bl_al hA _)) | exact (bl_al (bl_al hA _) _) | exact (bl_dr (bl_al (bl_al hA _) _)) | exact (bl_al (bl_al (bl_al hA _) _) _) | exact (bl_dr (bl_al (bl_al (bl_al hA _) _) _)) | exact (bl_al (bl_al (bl_al (bl_al hA _) _) _) _) | exact (bl_dr (bl_al (bl_al (bl_al (bl_al hA _) _) _) _)) | exact (bl_al (bl_al (bl_al (bl_al (bl_al hA _) _) _) _) _) | exact (bl_dr (bl_al (bl_al (bl_al (bl_al (bl_al hA _) _) _) _) _)) | exact (bl_al (bl_al (bl_al (bl_al (bl_al (bl_al hA _) _) _) _) _) _) | exact (bl_dr (bl_al (bl_al (bl_al (bl_al (bl_al (bl_al hA _) _) _) _) _) _)) | exact (bl_dr hA)))).mono ?_
    rintro e w3 ⟨⟨b2, cap2, p, cost, er, rfl, hrp, hpl, hpe, hpo⟩, hb⟩
    have hk : Below w2.heap.size w2 w3 := by first | exact hb | exact bl_tr (bl_al (bl0 _) _) hb | exact bl_tr (bl_dr (bl_al (bl0 _) _)) hb | exact bl_tr (bl_al (bl_al (bl0 _) _) _) hb | exact bl_tr (bl_dr (bl_al (bl_al (bl0 _) _) _)) hb | exact bl_tr (bl_al (bl_al (bl_al (bl0 _) _) _) _) hb | exact bl_tr (bl_dr (bl_al (bl_al (bl_al (bl0 _) _) _) _)) hb | exact bl_tr (bl_al (bl_al (bl_al (bl_al (bl0 _) _) _) _) _) hb | exact bl_tr (bl_dr (bl_al (bl_al (bl_al (bl_al (bl0 _) _) _) _) _)) hb | exact bl_tr (bl_al (bl_al (bl_al (bl_al (bl_al (bl0 _) _) _) _) _) _) hb | exact bl_tr (bl_dr (bl_al (bl_al (bl_al (bl_al (bl_al (bl0 _) _) _) _) _) _)) hb | exact bl_tr (bl_al (bl_al (bl_al (bl_al (bl_al (bl_al (bl0 _) _) _) _) _) _) _) hb | exact bl_tr (bl_dr (bl_al (bl_al (bl_al (bl_al (bl_al (bl_al (bl0 _) _) _) _) _) _) _)) hb | exact bl_tr (bl_dr (bl0 _)) hb
    replace hA := bl_tr hA hk
    replace hru1 := hru1.below hk
    replace f0 := cell_later hk f0
    replace f1 := cell_later hk f1
    replace f2 := cell_later hk f2
    replace g0 := cell_later hk g0
    replace g1 := cell_later hk g1
    replace g2 := cell_later hk g2
    replace g3 := cell_later hk g3
    replace x0 := cell_later hk x0
    replace x1 := cell_later hk x1
    replace y0 := cell_later hk y0
    replace y1 := cell_later hk y1
    clear hb hk
    have zf0 := blk_lt f0
    have zf1 := blk_lt f1
    have zf2 := blk_lt f2
    have zg0 := blk_lt g0
    have zg1 := blk_lt g1
    have zg2 := blk_lt g2
    have zg3 := blk_lt g3
    have zx0 := blk_lt x0
    have zx1 := blk_lt x1
    have zy0 := blk_lt y0
    have zy1 := blk_lt y1
    rw [HE1.out] at hpe hpo
    have HPE := Lib.hid hpe
    have HPO := Lib.hid hpo
    have HPL := Lib.hid hpl
    clear hpe hpo hpl
    by_cases h1 : E1 = 0
    case neg =>
      have h2 : (E1 != 0) = true := by rw [bne_iff_ne]; exact h1
      have h3 : (E1 == E1) = true := by simp
      obtain ⟨e1, e2, e3⟩ := HPE.out h1
      have e4 := HN1.out h1
      subst e1 e2 e3 e4
      clear h1
      go_wp2_with fail
      refine (awake8 _ (hs.below hA)).mono ?_
      rintro e w4 ⟨rfl, hb⟩
      have hA2 := bl_tr hA hb
      clear hb
      go_wp2
      go_ret
      exact ⟨rfl, hA2⟩
    case pos =>
    subst h1
    obtain ⟨hpo1, hpo2⟩ := HPO.out rfl
    obtain ⟨hll, hf1⟩ := HY1.out rfl
    obtain ⟨hchk, hfit, hin1⟩ := errW_ok HE1.out
    obtain ⟨hmay, hn⟩ := chkF_may hchk
    obtain ⟨g1', g2', g3', g4', g5, g6, g7, g8⟩ := fitsB_iff.1 hfit
    have hhas := fun c w hc => rhas8_any X Y U V c w g1' ⟨g5, g6⟩ hc
    cases hin : inBx (X, Y, U, V) T
    case false =>
      obtain ⟨e1, e2, e3⟩ := hpo1 hin
      subst e1 e2 e3
      have hh := fun w => hhas T w hT
      rw [hin] at hh
      have HH := Lib.hid hh
      clear hpo1 hpo2 hin hhas hh hll hf1 hchk hfit hin1 hmay hn g1' g2' g3' g4' g5 g6 g7 g8
      go_wp2_with fail
      refine (HH.out _).mono ?_
      rintro e w4 ⟨rfl, hb⟩
      have hk : Below w3.heap.size w3 w4 := by first | exact hb | exact bl_tr (bl_al (bl0 _) _) hb | exact bl_tr (bl_dr (bl_al (bl0 _) _)) hb | exact bl_tr (bl_al (bl_al (bl0 _) _) _) hb | exact bl_tr (bl_dr (bl_al (bl_al (bl0 _) _) _)) hb | exact bl_tr (bl_al (bl_al (bl_al (bl0 _) _) _) _) hb | exact bl_tr (bl_dr (bl_al (bl_al (bl_al (bl0 _) _) _) _)) hb | exact bl_tr (bl_al (bl_al (bl_al (bl_al (bl0 _) _) _) _) _) hb | exact bl_tr (bl_dr (bl_al (bl_al (bl_al (bl_al (bl0 _) _) _) _) _)) hb | exact bl_tr (bl_al (bl_al (bl_al (bl_al (bl_al (bl0 _) _) _) _) _) _) hb | exact bl_tr (bl_dr (bl_al (bl_al (bl_al (bl_al (bl_al (bl0 _) _) _) _) _) _)) hb | exact bl_tr (bl_al (bl_al (bl_al (bl_al (bl_al (bl_al (bl0 _) _) _) _) _) _) _) hb | exact bl_tr (bl_dr (bl_al (bl_al (bl_al (bl_al (bl_al (bl_al (bl0 _) _) _) _) _) _) _)) hb | exact bl_tr (bl_dr (bl0 _)) hb
      replace hA := bl_tr hA hk
      replace f0 := cell_later hk f0
      replace f1 := cell_later hk f1
      replace f2 := cell_later hk f2
      replace g0 := cell_later hk g0
      replace g1 := cell_later hk g1
      replace g2 := cell_later hk g2
      replace g3 := cell_later hk g3
      replace y0 := cell_later hk y0
      replace y1 := cell_later hk y1
      clear hb hk
      have zf0 := blk_lt f0
      have zf1 := blk_lt f1
      have zf2 := blk_lt f2
      have zg0 := blk_lt g0
      have zg1 := blk_lt g1
      have zg2 := blk_lt g2
      have zg3 := blk_lt g3
      have zy0 := blk_lt y0
      have zy1 := blk_lt y1
      go_wp2_with fail
      refine (awake8 _ (hs.below hA)).mono ?_
      rintro e w5 ⟨rfl, hb⟩
      have hA2 := bl_tr hA hb
      clear hb
      go_wp2
      go_ret
      exact ⟨rfl, hA2⟩
    case true =>
    have hpo3 := hpo2 hin l hll hf1
    clear hpo1 hpo2
    obtain ⟨m1, m2, m3, m4⟩ := mayB_iff.1 hmay
    have hAU := far_allU hf1
    have honT : onB A B T = true := box_on (b := (X, Y, U, V)) hfit hin
    have honF : onB A B F = true := box_on (b := (X, Y, U, V)) hfit hin1
    have hwT : atBx A (X, Y, U, V) l T = atD l (numN A T) := by unfold atBx; rw [if_pos hin]
    have HAT := Lib.hid (fun w (hru : RowU w b1 l) => at8_any A B a b1 zs.length cap cap1 l X Y U V T w hfit (by rw [hll]; exact hn) hru hT)
    by_cases hwi : atD l (numN A T) = 18446744073709551615
    case pos =>
      obtain ⟨e1, e2, e3⟩ := hpo3.1 hwi
      subst e1 e2 e3
      have hat := HAT.out
      rw [hwT, hwi, hll] at hat
      have HAT1 := Lib.hid hat
      rw [hll]
      clear hat hpo3 hwi hwT honT honF hAU m1 m2 m3 m4 hin hhas hll hf1 hchk hfit hin1 hmay hn g1' g2' g3' g4' g5 g6 g7 g8
      go_wp2_with fail
      refine (HAT1.out _ hru1).mono ?_
      rintro e w4 ⟨rfl, hb⟩
      have hk : Below w3.heap.size w3 w4 := by first | exact hb | exact bl_tr (bl_al (bl0 _) _) hb | exact bl_tr (bl_dr (bl_al (bl0 _) _)) hb | exact bl_tr (bl_al (bl_al (bl0 _) _) _) hb | exact bl_tr (bl_dr (bl_al (bl_al (bl0 _) _) _)) hb | exact bl_tr (bl_al (bl_al (bl_al (bl0 _) _) _) _) hb | exact bl_tr (bl_dr (bl_al (bl_al (bl_al (bl0 _) _) _) _)) hb | exact bl_tr (bl_al (bl_al (bl_al (bl_al (bl0 _) _) _) _) _) hb | exact bl_tr (bl_dr (bl_al (bl_al (bl_al (bl_al (bl0 _) _) _) _) _)) hb | exact bl_tr (bl_al (bl_al (bl_al (bl_al (bl_al (bl0 _) _) _) _) _) _) hb | exact bl_tr (bl_dr (bl_al (bl_al (bl_al (bl_al (bl_al (bl0 _) _) _) _) _) _)) hb | exact bl_tr (bl_al (bl_al (bl_al (bl_al (bl_al (bl_al (bl0 _) _) _) _) _) _) _) hb | exact bl_tr (bl_dr (bl_al (bl_al (bl_al (bl_al (bl_al (bl_al (bl0 _) _) _) _) _) _) _)) hb | exact bl_tr (bl_dr (bl0 _)) hb
      replace hA := bl_tr hA hk
      replace f0 := cell_later hk f0
      replace f1 := cell_later hk f1
      replace f2 := cell_later hk f2
      replace g0 := cell_later hk g0
      replace g1 := cell_later hk g1
      replace g2 := cell_later hk g2
      replace g3 := cell_later hk g3
      replace y0 := cell_later hk y0
      replace y1 := cell_later hk y1
      clear hb hk
      have zf0 := blk_lt f0
      have zf1 := blk_lt f1
      have zf2 := blk_lt f2
      have zg0 := blk_lt g0
      have zg1 := blk_lt g1
      have zg2 := blk_lt g2
      have zg3 := blk_lt g3
      have zy0 := blk_lt y0
      have zy1 := blk_lt y1
      go_wp2_with fail
      refine (awake8 _ (hs.below hA)).mono ?_
      rintro e w5 ⟨rfl, hb⟩
      have hA2 := bl_tr hA hb
      clear hb
      go_wp2
      go_ret
      exact ⟨rfl, hA2⟩
    case neg =>
    obtain ⟨e1, e2, e3⟩ := hpo3.2 hwi
    have hway := way_ok hmay hn hu hf1 hwi
    rw [← e3] at hway
    obtain ⟨x, hx⟩ : ∃ x, xN A B zs l (numN A T) = x := ⟨_, rfl⟩
    rw [hx] at hway
    clear hx e3 hpo3
    subst e1
    obtain ⟨v1, v2, v3, v4, v5⟩ := hway
    have hpF : p[0] = F := by rw [(v4 0 v1).1, v2]; exact cellN_num honF
    have hpT : p[p.length - 1] = T := by rw [(v4 (p.length - 1) (by omega)).1, v3]; exact cellN_num honT
    have hx0 : atD l (x 0) = 0 := by rw [v2]; exact hf1.src (hf1.opn (by rw [← v2]; exact (v4 0 v1).2.2.1))
    have hxT : atD l (x (p.length - 1)) = cost := by rw [v3, e2]
    have hat := HAT.out
    rw [hwT, ← e2, hll] at hat
    have HAT1 := Lib.hid hat
    have HATX := Lib.hid (fun (i : Nat) (hi : i < p.length) w (hru : RowU w b1 l) => (show Calls Tryd.prog 24 #[.agg #[.int .i64 A, .int .i64 B, .slice a zs.length cap], .agg #[.int .i64 X, .int .i64 Y, .int .i64 U, .int .i64 V], .slice b1 zs.length cap1, .agg #[.int .i64 p[i].1, .int .i64 p[i].2]] w fun e w' => e = .returned (.int .u64 (atD l (x i))) ∧ Below w.heap.size w w' by
      obtain ⟨o1, o2, o3, o4, o5⟩ := v4 i hi
      have ho : onB A B (cellN A (x i)) = true := box_on (b := (X, Y, U, V)) hfit o4
      have h := at8_any A B a b1 zs.length cap cap1 l X Y U V p[i] w hfit (by rw [hll]; exact hn) hru (by
        rw [o1]
        obtain ⟨z1, z2, z3, z4, z5, z6, z7, z8⟩ := inB_iff.1 ho
        unfold wf64
        omega)
      rw [hll] at h
      have e : atBx A (X, Y, U, V) l p[i] = atD l (x i) := by
        unfold atBx
        rw [o1, if_pos o4, numN_cell hmay (by omega)]
      rw [e] at h
      exact h))
    have hwi2 : (cost == (18446744073709551615 : Int)) = false := by rw [beq_eq_false_iff_ne, e2]; exact hwi
    rw [hll]
    have HWI := Lib.hid hwi2; have HHAS := Lib.hid hhas; have HV4 := Lib.hid v4; have HV5 := Lib.hid v5; have HX0 := Lib.hid hx0; have HXT := Lib.hid hxT
    have HPF := Lib.hid hpF; have HPT := Lib.hid hpT
    have HMAY := Lib.hid hmay; have HNN := Lib.hid hn; have HFIT := Lib.hid hfit; have HLL := Lib.hid hll; have HF1 := Lib.hid hf1; have HAU2 := Lib.hid hAU
    clear v2 v3 v4 v5 hpF hpT hx0 hxT hat hwi hwi2 hwT honT honF hAU e2 m1 m2 m3 m4 hin hhas hll hf1 hchk hfit hin1 hmay hn g1' g2' g3' g4' g5 g6 g7 g8 HPE HPO HY1 HE1 HN1
    go_upto_region 13 with fail
    have hBB := bl_dr (bl0 w3)
    go_cut [125] from 90 to 125 (fun s wx => s = .bool false ∧ Below w3.heap.size w3 wx)
    case first =>
      obtain ⟨gq, oq, r2, q0, q1⟩ := hrp.cell v1
      subst r2
      obtain ⟨gq2, oq2, r3, q2, q3⟩ := hrp.cell (show p.length - 1 < p.length by omega)
      obtain ⟨rfl, rfl⟩ : gq = gq2 ∧ oq = oq2 := by injection r3 with r4; injection r4 with r5 r6; exact ⟨r5, r6⟩
      clear r3
      rw [HPF.out] at q0 q1
      rw [Nat.zero_mul, Nat.add_zero] at q0 q1
      rw [HPT.out] at q2 q3
      have l1 : ¬ (p.length : Int) < 1 := by omega
      have l0 : (0 : Int) < (p.length : Int) := by omega
      have l00 : 0 < p.length := by omega
      have l2 : IntKind.i64.wrap ((p.length : Int) - 1) = ((p.length - 1 : Nat) : Int) := by rw [IntWalk.i64_in _ (by have := HPL.out; omega)]; omega
      have hF := fun w => eql_cell F F w
      have hTT := fun w => eql_cell T T w
      rw [decide_eq_true rfl] at hF hTT
      have hcc : (cost != cost) = false := by simp
      have hwi := HWI.out
      have l3 : p.length - 1 < p.length := by omega
      have l4 : ((p.length - 1 : Nat) : Int) < (p.length : Int) := by omega
      go_region_held3 (fun W => (W.cell? ⟨w.heap.size, 0, none⟩ = some (.int .i64 A) ∧ W.cell? ⟨w.heap.size, 1, none⟩ = some (.int .i64 B) ∧ W.cell? ⟨w.heap.size, 2, none⟩ = some (.slice a zs.length cap)) ∧ (W.cell? ⟨w.heap.size + 1, 0, none⟩ = some (.int .i64 X) ∧ W.cell? ⟨w.heap.size + 1, 1, none⟩ = some (.int .i64 Y) ∧ W.cell? ⟨w.heap.size + 1, 2, none⟩ = some (.int .i64 U) ∧ W.cell? ⟨w.heap.size + 1, 3, none⟩ = some (.int .i64 V)) ∧ (W.cell? ⟨w.heap.size + 1 + 1, 0, none⟩ = some (.int .i64 F.1) ∧ W.cell? ⟨w.heap.size + 1 + 1, 1, none⟩ = some (.int .i64 F.2) ∧ W.cell? ⟨w.heap.size + 1 + 1, 2, none⟩ = some (.int .i64 T.1) ∧ W.cell? ⟨w.heap.size + 1 + 1, 3, none⟩ = some (.int .i64 T.2)) ∧ W.cell? ⟨gq, oq, none⟩ = some (.int .i64 F.1) ∧ W.cell? ⟨gq, oq + 1, none⟩ = some (.int .i64 F.2) ∧ W.cell? ⟨gq, oq + (p.length - 1) * 2, none⟩ = some (.int .i64 T.1) ∧ W.cell? ⟨gq, oq + (p.length - 1) * 2 + 1, none⟩ = some (.int .i64 T.2))
        (exact ⟨⟨cell_later hBB f0, cell_later hBB f1, cell_later hBB f2⟩, ⟨cell_later hBB g0, cell_later hBB g1, cell_later hBB g2, cell_later hBB g3⟩, ⟨cell_later hBB x0, cell_later hBB x1, cell_later hBB y0, cell_later hBB y1⟩, cell_later hBB q0, cell_later hBB q1, cell_later hBB q2, cell_later hBB q3⟩)
        ((go_at_call 24; (with_reducible refine (HAT1.out _ (hru1.below hBB)).mono ?_); rintro e W2 ⟨rfl, hb⟩; replace hBB := bl_tr hBB hb; clear hb))
      all_goals
        go_wp2_with fail
        go_meet
        exact ⟨rfl, hBB⟩
    case rest =>
    obtain ⟨rfl, hb⟩ := hcut
    obtain ⟨w4, rfl⟩ : ∃ w4, w4 = wc := ⟨_, rfl⟩
    replace hA := bl_tr hA hb
    replace f0 := cell_later hb f0; replace f1 := cell_later hb f1; replace f2 := cell_later hb f2; replace g0 := cell_later hb g0; replace g1 := cell_later hb g1; replace g2 := cell_later hb g2; replace g3 := cell_later hb g3
    have hrp2 := hrp.below hb
    have hru2 := hru1.below hb
    clear hrp hru1 hb hBB x0 x1 y0 y1 zx0 zx1 zy0 zy1
    obtain ⟨gp, op, rp, _⟩ := hrp2.cell v1
    subst rp
    obtain ⟨gz, oz, rz, _⟩ := (hr.below hA).cell (HV4.out 0 v1).2.1
    subst rz
    have HP := Lib.hid (show ∀ W, Below w4.heap.size w4 W → ∀ k (hk : k < p.length), W.cell? ⟨gp, op + k * 2, none⟩ = some (.int .i64 p[k].1) ∧ W.cell? ⟨gp, op + k * 2 + 1, none⟩ = some (.int .i64 p[k].2) from fun W hb k hk => by
      obtain ⟨g', o', r', c0, c1⟩ := (hrp2.below hb).cell hk
      cases r'
      exact ⟨c0, c1⟩)
    have HZ := Lib.hid (show ∀ W, Below w4.heap.size w4 W → ∀ k (hk : k < zs.length), W.cell? ⟨gz, oz + k, none⟩ = some (.int .u16 (zs.getD k 0)) from fun W hb k hk => by
      obtain ⟨g', o', r', c0⟩ := ((hr.below hA).below hb).cell hk
      cases r'
      rw [List.getD_eq_getElem?_getD, List.getElem?_eq_getElem hk]
      exact c0)
    have HA5 := Lib.hid hA
    have HRU := Lib.hid hru2
    have F0 := Lib.hid f0; have F1 := Lib.hid f1; have F2 := Lib.hid f2; have G0 := Lib.hid g0; have G1 := Lib.hid g1; have G2 := Lib.hid g2; have G3 := Lib.hid g3
    have V1 := Lib.hid v1
    go_wp2_with fail
    clear f0 f1 f2 g0 g1 g2 g3 hrp2 hru2 hA zf0 zf1 zf2 zg0 zg1 zg2 zg3
    go_loopw [12, 13, 14, 15, 16] (fun sv iv _ _ _ wr => ∃ i : Nat, i ≤ p.length ∧ iv = .int .i64 i ∧ sv = .int .u64 (atD l (x (i - 1))) ∧ Below w4.heap.size w4 wr) (fun _ iv _ _ _ _ => p.length - (intOf iv).toNat)
    case atStart => exact ⟨0, Nat.zero_le _, rfl, by rw [show (0 : Nat) - 1 = 0 from rfl, HX0.out], bl0 _⟩
    case round =>
      obtain ⟨i, hi, rfl, rfl, hB⟩ := hrel
      have hi0 : (0 : Int) ≤ (i : Int) := by omega
      have hpl := HPL.out
      by_cases hlt : i < p.length
      case neg =>
        obtain rfl : i = p.length := by omega
        rw [HXT.out]
        have hge : ¬ (p.length : Int) < (p.length : Int) := by omega
        have hA := bl_tr HA5.out hB
        have hcc : (cost == cost) = true := by simp
        go_wp2_with fail
        refine (awake8 _ (hs.below hA)).mono ?_
        rintro e w8 ⟨rfl, hb⟩
        have hA8 := bl_tr hA hb
        clear hb hA hB
        go_wp2
        go_ret
        exact ⟨rfl, hA8⟩
      case pos =>
        have hlt2 : (i : Int) < (p.length : Int) := by omega
        obtain ⟨o1, o2, o3, o4, o5⟩ := HV4.out i hlt
        obtain ⟨q0, q1⟩ := HP.out _ hB i hlt
        have hz := HZ.out _ hB (x i) o2
        have hzr := getD_in hu (x i)
        have ho : onB A B (cellN A (x i)) = true := box_on (b := (X, Y, U, V)) HFIT.out o4
        have hnc := numN_cell (i := x i) HMAY.out (by have := HNN.out; omega)
        have hni := (numN_int ho).1
        rw [hnc] at hni
        obtain ⟨z1, z2, z3, z4, z5, z6, z7, z8⟩ := inB_iff.1 ho
        have hatx := HATX.out i hlt
        have hhas := fun w => HHAS.out p[i] w (by rw [o1]; unfold wf64; omega)
        rw [o1, o4] at hhas
        rw [o1] at q0 q1 hatx
        have HSTEP := Lib.hid (show i ≠ 0 → ∃ (hi1 : i - 1 < p.length) (d : Int), 0 ≤ d ∧ d ≤ 3 ∧ stepI p[i - 1] d = cellN A (x i) ∧ onB A B p[i - 1] = true ∧ atD l (x i) = atD l (x (i - 1)) + zs.getD (x i) 0 from fun h0 => by
          have hi1 : i - 1 + 1 < p.length := by omega
          obtain ⟨e1, d, d0, d3, e2⟩ := HV5.out (i - 1) hi1
          have hi2 : i - 1 + 1 = i := by omega
          rw [hi2] at e1 e2
          obtain ⟨p1, p2, p3, p4, p5⟩ := HV4.out (i - 1) (by omega)
          refine ⟨by omega, d, d0, d3, ?_, ?_, e1⟩
          · rw [p1]; exact e2
          · rw [p1]; exact box_on (b := (X, Y, U, V)) HFIT.out p4)
        obtain ⟨n, hn⟩ : ∃ n, x i = n := ⟨_, rfl⟩
        rw [hn] at o2 o5 hz hzr hni hatx hhas HSTEP q0 q1 z5 z6 z7 z8
        obtain ⟨c, hc⟩ : ∃ c, cellN A n = c := ⟨_, rfl⟩
        rw [hc] at hni hatx hhas HSTEP q0 q1 z5 z6 z7 z8
        obtain ⟨z, hzd⟩ : ∃ z, zs.getD n 0 = z := ⟨_, rfl⟩
        rw [hzd] at o5 hz hzr HSTEP
        have hbd := HF1.out.bd n
        rw [hn] at o3
        have s1 : IntKind.i64.wrap (c.2 * A) = c.2 * A := IntWalk.i64_in _ (by omega)
        have s2 : IntKind.i64.wrap (c.2 * A + c.1) = (n : Int) := by rw [← hni]; exact IntWalk.i64_in _ (by omega)
        have s3 : decide ((n : Int) < 0) = false := decide_eq_false (by omega)
        have s4 : decide (zs.length ≤ n) = false := decide_eq_false (by omega)
        have s5 : (n : Int) < (zs.length : Int) := by omega
        have s6 : (z == 0) = false := by rw [beq_eq_false_iff_ne]; exact o5
        have HN := Lib.hid hn; have HC := Lib.hid hc; have HZD := Lib.hid hzd; have HATI := Lib.hid hatx; have HBD := Lib.hid hbd; have O3 := Lib.hid o3; have HZR := Lib.hid hzr; have ZZ := Lib.hid (show plainB c.1 c.2 = true from plainB_iff.2 ⟨by omega, by omega, by omega, by omega⟩)
        have f0 := cell_later hB F0.out
        have zf := blk_lt f0
        have zq := blk_lt q0
        clear hn hc hzd hatx hbd o1 o3 o4 o5 hzr hni hnc ho z1 z2 z3 z4 z5 z6 z7 z8
        go_upto_region 19 with fail
        go_region
        go_upto_region 20 with fail
        obtain ⟨W1, hW1⟩ : ∃ W1, wr.drew = W1 := ⟨_, rfl⟩
        have hb1 : Below wr.heap.size wr W1 := by rw [← hW1]; exact bl_dr (bl0 _)
        rw [hW1]
        clear hW1
        have hB1 := bl_tr hB hb1
        replace q0 := cell_later hb1 q0
        replace q1 := cell_later hb1 q1
        replace hz := cell_later hb1 hz
        clear hb1 f0 hB
        have f2 := cell_later hB1 F2.out; have g0 := cell_later hB1 G0.out; have g1 := cell_later hB1 G1.out; have g2 := cell_later hB1 G2.out; have g3 := cell_later hB1 G3.out
        replace zf := blk_lt f2
        replace zq := blk_lt q0
        have zg := blk_lt g0
        have zz := blk_lt hz
        go_cut [172] from 147 to 172 (fun s wx => s = .bool false ∧ Below W1.heap.size W1 wx)
        case first =>
          have hBB := bl_dr (bl0 W1)
          go_region_held3 (fun W => W.cell? ⟨w.heap.size, 2, none⟩ = some (.slice (some ⟨gz, oz, none⟩) zs.length cap) ∧ (W.cell? ⟨w.heap.size + 1, 0, none⟩ = some (.int .i64 X) ∧ W.cell? ⟨w.heap.size + 1, 1, none⟩ = some (.int .i64 Y) ∧ W.cell? ⟨w.heap.size + 1, 2, none⟩ = some (.int .i64 U) ∧ W.cell? ⟨w.heap.size + 1, 3, none⟩ = some (.int .i64 V)) ∧ (W.cell? ⟨gp, op + i * 2, none⟩ = some (.int .i64 c.1) ∧ W.cell? ⟨gp, op + i * 2 + 1, none⟩ = some (.int .i64 c.2)) ∧ W.cell? ⟨gz, oz + n, none⟩ = some (.int .u16 z))
            (exact ⟨cell_later hBB f2, ⟨cell_later hBB g0, cell_later hBB g1, cell_later hBB g2, cell_later hBB g3⟩, ⟨cell_later hBB q0, cell_later hBB q1⟩, cell_later hBB hz⟩)
            ((go_at_call 21; (with_reducible refine (hhas _).mono ?_); rintro e W3 ⟨rfl, hb⟩; replace hBB := bl_tr hBB hb; clear hb))
          all_goals
            go_wp2_with fail
            go_meet
            exact ⟨rfl, hBB⟩
        case rest =>
        obtain ⟨rfl, hb⟩ := hcut
        have hB2 := bl_tr hB1 hb
        replace q0 := cell_later hb q0
        replace q1 := cell_later hb q1
        replace hz := cell_later hb hz
        clear hb hB1 hhas f2 g0 g1 g2 g3 s1 s2 s3 s4 s6
        obtain ⟨W2, rfl⟩ : ∃ W2, W2 = wc := ⟨_, rfl⟩
        have f0 := cell_later hB2 F0.out; have f1 := cell_later hB2 F1.out; have f2 := cell_later hB2 F2.out; have g0 := cell_later hB2 G0.out; have g1 := cell_later hB2 G1.out; have g2 := cell_later hB2 G2.out; have g3 := cell_later hB2 G3.out
        replace zf := blk_lt f2
        replace zq := blk_lt q0
        replace zg := blk_lt g0
        replace zz := blk_lt hz
        by_cases hi00 : i = 0
        case pos =>
          have HN1 := HN.out
          rw [hi00] at HN1
          rw [hi00, show (0 : Nat) - 1 = 0 from rfl, HN1]
          have b0 : ¬ (0 : Int) < ((0 : Nat) : Int) := by omega
          have b1 : ((0 : Nat) : Int) = 0 := rfl
          have hvv : (atD l n != atD l n) = false := by simp
          subst hi00
          rw [Nat.zero_mul, Nat.add_zero] at q0 q1
          go_upto_region 31 with fail
          go_cut [213] from 204 to 213 (fun s wx => s = .bool false ∧ Below W2.heap.size W2 wx)
          case first =>
            have hBB := bl_dr (bl0 W2)
            go_region_held3 (fun W => (W.cell? ⟨w.heap.size, 0, none⟩ = some (.int .i64 A) ∧ W.cell? ⟨w.heap.size, 1, none⟩ = some (.int .i64 B) ∧ W.cell? ⟨w.heap.size, 2, none⟩ = some (.slice (some ⟨gz, oz, none⟩) zs.length cap)) ∧ (W.cell? ⟨w.heap.size + 1, 0, none⟩ = some (.int .i64 X) ∧ W.cell? ⟨w.heap.size + 1, 1, none⟩ = some (.int .i64 Y) ∧ W.cell? ⟨w.heap.size + 1, 2, none⟩ = some (.int .i64 U) ∧ W.cell? ⟨w.heap.size + 1, 3, none⟩ = some (.int .i64 V)) ∧ (W.cell? ⟨gp, op, none⟩ = some (.int .i64 c.1) ∧ W.cell? ⟨gp, op + 1, none⟩ = some (.int .i64 c.2)))
              (exact ⟨⟨cell_later hBB f0, cell_later hBB f1, cell_later hBB f2⟩, ⟨cell_later hBB g0, cell_later hBB g1, cell_later hBB g2, cell_later hBB g3⟩, cell_later hBB q0, cell_later hBB q1⟩)
              ((go_at_call 24; (with_reducible refine (HATI.out _ (HRU.out.below (bl_tr hB2 hBB))).mono ?_); rintro e W3 ⟨rfl, hb⟩; replace hBB := bl_tr hBB hb; clear hb))
            all_goals
              go_wp2_with fail
              go_meet
              exact ⟨rfl, hBB⟩
          case rest =>
            obtain ⟨rfl, hb⟩ := hcut
            replace hB2 := bl_tr hB2 hb
            clear hb f0 f1 f2 g0 g1 g2 g3 q0 q1 zf zg zq
            go_wp2_with fail
            go_roundw
            case rel => exact ⟨0 + 1, by omega, by go_num, by rw [show 0 + 1 - 1 = 0 by omega, HN1], hB2⟩
            case measure => simp [intOf]; omega
        case neg =>
          obtain ⟨hj, d0, hd0, hd3, hst, honj, heq⟩ := HSTEP.out hi00
          obtain ⟨j0, j1⟩ := HP.out _ hB2 (i - 1) hj
          have hplain : plainB p[i - 1].1 p[i - 1].2 = true := by
            obtain ⟨z1, z2, z3, z4, z5, z6, z7, z8⟩ := inB_iff.1 honj
            exact plainB_iff.2 ⟨by omega, by omega, by omega, by omega⟩
          obtain ⟨pj, hpj⟩ : ∃ pj, p[i - 1] = pj := ⟨_, rfl⟩
          rw [hpj] at hst j0 j1 hplain
          have b0 : (0 : Int) < (i : Int) := by omega
          have b01 : 0 < i := by omega
          obtain ⟨sm, hsm2⟩ : ∃ sm, atD l (x (i - 1)) = sm := ⟨_, rfl⟩
          rw [hsm2] at heq ⊢
          have t1 : IntKind.u64.wrap z = z := IntWalk.u64_in _ (by have := HZR.out; omega)
          have t2 : IntKind.u64.wrap (sm + z) = atD l n := by rw [← heq]; exact IntWalk.u64_in _ (by rcases HBD.out with h | h <;> omega)
          have t3 : IntKind.i64.wrap ((i : Int) - 1) = ((i - 1 : Nat) : Int) := by rw [IntWalk.i64_in _ (by omega)]; omega
          have t4 : ((i - 1 : Nat) : Int) < (p.length : Int) := by omega
          have hvv : (atD l n != atD l n) = false := by simp
          have HYES := Lib.hid (besK_yes hd0 hd3 hst)
          have HB2 := Lib.hid hB2
          have J0 := Lib.hid j0; have J1 := Lib.hid j1; have Q0 := Lib.hid q0; have Q1 := Lib.hid q1
          have F0' := Lib.hid f0; have F1' := Lib.hid f1; have F2' := Lib.hid f2; have G0' := Lib.hid g0; have G1' := Lib.hid g1; have G2' := Lib.hid g2; have G3' := Lib.hid g3
          clear hst honj heq hpj hsm2 hd0 hd3
          go_wp2_with fail
          clear j0 j1 q0 q1 f0 f1 f2 g0 g1 g2 g3 hz zf zg zq zz
          go_loopw [15, 16] (fun bv dv wr2 => ∃ d : Nat, d ≤ 4 ∧ dv = .int .i64 d ∧ bv = .bool (besK pj c d) ∧ Below W2.heap.size W2 wr2) (fun _ dv _ => 4 - (intOf dv).toNat)
          case atStart => exact ⟨0, Nat.zero_le _, rfl, rfl, bl0 _⟩
          case round =>
            obtain ⟨d, hd, rfl, rfl, hB3⟩ := hrel
            have hdn : (0 : Int) ≤ (d : Int) := by omega
            obtain ⟨W3, rfl⟩ : ∃ W3, W3 = wr := ⟨_, rfl⟩
            by_cases hd4 : d < 4
            case pos =>
              have d1 : (d : Int) < 4 := by omega
              have hq := fun w => eql_cell (stepI pj (d : Int)) c w
              have hbk : besK pj c (d + 1) = (besK pj c d || decide (stepI pj (d : Int) = c)) := rfl
              have hstp := fun w => rstep8_any pj.1 pj.2 (d : Int) w hplain hdn d1
              obtain ⟨r, hr2⟩ : ∃ r, decide (stepI pj (d : Int) = c) = r := ⟨_, rfl⟩
              rw [hr2] at hbk hq
              rw [show ((pj.1, pj.2) : IC) = pj from rfl] at hstp
              clear hr2
              generalize stepI pj (d : Int) = e at hq hstp
              obtain ⟨b, hb3⟩ : ∃ b, besK pj c d = b := ⟨_, rfl⟩
              rw [hb3] at hbk ⊢
              clear hb3
              have j0 := cell_later hB3 J0.out; have j1 := cell_later hB3 J1.out; have q0 := cell_later hB3 Q0.out; have q1 := cell_later hB3 Q1.out
              have zj := blk_lt j0
              have zq := blk_lt q0
              go_upto_region 28 with fail
              have hBB := bl_dr (bl0 W3)
              cases b
              case false =>
                go_region_held3 (fun W => (W.cell? ⟨gp, op + (i - 1) * 2, none⟩ = some (.int .i64 pj.1) ∧ W.cell? ⟨gp, op + (i - 1) * 2 + 1, none⟩ = some (.int .i64 pj.2)) ∧ (W.cell? ⟨gp, op + i * 2, none⟩ = some (.int .i64 c.1) ∧ W.cell? ⟨gp, op + i * 2 + 1, none⟩ = some (.int .i64 c.2)))
                  (exact ⟨⟨cell_later hBB j0, cell_later hBB j1⟩, cell_later hBB q0, cell_later hBB q1⟩)
                  ((go_at_call 25; (with_reducible refine (hstp _).mono ?_); rintro e W5 ⟨rfl, hb⟩; replace hBB := bl_tr hBB hb; clear hb))
                all_goals
                  have hB4 := bl_tr hB3 hBB
                  clear hBB j0 j1 q0 q1 zj zq
                  go_wp2_with fail
                  go_roundw
                  case rel => exact ⟨d + 1, by omega, by go_num, by simp [hbk], hB4⟩
                  case measure => simp [intOf]; omega
              case true =>
                clear hBB j0 j1 q0 q1 zj zq hstp hq
                first
                  | (go_region
                     go_wp2_with fail
                     go_roundw
                     case rel => exact ⟨d + 1, by omega, by go_num, by simp [hbk], by first | exact hB3 | exact bl_tr hB3 (bl_dr (bl0 _)) | exact bl_tr hB3 (bl_drn _ _)⟩
                     case measure => simp [intOf]; omega)
                  | (go_quiet (fail)
                     go_wp2_with fail
                     go_roundw
                     case rel => exact ⟨d + 1, by omega, by go_num, by simp [hbk], by first | exact hB3 | exact bl_tr hB3 (bl_dr (bl0 _)) | exact bl_tr hB3 (bl_drn _ _)⟩
                     case measure => simp [intOf]; omega)
                  | (go_wp2_with fail
                     go_roundw
                     case rel => exact ⟨d + 1, by omega, by go_num, by simp [hbk], by first | exact hB3 | exact bl_tr hB3 (bl_dr (bl0 _)) | exact bl_tr hB3 (bl_drn _ _)⟩
                     case measure => simp [intOf]; omega)
            case neg =>
              obtain rfl : d = 4 := by omega
              rw [HYES.out]
              have hB2 := bl_tr HB2.out hB3
              have f0 := cell_later hB3 F0'.out; have f1 := cell_later hB3 F1'.out; have f2 := cell_later hB3 F2'.out; have g0 := cell_later hB3 G0'.out; have g1 := cell_later hB3 G1'.out; have g2 := cell_later hB3 G2'.out; have g3 := cell_later hB3 G3'.out; have q0 := cell_later hB3 Q0.out; have q1 := cell_later hB3 Q1.out
              have zf := blk_lt f0
              have zg := blk_lt g0
              have zq := blk_lt q0
              go_upto_region 31 with fail
              go_cut [213] from 204 to 213 (fun s wx => s = .bool false ∧ Below W3.heap.size W3 wx)
              case first =>
                have hBB := bl_dr (bl0 W3)
                go_region_held3 (fun W => (W.cell? ⟨w.heap.size, 0, none⟩ = some (.int .i64 A) ∧ W.cell? ⟨w.heap.size, 1, none⟩ = some (.int .i64 B) ∧ W.cell? ⟨w.heap.size, 2, none⟩ = some (.slice (some ⟨gz, oz, none⟩) zs.length cap)) ∧ (W.cell? ⟨w.heap.size + 1, 0, none⟩ = some (.int .i64 X) ∧ W.cell? ⟨w.heap.size + 1, 1, none⟩ = some (.int .i64 Y) ∧ W.cell? ⟨w.heap.size + 1, 2, none⟩ = some (.int .i64 U) ∧ W.cell? ⟨w.heap.size + 1, 3, none⟩ = some (.int .i64 V)) ∧ (W.cell? ⟨gp, op + i * 2, none⟩ = some (.int .i64 c.1) ∧ W.cell? ⟨gp, op + i * 2 + 1, none⟩ = some (.int .i64 c.2)))
                  (exact ⟨⟨cell_later hBB f0, cell_later hBB f1, cell_later hBB f2⟩, ⟨cell_later hBB g0, cell_later hBB g1, cell_later hBB g2, cell_later hBB g3⟩, cell_later hBB q0, cell_later hBB q1⟩)
                  ((go_at_call 24; (with_reducible refine (HATI.out _ (HRU.out.below (bl_tr hB2 hBB))).mono ?_); rintro e W6 ⟨rfl, hb⟩; replace hBB := bl_tr hBB hb; clear hb))
                all_goals
                  go_wp2_with fail
                  go_meet
                  exact ⟨rfl, hBB⟩
              case rest =>
                obtain ⟨rfl, hb⟩ := hcut
                replace hB2 := bl_tr hB2 hb
                clear hb f0 f1 f2 g0 g1 g2 g3 q0 q1 zf zg zq
                go_wp2_with fail
                go_roundw
                case rel => exact ⟨i + 1, by omega, by go_num, by rw [show i + 1 - 1 = i by omega, HN.out], hB2⟩
                case measure => simp [intOf]; omega
end Go.Proofs.YtofpoenehdmkpaaDoor
