/- Least costs: the way that is told. -/
import Derived.Test.YtjkecdghlpeigaaDoorCl
namespace Go.Proofs.YtjkecdghlpeigaaDoor
open Go.RowKit

theorem nodup_lt_len : ∀ (N : Nat) (l : List Nat), l.Nodup → (∀ x ∈ l, x < N) → l.length ≤ N
  | 0, l, _, h => by
    cases l with
    | nil => exact Nat.le_refl _
    | cons x l => exact absurd (h x (by simp)) (by omega)
  | N + 1, l, hn, h => by
    have h1 := nodup_lt_len N (l.filter (fun x => decide (x ≠ N))) (hn.sublist List.filter_sublist) (fun x hx => by
      rw [List.mem_filter] at hx
      have := h x hx.1
      have := of_decide_eq_true hx.2
      omega)
    have h2 : ∀ l : List Nat, l.Nodup → l.length ≤ (l.filter (fun x => decide (x ≠ N))).length + 1 := by
      intro l
      induction l with
      | nil => intro _; exact Nat.zero_le _
      | cons x l ih =>
        intro hn
        rw [List.nodup_cons] at hn
        by_cases e : x = N
        · have : l.filter (fun x => decide (x ≠ N)) = l := by
            rw [List.filter_eq_self]
            intro y hy
            exact decide_eq_true (fun q => hn.1 (by rw [e, ← q]; exact hy))
          rw [List.filter_cons, if_neg (by simp [e]), this]
          simp
        · rw [List.filter_cons, if_pos (decide_eq_true e)]
          have := ih hn.2
          simp only [List.length_cons]
          omega
    have := h2 l hn
    omega
/-- The way back from one. -/
def wayF (A B : Int) (zs ds : List Int) : Nat → Nat → List Nat
  | 0, i => [i]
  | n + 1, i => i :: (match aheadF A B zs ds i with | none => [] | some j => wayF A B zs ds n j)
def wayL (A B : Int) (zs ds : List Int) (i : Nat) : List Nat := wayF A B zs ds (atD ds i).toNat i
section
variable {A B : Int} {zs ds : List Int} {b : BX} {s : Nat}
theorem aheadF_some (hm : mayB A B = true) (hn : (zs.length : Int) = A * B) (hz : AllH zs) (h : Far (gphB A B b zs) s (atD ds)) {i j : Nat} (ha : aheadF A B zs ds i = some j) (hi : atD ds i ≠ 18446744073709551615) :
    j ∈ nbO A B zs i ∧ atD ds j ≠ 18446744073709551615 ∧ atD ds i = atD ds j + zs.getD i 0 ∧ atD ds j < atD ds i ∧ 0 ≤ atD ds j := by
  unfold aheadF at ha
  have h1 := List.find?_some ha
  have h2 := List.mem_of_find?_eq_some ha
  unfold fromB at h1
  rw [beq_iff_eq] at h1
  have hG := gphB_ok (b := b) hm hn hz
  have ho := h.opn hi
  have hk := hG.pos1 ho
  obtain ⟨q1, q2, q3⟩ := gphB_opn.1 ho
  rw [gphB_k q2] at hk
  have hb := h.bd j
  have hbi := h.bd i
  unfold addC at h1
  split at h1 <;> exact ⟨h2, by omega, by omega, by omega, by omega⟩
theorem wayF_more (hm : mayB A B = true) (hn : (zs.length : Int) = A * B) (hz : AllH zs) (h : Far (gphB A B b zs) s (atD ds)) : ∀ (n : Nat) (i : Nat), atD ds i ≠ 18446744073709551615 → atD ds i ≤ (n : Int) → ∀ m, n ≤ m → wayF A B zs ds m i = wayF A B zs ds n i
  | 0, i, hi, hin, m, _ => by
    cases m with
    | zero => rfl
    | succ m =>
      cases ha : aheadF A B zs ds i with
      | none => simp [wayF, ha]
      | some j =>
        have := aheadF_some hm hn hz h ha hi
        omega
  | n + 1, i, hi, hin, m, hm' => by
    cases m with
    | zero => omega
    | succ m =>
      cases ha : aheadF A B zs ds i with
      | none => simp [wayF, ha]
      | some j =>
        obtain ⟨q1, q2, q3, q4, q5⟩ := aheadF_some hm hn hz h ha hi
        have := wayF_more hm hn hz h n j q2 (by omega) m (by omega)
        simp [wayF, ha, this]
theorem wayL_next (hm : mayB A B = true) (hn : (zs.length : Int) = A * B) (hz : AllH zs) (h : Far (gphB A B b zs) s (atD ds)) {i : Nat} (hi : atD ds i ≠ 18446744073709551615) :
    wayL A B zs ds i = i :: (match aheadF A B zs ds i with | none => [] | some j => wayL A B zs ds j) := by
  have h0 := h.ge0 i
  have h1 := wayF_more hm hn hz h (atD ds i).toNat i hi (by omega) ((atD ds i).toNat + 1) (by omega)
  unfold wayL
  rw [← h1, wayF]
  cases ha : aheadF A B zs ds i with
  | none => rfl
  | some j =>
    obtain ⟨q1, q2, q3, q4, q5⟩ := aheadF_some hm hn hz h ha hi
    have := wayF_more hm hn hz h (atD ds j).toNat j q2 (by omega) (atD ds i).toNat (by omega)
    simp only [this]
/-- What is on a way back. -/
theorem wayL_mem (hm : mayB A B = true) (hn : (zs.length : Int) = A * B) (hz : AllH zs) (h : Far (gphB A B b zs) s (atD ds)) : ∀ (n : Nat) (i : Nat), atD ds i ≠ 18446744073709551615 → atD ds i ≤ (n : Int) → (∀ x ∈ wayL A B zs ds i, atD ds x ≠ 18446744073709551615 ∧ atD ds x ≤ atD ds i ∧ x < zs.length) ∧ (wayL A B zs ds i).Nodup
  | n, i, hi, hin => by
    have hnx := wayL_next hm hn hz h hi
    have hil : i < zs.length := (gphB_opn.1 (h.opn hi)).1
    have h0 := h.ge0 i
    rw [hnx]
    cases ha : aheadF A B zs ds i with
    | none =>
      refine ⟨fun x hx => ?_, by simp⟩
      rw [List.mem_singleton.1 hx]
      exact ⟨hi, Int.le_refl _, hil⟩
    | some j =>
      obtain ⟨q1, q2, q3, q4, q5⟩ := aheadF_some hm hn hz h ha hi
      cases n with
      | zero => omega
      | succ n =>
        obtain ⟨r1, r2⟩ := wayL_mem hm hn hz h n j q2 (by omega)
        refine ⟨fun x hx => ?_, List.nodup_cons.2 ⟨fun hx => ?_, r2⟩⟩
        · rcases List.mem_cons.1 hx with rfl | hx
          · exact ⟨hi, Int.le_refl _, hil⟩
          · have := r1 x hx
            exact ⟨this.1, by omega, this.2.2⟩
        · have := (r1 i hx).2.1
          omega
theorem wayL_len (hm : mayB A B = true) (hn : (zs.length : Int) = A * B) (hz : AllH zs) (h : Far (gphB A B b zs) s (atD ds)) {i : Nat} (hi : atD ds i ≠ 18446744073709551615) : (wayL A B zs ds i).length ≤ zs.length := by
  have h0 := h.ge0 i
  obtain ⟨r1, r2⟩ := wayL_mem hm hn hz h (atD ds i).toNat i hi (by omega)
  exact nodup_lt_len _ _ r2 (fun x hx => (r1 x hx).2.2)
theorem far_allU (h : Far (gphB A B b zs) s (atD ds)) : AllU ds := by
  intro d hd
  obtain ⟨i, hi⟩ := List.getElem?_of_mem hd
  have hl := (List.getElem?_eq_some_iff.1 hi).1
  have e := atD_get hl
  rw [List.getElem?_eq_getElem hl] at hi
  rw [← Option.some.inj hi, e]
  have := h.bd i
  exact ⟨by omega, by omega⟩
end
/-- The cells from where all is told from up to one. -/
def pathL (A B : Int) (zs ds : List Int) (i : Nat) : List IC := ((wayL A B zs ds i).map (cellN A)).reverse
/-- What is left of a way back. -/
def restW (A B : Int) (zs ds : List Int) : Option Nat → List Nat
  | none => []
  | some i => wayL A B zs ds i

theorem rowC_own {W : World} {Bq n cap g : Nat} {xs : List IC} (h : W.ownsRow Bq 30 2 (.slice (some ⟨g, 0, none⟩) n cap) n (flatC xs)) : RowC W (some ⟨g, 0, none⟩) xs := by
  refine .inr ⟨g, 0, rfl, fun k z hz => ?_⟩
  have := own_cellC h hz
  rw [Nat.zero_add]
  exact this
def muW (ds : List Int) (at_ is : Value) : Nat := match is with
  | .bool true => (atD ds (intOf at_).toNat).toNat + 1
  | _ => 0
set_option maxRecDepth 100000 in
set_option maxHeartbeats 4000000 in
theorem way_any (A B : Int) (a b : Option Addr) (cap cap2 : Nat) (zs ds : List Int) (bx : BX) (s i : Nat) (w : World) (hm : mayB A B = true) (hn : (zs.length : Int) = A * B) (hz : AllH zs) (hf : Far (gphB A B bx zs) s (atD ds)) (hdl : ds.length = zs.length) (hr : RowH w a zs) (hru : RowU w b ds) (hst : Stp w) (hi : atD ds i ≠ 18446744073709551615) :
    Calls Tryd.prog 47 #[.agg #[.int .i64 A, .int .i64 B, .slice a zs.length cap], .slice b zs.length cap2, .int .i64 (i : Int)] w fun e w' => ∃ a' cap', e = .returned (.slice a' (pathL A B zs ds i).length cap') ∧ RowC w' a' (pathL A B zs ds i) ∧ Below w.heap.size w w' := by
  obtain ⟨ar1, ar2⟩ := area_bd hm
  have HN := Lib.hid hn
  have HDL := Lib.hid hdl
  have HF := Lib.hid hf
  have HLEN := Lib.hid (wayL_len hm hn hz hf hi)
  have HI := Lib.hid hi
  have HNX := Lib.hid (fun i => wayL_next (i := i) hm hn hz hf)
  have HSM := Lib.hid (fun i j => aheadF_some (i := i) (j := j) hm hn hz hf)
  have hzl : zs.length ≤ 65536 := by omega
  have hah := fun (i : Nat) (W : World) h1 h2 h3 h4 => fahead_any A B a b cap cap2 zs ds i W hm hn hz (far_allU hf) hdl h1 h2 h3 h4
  have hilt : ∀ i, atD ds i ≠ 18446744073709551615 → i < zs.length := fun i hi => (gphB_opn.1 (hf.opn hi)).1
  have HILT := Lib.hid hilt
  have HAH := Lib.hid hah
  have hatc := fun (i : Nat) (w : World) (h : i < zs.length) => at_cell A B i w hm (by omega)
  have HAT := Lib.hid hatc
  obtain ⟨i0, hi0, hz0, hz1, hz2⟩ := info_parts Tryd.infoCell
  clear hn hdl hf hi hah hilt hatc
  go_enter Tryd.func47, Tryd.ntmps47
  go_wp2
  go_loopw [7, 8, 9] (fun v at_ is wr => ∃ (ls : List Nat) (o : Option Nat), at_ = .int .i64 ((o.getD 0 : Nat) : Int) ∧ is = .bool o.isSome ∧ wr.ownsRow (w.heap.size + 1) 30 2 v ls.length (flatC (ls.map (cellN A))) ∧ ls ++ restW A B zs ds o = wayL A B zs ds i ∧ (∀ j, o = some j → atD ds j ≠ 18446744073709551615) ∧ Below w.heap.size w wr ∧ wr.cell? ⟨w.heap.size, 0, none⟩ = some (.int .i64 A) ∧ wr.cell? ⟨w.heap.size, 1, none⟩ = some (.int .i64 B) ∧ wr.cell? ⟨w.heap.size, 2, none⟩ = some (.slice a zs.length cap)) (fun _ at_ is _ => muW ds at_ is)
  case atStart =>
    refine ⟨[], some i, rfl, rfl, World.ownsRow_nil _ _ _ _, rfl, fun j hj => by cases hj; exact HI.out, bl_al (bl0 _) _, ?_, ?_, ?_⟩ <;> simp [go_sem]
  case round =>
    obtain ⟨ls, o, rfl, rfl, hown, hrest, hoj, hB, f0, f1, f2⟩ := hrel
    cases o with
    | none =>
      have hls : ls = wayL A B zs ds i := by rw [← hrest]; simp [restW]
      have hrv := fun g n cap' w' (h : w'.ownsRow (w.heap.size + 1) 30 2 (.slice (some ⟨g, 0, none⟩) n cap') n (flatC (ls.map (cellN A)))) h1 h2 h3 => reverse_own (w.heap.size + 1) g cap' n (ls.map (cellN A)) w' h1 h2 h3 h
      have hl1 : 1 ≤ ls.length := by rw [hls, HNX.out i HI.out]; simp
      have hl2 : ls.length ≤ zs.length := by rw [hls]; exact HLEN.out
      obtain ⟨g, cap', hvv⟩ : ∃ g cap', u7 = .slice (some ⟨g, 0, none⟩) ls.length cap' := by
        rcases hown.2 with ⟨_, e⟩ | ⟨g', cap', cur, e, _⟩
        · omega
        · exact ⟨g', cap', e⟩
      subst hvv
      have hcall := hrv g ls.length cap' wr hown (by simp) hl1 (by omega)
      have HLS := Lib.hid hls
      have HPL := Lib.hid (show pathL A B zs ds i = (ls.map (cellN A)).reverse by unfold pathL; rw [hls])
      have HL := Lib.hid (show (pathL A B zs ds i).length = ls.length by rw [HPL.out]; simp)
      simp only [Option.isSome_none]
      clear hrv hown hrest hoj hls
      go_wp2_with fail
      refine hcall.mono ?_
      rintro e w2 ⟨rfl, hown2, hb2⟩
      have hB2 := Lib.hid (hB.trans (hb2.mono (by omega)))
      have HOWN := Lib.hid hown2
      clear hcall hown2 hb2
      go_wp2
      go_ret
      refine ⟨some ⟨g, 0, none⟩, cap', by rw [HL.out]; rfl, ?_, hB2.out⟩
      have hh := HOWN.out
      rw [← HPL.out] at hh
      exact rowC_own hh
    | some j =>
      have hj := hoj j rfl
      have hjl := HILT.out j hj
      have hll : ls.length + 1 ≤ zs.length := by
        have h1 := HLEN.out
        rw [← hrest, List.length_append] at h1
        have h2 : 1 ≤ (restW A B zs ds (some j)).length := by show 1 ≤ (wayL A B zs ds j).length; rw [HNX.out j hj]; simp
        omega
      obtain ⟨F, hF⟩ : ∃ F, aheadF A B zs ds j = F := ⟨_, rfl⟩
      have hnx := HNX.out j hj
      rw [hF] at hnx
      have hsm := fun k (hk : F = some k) => HSM.out j k (by rw [hF, hk]) hj
      have hah := fun W h1 h2 h3 => HAH.out j W h1 h2 h3 hjl
      rw [hF] at hah
      have HRE := Lib.hid (show (ls ++ [j]) ++ restW A B zs ds F = wayL A B zs ds i by
        rw [← hrest, List.append_assoc]
        congr 1
        show [j] ++ restW A B zs ds F = wayL A B zs ds j
        rw [hnx]
        cases F <;> rfl)
      have HSMF := Lib.hid hsm
      have HAHF := Lib.hid hah
      have HFS := Lib.hid (show flatC ((ls ++ [j]).map (cellN A)) = flatC (ls.map (cellN A)) ++ [.int .i64 (cellN A j).1, .int .i64 (cellN A j).2] by rw [List.map_append]; exact flatC_snoc _ _)
      have HJ := Lib.hid hj
      have hat := fun w => HAT.out j w hjl
      simp only [Option.getD_some, Option.isSome_some]
      clear hrest hoj hnx hsm hah hF hj
      generalize cellN A j = c at *
      go_wp2_with fail
      refine (hat _).mono ?_
      rintro e w1 ⟨rfl, hb1⟩
      have hown1 := own_later hown hb1
      have hB1 := bl_tr hB hb1
      replace f0 := cell_later hb1 f0; replace f1 := cell_later hb1 f1; replace f2 := cell_later hb1 f2
      have zf := blk_lt f0
      clear hown hB hb1 hat
      have hbc := bl_al (bl0 w1) (.cells #[.int .i64 c.1, .int .i64 c.2] 30)
      have hown2 := own_later hown1 hbc
      have hB2 := bl_tr hB1 hbc
      replace f0 := cell_later hbc f0; replace f1 := cell_later hbc f1; replace f2 := cell_later hbc f2
      have hd0 : (w1.alloc (.cells #[.int .i64 c.1, .int .i64 c.2] 30)).cell? ⟨w1.heap.size, 0, none⟩ = some (.int .i64 c.1) := by simp [go_sem]
      have hd1 : (w1.alloc (.cells #[.int .i64 c.1, .int .i64 c.2] 30)).cell? ⟨w1.heap.size, 1, none⟩ = some (.int .i64 c.2) := by simp [go_sem]
      have hzc : w1.heap.size < (w1.alloc (.cells #[.int .i64 c.1, .int .i64 c.2] 30)).heap.size := by simp
      obtain ⟨cb, hcb⟩ : ∃ cb, w1.heap.size = cb := ⟨_, rfl⟩
      obtain ⟨wc, hwc⟩ : ∃ wc, w1.alloc (.cells #[.int .i64 c.1, .int .i64 c.2] 30) = wc := ⟨_, rfl⟩
      rw [hwc] at hown2 hB2 f0 f1 f2 hd0 hd1 hzc
      rw [hcb] at hd0 hd1 hzc
      have hzw := hB2.size
      clear hown1 hB1 hbc
      go_wp2_with (at_builtin; refine wpList_append_own _ rfl _ _ 44 rfl (w.heap.size + 1) 30 i0 (.agg #[.int .i64 0, .int .i64 0]) 2 16 Tryd.underlying44 hi0 hz0 hz1 hz2 rfl (by decide) _ _ _ rfl (hown2.alloc _) ⟨wc.heap.size, 0, none⟩ 1 1 [.int .i64 c.1, .int .i64 c.2] rfl rfl ?c1 ?c2 ?c3 ?c4 ?c5 ?_)
      case c1 =>
        intro k u hu
        rw [hadd]
        rcases k with _ | _ | k
        · simp at hu; subst hu; simp [go_sem]
        · simp at hu; subst hu; simp [go_sem]
        · simp at hu
      case c2 =>
        intro u hu
        simp only [List.mem_cons, List.not_mem_nil, or_false] at hu
        rcases hu with rfl | rfl <;> rfl
      case c3 => unfold maxLen; omega
      case c4 => omega
      case c5 => simp; omega
      intro v' w5 hown' hgrow _
      have hne : some w.heap.size ≠ Value.ownBlock u7 := fun e => by have := (hown2.lt _ e.symm).1; omega
      have hB3 : Below w.heap.size w w5 := (bl_al hB2 _).grown hgrow (by simp; omega) (fun j hj => by have := (hown2.lt j hj).1; omega)
      rw [← HFS.out] at hown'
      replace f0 := hgrow.cell (cell_later (bl_al (bl0 _) _) f0) hne
      replace f1 := hgrow.cell (cell_later (bl_al (bl0 _) _) f1) hne
      replace f2 := hgrow.cell (cell_later (bl_al (bl0 _) _) f2) hne
      have hah := HAHF.out w5 (hr.below hB3) (hru.below hB3) (hst.below hB3)
      clear hgrow hown2 hne hd0 hd1 hzc hwc hcb hB2 hzw
      go_wp2_with fail
      refine hah.mono ?_
      rintro e w6 ⟨rfl, hb6⟩
      have hown6 := own_later hown' hb6
      have hB6 := bl_tr hB3 hb6
      replace f0 := cell_later hb6 f0; replace f1 := cell_later hb6 f1; replace f2 := cell_later hb6 f2
      clear hah hown' hB3 hb6
      have HO := Lib.hid hown6
      have HB := Lib.hid hB6
      clear hown6 hB6
      go_wp2
      go_roundw
      case rel => exact ⟨ls ++ [j], F, rfl, rfl, by rw [List.length_append]; exact HO.out, HRE.out, fun k hk => (HSMF.out k hk).2.1, HB.out, f0, f1, f2⟩
      case measure =>
        cases F with
        | none => exact Nat.succ_pos _
        | some k =>
          obtain ⟨-, -, -, q4, q5⟩ := HSMF.out k rfl
          show (atD ds (intOf (.int .i64 (k : Int))).toNat).toNat + 1 < (atD ds (intOf (.int .i64 (j : Int))).toNat).toNat + 1
          simp only [intOf, Int.toNat_natCast]
          omega
end Go.Proofs.YtjkecdghlpeigaaDoor
