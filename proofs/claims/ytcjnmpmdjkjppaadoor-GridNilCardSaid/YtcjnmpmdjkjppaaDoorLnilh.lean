/- GridNil: its walk, of a field that is right. -/
import Derived.Test.YtcjnmpmdjkjppaaDoorLnilg
namespace Go.Proofs.YtcjnmpmdjkjppaaDoor
open Go.RowKit

/-- Each cost one more, wrapped. -/
def upH (z : Int) : Int := IntKind.u16.wrap (z + 1)
def rowK (zs : List Int) (k : Nat) : List Int := (zs.take k).map upH ++ zs.drop k
theorem rowK_at (zs : List Int) (k : Nat) (hk : k < zs.length) : (cellsH (rowK zs k))[k]? = some (.int .u16 zs[k]) := by
  unfold cellsH rowK
  rw [List.getElem?_map, List.getElem?_append_right (by simp; omega)]
  simp [Nat.min_eq_left (Nat.le_of_lt hk), hk]
theorem rowK_set (zs : List Int) (k : Nat) (hk : k < zs.length) : (cellsH (rowK zs k)).set k (.int .u16 (upH zs[k])) = cellsH (rowK zs (k + 1)) := by
  unfold cellsH rowK
  rw [← List.map_set]
  congr 1
  rw [List.set_append_right _ _ (by simp; omega), List.take_succ_eq_append_getElem hk, List.map_append]
  have e : k - ((zs.take k).map upH).length = 0 := by simp; omega
  rw [e]
  have hd : zs.drop k = zs[k] :: zs.drop (k + 1) := List.drop_eq_getElem_cons hk
  rw [hd, List.set_cons_zero, List.map_singleton, List.append_assoc, List.singleton_append]

set_option maxRecDepth 100000 in
set_option maxHeartbeats 8000000 in
theorem gnil_yes (X Y x y n : Int) (ad : Addr) (c : Nat) (zs : List Int) (w : World) (hS : Sits w) (hr : RowH w (some ad) zs) (hs : smallB X Y zs.length = true) (hx : chkF X Y zs.length = 0) :
    Calls Tryd.prog 9 #[.agg #[.int .i64 X, .int .i64 Y, .slice (some ad) zs.length c], .agg #[.int .i64 x, .int .i64 y, .int .i64 n]] w fun e w' => e = .returned (.bool true) ∧ Below w.heap.size w w' := by
  have hlx : zs.length ≤ 600 := by
    have h := hs
    unfold smallB at h
    simp at h
    omega
  have HS1 := Lib.hid hs
  clear hs
  have hA := bl0 w
  have hfc := field_cost
  obtain ⟨_, _, hn1, _⟩ := chk_ok hx
  have hn0 : zs.length ≠ 0 := by omega
  have hzn : zs ≠ [] := by rintro rfl; exact hn0 rfl
  have HQ := Lib.hid hx
  clear hx
  go_enter Tryd.func9, Tryd.ntmps9
  go_wp2_with fail
  refine (edit_nil _ _ _ _).mono ?_
  rintro e w1 ⟨rfl, hb⟩
  have hk : Below w.heap.size w w1 := by first | exact hb | exact bl_tr (bl_al (bl0 _) _) hb | exact bl_tr (bl_dr (bl_al (bl0 _) _)) hb | exact bl_tr (bl_al (bl_al (bl0 _) _) _) hb | exact bl_tr (bl_dr (bl_al (bl_al (bl0 _) _) _)) hb | exact bl_tr (bl_al (bl_al (bl_al (bl0 _) _) _) _) hb | exact bl_tr (bl_dr (bl_al (bl_al (bl_al (bl0 _) _) _) _)) hb | exact bl_tr (bl_al (bl_al (bl_al (bl_al (bl0 _) _) _) _) _) hb | exact bl_tr (bl_dr (bl_al (bl_al (bl_al (bl_al (bl0 _) _) _) _) _)) hb | exact bl_tr (bl_al (bl_al (bl_al (bl_al (bl_al (bl0 _) _) _) _) _) _) hb | exact bl_tr (bl_dr (bl_al (bl_al (bl_al (bl_al (bl_al (bl0 _) _) _) _) _) _)) hb | exact bl_tr (bl_al (bl_al (bl_al (bl_al (bl_al (bl_al (bl0 _) _) _) _) _) _) _) hb | exact bl_tr (bl_dr (bl_al (bl_al (bl_al (bl_al (bl_al (bl_al (bl0 _) _) _) _) _) _) _)) hb | exact bl_tr (bl_dr (bl0 _)) hb
  replace hA := bl_tr hA hk
  have f0 := cell_later hb (v := .int .i64 X) (a := ⟨w.heap.size, 0, none⟩) (by simp [go_sem])
  have f1 := cell_later hb (v := .int .i64 Y) (a := ⟨w.heap.size, 1, none⟩) (by simp [go_sem])
  have f2 := cell_later hb (v := .slice (some ad) zs.length c) (a := ⟨w.heap.size, 2, none⟩) (by simp [go_sem])
  have e0 := cell_later hb (v := .int .i64 x) (a := ⟨w.heap.size + 1, 0, none⟩) (by simp [go_sem])
  have e1 := cell_later hb (v := .int .i64 y) (a := ⟨w.heap.size + 1, 1, none⟩) (by simp [go_sem])
  have e2 := cell_later hb (v := .int .i64 n) (a := ⟨w.heap.size + 1, 2, none⟩) (by simp [go_sem])
  clear hb hk
  have zf0 := blk_lt f0
  have zf1 := blk_lt f1
  have zf2 := blk_lt f2
  have ze0 := blk_lt e0
  have ze1 := blk_lt e1
  have ze2 := blk_lt e2
  go_wp2_with fail
  refine (cost_nil _ _ _).mono ?_
  rintro e w2 ⟨rfl, hb⟩
  have hk : Below w1.heap.size w1 w2 := by first | exact hb | exact bl_tr (bl_al (bl0 _) _) hb | exact bl_tr (bl_dr (bl_al (bl0 _) _)) hb | exact bl_tr (bl_al (bl_al (bl0 _) _) _) hb | exact bl_tr (bl_dr (bl_al (bl_al (bl0 _) _) _)) hb | exact bl_tr (bl_al (bl_al (bl_al (bl0 _) _) _) _) hb | exact bl_tr (bl_dr (bl_al (bl_al (bl_al (bl0 _) _) _) _)) hb | exact bl_tr (bl_al (bl_al (bl_al (bl_al (bl0 _) _) _) _) _) hb | exact bl_tr (bl_dr (bl_al (bl_al (bl_al (bl_al (bl0 _) _) _) _) _)) hb | exact bl_tr (bl_al (bl_al (bl_al (bl_al (bl_al (bl0 _) _) _) _) _) _) hb | exact bl_tr (bl_dr (bl_al (bl_al (bl_al (bl_al (bl_al (bl0 _) _) _) _) _) _)) hb | exact bl_tr (bl_al (bl_al (bl_al (bl_al (bl_al (bl_al (bl0 _) _) _) _) _) _) _) hb | exact bl_tr (bl_dr (bl_al (bl_al (bl_al (bl_al (bl_al (bl_al (bl0 _) _) _) _) _) _) _)) hb | exact bl_tr (bl_dr (bl0 _)) hb
  replace hA := bl_tr hA hk
  replace f0 := cell_later hk f0
  replace f1 := cell_later hk f1
  replace f2 := cell_later hk f2
  replace e0 := cell_later hk e0
  replace e1 := cell_later hk e1
  replace e2 := cell_later hk e2
  clear hb hk
  have zf0 := blk_lt f0
  have zf1 := blk_lt f1
  have zf2 := blk_lt f2
  have ze0 := blk_lt e0
  have ze1 := blk_lt e1
  have ze2 := blk_lt e2
  go_wp2_with fail
  refine (size_nil _).mono ?_
  rintro e w3 ⟨rfl, hb⟩
  have hk : Below w2.heap.size w2 w3 := by first | exact hb | exact bl_tr (bl_al (bl0 _) _) hb | exact bl_tr (bl_dr (bl_al (bl0 _) _)) hb | exact bl_tr (bl_al (bl_al (bl0 _) _) _) hb | exact bl_tr (bl_dr (bl_al (bl_al (bl0 _) _) _)) hb | exact bl_tr (bl_al (bl_al (bl_al (bl0 _) _) _) _) hb | exact bl_tr (bl_dr (bl_al (bl_al (bl_al (bl0 _) _) _) _)) hb | exact bl_tr (bl_al (bl_al (bl_al (bl_al (bl0 _) _) _) _) _) hb | exact bl_tr (bl_dr (bl_al (bl_al (bl_al (bl_al (bl0 _) _) _) _) _)) hb | exact bl_tr (bl_al (bl_al (bl_al (bl_al (bl_al (bl0 _) _) _) _) _) _) hb | exact bl_tr (bl_dr (bl_al (bl_al (bl_al (bl_al (bl_al (bl0 _) _) _) _) _) _)) hb | exact bl_tr (bl_al (bl_al (bl_al (bl_al (bl_al (bl_al (bl0 _) _) _) _) _) _) _) hb | exact bl_tr (bl_dr (bl_al (bl_al (bl_al (bl_al (bl_al (bl_al (bl0 _) _) _) _) _) _) _)) hb | exact bl_tr (bl_dr (bl0 _)) hb
  replace hA := bl_tr hA hk
  replace f0 := cell_later hk f0
  replace f1 := cell_later hk f1
  replace f2 := cell_later hk f2
  replace e0 := cell_later hk e0
  replace e1 := cell_later hk e1
  replace e2 := cell_later hk e2
  clear hb hk
  have zf0 := blk_lt f0
  have zf1 := blk_lt f1
  have zf2 := blk_lt f2
  have ze0 := blk_lt e0
  have ze1 := blk_lt e1
  have ze2 := blk_lt e2
  go_wp2_with fail
  refine (edits_nil _).mono ?_
  rintro e w4 ⟨rfl, rfl⟩
  go_wp2_with fail
  refine (field_nil _).mono ?_
  rintro e w5 ⟨rfl, hb⟩
  have hk : Below w4.heap.size w4 w5 := by first | exact hb | exact bl_tr (bl_al (bl0 _) _) hb | exact bl_tr (bl_dr (bl_al (bl0 _) _)) hb | exact bl_tr (bl_al (bl_al (bl0 _) _) _) hb | exact bl_tr (bl_dr (bl_al (bl_al (bl0 _) _) _)) hb | exact bl_tr (bl_al (bl_al (bl_al (bl0 _) _) _) _) hb | exact bl_tr (bl_dr (bl_al (bl_al (bl_al (bl0 _) _) _) _)) hb | exact bl_tr (bl_al (bl_al (bl_al (bl_al (bl0 _) _) _) _) _) hb | exact bl_tr (bl_dr (bl_al (bl_al (bl_al (bl_al (bl0 _) _) _) _) _)) hb | exact bl_tr (bl_al (bl_al (bl_al (bl_al (bl_al (bl0 _) _) _) _) _) _) hb | exact bl_tr (bl_dr (bl_al (bl_al (bl_al (bl_al (bl_al (bl0 _) _) _) _) _) _)) hb | exact bl_tr (bl_al (bl_al (bl_al (bl_al (bl_al (bl_al (bl0 _) _) _) _) _) _) _) hb | exact bl_tr (bl_dr (bl_al (bl_al (bl_al (bl_al (bl_al (bl_al (bl0 _) _) _) _) _) _) _)) hb | exact bl_tr (bl_dr (bl0 _)) hb
  replace hA := bl_tr hA hk
  replace f0 := cell_later hk f0
  replace f1 := cell_later hk f1
  replace f2 := cell_later hk f2
  replace e0 := cell_later hk e0
  replace e1 := cell_later hk e1
  replace e2 := cell_later hk e2
  clear hb hk
  have zf0 := blk_lt f0
  have zf1 := blk_lt f1
  have zf2 := blk_lt f2
  have ze0 := blk_lt e0
  have ze1 := blk_lt e1
  have ze2 := blk_lt e2
  go_wp2_with fail
  refine (small_any _ _ _ _ _ _).mono ?_
  rintro e w6 ⟨rfl, hb⟩
  have hk : Below w5.heap.size w5 w6 := by first | exact hb | exact bl_tr (bl_al (bl0 _) _) hb | exact bl_tr (bl_dr (bl_al (bl0 _) _)) hb | exact bl_tr (bl_al (bl_al (bl0 _) _) _) hb | exact bl_tr (bl_dr (bl_al (bl_al (bl0 _) _) _)) hb | exact bl_tr (bl_al (bl_al (bl_al (bl0 _) _) _) _) hb | exact bl_tr (bl_dr (bl_al (bl_al (bl_al (bl0 _) _) _) _)) hb | exact bl_tr (bl_al (bl_al (bl_al (bl_al (bl0 _) _) _) _) _) hb | exact bl_tr (bl_dr (bl_al (bl_al (bl_al (bl_al (bl0 _) _) _) _) _)) hb | exact bl_tr (bl_al (bl_al (bl_al (bl_al (bl_al (bl0 _) _) _) _) _) _) hb | exact bl_tr (bl_dr (bl_al (bl_al (bl_al (bl_al (bl_al (bl0 _) _) _) _) _) _)) hb | exact bl_tr (bl_al (bl_al (bl_al (bl_al (bl_al (bl_al (bl0 _) _) _) _) _) _) _) hb | exact bl_tr (bl_dr (bl_al (bl_al (bl_al (bl_al (bl_al (bl_al (bl0 _) _) _) _) _) _) _)) hb | exact bl_tr (bl_dr (bl0 _)) hb
  replace hA := bl_tr hA hk
  replace f0 := cell_later hk f0
  replace f1 := cell_later hk f1
  replace f2 := cell_later hk f2
  replace e0 := cell_later hk e0
  replace e1 := cell_later hk e1
  replace e2 := cell_later hk e2
  clear hb hk
  have zf0 := blk_lt f0
  have zf1 := blk_lt f1
  have zf2 := blk_lt f2
  have ze0 := blk_lt e0
  have ze1 := blk_lt e1
  have ze2 := blk_lt e2
  rw [HS1.out]
  have hr6 := hr.below hA
  obtain ⟨i0, hi, hz0, hz1, hz2⟩ := info_parts Tryd.infoH
  have hK : Below w6.heap.size w6 (w6.alloc (.cells #[.int .i64 X, .int .i64 Y, .slice none 0 0] 26)) := bl_al (bl0 _) _
  go_wp2_with (at_builtin; refine wpList_append_own _ rfl _ _ 24 rfl (w6.heap.size + 1) 38 i0 (.int .u16 0) 1 2 Tryd.underlying24 hi hz0 hz1 hz2 rfl (by decide) _ _ _ rfl (World.ownsRow_nil _ _ _ _) ad zs.length c (cellsH zs) rfl ?c0 ?c1 ?c2 ?c3 ?c4 ?c5 ?_)
  case c0 => rw [cellsH_len, Nat.mul_one]
  case c1 =>
    intro j u hj
    simp only [cellsH, List.getElem?_map, Option.map_eq_some_iff] at hj
    obtain ⟨z, hz, rfl⟩ := hj
    rcases hr6 with h | ⟨b, o, hbo, hc⟩
    · subst h; simp at hz
    · cases hbo
      rw [addr_add]
      exact cell_later hK (hc j z hz)
  case c2 => exact cellsH_one zs
  case c3 => unfold maxLen; omega
  case c4 => omega
  case c5 => rw [World.size_alloc]; omega
  intro v' w8 hown' hgrow hnil
  have hz8 : w6.heap.size + 1 ≤ w8.heap.size := by have := hgrow.size; rw [World.size_alloc] at this; exact this
  have hbk : ∀ k, k < w6.heap.size + 1 → w8.heap[k]? = (w6.alloc (.cells #[.int .i64 X, .int .i64 Y, .slice none 0 0] 26)).heap[k]? := fun k hk => hgrow.block k (by rw [World.size_alloc]; exact hk) (by simp [Value.ownBlock])
  have hB8 : Below w6.heap.size w6 w8 := ⟨hgrow.os, hgrow.tape, hgrow.output, by omega, fun k hk => (hbk k (by omega)).trans (Below.heap_alloc _ _ _ hk)⟩
  have hk8 : w8.heap[w6.heap.size]? = some (.cells #[.int .i64 X, .int .i64 Y, .slice none 0 0] 26 (0, 0)) := (hbk _ (by omega)).trans (heap_alloc_new w6 _)
  obtain ⟨w9, hw9⟩ : ∃ w9, w8.setCell ⟨w6.heap.size, 2, none⟩ v' = w9 := ⟨_, rfl⟩
  have hB9 : Below w6.heap.size w6 w9 := by rw [← hw9]; exact bl_st hB8 (Nat.le_refl _) _
  have hk9 : w9.heap[w6.heap.size]? = some (.cells #[.int .i64 X, .int .i64 Y, v'] 26 (0, 0)) := by
    rw [← hw9, heap_setCell_same w8 _ 2 _ _ v' hk8]
    simp
  have hown9 : w9.ownsRow (w6.heap.size + 1) 38 1 v' zs.length (cellsH zs) := by
    rw [← hw9]
    exact ownsRow_setCell_below hown' (by simp) _
  have c8 := cells_at hk8 2
  have d8 : w8.frozen? ⟨w6.heap.size, 2, none⟩ = false := by simp [World.frozen?, hk8]
  simp at c8
  obtain ⟨pa, pc, rfl⟩ : ∃ pa pc, v' = .slice pa zs.length pc := by
    rcases hown9.2 with ⟨e1, e2⟩ | ⟨g, cap, cur, e1, _⟩
    · exact ⟨none, 0, by rw [e1, e2]⟩
    · exact ⟨_, _, e1⟩
  have k0 := cells_at hk9 0
  have k1 := cells_at hk9 1
  have k2 := cells_at hk9 2
  simp at k0 k1 k2
  have j0 := k0
  have j1 := k1
  have j2 := k2
  rw [← hw9] at j0 j1 j2
  have HW9 := Lib.hid hw9
  have HO9 := Lib.hid hown9
  have HK9 := Lib.hid hk9
  replace hA := bl_tr hA hB9
  replace f0 := cell_later hB9 f0
  replace f1 := cell_later hB9 f1
  replace f2 := cell_later hB9 f2
  clear hw9 hown9 hk9 hB9 hB8 hown' hgrow hnil hbk hk8 hK e0 e1 e2 hi hz0 hz1 hz2
  have zk := blk_lt k0
  have zf := blk_lt f0
  go_wp2_with fail
  rw [HW9.out]
  clear c8 d8 j0 j1 j2
  obtain ⟨g0, pc', e0⟩ := own_block HO9.out hn0
  obtain ⟨rfl, rfl⟩ : pa = some ⟨g0, 0, none⟩ ∧ pc = pc' := by cases e0; exact ⟨rfl, rfl⟩
  clear e0
  have hgl := HO9.out.lt g0 rfl
  refine (new_yes X Y (some ⟨g0, 0, none⟩) pc zs w9 (row_of HO9.out) HQ.out).mono ?_
  rintro e w10 ⟨g, h, cap, rfl, hg, hb10⟩
  replace hA := bl_tr hA hb10
  replace f0 := cell_later hb10 f0
  replace f1 := cell_later hb10 f1
  replace f2 := cell_later hb10 f2
  replace k2 := cell_later hb10 k2
  have hown10 := own_later HO9.out hb10
  have hgg := hg.1
  have hgh := hg.lt.2.1
  have hz10 := hb10.size
  have hgn : g ≠ g0 ∧ h ≠ g0 := ⟨by omega, by omega⟩
  have HG := Lib.hid hg
  have HOW := Lib.hid hown10
  have HA := Lib.hid hA
  clear hb10 hg hown10 k0 k1 HO9 HK9 HW9 hA hr6
  have zk2 := blk_lt k2
  go_wp2
  go_loopw [12] (fun i wr => ∃ k : Nat, k ≤ zs.length ∧ i = .int .i64 k ∧ wr.ownsRow (w6.heap.size + 1) 38 1 (.slice (some ⟨g0, 0, none⟩) zs.length pc) zs.length (cellsH (rowK zs k)) ∧ Kept2 g0 g0 w10 wr) (fun i _ => zs.length - (intOf i).toNat)
  case atStart => exact ⟨0, Nat.zero_le _, rfl, HOW.out, Kept2.of_below (bl0 _)⟩
  case round =>
    obtain ⟨k, hk, rfl, hown, hKp⟩ := hrel
    have k2' := hKp.cell k2 (by omega) (by omega)
    by_cases hlt : k < zs.length
    · have hlt2 : (k : Int) < (zs.length : Int) := by omega
      have hk0 : (0 : Int) ≤ (k : Int) := by omega
      have q := hown.cellAt k (by omega)
      rw [rowK_at zs k hlt] at q
      have hf := hown.frozenAt k
      obtain ⟨hst, _⟩ := hown.stored k (.int .u16 (upH zs[k]))
      rw [rowK_set zs k hlt] at hst
      have hkk := hKp.trans (Kept2.st (g := g0) (h := g0) (o := k) (.int .u16 (upH zs[k])))
      have HST := Lib.hid hst
      have HKK := Lib.hid hkk
      have hup : upH zs[k] = IntKind.u16.wrap (zs[k] + 1) := rfl
      clear hst hkk hown hKp k2 f0 f1 f2
      generalize zs[k] = z at *
      go_wp2
      go_region
      all_goals
        have hd := bl_dr (bl0 (wr.setCell ⟨g0, k, none⟩ (.int .u16 (upH z))))
        have r1 := own_later HST.out hd
        have r2 := HKK.out.trans (Kept2.of_below hd)
        have R1 := Lib.hid r1
        have R2 := Lib.hid r2
        clear r1 r2 hd HST HKK
        go_wp2
        go_roundw
        case rel => exact ⟨k + 1, by omega, by go_num, R1.out, R2.out⟩
        case measure => simp [intOf]; omega
    · obtain rfl : k = zs.length := by omega
      have hge : (zs.length : Int) ≤ (zs.length : Int) := Int.le_refl _
      have hgr := HG.out.kept2 hKp hgn.1 hgn.1 hgn.2 hgn.2
      have hAr : Below w.heap.size w wr := HA.out.trans (hKp.below HA.out.size (by omega) (by omega))
      have q0 := hKp.cell f0 (by omega) (by omega)
      have q1 := hKp.cell f1 (by omega) (by omega)
      have q2 := hKp.cell f2 (by omega) (by omega)
      have hrr := hr.below hAr
      clear hown hKp k2 f0 f1 f2
      go_wp2_with fail
      have hB := bl_dr (bl0 wr)
      go_region_held3 (fun W => W.cell? ⟨w.heap.size, 0, none⟩ = some (.int .i64 X) ∧ W.cell? ⟨w.heap.size, 1, none⟩ = some (.int .i64 Y) ∧ W.cell? ⟨w.heap.size, 2, none⟩ = some (.slice (some ad) zs.length c))
        (exact ⟨cell_later hB q0, cell_later hB q1, cell_later hB q2⟩)
        (first
          | (go_at_call 18; refine (field_any _ g h cap X Y zs 0 _ (hgr.below hB) hzn (by omega)).mono ?_; rintro e W2 ⟨h2, cap2, rfl, hown2, hb⟩; replace hB := bl_tr hB hb; clear hb)
          | (go_at_call 21; refine (same_yes X Y (some ⟨h2, 0, none⟩) (some ad) cap2 c zs zs _ (row_of hown2) (hrr.below hB) (by omega)).mono ?_; rintro e W3 ⟨rfl, hb⟩; rw [show decide (zs = zs) = true from decide_eq_true rfl]; replace hB := bl_tr hB hb; clear hb)
          | (go_at_call 11; refine (awake_any _ (hS.later (bl_tr hAr hB))).mono ?_; rintro e W4 ⟨rfl, hb⟩; replace hB := bl_tr hB hb; clear hb))
      all_goals
        have HF := Lib.hid (bl_tr hAr hB)
        clear hB hAr hgr hrr hown2
        go_wp2
        go_ret
        exact ⟨rfl, HF.out⟩
end Go.Proofs.YtcjnmpmdjkjppaaDoor
