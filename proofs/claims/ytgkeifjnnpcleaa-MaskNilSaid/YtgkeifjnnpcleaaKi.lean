/- The statements' own helpers over sets: inside, joined, both, Small. -/
import Derived.Test.YtgkeifjnnpcleaaKh
namespace Go.Proofs.Ytgkeifjnnpcleaa
open Go.RowKit

def flatC (zs : List (Int × Int)) : List Value := zs.flatMap (fun z => [.int .i64 z.1, .int .i64 z.2])
theorem flatC_snoc (zs : List (Int × Int)) (z : Int × Int) : flatC (zs ++ [z]) = flatC zs ++ [.int .i64 z.1, .int .i64 z.2] := by simp [flatC, List.flatMap_append]
theorem flatC_len : ∀ zs : List (Int × Int), (flatC zs).length = zs.length * 2
  | [] => rfl
  | z :: zs => by
    have := flatC_len zs
    simp only [flatC, List.flatMap_cons, List.length_append, List.length_cons, List.length_nil] at this ⊢
    omega
theorem flatC_at : ∀ (zs : List (Int × Int)) (i : Nat) (z : Int × Int), zs[i]? = some z → (flatC zs)[i * 2]? = some (.int .i64 z.1) ∧ (flatC zs)[i * 2 + 1]? = some (.int .i64 z.2)
  | [], i, z, h => by simp at h
  | y :: zs, 0, z, h => by simp at h; subst h; simp [flatC]
  | y :: zs, i + 1, z, h => by
    have := flatC_at zs i z (by simpa using h)
    have e : flatC (y :: zs) = .int .i64 y.1 :: .int .i64 y.2 :: flatC zs := rfl
    rw [e, show (i + 1) * 2 = i * 2 + 1 + 1 by omega]
    simpa using this
theorem rowC_of_own {w : World} {base : Nat} {v : Value} {zs : List (Int × Int)} (h : w.ownsRow base 36 2 v zs.length (flatC zs)) : ∃ a cap, v = .slice a zs.length cap ∧ RowC w a zs := by
  have hown := h
  rcases h.2 with ⟨rfl, h0⟩ | ⟨g, cap, cur, rfl, hb, hg, _⟩
  · refine ⟨none, 0, by rw [h0], .inl (List.eq_nil_of_length_eq_zero h0)⟩
  · refine ⟨_, cap, rfl, .inr ⟨g, 0, rfl, fun i z hz => ?_⟩⟩
    obtain ⟨e0, e1⟩ := flatC_at zs i z hz
    have hadd : ∀ j, (⟨g, 0, none⟩ : Addr).add j = ⟨g, j, none⟩ := fun j => by unfold Addr.add; split <;> simp_all
    have a0 := hown.cells (g := g) rfl _ _ e0
    have a1 := hown.cells (g := g) rfl _ _ e1
    rw [hadd] at a0 a1
    rw [Nat.zero_add]
    exact ⟨a0, a1⟩
theorem own_later {w w' : World} {B : Nat} {e : TypeId} {size : Nat} {v : Value} {n : Nat} {xs : List Value} (h : w.ownsRow B e size v n xs) (hb : Below w.heap.size w w') : w'.ownsRow B e size v n xs := by
  refine ⟨h.1, ?_⟩
  rcases h.2 with h | ⟨g, cap, cur, h1, h2, h3, h4⟩
  · exact .inl h
  · exact .inr ⟨g, cap, cur, h1, h2, (hb.block g (Array.getElem?_eq_some_iff.1 h3).1).trans h3, h4⟩
theorem Try.infoCell : (Try.prog.info? 36).map (fun i => (i.zero, i.size, i.bytes)) = some (some (.agg #[.int .i64 0, .int .i64 0]), 2, 16) := by kernel_rfl

/-- The cells that are on the map. -/
def onMap (X Y : Int) (zs : List (Int × Int)) : List (Int × Int) := zs.filter (fun z => inB X Y z.1 z.2)
theorem onMap_succ (X Y : Int) (zs : List (Int × Int)) (k : Nat) (hk : k < zs.length) : onMap X Y (zs.take (k + 1)) = onMap X Y (zs.take k) ++ (if inB X Y zs[k].1 zs[k].2 = true then [zs[k]] else []) := by
  unfold onMap
  rw [List.take_succ_eq_append_getElem hk, List.filter_append]
  congr 1
  simp [List.filter_cons]
theorem onMap_le (X Y : Int) (zs : List (Int × Int)) : (onMap X Y zs).length ≤ zs.length := List.length_filter_le _ _

set_option maxHeartbeats 1600000 in
theorem inside_any (X Y : Int) (a : Option Addr) (cap : Nat) (zs : List (Int × Int)) (w : World) (hr : RowC w a zs) (hl : zs.length ≤ 1048576) :
    Calls Try.prog 29 #[.agg #[.int .i64 X, .int .i64 Y], .slice a zs.length cap] w fun e w' => ∃ a' cap', e = .returned (.slice a' (onMap X Y zs).length cap') ∧ RowC w' a' (onMap X Y zs) ∧ Below w.heap.size w w' := by
  obtain ⟨i0, hi, hz0, hz1, hz2⟩ := info_parts Try.infoCell
  have hl2 : (zs.length : Int) ≤ 1048576 := by omega
  have hA := bl_al (bl0 w) (.cells #[.int .i64 X, .int .i64 Y] 23)
  go_enter Try.func29, Try.ntmps29
  go_wp2
  go_loopw [5, 6] (fun v i wr => ∃ k : Nat, k ≤ zs.length ∧ i = .int .i64 k ∧ wr.ownsRow (w.heap.size + 1) 36 2 v (onMap X Y (zs.take k)).length (flatC (onMap X Y (zs.take k))) ∧ Below w.heap.size w wr ∧
      wr.cell? ⟨w.heap.size, 0, none⟩ = some (.int .i64 X) ∧ wr.cell? ⟨w.heap.size, 1, none⟩ = some (.int .i64 Y)) (fun _ i _ => zs.length - (intOf i).toNat)
  case atStart => exact ⟨0, Nat.zero_le _, rfl, by simpa [onMap, flatC] using World.ownsRow_nil _ _ _ _, hA, by simp [go_sem], by simp [go_sem]⟩
  case round =>
    obtain ⟨k, hk, rfl, hown, hB, s0, s1⟩ := hrel
    clear hA
    by_cases hlt : k < zs.length
    · have hlt2 : (k : Int) < (zs.length : Int) := by omega
      have hk0 : (0 : Int) ≤ (k : Int) := by omega
      rcases hr with rfl | ⟨gb, go, rfl, hcell⟩
      · simp at hlt
      obtain ⟨q0, q1⟩ := hcell k _ (List.getElem?_eq_getElem hlt)
      replace q0 := cell_later hB q0
      replace q1 := cell_later hB q1
      have HS := Lib.hid (onMap_succ X Y zs k hlt)
      have hbd : (onMap X Y (zs.take k)).length ≤ 1048576 := Nat.le_trans (onMap_le _ _ _) (Nat.le_trans (List.length_take_le' _ _) hl)
      have hin := in_any X Y zs[k].1 zs[k].2
      clear hcell
      cases hib : inB X Y zs[k].1 zs[k].2
      all_goals
        rw [hib] at HS hin
        go_upto_region 5 with fail
        have hA := bl_dr (bl0 wr)
        go_region_held3 (fun w' => w'.cell? ⟨w.heap.size, 0, none⟩ = some (.int .i64 X) ∧ w'.cell? ⟨w.heap.size, 1, none⟩ = some (.int .i64 Y) ∧ w'.cell? ⟨gb, go + k * 2, none⟩ = some (.int .i64 zs[k].1) ∧ w'.cell? ⟨gb, go + k * 2 + 1, none⟩ = some (.int .i64 zs[k].2))
          (exact ⟨cell_later hA s0, cell_later hA s1, cell_later hA q0, cell_later hA q1⟩)
          ((go_at_call 34; refine (hin _).mono ?_; rintro e W2 ⟨rfl, hb⟩; replace hA := bl_tr hA hb; clear hb))
        have hown2 := own_later hown hA
        have hB2 := bl_tr hB hA
        replace s0 := cell_later hA s0
        replace s1 := cell_later hA s1
        replace q0 := cell_later hA q0
        replace q1 := cell_later hA q1
        clear hown hB hA hin
      · simp only [Bool.false_eq_true, if_false, List.append_nil] at HS
        go_wp2
        go_roundw
        case rel => exact ⟨k + 1, by omega, by go_num, by rw [HS.out]; exact hown2, hB2, s0, s1⟩
        case measure => simp [intOf]; omega
      · simp only [if_true] at HS
        go_wp2_with (at_builtin; refine wpList_append_own _ rfl _ _ 40 rfl (w.heap.size + 1) 36 i0 (.agg #[.int .i64 0, .int .i64 0]) 2 16 Try.underlying40 hi hz0 hz1 hz2 rfl (by decide) _ _ _ rfl (hown2.alloc _) ⟨W2.heap.size, 0, none⟩ 1 1 [.int .i64 zs[k].1, .int .i64 zs[k].2] rfl rfl ?c1 ?c2 ?c3 ?c4 ?c5 ?_)
        case c1 => exact cell_two_new _ _ _ _
        case c2 => intro u hu; simp at hu; rcases hu with rfl | rfl <;> rfl
        case c3 => unfold maxLen; omega
        case c4 => (have := hB2.size; first | omega | (simp; omega))
        case c5 => (have := hB2.size; first | (simp; omega) | omega)
        intro v' w1 hown' hgrow _
        have hne : some w.heap.size ≠ Value.ownBlock u5 := fun e => by have := (hown2.lt _ e.symm).1; omega
        have hB1 : Below w.heap.size w w1 := (bl_al hB2 _).grown hgrow (by have := hB2.size; simp; omega) (fun j hj => by have := (hown2.lt j hj).1; omega)
        rw [← flatC_snoc, ← HS.out] at hown'
        have hlen : (onMap X Y (zs.take k)).length + 1 = (onMap X Y (zs.take (k + 1))).length := by rw [HS.out]; simp
        rw [hlen] at hown'
        have s0' := hgrow.cell (cell_later (bl_al (bl0 _) _) s0) hne
        have s1' := hgrow.cell (cell_later (bl_al (bl0 _) _) s1) hne
        clear hgrow hown2 s0 s1 q0 q1 hB2 hne hlen HS
        go_wp2
        go_roundw
        case rel => exact ⟨k + 1, by omega, by go_num, hown', hB1, s0', s1'⟩
        case measure => simp [intOf]; omega
    · obtain rfl : k = zs.length := by omega
      rw [List.take_length] at hown
      go_wp2
      go_ret
      obtain ⟨a', cap', rfl, hrc⟩ := rowC_of_own hown
      exact ⟨a', cap', rfl, hrc, hB⟩

set_option maxHeartbeats 1600000 in
theorem joined_any (b h b2 h2 : Nat) (X Y : Int) (cs ds : List Nat) (w : World) (hm : MaskAt w b h X Y cs) (hm2 : MaskAt w b2 h2 X Y ds) (gc : Good X Y cs) (gd : Good X Y ds) :
    Calls Try.prog 37 #[.pointer (some ⟨b, 0, none⟩), .pointer (some ⟨b2, 0, none⟩)] w fun e w' => ∃ b' h', e = .returned (.pointer (some ⟨b', 0, none⟩)) ∧ MaskAt w' b' h' X Y (joinB (fun a b => a ||| b) cs ds) ∧ w.heap.size ≤ b' ∧ w.heap.size ≤ h' ∧ b' ≠ h' ∧ Below w.heap.size w w' := by
  have l1 := hm2.lt.1
  have l2 := hm2.lt.2
  go_enter Try.func37, Try.ntmps37
  go_wp2_with fail
  refine (clone_any b h X Y cs _ hm gc.small).mono ?_
  rintro e w1 ⟨b', h', rfl, hmc, hb', hh', hne, hB⟩
  have hm2' := hm2.below hB
  go_wp2_with fail
  refine (add_any b' h' b2 h2 X Y cs ds _ hmc hm2' gc gd hne (by omega) (by omega)).mono ?_
  rintro e w2 ⟨rfl, hmj, hg⟩
  have hB2 := hB.grown hg hB.size (fun r e => by cases e; exact hh')
  clear hg hB hmc hm2'
  go_wp2
  go_ret
  exact ⟨b', h', rfl, hmj, hb', hh', hne, hB2⟩

set_option maxHeartbeats 1600000 in
theorem both_any (b h b2 h2 : Nat) (X Y : Int) (cs ds : List Nat) (w : World) (hm : MaskAt w b h X Y cs) (hm2 : MaskAt w b2 h2 X Y ds) (gc : Good X Y cs) (gd : Good X Y ds) :
    Calls Try.prog 38 #[.pointer (some ⟨b, 0, none⟩), .pointer (some ⟨b2, 0, none⟩)] w fun e w' => ∃ b' h', e = .returned (.pointer (some ⟨b', 0, none⟩)) ∧ MaskAt w' b' h' X Y (joinB (fun a b => a &&& b) cs ds) ∧ w.heap.size ≤ b' ∧ w.heap.size ≤ h' ∧ b' ≠ h' ∧ Below w.heap.size w w' := by
  have l1 := hm2.lt.1
  have l2 := hm2.lt.2
  go_enter Try.func38, Try.ntmps38
  go_wp2_with fail
  refine (clone_any b h X Y cs _ hm gc.small).mono ?_
  rintro e w1 ⟨b', h', rfl, hmc, hb', hh', hne, hB⟩
  have hm2' := hm2.below hB
  go_wp2_with fail
  refine (keep_any b' h' b2 h2 X Y cs ds _ hmc hm2' gc gd hne (by omega) (by omega)).mono ?_
  rintro e w2 ⟨rfl, hmj, hg⟩
  have hB2 := hB.grown hg hB.size (fun r e => by cases e; exact hh')
  clear hg hB hmc hm2'
  go_wp2
  go_ret
  exact ⟨b', h', rfl, hmj, hb', hh', hne, hB2⟩

def smallB (X Y : Int) : Bool := !mayB X Y || (decide (X ≤ 24) && decide (Y ≤ 24))
set_option maxHeartbeats 800000 in
theorem small_any (X Y : Int) (w : World) :
    Calls Try.prog 9 #[.agg #[.int .i64 X, .int .i64 Y]] w fun e w' => e = .returned (.bool (smallB X Y)) ∧ Below w.heap.size w w' := by
  cases hm : mayB X Y
  all_goals
    go_enter Try.func9, Try.ntmps9
    go_wp2_with (go_at_call 39; refine (rmay_any _ _ _).mono ?_; rintro e w' ⟨rfl, hb⟩; obtain ⟨hc, hf⟩ := bcell hb)
    all_goals
      go_ret
      refine ⟨ret_bool (by first | (simp [smallB, *]; done) | (simp [smallB, *]; omega)), ?_⟩
      exact bl_tr (bl_al (bl0 _) _) hb
end Go.Proofs.Ytgkeifjnnpcleaa
