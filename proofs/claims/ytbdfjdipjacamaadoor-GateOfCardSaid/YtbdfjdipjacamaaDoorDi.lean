/- Parts: those beside a cluster; the border of two. -/
import Derived.Test.YtbdfjdipjacamaaDoorDh
namespace Go.Proofs.YtbdfjdipjacamaaDoor
open Go.RowKit

def BesR (x : Int) (l : List Int) (w : World) (e : Ending) (w' : World) : Prop := ∃ a cap, e = .returned (.tuple #[.slice a l.length cap, .int .i64 x]) ∧ RowN w' a l ∧ Below w.heap.size w w'
def besL (W H S id : Int) : List Int := if plcX W H S id = 0 then besP W H S id 4 else []
theorem besP_len (W H S id : Int) : ∀ n : Nat, (besP W H S id n).length ≤ n
  | 0 => Nat.le_refl _
  | n + 1 => by
    have := besP_len W H S id n
    rw [besP, List.length_append]
    split <;> simp <;> omega
theorem plc_lie {W H S id : Int} (hr : rightP W H S = true) (h0 : 0 ≤ id) (h1 : id < lieN W S * lieN H S) : onB (lieN W S) (lieN H S) (plcP W S id) = true := by
  obtain ⟨p1, p2, p3, p4, _⟩ := plc_in hr h0 h1
  obtain ⟨l1, l2, l3, l4⟩ := lie_wide hr
  exact inB_iff.2 ⟨l1, l2, l3, l4, p1, p2, p3, p4⟩

theorem BesAt.grown {W W' : World} {b q : Nat} {A B S : Int} {p : IC} {r : Option Nat} (h : BesAt W b q A B S p) (hg : W.grownBy W' r) (hb : some b ≠ r) (hq : some q ≠ r) : BesAt W' b q A B S p :=
  ⟨⟨hg.cell h.1.1 hb, hg.cell h.1.2.1 hb, hg.cell h.1.2.2 hb⟩, hg.cell h.2.1 hq, hg.cell h.2.2 hq⟩

set_option maxRecDepth 100000 in
set_option maxHeartbeats 4000000 in
theorem beside_p (W H S id : Int) (w : World) (hs : Stp w) :
    Calls Tryd.prog 59 #[.agg #[.int .i64 W, .int .i64 H, .int .i64 S], .int .i64 id] w (BesR (plcX W H S id) (besL W H S id) w) := by
  obtain ⟨i0, hi, hz0, hz1, hz2⟩ := info_parts Tryd.infoN
  have hA := bl0 w
  have HP := Lib.hid (fun w => place_p W H S id w)
  by_cases h0 : plcX W H S id = 0
  · obtain ⟨hr, d0, d1⟩ := plcX_yes.1 h0
    have hon := plc_lie hr d0 d1
    have e1 : besL W H S id = besP W H S id 4 := by unfold besL; rw [if_pos h0]
    have e2 : plcV W H S id = plcP W S id := by unfold plcV; rw [if_pos h0]
    rw [h0, e2] at HP
    rw [h0, e1]
    have HB := Lib.hid (fun (k : Nat) (hk : k < 4) b q w (hs : Stp w) => beside1_any W H S (plcP W S id) k b q w hs hr hon (by omega) (by omega))
    have HSN := Lib.hid (fun (k : Nat) => (show besP W H S id (k + 1) = besP W H S id k ++ (if toP W H S (plcP W S id) k = true then [besV W H S (plcP W S id) k] else []) by
      rw [besP]; unfold besV; cases toP W H S (plcP W S id) k <;> rfl))
    have HLN := Lib.hid (besP_len W H S id)
    clear e1 e2 h0 hr d0 d1 hon
    obtain ⟨p, hp⟩ : ∃ p, plcP W S id = p := ⟨_, rfl⟩
    rw [hp] at HP HB HSN
    obtain ⟨F, hF⟩ : ∃ F, besP W H S id = F := ⟨_, rfl⟩
    rw [hF] at HSN HLN ⊢
    have HNIL := Lib.hid (show F 0 = [] by rw [← hF]; rfl)
    clear hp hF
    go_enter Tryd.func59, Tryd.ntmps59
    go_wp2_with fail
    refine (HP.out _).mono ?_
    rintro e w1 ⟨rfl, hb⟩
    have hk : Below w.heap.size w w1 := by first | exact hb | exact bl_tr (bl_al (bl0 _) _) hb | exact bl_tr (bl_dr (bl_al (bl0 _) _)) hb | exact bl_tr (bl_al (bl_al (bl0 _) _) _) hb | exact bl_tr (bl_dr (bl_al (bl_al (bl0 _) _) _)) hb | exact bl_tr (bl_al (bl_al (bl_al (bl0 _) _) _) _) hb | exact bl_tr (bl_dr (bl_al (bl_al (bl_al (bl0 _) _) _) _)) hb | exact bl_tr (bl_al (bl_al (bl_al (bl_al (bl0 _) _) _) _) _) hb | exact bl_tr (bl_dr (bl_al (bl_al (bl_al (bl_al (bl0 _) _) _) _) _)) hb | exact bl_tr (bl_al (bl_al (bl_al (bl_al (bl_al (bl0 _) _) _) _) _) _) hb | exact bl_tr (bl_dr (bl_al (bl_al (bl_al (bl_al (bl_al (bl0 _) _) _) _) _) _)) hb | exact bl_tr (bl_al (bl_al (bl_al (bl_al (bl_al (bl_al (bl0 _) _) _) _) _) _) _) hb | exact bl_tr (bl_dr (bl_al (bl_al (bl_al (bl_al (bl_al (bl_al (bl0 _) _) _) _) _) _) _)) hb | exact bl_tr (bl_dr (bl0 _)) hb
    replace hA := bl_tr hA hk
    have f0 := cell_later hb (v := .int .i64 W) (a := ⟨w.heap.size, 0, none⟩) (by simp [go_sem])
    have f1 := cell_later hb (v := .int .i64 H) (a := ⟨w.heap.size, 1, none⟩) (by simp [go_sem])
    have f2 := cell_later hb (v := .int .i64 S) (a := ⟨w.heap.size, 2, none⟩) (by simp [go_sem])
    clear hb hk
    have zf0 := blk_lt f0
    have zf1 := blk_lt f1
    have zf2 := blk_lt f2
    go_wp2_with fail
    refine (beside_mk W H S p _).mono ?_
    rintro e w2 ⟨rfl, hq, hb⟩
    have hk : Below w1.heap.size w1 w2 := bl_tr (bl_al (bl0 _) _) hb
    replace hA := bl_tr hA hk
    clear hb hk f0 f1 f2 zf0 zf1 zf2
    rw [World.size_alloc] at hq
    have hbs := blk_lt hq.1.1
    have hqs := blk_lt hq.2.1
    have hA2 := Lib.hid hA
    have hsz := hA.size
    go_wp2_with fail
    clear hA
    go_loopw [9, 10, 11, 12] (fun v i _ _ wr => ∃ k : Nat, k ≤ 4 ∧ i = .int .i64 k ∧ wr.ownsRow w2.heap.size 3 1 v (F k).length (cellsN (F k)) ∧ Below w2.heap.size w2 wr ∧ BesAt wr (w1.heap.size + 1) (w1.heap.size + 1 + 1) W H S p) (fun _ i _ _ _ => 4 - (intOf i).toNat)
    case atStart => exact ⟨0, by omega, rfl, by rw [HNIL.out]; exact World.ownsRow_nil _ _ _ _, bl0 _, hq⟩
    case round =>
      obtain ⟨k, hk, rfl, hown, hA, hq⟩ := hrel
      obtain ⟨va, vc, rfl, hcp⟩ := own_shape hown
      have hk0 : (0 : Int) ≤ (k : Int) := by omega
      have hln := HLN.out k
      by_cases hlt : k < 4
      · have hlt2 : (k : Int) ≤ 3 := by omega
        have hsn := HSN.out k
        go_wp2_with fail
        refine (HB.out k hlt _ _ _ (hs.below (bl_tr hA2.out hA)) hq).mono ?_
        rintro e w3 ⟨rfl, hb⟩
        replace hA := bl_tr hA hb
        replace hq := hq.below hb
        replace hown := own_later hown hb
        clear hb
        obtain ⟨t, ht⟩ : ∃ t, toP W H S p k = t := ⟨_, rfl⟩
        obtain ⟨z, hz⟩ : ∃ z, besV W H S p k = z := ⟨_, rfl⟩
        rw [ht, hz] at hsn
        rw [ht, hz]
        have HS2 := Lib.hid hsn
        clear hsn ht hz
        cases t
        · have hs2 : F (k + 1) = F k := by rw [HS2.out]; simp
          have HS3 := Lib.hid hs2
          clear hs2
          go_wp2
          go_roundw
          case rel => exact ⟨k + 1, by omega, by go_num, by rw [HS3.out]; exact hown, hA, hq⟩
          case measure => simp [intOf]; omega
        · have hs2 : F (k + 1) = F k ++ [z] := HS2.out
          have HS3 := Lib.hid hs2
          have HLK := Lib.hid hln
          obtain ⟨n, hn⟩ : ∃ n, (F k).length = n := ⟨_, rfl⟩
          rw [hn] at hown hcp hln ⊢
          have HN := Lib.hid hn
          clear hs2 hn
          go_wp2_with (at_builtin; refine wpList_append_own _ rfl _ _ 100 rfl w2.heap.size 3 i0 (.int .i64 0) 1 8 Tryd.underlying100 hi hz0 hz1 hz2 rfl (by decide) _ _ _ rfl (hown.alloc _) ⟨w3.heap.size, 0, none⟩ 1 1 [.int .i64 z] rfl rfl ?c1 ?c2 ?c3 ?c4 ?c5 ?_)
          case c1 => exact cell_one _ _ _
          case c2 => intro u hu; simp at hu; rcases hu with rfl; rfl
          case c3 => unfold maxLen; omega
          case c4 => omega
          case c5 => (have := hA.size; simp; omega)
          intro v' w5 hown' hgrow _
          have hl2 : Below w3.heap.size w3 (w3.alloc (.cells #[.int .i64 z] 3)) := bl_al (bl0 _) _
          have hB5 : Below w2.heap.size w2 w5 := (bl_tr hA hl2).grown hgrow (by have := hA.size; simp; omega) (fun j hj => by have := (hown.lt j hj).1; omega)
          have hne : ∀ j, j < w2.heap.size → some j ≠ Value.ownBlock (.slice va n vc) := fun j hj e => by have := (hown.lt _ e.symm).1; omega
          have hq5 := (hq.below hl2).grown hgrow (hne _ hbs) (hne _ hqs)
          rw [← cellsN_snoc, ← HS3.out] at hown'
          have hlen : n + 1 = (F (k + 1)).length := by rw [HS3.out, List.length_append, HN.out]; rfl
          rw [hlen] at hown'
          clear hgrow hown hl2 hne hA hq hlen
          go_wp2
          go_roundw
          case rel => exact ⟨k + 1, by omega, by go_num, hown', hB5, hq5⟩
          case measure => simp [intOf]; omega
      · obtain rfl : k = 4 := by omega
        have hrow := rowN_of_own hown
        have HR := Lib.hid (show ∀ e, e = Ending.returned (.tuple #[.slice va (F 4).length vc, .int .i64 0]) → BesR 0 (F 4) w e wr from fun e he => ⟨va, vc, he, hrow, bl_tr hA2.out hA⟩)
        obtain ⟨n, hn⟩ : ∃ n, (F 4).length = n := ⟨_, rfl⟩
        rw [hn] at HR ⊢
        clear hown hrow hln hn
        go_wp2
        go_ret2
        exact HR.out _ rfl
  · have e1 : besL W H S id = [] := by unfold besL; rw [if_neg h0]
    obtain ⟨x, hx⟩ : ∃ x, plcX W H S id = x := ⟨_, rfl⟩
    obtain ⟨p, hp⟩ : ∃ p, plcV W H S id = p := ⟨_, rfl⟩
    rw [hx] at h0
    rw [hx, hp] at HP
    rw [e1, hx]
    have h1 : (x != 0) = true := by rw [bne_iff_ne]; exact h0
    clear e1 hx hp h0
    go_enter Tryd.func59, Tryd.ntmps59
    go_wp2_with fail
    refine (HP.out _).mono ?_
    rintro e w1 ⟨rfl, hb⟩
    have hk : Below w.heap.size w w1 := by first | exact hb | exact bl_tr (bl_al (bl0 _) _) hb | exact bl_tr (bl_dr (bl_al (bl0 _) _)) hb | exact bl_tr (bl_al (bl_al (bl0 _) _) _) hb | exact bl_tr (bl_dr (bl_al (bl_al (bl0 _) _) _)) hb | exact bl_tr (bl_al (bl_al (bl_al (bl0 _) _) _) _) hb | exact bl_tr (bl_dr (bl_al (bl_al (bl_al (bl0 _) _) _) _)) hb | exact bl_tr (bl_al (bl_al (bl_al (bl_al (bl0 _) _) _) _) _) hb | exact bl_tr (bl_dr (bl_al (bl_al (bl_al (bl_al (bl0 _) _) _) _) _)) hb | exact bl_tr (bl_al (bl_al (bl_al (bl_al (bl_al (bl0 _) _) _) _) _) _) hb | exact bl_tr (bl_dr (bl_al (bl_al (bl_al (bl_al (bl_al (bl0 _) _) _) _) _) _)) hb | exact bl_tr (bl_al (bl_al (bl_al (bl_al (bl_al (bl_al (bl0 _) _) _) _) _) _) _) hb | exact bl_tr (bl_dr (bl_al (bl_al (bl_al (bl_al (bl_al (bl_al (bl0 _) _) _) _) _) _) _)) hb | exact bl_tr (bl_dr (bl0 _)) hb
    replace hA := bl_tr hA hk
    clear hb hk
    go_wp2
    go_ret2
    exact ⟨none, 0, rfl, .inl rfl, bl_al hA _⟩
end Go.Proofs.YtbdfjdipjacamaaDoor
