/- Paths: the document's answer: Cells. -/
import Derived.Test.YtlmloedjakpogabDoorAq
namespace Go.Proofs.YtlmloedjakpogabDoor
open Go.RowKit

set_option maxRecDepth 100000 in
set_option maxHeartbeats 4000000 in
theorem rcells9_any (A B : Int) (c : IC) (ba : Option Addr) (bcap : Nat) (ms : List Int) (w : World) (hm : RowB w ba ms) (hin : AllB ms) (hl : ms.length ≤ 1048576) :
    Calls Tryd.prog 17 #[.agg #[.int .i64 A, .int .i64 B], .agg #[.int .i64 c.1, .int .i64 c.2], .slice ba ms.length bcap] w fun e w' => ∃ v, e = .returned (.tuple #[v, .int .i64 (celE A B c ms)]) ∧ w'.ownsRow w.heap.size 37 2 v (celL A B c ms).length (flatC (celL A B c ms)) ∧ Below w.heap.size w w' := by
  have hA := bl0 w
  obtain ⟨i0, hi, hz0, hz1, hz2⟩ := info_parts Tryd.infoCell
  cases hon : onB A B c
  case false =>
    have e1 : celE A B c ms = 10 := by unfold celE; rw [if_neg (by rw [hon]; decide)]
    have e2 : celL A B c ms = [] := by unfold celL; rw [if_neg (by rw [e1]; decide)]
    rw [e1, e2]
    have HON := Lib.hid (show inB A B c.1 c.2 = false from hon)
    clear e1 e2 hon
    go_enter Tryd.func17, Tryd.ntmps17
    go_wp2_with fail
    refine (rin_any _ _ _ _ _).mono ?_
    rintro e w1 ⟨rfl, hb⟩
    have hk : Below w.heap.size w w1 := by first | exact hb | exact bl_tr (bl_al (bl0 _) _) hb | exact bl_tr (bl_dr (bl_al (bl0 _) _)) hb | exact bl_tr (bl_al (bl_al (bl0 _) _) _) hb | exact bl_tr (bl_dr (bl_al (bl_al (bl0 _) _) _)) hb | exact bl_tr (bl_al (bl_al (bl_al (bl0 _) _) _) _) hb | exact bl_tr (bl_dr (bl_al (bl_al (bl_al (bl0 _) _) _) _)) hb | exact bl_tr (bl_al (bl_al (bl_al (bl_al (bl0 _) _) _) _) _) hb | exact bl_tr (bl_dr (bl_al (bl_al (bl_al (bl_al (bl0 _) _) _) _) _)) hb | exact bl_tr (bl_al (bl_al (bl_al (bl_al (bl_al (bl0 _) _) _) _) _) _) hb | exact bl_tr (bl_dr (bl_al (bl_al (bl_al (bl_al (bl_al (bl0 _) _) _) _) _) _)) hb | exact bl_tr (bl_al (bl_al (bl_al (bl_al (bl_al (bl_al (bl0 _) _) _) _) _) _) _) hb | exact bl_tr (bl_dr (bl_al (bl_al (bl_al (bl_al (bl_al (bl_al (bl0 _) _) _) _) _) _) _)) hb | exact bl_tr (bl_dr (bl0 _)) hb
    replace hA := bl_tr hA hk
    clear hb hk
    rw [HON.out]
    go_wp2
    go_ret2
    exact ⟨_, rfl, World.ownsRow_nil _ _ _ _, hA⟩
  case true =>
    have e1 : celE A B c ms = firstE (celAt A B c ms) ms.length := by unfold celE; rw [if_pos hon]
    have HE := Lib.hid e1
    have HON := Lib.hid (show inB A B c.1 c.2 = true from hon)
    clear e1
    go_enter Tryd.func17, Tryd.ntmps17
    go_wp2_with fail
    refine (rin_any _ _ _ _ _).mono ?_
    rintro e w1 ⟨rfl, hb⟩
    have hk : Below w.heap.size w w1 := by first | exact hb | exact bl_tr (bl_al (bl0 _) _) hb | exact bl_tr (bl_dr (bl_al (bl0 _) _)) hb | exact bl_tr (bl_al (bl_al (bl0 _) _) _) hb | exact bl_tr (bl_dr (bl_al (bl_al (bl0 _) _) _)) hb | exact bl_tr (bl_al (bl_al (bl_al (bl0 _) _) _) _) hb | exact bl_tr (bl_dr (bl_al (bl_al (bl_al (bl0 _) _) _) _)) hb | exact bl_tr (bl_al (bl_al (bl_al (bl_al (bl0 _) _) _) _) _) hb | exact bl_tr (bl_dr (bl_al (bl_al (bl_al (bl_al (bl0 _) _) _) _) _)) hb | exact bl_tr (bl_al (bl_al (bl_al (bl_al (bl_al (bl0 _) _) _) _) _) _) hb | exact bl_tr (bl_dr (bl_al (bl_al (bl_al (bl_al (bl_al (bl0 _) _) _) _) _) _)) hb | exact bl_tr (bl_al (bl_al (bl_al (bl_al (bl_al (bl_al (bl0 _) _) _) _) _) _) _) hb | exact bl_tr (bl_dr (bl_al (bl_al (bl_al (bl_al (bl_al (bl_al (bl0 _) _) _) _) _) _) _)) hb | exact bl_tr (bl_dr (bl0 _)) hb
    replace hA := bl_tr hA hk
    have s0 := cell_later hb (v := .int .i64 A) (a := ⟨w.heap.size, 0, none⟩) (by simp [go_sem])
    have s1 := cell_later hb (v := .int .i64 B) (a := ⟨w.heap.size, 1, none⟩) (by simp [go_sem])
    have t0 := cell_later hb (v := .int .i64 c.1) (a := ⟨w.heap.size + 1, 0, none⟩) (by simp [go_sem])
    have t1 := cell_later hb (v := .int .i64 c.2) (a := ⟨w.heap.size + 1, 1, none⟩) (by simp [go_sem])
    clear hb hk
    have zs0 := blk_lt s0
    have zs1 := blk_lt s1
    have zt0 := blk_lt t0
    have zt1 := blk_lt t1
    rw [HON.out]
    have hwn := own_one w1 (w.heap.size + 1) c.1 c.2 (by omega)
    have hb1 := bl_al (bl0 w1) (.cells #[.int .i64 c.1, .int .i64 c.2] 37)
    obtain ⟨w2, hw2⟩ : ∃ w2, w1.alloc (.cells #[.int .i64 c.1, .int .i64 c.2] 37) = w2 := ⟨_, rfl⟩
    rw [hw2] at hwn hb1
    have hA2 := bl_tr hA hb1
    have u0 := cell_later hb1 s0
    have u1 := cell_later hb1 s1
    have HW := Lib.hid hw2
    clear hw2
    go_wp2
    rw [HW.out]
    go_loopw [8, 9, 10] (fun v i _ wr => ∃ k : Nat, k ≤ ms.length ∧ i = .int .i64 k ∧ wr.ownsRow (w.heap.size + 1) 37 2 v (k + 1) (flatC ((cellsF c ms).take (k + 1))) ∧ firstE (celAt A B c ms) k = 0 ∧ onB A B (cK (cellsF c ms) k) = true ∧ Below w.heap.size w wr ∧ wr.cell? ⟨w.heap.size, 0, none⟩ = some (.int .i64 A) ∧ wr.cell? ⟨w.heap.size, 1, none⟩ = some (.int .i64 B)) (fun _ i _ _ => ms.length - (intOf i).toNat)
    case atStart => exact ⟨0, Nat.zero_le _, rfl, by rw [show (cellsF c ms).take 1 = [(c.1, c.2)] by cases ms <;> rfl]; exact hwn, rfl, by rw [cellsF_fst]; exact hon, hA2, u0, u1⟩
    case round =>
      obtain ⟨k, hk, rfl, hown, hfe, honk, hB, s0, s1⟩ := hrel
      by_cases hlt : k < ms.length
      · have hlt2 : (k : Int) < (ms.length : Int) := by omega
        have hk0 : (0 : Int) ≤ (k : Int) := by omega
        have hk3 : (k : Int) < (k : Int) + 1 := by omega
        have hkl : k < (cellsF c ms).length := by rw [cellsF_len]; omega
        obtain ⟨gb, go, rfl, q⟩ := (hm.below hB).cell hlt
        obtain ⟨g, cp, rfl⟩ := ownsRow_succ hown
        have htk : ((cellsF c ms).take (k + 1))[k]? = some (cK (cellsF c ms) k) := by rw [List.getElem?_take, if_pos (Nat.lt_succ_self k)]; exact cK_at hkl
        obtain ⟨e0, e1⟩ := flatC_at _ k _ htk
        have r0 := hown.cells (g := g) rfl _ _ e0
        have r1 := hown.cells (g := g) rfl _ _ e1
        rw [addr_add, Nat.zero_add] at r0 r1
        have hcp := own_cap hown
        have hmk : ms[k] = ms.getD k 0 := by rw [List.getD_eq_getElem?_getD, List.getElem?_eq_getElem hlt]; rfl
        rw [hmk] at q
        have hmu : inU8 (ms.getD k 0) := by rw [← hmk]; exact hin.at hlt
        have hnxt := cellsF_next c ms hlt
        have hplk := on_plain honk
        have hcl : celAt A B c ms k = if 3 < ms.getD k 0 then 1 else if onB A B (cK (cellsF c ms) (k + 1)) = true then 0 else 10 := rfl
        have hf1 : firstE (celAt A B c ms) (k + 1) = celAt A B c ms k := firstE_next hfe
        have hf2 : celAt A B c ms k ≠ 0 → firstE (celAt A B c ms) ms.length = celAt A B c ms k := fun h => firstE_at hfe hlt h
        have hsn : (cellsF c ms).take (k + 1 + 1) = (cellsF c ms).take (k + 1) ++ [cK (cellsF c ms) (k + 1)] := cK_snoc (by rw [cellsF_len]; omega)
        have e3 : IntKind.i64.wrap (ms.getD k 0) = ms.getD k 0 := IntWalk.i64_in _ (by have := hmu; unfold inU8 at this; omega)
        have hm0 : 0 ≤ ms.getD k 0 := hmu.1
        have H3 := Lib.hid hf1; have H4 := Lib.hid hf2; have H5 := Lib.hid hsn; have H6 := Lib.hid hown; have H7 := Lib.hid hB; have H8 := Lib.hid hcl
        have hstep : ms.getD k 0 < 4 → ∀ W, Calls Tryd.prog 33 #[.agg #[.int .i64 (cK (cellsF c ms) k).1, .int .i64 (cK (cellsF c ms) k).2], .int .i64 (ms.getD k 0)] W fun e w' => e = .returned (.agg #[.int .i64 (cK (cellsF c ms) (k + 1)).1, .int .i64 (cK (cellsF c ms) (k + 1)).2]) ∧ Below W.heap.size W w' := fun h W =>
          next_to _ _ _ _ _ W hplk hm0 h (by rw [hnxt]; rfl) (by rw [hnxt]; rfl)
        have HST := Lib.hid hstep
        have zr := blk_lt r0
        clear hf1 hf2 hsn hnxt hmk htk e0 e1 hfe honk hmu hown hcl hplk hstep
        generalize celAt A B c ms k = E at *
        generalize cK (cellsF c ms) k = p at *
        generalize ms.getD k 0 = m at *
        generalize hp2 : cK (cellsF c ms) (k + 1) = p2 at *
        have HP2 := Lib.hid hp2
        clear hp2
        by_cases h3 : 3 < m
        · have hE : E = 1 := by rw [H8.out, if_pos h3]
          have hee : celE A B c ms = 1 := HE.out.trans (by rw [H4.out (by rw [hE]; decide), hE])
          have hll : celL A B c ms = [] := by unfold celL; rw [if_neg (by rw [hee]; decide)]
          have HEE := Lib.hid hee
          have HLL := Lib.hid hll
          clear hE hee hll HST r0 r1
          go_wp2
          go_ret2
          exact ⟨_, (by rw [HEE.out]; rfl), by rw [HLL.out]; exact World.ownsRow_nil _ _ _ _, hB⟩
        · have h4 : m < 4 := by omega
          have hcall := HST.out h4
          have HC := Lib.hid hcall
          clear hcall HST
          go_upto_region 9 with fail
          have hBr := bl_dr (bl0 wr)
          have HSS := Lib.hid (show ∀ W', Below wr.heap.size wr W' → W'.cell? ⟨g, k * 2, none⟩ = some (.int .i64 p.1) ∧ W'.cell? ⟨g, k * 2 + 1, none⟩ = some (.int .i64 p.2) ∧ W'.cell? ⟨gb, go + k, none⟩ = some (.int .u8 m) from fun W' h => ⟨cell_later h r0, cell_later h r1, cell_later h q⟩)
          go_cut [10] from 28 to 37 (fun s wx => ∃ q, s = .pointer (some ⟨q, 0, none⟩) ∧ wx.cell? ⟨q, 0, none⟩ = some (.int .i64 p2.1) ∧ wx.cell? ⟨q, 1, none⟩ = some (.int .i64 p2.2) ∧ Below wr.heap.size wr wx)
          case first =>
            go_region_held3 (fun w' => w'.cell? ⟨g, k * 2, none⟩ = some (.int .i64 p.1) ∧ w'.cell? ⟨g, k * 2 + 1, none⟩ = some (.int .i64 p.2) ∧ w'.cell? ⟨gb, go + k, none⟩ = some (.int .u8 m))
              (first | exact HSS.out _ hBr | exact HSS.out _ (bl_al hBr _) | exact HSS.out _ (bl_dr (bl_al (bl0 wr) _)) | exact HSS.out _ (bl_st (bl_st hBr (Nat.le_refl _) _) (Nat.le_refl _) _) | exact HSS.out _ (bl_st (bl_st (bl_al hBr _) (by have := hBr.size; omega) _) (by have := hBr.size; omega) _))
              ((go_at_call 33; (with_reducible refine (HC.out _).mono ?_); rintro e w9 ⟨rfl, hb9⟩; (first | replace hBr := bl_tr hBr hb9 | (replace hBr := bl_tr (bl_dr (bl_al (bl0 wr) _)) hb9; have k0 := cell_later hb9 (v := .int .i64 0) (a := ⟨wr.heap.size, 0, none⟩) (by simp [go_sem]); have k1 := cell_later hb9 (v := .int .i64 0) (a := ⟨wr.heap.size, 1, none⟩) (by simp [go_sem]); have k3 : w9.frozen? ⟨wr.heap.size, 0, none⟩ = false := (hb9.frozen (p := ⟨wr.heap.size, 0, none⟩) (by simp)).trans (by simp [go_sem]); have k4 : w9.frozen? ⟨wr.heap.size, 1, none⟩ = false := (hb9.frozen (p := ⟨wr.heap.size, 1, none⟩) (by simp)).trans (by simp [go_sem]); have k2 := blk_lt k0))))
            all_goals
              go_wp2_with fail
              go_meet
              first
                | exact ⟨_, rfl, by simp [go_sem], by simp [go_sem], bl_al hBr _⟩
                | exact ⟨wr.heap.size, rfl, by simp [go_sem, k0], by simp [go_sem, k1], bl_st (bl_st hBr (Nat.le_refl _) _) (Nat.le_refl _) _⟩
          case rest =>
            obtain ⟨tq, rfl, v0, v1, hb⟩ := hcut
            replace s0 := cell_later hb s0
            replace s1 := cell_later hb s1
            have hown2 := own_later H6.out hb
            have hB2 := H7.out.trans (hb.mono H7.out.size)
            clear r0 r1 H6 hBr hB zr HSS hb q
            go_wp2_with fail
            refine (rin_any _ _ _ _ _).mono ?_
            rintro e w6 ⟨rfl, hb6⟩
            replace s0 := cell_later hb6 s0; replace s1 := cell_later hb6 s1; replace v0 := cell_later hb6 v0; replace v1 := cell_later hb6 v1
            replace hown2 := own_later hown2 hb6
            replace hB2 := bl_tr hB2 hb6
            clear hb6
            have h8 := H8.out
            rw [if_neg (by omega)] at h8
            cases hn : onB A B p2
            · rw [if_neg (by rw [hn]; decide)] at h8
              have hee : celE A B c ms = 10 := HE.out.trans (by rw [H4.out (by rw [h8]; decide), h8])
              have hll : celL A B c ms = [] := by unfold celL; rw [if_neg (by rw [hee]; decide)]
              have HEE := Lib.hid hee
              have HLL := Lib.hid hll
              rw [show inB A B p2.1 p2.2 = false from hn]
              clear hee hll h8 hn hown2
              go_wp2
              go_ret2
              exact ⟨_, (by rw [HEE.out]; rfl), by rw [HLL.out]; exact World.ownsRow_nil _ _ _ _, hB2⟩
            · rw [if_pos hn] at h8
              have hf3 : firstE (celAt A B c ms) (k + 1) = 0 := by rw [H3.out, h8]
              rw [show inB A B p2.1 p2.2 = true from hn]
              have zq := blk_lt v0
              clear h8
              go_wp2_with (at_builtin; refine wpList_append_own _ rfl _ _ 27 rfl (w.heap.size + 1) 37 i0 (.agg #[.int .i64 0, .int .i64 0]) 2 16 Tryd.underlying27 hi hz0 hz1 hz2 rfl (by decide) _ _ _ rfl (hown2.alloc _) ⟨w6.heap.size, 0, none⟩ 1 1 [.int .i64 p2.1, .int .i64 p2.2] rfl rfl ?c1 ?c2 ?c3 ?c4 ?c5 ?_)
              case c1 => exact cell_two_new _ _ _ _
              case c2 => intro u hu; simp at hu; rcases hu with rfl | rfl <;> rfl
              case c3 => unfold maxLen; omega
              case c4 => omega
              case c5 => (have := hB2.size; first | (simp; omega) | omega)
              intro v' w5 hown' hgrow _
              have hne : some w.heap.size ≠ Value.ownBlock (.slice (some ⟨g, 0, none⟩) (k + 1) cp) := fun e => by have := (hown2.lt _ e.symm).1; omega
              have hB3 : Below w.heap.size w w5 := (bl_al hB2 _).grown hgrow (by have := hB2.size; simp; omega) (fun j hj => by have := (hown2.lt j hj).1; omega)
              rw [← flatC_snoc, ← H5.out] at hown'
              have s0' := hgrow.cell (cell_later (bl_al (bl0 _) _) s0) hne
              have s1' := hgrow.cell (cell_later (bl_al (bl0 _) _) s1) hne
              clear hgrow hown2 s0 s1 v0 v1 zq hB2 hne
              go_wp2
              go_roundw
              case rel => exact ⟨k + 1, by omega, by go_num, hown', hf3, (by rw [HP2.out]; exact hn), hB3, s0', s1'⟩
              case measure => simp [intOf]; omega
      · obtain rfl : k = ms.length := by omega
        have hee : celE A B c ms = 0 := HE.out.trans hfe
        have hll : celL A B c ms = cellsF c ms := by unfold celL; rw [if_pos hee]
        rw [List.take_of_length_le (by rw [cellsF_len]; omega)] at hown
        have HEE := Lib.hid hee
        have HLL := Lib.hid hll
        clear hee hll hfe
        have hge : ¬ (ms.length : Int) < (ms.length : Int) := by omega
        go_wp2
        go_ret2
        exact ⟨_, (by rw [HEE.out]; rfl), by rw [HLL.out, cellsF_len]; exact own_base hown (by omega), hB⟩
end Go.Proofs.YtlmloedjakpogabDoor
