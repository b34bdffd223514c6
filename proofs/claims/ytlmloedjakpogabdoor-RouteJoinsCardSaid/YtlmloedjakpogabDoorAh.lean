/- Paths: the program's Cells. -/
import Derived.Test.YtlmloedjakpogabDoorAe
import Derived.Test.YtlmloedjakpogabDoorAf
namespace Go.Proofs.YtlmloedjakpogabDoor
open Go.RowKit

/-- The cells told. -/
def celL (A B : Int) (c : IC) (ms : List Int) : List IC := if celE A B c ms = 0 then cellsF c ms else []
theorem own_one (w : World) (base : Nat) (x y : Int) (hb : base ≤ w.heap.size) : (w.alloc (.cells #[.int .i64 x, .int .i64 y] 37)).ownsRow base 37 2 (.slice (some ⟨w.heap.size, 0, none⟩) 1 1) 1 (flatC [(x, y)]) := by
  refine ⟨rfl, .inr ⟨w.heap.size, 1, #[.int .i64 x, .int .i64 y], rfl, hb, heap_alloc_new _ _, Nat.le_refl _, by unfold maxLen; omega, rfl, rfl⟩⟩
theorem own_cap {w : World} {base : Nat} {e : TypeId} {size n cap : Nat} {a : Option Addr} {xs : List Value} (h : w.ownsRow base e size (.slice a n cap) n xs) : n ≤ cap := by
  rcases h.2 with ⟨e1, h0⟩ | ⟨g, c, cur, e1, _, _, hc, _⟩
  · omega
  · cases e1; exact hc
theorem AllB.at {l : List Int} (h : AllB l) {k : Nat} (hk : k < l.length) : inU8 l[k] := h _ (List.getElem_mem hk)
theorem own_base {w : World} {B B' : Nat} {e : TypeId} {size : Nat} {v : Value} {n : Nat} {xs : List Value} (h : w.ownsRow B e size v n xs) (hB : B' ≤ B) : w.ownsRow B' e size v n xs := by
  refine ⟨h.1, ?_⟩
  rcases h.2 with h | ⟨g, cap, cur, h1, h2, h3⟩
  · exact .inl h
  · exact .inr ⟨g, cap, cur, h1, by omega, h3⟩
theorem flatC_len (zs : List IC) : (flatC zs).length = zs.length * 2 := by
  induction zs with
  | nil => rfl
  | cons z zs ih => simp [flatC] at ih ⊢; omega
theorem step_cel {A B : Int} {c : IC} {ms : List Int} {k : Nat} (hk : k < ms.length) (hin : AllB ms) (hon : onB A B (cK (cellsF c ms) k) = true) : stpX A B (cK (cellsF c ms) k) (ms.getD k 0) = celAt A B c ms k := by
  have hm : inU8 (ms.getD k 0) := by
    rw [List.getD_eq_getElem?_getD, List.getElem?_eq_getElem hk]
    exact hin _ (List.getElem_mem hk)
  obtain ⟨m1, m2⟩ := hm
  unfold stpX celAt
  have hnx := cellsF_next c ms hk
  by_cases h3 : 3 < ms.getD k 0
  · rw [if_neg (by omega), if_pos h3]
  · rw [if_pos (by omega), if_neg h3, hon, ← hnx, Bool.true_and]

set_option maxRecDepth 100000 in
set_option maxHeartbeats 4000000 in
theorem cells_path (A B : Int) (c : IC) (ba : Option Addr) (bcap : Nat) (ms : List Int) (w : World) (hm : RowB w ba ms) (hin : AllB ms) (hs : Stp w) (hl : ms.length ≤ 1048576) :
    Calls Tryd.prog 16 #[.agg #[.int .i64 A, .int .i64 B], .agg #[.int .i64 c.1, .int .i64 c.2], .slice ba ms.length bcap] w fun e w' => ∃ v, e = .returned (.tuple #[v, .int .i64 (celE A B c ms)]) ∧ w'.ownsRow w.heap.size 37 2 v (celL A B c ms).length (flatC (celL A B c ms)) ∧ Below w.heap.size w w' := by
  have hA := bl0 w
  obtain ⟨i0, hi, hz0, hz1, hz2⟩ := info_parts Tryd.infoCell
  cases hon : onB A B c
  case false =>
    have e1 : celE A B c ms = 10 := by unfold celE; rw [if_neg (by rw [hon]; decide)]
    have e2 : celL A B c ms = [] := by unfold celL; rw [if_neg (by rw [e1]; decide)]
    rw [e1, e2]
    have HON := Lib.hid (show inB A B c.1 c.2 = false from hon)
    clear e1 e2 hon
    go_enter Tryd.func16, Tryd.ntmps16
    go_wp2_with fail
    refine (in_any _ _ _ _ _).mono ?_
    rintro e w1 ⟨rfl, hb⟩
    have hk : Below w.heap.size w w1 := by first | exact hb | exact bl_tr (bl_al (bl0 _) _) hb | exact bl_tr (bl_dr (bl_al (bl0 _) _)) hb | exact bl_tr (bl_al (bl_al (bl0 _) _) _) hb | exact bl_tr (bl_dr (bl_al (bl_al (bl0 _) _) _)) hb | exact bl_tr (bl_al (bl_al (bl_al (bl0 _) _) _) _) hb | exact bl_tr (bl_dr (bl_al (bl_al (bl_al (bl0 _) _) _) _)) hb | exact bl_tr (bl_al (bl_al (bl_al (bl_al (bl0 _) _) _) _) _) hb | exact bl_tr (bl_dr (bl_al (bl_al (bl_al (bl_al (bl0 _) _) _) _) _)) hb | exact bl_tr (bl_al (bl_al (bl_al (bl_al (bl_al (bl0 _) _) _) _) _) _) hb | exact bl_tr (bl_dr (bl_al (bl_al (bl_al (bl_al (bl_al (bl0 _) _) _) _) _) _)) hb | exact bl_tr (bl_al (bl_al (bl_al (bl_al (bl_al (bl_al (bl0 _) _) _) _) _) _) _) hb | exact bl_tr (bl_dr (bl_al (bl_al (bl_al (bl_al (bl_al (bl_al (bl0 _) _) _) _) _) _) _)) hb | exact bl_tr (bl_dr (bl0 _)) hb
    replace hA := bl_tr hA hk
    clear hb hk
    rw [HON.out]
    go_wp2
    go_ret2
    exact ⟨_, rfl, World.ownsRow_nil _ _ _ _, hA⟩
  case true =>
    have e1 : celE A B c ms = firstE (celAt A B c ms) ms.length := by unfold celE; rw [if_pos hon]
    have HE := Lib.hid e1
    have HON := Lib.hid (show inB A B c.1 c.2 = true from hon)
    clear e1
    go_enter Tryd.func16, Tryd.ntmps16
    go_wp2_with fail
    refine (in_any _ _ _ _ _).mono ?_
    rintro e w1 ⟨rfl, hb⟩
    have hk : Below w.heap.size w w1 := by first | exact hb | exact bl_tr (bl_al (bl0 _) _) hb | exact bl_tr (bl_dr (bl_al (bl0 _) _)) hb | exact bl_tr (bl_al (bl_al (bl0 _) _) _) hb | exact bl_tr (bl_dr (bl_al (bl_al (bl0 _) _) _)) hb | exact bl_tr (bl_al (bl_al (bl_al (bl0 _) _) _) _) hb | exact bl_tr (bl_dr (bl_al (bl_al (bl_al (bl0 _) _) _) _)) hb | exact bl_tr (bl_al (bl_al (bl_al (bl_al (bl0 _) _) _) _) _) hb | exact bl_tr (bl_dr (bl_al (bl_al (bl_al (bl_al (bl0 _) _) _) _) _)) hb | exact bl_tr (bl_al (bl_al (bl_al (bl_al (bl_al (bl0 _) _) _) _) _) _) hb | exact bl_tr (bl_dr (bl_al (bl_al (bl_al (bl_al (bl_al (bl0 _) _) _) _) _) _)) hb | exact bl_tr (bl_al (bl_al (bl_al (bl_al (bl_al (bl_al (bl0 _) _) _) _) _) _) _) hb | exact bl_tr (bl_dr (bl_al (bl_al (bl_al (bl_al (bl_al (bl_al (bl0 _) _) _) _) _) _) _)) hb | exact bl_tr (bl_dr (bl0 _)) hb
    replace hA := bl_tr hA hk
    have s0 := cell_later hb (v := .int .i64 A) (a := ⟨w.heap.size, 0, none⟩) (by simp [go_sem])
    have s1 := cell_later hb (v := .int .i64 B) (a := ⟨w.heap.size, 1, none⟩) (by simp [go_sem])
    have t0 := cell_later hb (v := .int .i64 c.1) (a := ⟨w.heap.size + 1, 0, none⟩) (by simp [go_sem])
    have t1 := cell_later hb (v := .int .i64 c.2) (a := ⟨w.heap.size + 1, 1, none⟩) (by simp [go_sem])
    clear hb hk
    have zs0 := blk_lt s0
    have zs1 := blk_lt s1
    have zt0 := blk_lt t0
    have zt1 := blk_lt t1
    rw [HON.out]
    have hwn := own_one w1 (w.heap.size + 1) c.1 c.2 (by omega)
    have hb1 := bl_al (bl0 w1) (.cells #[.int .i64 c.1, .int .i64 c.2] 37)
    obtain ⟨w2, hw2⟩ : ∃ w2, w1.alloc (.cells #[.int .i64 c.1, .int .i64 c.2] 37) = w2 := ⟨_, rfl⟩
    rw [hw2] at hwn hb1
    have hA2 := bl_tr hA hb1
    have u0 := cell_later hb1 s0
    have u1 := cell_later hb1 s1
    have HW := Lib.hid hw2
    clear hw2
    go_wp2
    rw [HW.out]
    go_loopw [8, 10, 11, 12, 21] (fun v _ _ _ i wr => ∃ k : Nat, k ≤ ms.length ∧ i = .int .i64 k ∧ wr.ownsRow (w.heap.size + 1) 37 2 v (k + 1) (flatC ((cellsF c ms).take (k + 1))) ∧ firstE (celAt A B c ms) k = 0 ∧ onB A B (cK (cellsF c ms) k) = true ∧ Below w.heap.size w wr ∧ wr.cell? ⟨w.heap.size, 0, none⟩ = some (.int .i64 A) ∧ wr.cell? ⟨w.heap.size, 1, none⟩ = some (.int .i64 B)) (fun _ _ _ _ i _ => ms.length - (intOf i).toNat)
    case atStart => exact ⟨0, Nat.zero_le _, rfl, by rw [show (cellsF c ms).take 1 = [(c.1, c.2)] by cases ms <;> rfl]; exact hwn, rfl, by rw [cellsF_fst]; exact hon, hA2, u0, u1⟩
    case round =>
      obtain ⟨k, hk, rfl, hown, hfe, honk, hB, s0, s1⟩ := hrel
      by_cases hlt : k < ms.length
      · have hlt2 : (k : Int) < (ms.length : Int) := by omega
        have hk0 : (0 : Int) ≤ (k : Int) := by omega
        have hk3 : (k : Int) < (k : Int) + 1 := by omega
        have hkl : k < (cellsF c ms).length := by rw [cellsF_len]; omega
        obtain ⟨gb, go, rfl, q⟩ := (hm.below hB).cell hlt
        obtain ⟨g, cp, rfl⟩ := ownsRow_succ hown
        have htk : ((cellsF c ms).take (k + 1))[k]? = some (cK (cellsF c ms) k) := by rw [List.getElem?_take, if_pos (Nat.lt_succ_self k)]; exact cK_at hkl
        obtain ⟨e0, e1⟩ := flatC_at _ k _ htk
        have r0 := hown.cells (g := g) rfl _ _ e0
        have r1 := hown.cells (g := g) rfl _ _ e1
        rw [addr_add, Nat.zero_add] at r0 r1
        have hcp := own_cap hown
        have hmk : ms[k] = ms.getD k 0 := by rw [List.getD_eq_getElem?_getD, List.getElem?_eq_getElem hlt]; rfl
        rw [hmk] at q
        have hmu : inU8 (ms.getD k 0) := by rw [← hmk]; exact hin.at hlt
        have hcel := step_cel hlt hin honk
        have hnxt := cellsF_next c ms hlt
        have hcall := fun W h => step_any A B (cK (cellsF c ms) k) (ms.getD k 0) W h
        have hsv : celAt A B c ms k = 0 → stpV A B (cK (cellsF c ms) k) (ms.getD k 0) = cK (cellsF c ms) (k + 1) := fun h => by
          unfold stpV; rw [hcel, if_pos h, hnxt]
        have hon2 : celAt A B c ms k = 0 → onB A B (cK (cellsF c ms) (k + 1)) = true := fun h => by
          unfold celAt at h
          split at h
          · cases h
          · split at h
            · assumption
            · cases h
        have hf1 : firstE (celAt A B c ms) (k + 1) = celAt A B c ms k := firstE_next hfe
        have hf2 : celAt A B c ms k ≠ 0 → firstE (celAt A B c ms) ms.length = celAt A B c ms k := fun h => firstE_at hfe hlt h
        have hsn : (cellsF c ms).take (k + 1 + 1) = (cellsF c ms).take (k + 1) ++ [cK (cellsF c ms) (k + 1)] := cK_snoc (by rw [cellsF_len]; omega)
        rw [hcel] at hcall
        have e2 : IntKind.i64.wrap (k : Int) = (k : Int) := IntWalk.i64_in _ (by omega)
        have e3 : IntKind.i64.wrap (ms.getD k 0) = ms.getD k 0 := IntWalk.i64_in _ (by have := hmu; unfold inU8 at this; omega)
        have H1 := Lib.hid hsv; have H2 := Lib.hid hon2; have H3 := Lib.hid hf1; have H4 := Lib.hid hf2; have H5 := Lib.hid hsn; have H6 := Lib.hid hown; have H7 := Lib.hid hB
        have hsr : Stp wr := hs.below hB
        have zr := blk_lt r0
        clear hsv hon2 hf1 hf2 hsn hnxt hcel hmk htk e0 e1 hfe honk hmu hown
        generalize stpV A B (cK (cellsF c ms) k) (ms.getD k 0) = V at *
        generalize celAt A B c ms k = E at *
        generalize cK (cellsF c ms) k = p at *
        generalize ms.getD k 0 = m at *
        generalize hp2 : cK (cellsF c ms) (k + 1) = p2 at *
        have HP2 := Lib.hid hp2
        clear hp2
        go_upto_region 7 with fail
        have hBr := bl_dr (bl0 wr)
        have HSS := Lib.hid (show ∀ W', Below wr.heap.size wr W' → W'.cell? ⟨w.heap.size, 0, none⟩ = some (.int .i64 A) ∧ W'.cell? ⟨w.heap.size, 1, none⟩ = some (.int .i64 B) ∧ W'.cell? ⟨g, k * 2, none⟩ = some (.int .i64 p.1) ∧ W'.cell? ⟨g, k * 2 + 1, none⟩ = some (.int .i64 p.2) from fun W' h => ⟨cell_later h s0, cell_later h s1, cell_later h r0, cell_later h r1⟩)
        go_cut [11, 12] from 25 to 37 (fun s t wx => ∃ q, s = .pointer (some ⟨q, 0, none⟩) ∧ t = .int .i64 E ∧ wx.cell? ⟨q, 0, none⟩ = some (.int .i64 V.1) ∧ wx.cell? ⟨q, 1, none⟩ = some (.int .i64 V.2) ∧ Below wr.heap.size wr wx)
        case first =>
          go_region_held3 (fun w' => w'.cell? ⟨w.heap.size, 0, none⟩ = some (.int .i64 A) ∧ w'.cell? ⟨w.heap.size, 1, none⟩ = some (.int .i64 B) ∧ w'.cell? ⟨g, k * 2, none⟩ = some (.int .i64 p.1) ∧ w'.cell? ⟨g, k * 2 + 1, none⟩ = some (.int .i64 p.2))
            (first | exact HSS.out _ hBr | exact HSS.out _ (bl_al hBr _) | exact HSS.out _ (bl_dr (bl_al (bl0 wr) _)) | exact HSS.out _ (bl_st (bl_st hBr (Nat.le_refl _) _) (Nat.le_refl _) _) | exact HSS.out _ (bl_st (bl_st (bl_al hBr _) (by have := hBr.size; omega) _) (by have := hBr.size; omega) _))
            ((go_at_call 32; (first | with_reducible refine (hcall _ (hsr.below hBr)).mono ?_ | with_reducible refine (hcall _ (hsr.below (bl_dr (bl_al (bl0 wr) _)))).mono ?_); rintro e w9 ⟨rfl, hb9⟩; (first | replace hBr := bl_tr hBr hb9 | (replace hBr := bl_tr (bl_dr (bl_al (bl0 wr) _)) hb9; have k0 := cell_later hb9 (v := .int .i64 0) (a := ⟨wr.heap.size, 0, none⟩) (by simp [go_sem]); have k1 := cell_later hb9 (v := .int .i64 0) (a := ⟨wr.heap.size, 1, none⟩) (by simp [go_sem]); have k3 : w9.frozen? ⟨wr.heap.size, 0, none⟩ = false := (hb9.frozen (p := ⟨wr.heap.size, 0, none⟩) (by simp)).trans (by simp [go_sem]); have k4 : w9.frozen? ⟨wr.heap.size, 1, none⟩ = false := (hb9.frozen (p := ⟨wr.heap.size, 1, none⟩) (by simp)).trans (by simp [go_sem]); have k2 := blk_lt k0))))
          all_goals
            go_wp2_with fail
            go_meet
            first
              | exact ⟨_, rfl, rfl, by simp [go_sem], by simp [go_sem], bl_al hBr _⟩
              | exact ⟨wr.heap.size, rfl, rfl, by simp [go_sem, k0], by simp [go_sem, k1], bl_st (bl_st hBr (Nat.le_refl _) _) (Nat.le_refl _) _⟩
        case rest =>
          obtain ⟨tq, rfl, rfl, v0, v1, hb⟩ := hcut
          replace s0 := cell_later hb s0
          replace s1 := cell_later hb s1
          have hown2 := own_later H6.out hb
          have hB2 := H7.out.trans (hb.mono H7.out.size)
          have hmm := hm.below H7.out
          clear r0 r1 H6 hBr hB zr HSS hcall hsr hb
          by_cases hE : E = 0
          · subst hE
            have hVp : V = p2 := H1.out rfl
            subst hVp
            have hon3 := H2.out rfl
            have hf3 := H3.out
            have zq := blk_lt v0
            go_wp2_with (at_builtin; refine wpList_append_own _ rfl _ _ 27 rfl (w.heap.size + 1) 37 i0 (.agg #[.int .i64 0, .int .i64 0]) 2 16 Tryd.underlying27 hi hz0 hz1 hz2 rfl (by decide) _ _ _ rfl (hown2.alloc _) ⟨wc.heap.size, 0, none⟩ 1 1 [.int .i64 V.1, .int .i64 V.2] rfl rfl ?c1 ?c2 ?c3 ?c4 ?c5 ?_)
            case c2 => exact ⟨rfl, rfl⟩
            case c3 => unfold maxLen; omega
            case c4 => omega
            case c5 => (have := hB2.size; first | (simp; omega) | omega)
            intro v' w5 hown' hgrow _
            have hne : some w.heap.size ≠ Value.ownBlock (.slice (some ⟨g, 0, none⟩) (k + 1) cp) := fun e => by have := (hown2.lt _ e.symm).1; omega
            have hB3 : Below w.heap.size w w5 := (bl_al hB2 _).grown hgrow (by have := hB2.size; simp; omega) (fun j hj => by have := (hown2.lt j hj).1; omega)
            rw [← flatC_snoc, ← H5.out] at hown'
            have s0' := hgrow.cell (cell_later (bl_al (bl0 _) _) s0) hne
            have s1' := hgrow.cell (cell_later (bl_al (bl0 _) _) s1) hne
            clear hgrow hown2 s0 s1 v0 v1 zq hB2 hne
            go_wp2
            go_roundw
            case rel => exact ⟨k + 1, by omega, by go_num, hown', hf3, (by rw [HP2.out]; exact hon3), hB3, s0', s1'⟩
            case measure => simp [intOf]; omega
          · have hee : celE A B c ms = E := HE.out.trans (H4.out hE)
            have hll : celL A B c ms = [] := by unfold celL; rw [if_neg (by rw [hee]; exact hE)]
            have hE2 : (E != 0) = true := by rw [bne_iff_ne]; exact hE
            have HEE := Lib.hid hee
            have HLL := Lib.hid hll
            clear hee hll hE HE H4 H5
            go_wp2
            go_ret2
            exact ⟨_, (by rw [HEE.out]; rfl), by rw [HLL.out]; exact World.ownsRow_nil _ _ _ _, hB2⟩
      · obtain rfl : k = ms.length := by omega
        have hee : celE A B c ms = 0 := HE.out.trans hfe
        have hll : celL A B c ms = cellsF c ms := by unfold celL; rw [if_pos hee]
        rw [List.take_of_length_le (by rw [cellsF_len]; omega)] at hown
        have HEE := Lib.hid hee
        have HLL := Lib.hid hll
        clear hee hll hfe
        have hge : ¬ (ms.length : Int) < (ms.length : Int) := by omega
        go_wp2
        go_ret2
        exact ⟨_, (by rw [HEE.out]; rfl), by rw [HLL.out, cellsF_len]; exact own_base hown (by omega), hB⟩
end Go.Proofs.YtlmloedjakpogabDoor
