/- Parts: the border of two. -/
import Derived.Test.YtbdfjdipjacamaaDoorDi
namespace Go.Proofs.YtbdfjdipjacamaaDoor
open Go.RowKit

def brdX (W H S a b : Int) : Int := if plcX W H S (min a b) ≠ 0 then plcX W H S (min a b) else if plcX W H S (max a b) ≠ 0 then plcX W H S (max a b) else if sideP W H S (min a b) (max a b) = 0 then 1 else 0
def brdP (W H S a b : Int) : List (IC × IC) := if brdX W H S a b = 0 then prsP W H S (plcP W S (min a b)) (sideP W H S (min a b) (max a b)) else []
def BorR (x : Int) (l : List (IC × IC)) (w : World) (e : Ending) (w' : World) : Prop := ∃ a cap, e = .returned (.tuple #[.slice a l.length cap, .int .i64 x]) ∧ RowPP w' a l ∧ Below w.heap.size w w' ∧ l.length ≤ cap
theorem tab2_0 (w : World) : (Instr.index 159 (.agg #[.int .i64 1, .int .i64 2]) (.int .i64 0)).run Tryd.prog w = .ok (.int .i64 1) w := by kernel_rfl
theorem tab2_1 (w : World) : (Instr.index 159 (.agg #[.int .i64 1, .int .i64 2]) (.int .i64 1)).run Tryd.prog w = .ok (.int .i64 2) w := by kernel_rfl
theorem min_max {a b f g : Int} (hf : min a b = f) (hg : max a b = g) : (a < b ∧ f = a ∧ g = b) ∨ (a = b ∧ f = a ∧ g = a) ∨ (b < a ∧ f = b ∧ g = a) := by omega

set_option maxRecDepth 100000 in
set_option maxHeartbeats 8000000 in
theorem border_p (W H S a b : Int) (w : World) (hs : Stp w) :
    Calls Tryd.prog 60 #[.agg #[.int .i64 W, .int .i64 H, .int .i64 S], .int .i64 a, .int .i64 b] w (BorR (brdX W H S a b) (brdP W H S a b) w) := by
  have hA := bl0 w
  have hl : brdP W H S a b = if brdX W H S a b = 0 then prsP W H S (plcP W S (min a b)) (sideP W H S (min a b) (max a b)) else [] := rfl
  have hx : brdX W H S a b = if plcX W H S (min a b) ≠ 0 then plcX W H S (min a b) else if plcX W H S (max a b) ≠ 0 then plcX W H S (max a b) else if sideP W H S (min a b) (max a b) = 0 then 1 else 0 := rfl
  obtain ⟨L, hL⟩ : ∃ L, brdP W H S a b = L := ⟨_, rfl⟩
  obtain ⟨X, hX⟩ : ∃ X, brdX W H S a b = X := ⟨_, rfl⟩
  rw [hX] at hx hl
  rw [hL] at hl
  rw [hL, hX]
  obtain ⟨f, hf⟩ : ∃ f, min a b = f := ⟨_, rfl⟩
  obtain ⟨g, hg⟩ : ∃ g, max a b = g := ⟨_, rfl⟩
  rw [hf, hg] at hx hl
  have hmm := min_max hf hg
  clear hL hX hf hg
  have HP := Lib.hid (fun w => place_p W H S f w)
  have HQ := Lib.hid (fun w => place_p W H S g w)
  by_cases hp0 : plcX W H S f = 0
  case neg =>
    rw [if_pos hp0] at hx
    obtain ⟨p, hp⟩ : ∃ p, plcV W H S f = p := ⟨_, rfl⟩
    rw [← hx] at hp0
    rw [hp, ← hx] at HP
    rw [if_neg hp0] at hl
    subst hl
    have h1 : (X != 0) = true := by rw [bne_iff_ne]; exact hp0
    clear hx hp hp0 HQ
    rcases hmm with ⟨hlt, rfl, rfl⟩ | ⟨rfl, rfl, rfl⟩ | ⟨hlt, rfl, rfl⟩
    all_goals
      go_enter Tryd.func60, Tryd.ntmps60
      go_wp2_with fail
      refine (HP.out _).mono ?_
      rintro e w1 ⟨rfl, hb⟩
      have hk : Below w.heap.size w w1 := by first | exact hb | exact bl_tr (bl_al (bl0 _) _) hb | exact bl_tr (bl_dr (bl_al (bl0 _) _)) hb | exact bl_tr (bl_al (bl_al (bl0 _) _) _) hb | exact bl_tr (bl_dr (bl_al (bl_al (bl0 _) _) _)) hb | exact bl_tr (bl_al (bl_al (bl_al (bl0 _) _) _) _) hb | exact bl_tr (bl_dr (bl_al (bl_al (bl_al (bl0 _) _) _) _)) hb | exact bl_tr (bl_al (bl_al (bl_al (bl_al (bl0 _) _) _) _) _) hb | exact bl_tr (bl_dr (bl_al (bl_al (bl_al (bl_al (bl0 _) _) _) _) _)) hb | exact bl_tr (bl_al (bl_al (bl_al (bl_al (bl_al (bl0 _) _) _) _) _) _) hb | exact bl_tr (bl_dr (bl_al (bl_al (bl_al (bl_al (bl_al (bl0 _) _) _) _) _) _)) hb | exact bl_tr (bl_al (bl_al (bl_al (bl_al (bl_al (bl_al (bl0 _) _) _) _) _) _) _) hb | exact bl_tr (bl_dr (bl_al (bl_al (bl_al (bl_al (bl_al (bl_al (bl0 _) _) _) _) _) _) _)) hb | exact bl_tr (bl_dr (bl0 _)) hb
      replace hA := bl_tr hA hk
      clear hb hk
      go_wp2
      go_ret2
      exact ⟨none, 0, rfl, .inl rfl, bl_al hA _, Nat.le_refl _⟩
  case pos =>
  rw [if_neg (fun h => h hp0)] at hx
  by_cases hq0 : plcX W H S g = 0
  case neg =>
    rw [if_pos hq0] at hx
    obtain ⟨p, hp⟩ : ∃ p, plcV W H S f = p := ⟨_, rfl⟩
    obtain ⟨q, hq⟩ : ∃ q, plcV W H S g = q := ⟨_, rfl⟩
    rw [← hx] at hq0
    rw [hp, hp0] at HP
    rw [hq, ← hx] at HQ
    rw [if_neg hq0] at hl
    subst hl
    have h1 : (X != 0) = true := by rw [bne_iff_ne]; exact hq0
    clear hx hp hp0 hq0 hq
    rcases hmm with ⟨hlt, rfl, rfl⟩ | ⟨rfl, rfl, rfl⟩ | ⟨hlt, rfl, rfl⟩
    all_goals
      go_enter Tryd.func60, Tryd.ntmps60
      go_wp2_with fail
      refine (HP.out _).mono ?_
      rintro e w1 ⟨rfl, hb⟩
      have hk : Below w.heap.size w w1 := by first | exact hb | exact bl_tr (bl_al (bl0 _) _) hb | exact bl_tr (bl_dr (bl_al (bl0 _) _)) hb | exact bl_tr (bl_al (bl_al (bl0 _) _) _) hb | exact bl_tr (bl_dr (bl_al (bl_al (bl0 _) _) _)) hb | exact bl_tr (bl_al (bl_al (bl_al (bl0 _) _) _) _) hb | exact bl_tr (bl_dr (bl_al (bl_al (bl_al (bl0 _) _) _) _)) hb | exact bl_tr (bl_al (bl_al (bl_al (bl_al (bl0 _) _) _) _) _) hb | exact bl_tr (bl_dr (bl_al (bl_al (bl_al (bl_al (bl0 _) _) _) _) _)) hb | exact bl_tr (bl_al (bl_al (bl_al (bl_al (bl_al (bl0 _) _) _) _) _) _) hb | exact bl_tr (bl_dr (bl_al (bl_al (bl_al (bl_al (bl_al (bl0 _) _) _) _) _) _)) hb | exact bl_tr (bl_al (bl_al (bl_al (bl_al (bl_al (bl_al (bl0 _) _) _) _) _) _) _) hb | exact bl_tr (bl_dr (bl_al (bl_al (bl_al (bl_al (bl_al (bl_al (bl0 _) _) _) _) _) _) _)) hb | exact bl_tr (bl_dr (bl0 _)) hb
      replace hA := bl_tr hA hk
      have f0 := cell_later hb (v := .int .i64 W) (a := ⟨w.heap.size, 0, none⟩) (by simp [go_sem])
      have f1 := cell_later hb (v := .int .i64 H) (a := ⟨w.heap.size, 1, none⟩) (by simp [go_sem])
      have f2 := cell_later hb (v := .int .i64 S) (a := ⟨w.heap.size, 2, none⟩) (by simp [go_sem])
      clear hb hk
      have zf0 := blk_lt f0
      have zf1 := blk_lt f1
      have zf2 := blk_lt f2
      go_wp2_with fail
      refine (HQ.out _).mono ?_
      rintro e w2 ⟨rfl, hb⟩
      have hk : Below w1.heap.size w1 w2 := by first | exact hb | exact bl_tr (bl_al (bl0 _) _) hb | exact bl_tr (bl_dr (bl_al (bl0 _) _)) hb | exact bl_tr (bl_al (bl_al (bl0 _) _) _) hb | exact bl_tr (bl_dr (bl_al (bl_al (bl0 _) _) _)) hb | exact bl_tr (bl_al (bl_al (bl_al (bl0 _) _) _) _) hb | exact bl_tr (bl_dr (bl_al (bl_al (bl_al (bl0 _) _) _) _)) hb | exact bl_tr (bl_al (bl_al (bl_al (bl_al (bl0 _) _) _) _) _) hb | exact bl_tr (bl_dr (bl_al (bl_al (bl_al (bl_al (bl0 _) _) _) _) _)) hb | exact bl_tr (bl_al (bl_al (bl_al (bl_al (bl_al (bl0 _) _) _) _) _) _) hb | exact bl_tr (bl_dr (bl_al (bl_al (bl_al (bl_al (bl_al (bl0 _) _) _) _) _) _)) hb | exact bl_tr (bl_al (bl_al (bl_al (bl_al (bl_al (bl_al (bl0 _) _) _) _) _) _) _) hb | exact bl_tr (bl_dr (bl_al (bl_al (bl_al (bl_al (bl_al (bl_al (bl0 _) _) _) _) _) _) _)) hb | exact bl_tr (bl_dr (bl0 _)) hb
      replace hA := bl_tr hA hk
      clear hb hk
      go_wp2
      go_ret2
      exact ⟨none, 0, rfl, .inl rfl, bl_al hA _, Nat.le_refl _⟩
  case pos =>
  rw [if_neg (fun h => h hq0)] at hx
  obtain ⟨hr, d0, d1⟩ := plcX_yes.1 hp0
  have hon := plc_lie hr d0 d1
  obtain ⟨p1, p2, p3, p4, _⟩ := plc_in hr d0 d1
  have e2 : plcV W H S f = plcP W S f := by unfold plcV; rw [if_pos hp0]
  rw [hp0, e2] at HP
  obtain ⟨q, hq⟩ : ∃ q, plcV W H S g = q := ⟨_, rfl⟩
  rw [hq, hq0] at HQ
  obtain ⟨sd, hsd⟩ : ∃ sd, sideP W H S f g = sd := ⟨_, rfl⟩
  rw [hsd] at hx hl
  unfold sideP at hsd
  obtain ⟨p, hp⟩ : ∃ p, plcP W S f = p := ⟨_, rfl⟩
  rw [hp] at hsd hl HP p1 p2 p3 p4 hon
  have HB := Lib.hid (fun (d : Int) (h0 : 0 ≤ d) (h4 : d < 4) b q w (hs : Stp w) => beside1_any W H S p d b q w hs hr hon h0 h4)
  have HE := Lib.hid (fun (ht : toP W H S p 1 = true) w (hs : Stp w) => pairs_east W H S p w hs hr p1 p2 p3 p4 ht)
  have HS := Lib.hid (fun (ht : toP W H S p 2 = true) w (hs : Stp w) => pairs_south W H S p w hs hr p1 p2 p3 p4 ht)
  obtain ⟨t1, ht1⟩ : ∃ t, toP W H S p 1 = t := ⟨_, rfl⟩
  obtain ⟨t2, ht2⟩ : ∃ t, toP W H S p 2 = t := ⟨_, rfl⟩
  have hb1 : besV W H S p 1 = if t1 = true then numP W S (stepI p 1) else 0 := by unfold besV; rw [ht1]
  have hb2 : besV W H S p 2 = if t2 = true then numP W S (stepI p 2) else 0 := by unfold besV; rw [ht2]
  have HB1 := Lib.hid (fun b q w (hs : Stp w) => HB.out 1 (by omega) (by omega) b q w hs)
  have HB2 := Lib.hid (fun b q w (hs : Stp w) => HB.out 2 (by omega) (by omega) b q w hs)
  rw [ht1] at HB1 HE hsd
  rw [ht2] at HB2 HS hsd
  obtain ⟨z1, hz1⟩ : ∃ z, besV W H S p 1 = z := ⟨_, rfl⟩
  obtain ⟨z2, hz2⟩ : ∃ z, besV W H S p 2 = z := ⟨_, rfl⟩
  rw [hz1] at HB1 hb1
  rw [hz2] at HB2 hb2
  generalize numP W S (stepI p 1) = n1 at *
  generalize numP W S (stepI p 2) = n2 at *
  have HX := Lib.hid hx
  have HL := Lib.hid hl
  have HSD := Lib.hid hsd
  have HN1 := Lib.hid hb1
  have HN2 := Lib.hid hb2
  have i0 := tab2_0
  have i1 := tab2_1
  clear hx hl hsd hb1 hb2 hz1 hz2 ht1 ht2 HB hp hq hp0 hq0 hr d0 d1 hon p1 p2 p3 p4 e2
  rcases hmm with ⟨hlt, rfl, rfl⟩ | ⟨rfl, rfl, rfl⟩ | ⟨hlt, rfl, rfl⟩
  all_goals
    go_enter Tryd.func60, Tryd.ntmps60
    go_wp2_with fail
    refine (HP.out _).mono ?_
    rintro e w1 ⟨rfl, hb⟩
    have hk : Below w.heap.size w w1 := by first | exact hb | exact bl_tr (bl_al (bl0 _) _) hb | exact bl_tr (bl_dr (bl_al (bl0 _) _)) hb | exact bl_tr (bl_al (bl_al (bl0 _) _) _) hb | exact bl_tr (bl_dr (bl_al (bl_al (bl0 _) _) _)) hb | exact bl_tr (bl_al (bl_al (bl_al (bl0 _) _) _) _) hb | exact bl_tr (bl_dr (bl_al (bl_al (bl_al (bl0 _) _) _) _)) hb | exact bl_tr (bl_al (bl_al (bl_al (bl_al (bl0 _) _) _) _) _) hb | exact bl_tr (bl_dr (bl_al (bl_al (bl_al (bl_al (bl0 _) _) _) _) _)) hb | exact bl_tr (bl_al (bl_al (bl_al (bl_al (bl_al (bl0 _) _) _) _) _) _) hb | exact bl_tr (bl_dr (bl_al (bl_al (bl_al (bl_al (bl_al (bl0 _) _) _) _) _) _)) hb | exact bl_tr (bl_al (bl_al (bl_al (bl_al (bl_al (bl_al (bl0 _) _) _) _) _) _) _) hb | exact bl_tr (bl_dr (bl_al (bl_al (bl_al (bl_al (bl_al (bl_al (bl0 _) _) _) _) _) _) _)) hb | exact bl_tr (bl_dr (bl0 _)) hb
    replace hA := bl_tr hA hk
    have f0 := cell_later hb (v := .int .i64 W) (a := ⟨w.heap.size, 0, none⟩) (by simp [go_sem])
    have f1 := cell_later hb (v := .int .i64 H) (a := ⟨w.heap.size, 1, none⟩) (by simp [go_sem])
    have f2 := cell_later hb (v := .int .i64 S) (a := ⟨w.heap.size, 2, none⟩) (by simp [go_sem])
    clear hb hk
    have zf0 := blk_lt f0
    have zf1 := blk_lt f1
    have zf2 := blk_lt f2
    go_wp2_with fail
    refine (HQ.out _).mono ?_
    rintro e w2 ⟨rfl, hb⟩
    have hk : Below w1.heap.size w1 w2 := by first | exact hb | exact bl_tr (bl_al (bl0 _) _) hb | exact bl_tr (bl_dr (bl_al (bl0 _) _)) hb | exact bl_tr (bl_al (bl_al (bl0 _) _) _) hb | exact bl_tr (bl_dr (bl_al (bl_al (bl0 _) _) _)) hb | exact bl_tr (bl_al (bl_al (bl_al (bl0 _) _) _) _) hb | exact bl_tr (bl_dr (bl_al (bl_al (bl_al (bl0 _) _) _) _)) hb | exact bl_tr (bl_al (bl_al (bl_al (bl_al (bl0 _) _) _) _) _) hb | exact bl_tr (bl_dr (bl_al (bl_al (bl_al (bl_al (bl0 _) _) _) _) _)) hb | exact bl_tr (bl_al (bl_al (bl_al (bl_al (bl_al (bl0 _) _) _) _) _) _) hb | exact bl_tr (bl_dr (bl_al (bl_al (bl_al (bl_al (bl_al (bl0 _) _) _) _) _) _)) hb | exact bl_tr (bl_al (bl_al (bl_al (bl_al (bl_al (bl_al (bl0 _) _) _) _) _) _) _) hb | exact bl_tr (bl_dr (bl_al (bl_al (bl_al (bl_al (bl_al (bl_al (bl0 _) _) _) _) _) _) _)) hb | exact bl_tr (bl_dr (bl0 _)) hb
    replace hA := bl_tr hA hk
    replace f0 := cell_later hk f0
    replace f1 := cell_later hk f1
    replace f2 := cell_later hk f2
    have k0 := cell_later hb (v := .int .i64 p.1) (a := ⟨w1.heap.size, 0, none⟩) (by simp [go_sem])
    have k1 := cell_later hb (v := .int .i64 p.2) (a := ⟨w1.heap.size, 1, none⟩) (by simp [go_sem])
    clear hb hk
    have zf0 := blk_lt f0
    have zf1 := blk_lt f1
    have zf2 := blk_lt f2
    have zk0 := blk_lt k0
    have zk1 := blk_lt k1
    go_wp2_with fail
    refine (beside_mk W H S p _).mono ?_
    rintro e w3 ⟨rfl, hq, hb⟩
    have hk : Below w2.heap.size w2 w3 := bl_tr (bl_al (bl0 _) _) hb
    replace hA := bl_tr hA hk
    replace f0 := cell_later hk f0; replace f1 := cell_later hk f1; replace f2 := cell_later hk f2
    replace k0 := cell_later hk k0; replace k1 := cell_later hk k1
    have zk := blk_lt k0
    have zf := blk_lt f0
    clear hb hk
    rw [World.size_alloc] at hq
    have HA := Lib.hid hA
    have HQQ := Lib.hid hq
    have F0 := Lib.hid f0; have F1 := Lib.hid f1; have F2 := Lib.hid f2; have K0 := Lib.hid k0; have K1 := Lib.hid k1
    go_wp2_with fail
    clear hA hq f0 f1 f2 k0 k1 zk zf zf0 zf1 zf2 zk0 zk1
    go_loopw [16, 17, 18, 47] (fun _ _ _ i wr => ∃ k : Nat, k ≤ 2 ∧ i = .int .i64 k ∧ (0 < k → ¬ (t1 = true ∧ n1 = g)) ∧ (1 < k → ¬ (t2 = true ∧ n2 = g)) ∧ Below w3.heap.size w3 wr) (fun _ _ _ i _ => 2 - (intOf i).toNat)
    case atStart => exact ⟨0, by omega, rfl, fun h => absurd h (by omega), fun h => absurd h (by omega), bl0 _⟩
    case round =>
      obtain ⟨k, hk, rfl, hn1, hn2, hB⟩ := hrel
      have hA := bl_tr HA.out hB
      have f0 := cell_later hB F0.out; have f1 := cell_later hB F1.out; have f2 := cell_later hB F2.out; have k0 := cell_later hB K0.out; have k1 := cell_later hB K1.out
      have zf := blk_lt f0
      have zk := blk_lt k0
      have HN3 := Lib.hid hn1
      have HN4 := Lib.hid hn2
      have HBB := Lib.hid hB
      have hsr := hs.below hA
      have hq := HQQ.out.below hB
      clear hn1 hn2 hB
      obtain rfl | rfl | rfl : k = 0 ∨ k = 1 ∨ k = 2 := by omega
      · go_wp2_with fail
        refine (HB1.out _ _ _ hsr hq).mono ?_
        rintro e w4 ⟨rfl, hb⟩
        replace hA := bl_tr hA hb
        have hB4 := bl_tr HBB.out hb
        replace f0 := cell_later hb f0; replace f1 := cell_later hb f1; replace f2 := cell_later hb f2; replace k0 := cell_later hb k0; replace k1 := cell_later hb k1
        replace zf := blk_lt f0
        replace zk := blk_lt k0
        have hsr4 := hs.below hA
        clear hb hsr hq HBB
        cases t1
        · go_wp2
          go_roundw
          case rel => exact ⟨1, by omega, by go_num, (fun _ h => by simp at h), (fun h => absurd h (by omega)), hB4⟩
          case measure => simp [intOf]
        · have hz := HN1.out
          rw [if_pos rfl] at hz
          by_cases hng : n1 = g
          · have hz2 : (z1 == g) = true := by rw [hz, beq_iff_eq]; exact hng
            have hx := HX.out
            have hl := HL.out
            have hsd := HSD.out
            rw [if_pos ⟨rfl, hng⟩] at hsd
            subst hsd
            rw [if_neg (by decide)] at hx
            subst hx
            rw [if_pos rfl] at hl
            have HLL := Lib.hid hl
            clear hl hng hz
            go_wp2_with fail
            refine (HE.out (by trivial) _ hsr4).mono ?_
            rintro e w5 ⟨va, vc, rfl, hrow, hb, hcl⟩
            have hA5 := bl_tr hA hb
            have HR := Lib.hid (show ∀ e, e = Ending.returned (.tuple #[.slice va (prsP W H S p 1).length vc, .int .i64 0]) → BorR 0 L w e w5 from fun e he => ⟨va, vc, by rw [he, HLL.out], by rw [HLL.out]; exact hrow, hA5, by rw [HLL.out]; exact hcl⟩)
            obtain ⟨n, hn⟩ : ∃ n, (prsP W H S p 1).length = n := ⟨_, rfl⟩
            rw [hn] at HR ⊢
            clear hn hrow hb hcl
            go_wp2
            go_ret2
            exact HR.out _ rfl
          · have hz2 : (z1 == g) = false := by rw [hz, beq_eq_false_iff_ne]; exact hng
            clear hz
            go_wp2
            go_roundw
            case rel => exact ⟨1, by omega, by go_num, (fun _ h => hng h.2), (fun h => absurd h (by omega)), hB4⟩
            case measure => simp [intOf]
      · go_wp2_with fail
        refine (HB2.out _ _ _ hsr hq).mono ?_
        rintro e w4 ⟨rfl, hb⟩
        replace hA := bl_tr hA hb
        have hB4 := bl_tr HBB.out hb
        replace f0 := cell_later hb f0; replace f1 := cell_later hb f1; replace f2 := cell_later hb f2; replace k0 := cell_later hb k0; replace k1 := cell_later hb k1
        replace zf := blk_lt f0
        replace zk := blk_lt k0
        have hsr4 := hs.below hA
        clear hb hsr hq HBB
        cases t2
        · go_wp2
          go_roundw
          case rel => exact ⟨2, by omega, by go_num, (fun _ => HN3.out (by omega)), (fun _ h => by simp at h), hB4⟩
          case measure => simp [intOf]
        · have hz := HN2.out
          rw [if_pos rfl] at hz
          by_cases hng : n2 = g
          · have hz2 : (z2 == g) = true := by rw [hz, beq_iff_eq]; exact hng
            have hx := HX.out
            have hl := HL.out
            have hne := HN3.out (by omega)
            have hsd := HSD.out
            rw [if_neg hne, if_pos ⟨rfl, hng⟩] at hsd
            subst hsd
            rw [if_neg (by decide)] at hx
            subst hx
            rw [if_pos rfl] at hl
            have HLL := Lib.hid hl
            clear hl hng hz hne
            go_wp2_with fail
            refine (HS.out (by trivial) _ hsr4).mono ?_
            rintro e w5 ⟨va, vc, rfl, hrow, hb, hcl⟩
            have hA5 := bl_tr hA hb
            have HR := Lib.hid (show ∀ e, e = Ending.returned (.tuple #[.slice va (prsP W H S p 2).length vc, .int .i64 0]) → BorR 0 L w e w5 from fun e he => ⟨va, vc, by rw [he, HLL.out], by rw [HLL.out]; exact hrow, hA5, by rw [HLL.out]; exact hcl⟩)
            obtain ⟨n, hn⟩ : ∃ n, (prsP W H S p 2).length = n := ⟨_, rfl⟩
            rw [hn] at HR ⊢
            clear hn hrow hb hcl
            go_wp2
            go_ret2
            exact HR.out _ rfl
          · have hz2 : (z2 == g) = false := by rw [hz, beq_eq_false_iff_ne]; exact hng
            clear hz
            go_wp2
            go_roundw
            case rel => exact ⟨2, by omega, by go_num, (fun _ => HN3.out (by omega)), (fun _ h => hng h.2), hB4⟩
            case measure => simp [intOf]
      · have hx := HX.out
        have hl := HL.out
        have hn1 := HN3.out (by omega)
        have hn2 := HN4.out (by omega)
        have hsd := HSD.out
        rw [if_neg hn1, if_neg hn2] at hsd
        subst hsd
        rw [if_pos rfl] at hx
        subst hx
        rw [if_neg (by decide)] at hl
        subst hl
        clear hn1 hn2
        go_wp2
        go_ret2
        exact ⟨none, 0, rfl, .inl rfl, hA, Nat.le_refl _⟩
end Go.Proofs.YtbdfjdipjacamaaDoor
