/- StarMore: the law's walk. -/
import Derived.Test.YtldpajfendkhbaaDoorNt
import Derived.Test.YtldpajfendkhbaaDoorNu
namespace Go.Proofs.YtldpajfendkhbaaDoor
open Go.RowKit

/-- The field that is turned: its row is one's own, its box lies apart. -/
def MoreC (W : World) (A H : Int) (zs : List Int) (fb : Nat) (wx : World) : Prop :=
  ∃ ga gc, wx.cell? ⟨fb, 0, none⟩ = some (.int .i64 A) ∧ wx.cell? ⟨fb, 1, none⟩ = some (.int .i64 H) ∧ wx.cell? ⟨fb, 2, none⟩ = some (.slice ga zs.length gc) ∧ wx.ownsRow W.heap.size 50 1 (.slice ga zs.length gc) zs.length (cellsHH zs) ∧ W.heap.size ≤ fb ∧ (Value.slice ga zs.length gc).ownBlock ≠ some fb ∧ Below W.heap.size W wx

theorem own_ne_type {W : World} {B size n fb : Nat} {e t : TypeId} {v : Value} {xs : List Value} {cs : Array Value} (h : W.ownsRow B e size v n xs) (hq : W.heap[fb]? = some (.cells cs t (0, 0))) (hne : e ≠ t) : v.ownBlock ≠ some fb := by
  intro hb
  rcases h.2 with ⟨rfl, _⟩ | ⟨g, cap, cur, rfl, _, hg, _⟩
  · cases hb
  · cases hb
    rw [hg] at hq
    simp only [Option.some.injEq, Obj.cells.injEq] at hq
    exact hne hq.2.1
theorem moreC_new {W w' : World} {A H : Int} {zs : List Int} {ga : Option Addr} {gc : Nat} (hown : w'.ownsRow W.heap.size 50 1 (.slice ga zs.length gc) zs.length (cellsHH zs)) (hb : Below W.heap.size W w') :
    MoreC W A H zs w'.heap.size (w'.alloc (.cells #[.int .i64 A, .int .i64 H, .slice ga zs.length gc] 26)) :=
  ⟨ga, gc, by simp [go_sem], by simp [go_sem], by simp [go_sem], own_later hown (bl_al (bl0 _) _), hb.size, fun e => by have := (hown.lt _ e).2; omega, bl_al hb _⟩
theorem moreC_set {W V : World} {A H : Int} {zs : List Int} {ga : Option Addr} {gc fb : Nat} {z0 z1 z2 : Value} {t : TypeId} (hown : V.ownsRow W.heap.size 50 1 (.slice ga zs.length gc) zs.length (cellsHH zs)) (hb : Below W.heap.size W V) (hq : V.heap[fb]? = some (.cells #[z0, z1, z2] t (0, 0))) (hfb : W.heap.size ≤ fb) (hne : (Value.slice ga zs.length gc).ownBlock ≠ some fb) :
    MoreC W A H zs fb (((V.setCell ⟨fb, 0, none⟩ (.int .i64 A)).setCell ⟨fb, 1, none⟩ (.int .i64 H)).setCell ⟨fb, 2, none⟩ (.slice ga zs.length gc)) := by
  have h1 := hset_same V fb 0 _ _ (.int .i64 A) hq
  have h2 := hset_same _ fb 1 _ _ (.int .i64 H) h1
  have h3 := hset_same _ fb 2 _ _ (.slice ga zs.length gc) h2
  have hk : ∀ (X : World) (o : Nat) (u : Value), X.ownsRow W.heap.size 50 1 (.slice ga zs.length gc) zs.length (cellsHH zs) → (X.setCell ⟨fb, o, none⟩ u).ownsRow W.heap.size 50 1 (.slice ga zs.length gc) zs.length (cellsHH zs) := fun X o u h =>
    (KeptS.of_grown (S := fun x => x = fb) (hgrown_set X fb o u) (fun x e _ => by cases e; rfl)).own h (fun g hg q => hne (by rw [hg, q]))
  refine ⟨ga, gc, ?_, ?_, ?_, hk _ _ _ (hk _ _ _ (hk _ _ _ hown)), hfb, hne, bl_st (bl_st (bl_st hb hfb _) hfb _) hfb _⟩
  all_goals simp [World.cell?, h3]

set_option maxRecDepth 100000 in
set_option maxHeartbeats 8000000 in
theorem smore_walk (A H : Int) (a : Option Addr) (cap : Nat) (zs : List Int) (F T : IC) (budget at_ by_ : Int) (w : World) (hr : RowH w a zs) (hz : AllH zs) (hs : Stp w) :
    Calls Tryd.prog 8 #[.agg #[.int .i64 A, .int .i64 H, .slice a zs.length cap], .agg #[.int .i64 F.1, .int .i64 F.2, .int .i64 T.1, .int .i64 T.2, .int .i64 budget], .agg #[.int .i64 at_, .int .i64 by_]] w fun e w' => e = .returned (.bool true) ∧ Below w.heap.size w w' := by
  have hA := bl0 w
  by_cases hsm : zs.length ≤ 150 ∧ 1 ≤ zs.length ∧ 1 ≤ A
  case neg =>
    obtain ⟨t, ht⟩ : ∃ t, decide (zs.length ≤ 150) = t := ⟨_, rfl⟩
    have HS := Lib.hid (fun w => small10_any A H a zs.length cap w)
    rw [ht] at HS
    by_cases h1 : zs.length ≤ 150
    · rw [decide_eq_true h1] at ht
      subst ht
      by_cases h2 : (zs.length : Int) < 1
      · have d1 : decide ((zs.length : Int) < 1) = true := decide_eq_true h2
        clear hsm h1 h2
        go_enter Tryd.func8, Tryd.ntmps8
        go_wp2_with fail
        refine (HS.out _).mono ?_
        rintro e w1 ⟨rfl, hb⟩
        have hk : Below w.heap.size w w1 := by first | exact hb | exact bl_tr (bl_al (bl0 _) _) hb | exact bl_tr (bl_dr (bl_al (bl0 _) _)) hb | exact bl_tr (bl_al (bl_al (bl0 _) _) _) hb | exact bl_tr (bl_dr (bl_al (bl_al (bl0 _) _) _)) hb | exact bl_tr (bl_al (bl_al (bl_al (bl0 _) _) _) _) hb | exact bl_tr (bl_dr (bl_al (bl_al (bl_al (bl0 _) _) _) _)) hb | exact bl_tr (bl_al (bl_al (bl_al (bl_al (bl0 _) _) _) _) _) hb | exact bl_tr (bl_dr (bl_al (bl_al (bl_al (bl_al (bl0 _) _) _) _) _)) hb | exact bl_tr (bl_al (bl_al (bl_al (bl_al (bl_al (bl0 _) _) _) _) _) _) hb | exact bl_tr (bl_dr (bl_al (bl_al (bl_al (bl_al (bl_al (bl0 _) _) _) _) _) _)) hb | exact bl_tr (bl_al (bl_al (bl_al (bl_al (bl_al (bl_al (bl0 _) _) _) _) _) _) _) hb | exact bl_tr (bl_dr (bl_al (bl_al (bl_al (bl_al (bl_al (bl_al (bl0 _) _) _) _) _) _) _)) hb | exact bl_tr (bl_dr (bl0 _)) hb
        replace hA := bl_tr hA hk
        have f0 := cell_later hb (v := .int .i64 A) (a := ⟨w.heap.size, 0, none⟩) (by simp [go_sem])
        have f1 := cell_later hb (v := .int .i64 H) (a := ⟨w.heap.size, 1, none⟩) (by simp [go_sem])
        have f2 := cell_later hb (v := .slice a zs.length cap) (a := ⟨w.heap.size, 2, none⟩) (by simp [go_sem])
        clear hb hk
        have zf0 := blk_lt f0
        have zf1 := blk_lt f1
        have zf2 := blk_lt f2
        go_wp2_with fail
        refine (awake10 _ (hs.below hA)).mono ?_
        rintro e w2 ⟨rfl, hb⟩
        have hk : Below w1.heap.size w1 w2 := by first | exact hb | exact bl_tr (bl_al (bl0 _) _) hb | exact bl_tr (bl_dr (bl_al (bl0 _) _)) hb | exact bl_tr (bl_al (bl_al (bl0 _) _) _) hb | exact bl_tr (bl_dr (bl_al (bl_al (bl0 _) _) _)) hb | exact bl_tr (bl_al (bl_al (bl_al (bl0 _) _) _) _) hb | exact bl_tr (bl_dr (bl_al (bl_al (bl_al (bl0 _) _) _) _)) hb | exact bl_tr (bl_al (bl_al (bl_al (bl_al (bl0 _) _) _) _) _) hb | exact bl_tr (bl_dr (bl_al (bl_al (bl_al (bl_al (bl0 _) _) _) _) _)) hb | exact bl_tr (bl_al (bl_al (bl_al (bl_al (bl_al (bl0 _) _) _) _) _) _) hb | exact bl_tr (bl_dr (bl_al (bl_al (bl_al (bl_al (bl_al (bl0 _) _) _) _) _) _)) hb | exact bl_tr (bl_al (bl_al (bl_al (bl_al (bl_al (bl_al (bl0 _) _) _) _) _) _) _) hb | exact bl_tr (bl_dr (bl_al (bl_al (bl_al (bl_al (bl_al (bl_al (bl0 _) _) _) _) _) _) _)) hb | exact bl_tr (bl_dr (bl0 _)) hb
        replace hA := bl_tr hA hk
        clear hb hk
        go_wp2
        go_ret
        exact ⟨rfl, hA⟩
      · have d1 : decide ((zs.length : Int) < 1) = false := decide_eq_false h2
        have d2 : decide (A < 1) = true := decide_eq_true (by omega)
        clear hsm h1 h2
        go_enter Tryd.func8, Tryd.ntmps8
        go_wp2_with fail
        refine (HS.out _).mono ?_
        rintro e w1 ⟨rfl, hb⟩
        have hk : Below w.heap.size w w1 := by first | exact hb | exact bl_tr (bl_al (bl0 _) _) hb | exact bl_tr (bl_dr (bl_al (bl0 _) _)) hb | exact bl_tr (bl_al (bl_al (bl0 _) _) _) hb | exact bl_tr (bl_dr (bl_al (bl_al (bl0 _) _) _)) hb | exact bl_tr (bl_al (bl_al (bl_al (bl0 _) _) _) _) hb | exact bl_tr (bl_dr (bl_al (bl_al (bl_al (bl0 _) _) _) _)) hb | exact bl_tr (bl_al (bl_al (bl_al (bl_al (bl0 _) _) _) _) _) hb | exact bl_tr (bl_dr (bl_al (bl_al (bl_al (bl_al (bl0 _) _) _) _) _)) hb | exact bl_tr (bl_al (bl_al (bl_al (bl_al (bl_al (bl0 _) _) _) _) _) _) hb | exact bl_tr (bl_dr (bl_al (bl_al (bl_al (bl_al (bl_al (bl0 _) _) _) _) _) _)) hb | exact bl_tr (bl_al (bl_al (bl_al (bl_al (bl_al (bl_al (bl0 _) _) _) _) _) _) _) hb | exact bl_tr (bl_dr (bl_al (bl_al (bl_al (bl_al (bl_al (bl_al (bl0 _) _) _) _) _) _) _)) hb | exact bl_tr (bl_dr (bl0 _)) hb
        replace hA := bl_tr hA hk
        have f0 := cell_later hb (v := .int .i64 A) (a := ⟨w.heap.size, 0, none⟩) (by simp [go_sem])
        have f1 := cell_later hb (v := .int .i64 H) (a := ⟨w.heap.size, 1, none⟩) (by simp [go_sem])
        have f2 := cell_later hb (v := .slice a zs.length cap) (a := ⟨w.heap.size, 2, none⟩) (by simp [go_sem])
        clear hb hk
        have zf0 := blk_lt f0
        have zf1 := blk_lt f1
        have zf2 := blk_lt f2
        go_wp2_with fail
        refine (awake10 _ (hs.below hA)).mono ?_
        rintro e w2 ⟨rfl, hb⟩
        have hk : Below w1.heap.size w1 w2 := by first | exact hb | exact bl_tr (bl_al (bl0 _) _) hb | exact bl_tr (bl_dr (bl_al (bl0 _) _)) hb | exact bl_tr (bl_al (bl_al (bl0 _) _) _) hb | exact bl_tr (bl_dr (bl_al (bl_al (bl0 _) _) _)) hb | exact bl_tr (bl_al (bl_al (bl_al (bl0 _) _) _) _) hb | exact bl_tr (bl_dr (bl_al (bl_al (bl_al (bl0 _) _) _) _)) hb | exact bl_tr (bl_al (bl_al (bl_al (bl_al (bl0 _) _) _) _) _) hb | exact bl_tr (bl_dr (bl_al (bl_al (bl_al (bl_al (bl0 _) _) _) _) _)) hb | exact bl_tr (bl_al (bl_al (bl_al (bl_al (bl_al (bl0 _) _) _) _) _) _) hb | exact bl_tr (bl_dr (bl_al (bl_al (bl_al (bl_al (bl_al (bl0 _) _) _) _) _) _)) hb | exact bl_tr (bl_al (bl_al (bl_al (bl_al (bl_al (bl_al (bl0 _) _) _) _) _) _) _) hb | exact bl_tr (bl_dr (bl_al (bl_al (bl_al (bl_al (bl_al (bl_al (bl0 _) _) _) _) _) _) _)) hb | exact bl_tr (bl_dr (bl0 _)) hb
        replace hA := bl_tr hA hk
        clear hb hk
        go_wp2
        go_ret
        exact ⟨rfl, hA⟩
    · rw [decide_eq_false h1] at ht
      subst ht
      clear hsm h1
      go_enter Tryd.func8, Tryd.ntmps8
      go_wp2_with fail
      refine (HS.out _).mono ?_
      rintro e w1 ⟨rfl, hb⟩
      have hk : Below w.heap.size w w1 := by first | exact hb | exact bl_tr (bl_al (bl0 _) _) hb | exact bl_tr (bl_dr (bl_al (bl0 _) _)) hb | exact bl_tr (bl_al (bl_al (bl0 _) _) _) hb | exact bl_tr (bl_dr (bl_al (bl_al (bl0 _) _) _)) hb | exact bl_tr (bl_al (bl_al (bl_al (bl0 _) _) _) _) hb | exact bl_tr (bl_dr (bl_al (bl_al (bl_al (bl0 _) _) _) _)) hb | exact bl_tr (bl_al (bl_al (bl_al (bl_al (bl0 _) _) _) _) _) hb | exact bl_tr (bl_dr (bl_al (bl_al (bl_al (bl_al (bl0 _) _) _) _) _)) hb | exact bl_tr (bl_al (bl_al (bl_al (bl_al (bl_al (bl0 _) _) _) _) _) _) hb | exact bl_tr (bl_dr (bl_al (bl_al (bl_al (bl_al (bl_al (bl0 _) _) _) _) _) _)) hb | exact bl_tr (bl_al (bl_al (bl_al (bl_al (bl_al (bl_al (bl0 _) _) _) _) _) _) _) hb | exact bl_tr (bl_dr (bl_al (bl_al (bl_al (bl_al (bl_al (bl_al (bl0 _) _) _) _) _) _) _)) hb | exact bl_tr (bl_dr (bl0 _)) hb
      replace hA := bl_tr hA hk
      clear hb hk
      go_wp2_with fail
      refine (awake10 _ (hs.below hA)).mono ?_
      rintro e w2 ⟨rfl, hb⟩
      have hk : Below w1.heap.size w1 w2 := by first | exact hb | exact bl_tr (bl_al (bl0 _) _) hb | exact bl_tr (bl_dr (bl_al (bl0 _) _)) hb | exact bl_tr (bl_al (bl_al (bl0 _) _) _) hb | exact bl_tr (bl_dr (bl_al (bl_al (bl0 _) _) _)) hb | exact bl_tr (bl_al (bl_al (bl_al (bl0 _) _) _) _) hb | exact bl_tr (bl_dr (bl_al (bl_al (bl_al (bl0 _) _) _) _)) hb | exact bl_tr (bl_al (bl_al (bl_al (bl_al (bl0 _) _) _) _) _) hb | exact bl_tr (bl_dr (bl_al (bl_al (bl_al (bl_al (bl0 _) _) _) _) _)) hb | exact bl_tr (bl_al (bl_al (bl_al (bl_al (bl_al (bl0 _) _) _) _) _) _) hb | exact bl_tr (bl_dr (bl_al (bl_al (bl_al (bl_al (bl_al (bl0 _) _) _) _) _) _)) hb | exact bl_tr (bl_al (bl_al (bl_al (bl_al (bl_al (bl_al (bl0 _) _) _) _) _) _) _) hb | exact bl_tr (bl_dr (bl_al (bl_al (bl_al (bl_al (bl_al (bl_al (bl0 _) _) _) _) _) _) _)) hb | exact bl_tr (bl_dr (bl0 _)) hb
      replace hA := bl_tr hA hk
      clear hb hk
      go_wp2
      go_ret
      exact ⟨rfl, hA⟩
  case pos =>
  obtain ⟨hs1, hs2, hs3⟩ := hsm
  have hd : decide (zs.length ≤ 150) = true := decide_eq_true hs1
  have d1 : decide ((zs.length : Int) < 1) = false := decide_eq_false (by omega)
  have d2 : decide (A < 1) = false := decide_eq_false (by omega)
  -- the number of the cell
  have m0 := Int.emod_nonneg at_ (show (zs.length : Int) ≠ 0 by omega)
  have m1 := Int.emod_lt_of_pos at_ (show (0 : Int) < (zs.length : Int) by omega)
  have t0 := Int.tmod_lt_of_pos at_ (show (0 : Int) < (zs.length : Int) by omega)
  have t1 : -(zs.length : Int) < at_.tmod (zs.length : Int) := by
    rcases Int.le_total 0 at_ with h | h
    · have := Int.tmod_nonneg (zs.length : Int) h; omega
    · have := Int.tmod_lt_of_pos (-at_) (show (0 : Int) < (zs.length : Int) by omega)
      rw [Int.neg_tmod] at this
      omega
  obtain ⟨r, hr0⟩ : ∃ r, at_.tmod (zs.length : Int) = r := ⟨_, rfl⟩
  rw [hr0] at t0 t1
  obtain ⟨n, hnn⟩ : ∃ n : Nat, (r + (zs.length : Int)).tmod (zs.length : Int) = (n : Int) := ⟨((r + (zs.length : Int)).tmod (zs.length : Int)).toNat, by have := Int.tmod_nonneg (zs.length : Int) (show 0 ≤ r + (zs.length : Int) by omega); omega⟩
  have hnl : (n : Int) < (zs.length : Int) := by rw [← hnn]; exact Int.tmod_lt_of_pos _ (by omega)
  have w1' : IntKind.i64.wrap r = r := IntWalk.i64_in _ (by omega)
  have w2' : IntKind.i64.wrap (r + (zs.length : Int)) = r + (zs.length : Int) := IntWalk.i64_in _ (by omega)
  have w3' : IntKind.i64.wrap (n : Int) = (n : Int) := IntWalk.i64_in _ (by omega)
  have e0 : (zs.length : Int) ≠ 0 := by omega
  have e1 : ((zs.length : Int) == 0) = false := by rw [beq_eq_false_iff_ne]; exact e0
  go_enter Tryd.func8, Tryd.ntmps8
  go_wp2_with fail
  refine (small10_any _ _ _ _ _ _).mono ?_
  rintro e w1 ⟨rfl, hb⟩
  have hk : Below w.heap.size w w1 := by first | exact hb | exact bl_tr (bl_al (bl0 _) _) hb | exact bl_tr (bl_dr (bl_al (bl0 _) _)) hb | exact bl_tr (bl_al (bl_al (bl0 _) _) _) hb | exact bl_tr (bl_dr (bl_al (bl_al (bl0 _) _) _)) hb | exact bl_tr (bl_al (bl_al (bl_al (bl0 _) _) _) _) hb | exact bl_tr (bl_dr (bl_al (bl_al (bl_al (bl0 _) _) _) _)) hb | exact bl_tr (bl_al (bl_al (bl_al (bl_al (bl0 _) _) _) _) _) hb | exact bl_tr (bl_dr (bl_al (bl_al (bl_al (bl_al (bl0 _) _) _) _) _)) hb | exact bl_tr (bl_al (bl_al (bl_al (bl_al (bl_al (bl0 _) _) _) _) _) _) hb | exact bl_tr (bl_dr (bl_al (bl_al (bl_al (bl_al (bl_al (bl0 _) _) _) _) _) _)) hb | exact bl_tr (bl_al (bl_al (bl_al (bl_al (bl_al (bl_al (bl0 _) _) _) _) _) _) _) hb | exact bl_tr (bl_dr (bl_al (bl_al (bl_al (bl_al (bl_al (bl_al (bl0 _) _) _) _) _) _) _)) hb | exact bl_tr (bl_dr (bl0 _)) hb
  replace hA := bl_tr hA hk
  have f0 := cell_later hb (v := .int .i64 A) (a := ⟨w.heap.size, 0, none⟩) (by simp [go_sem])
  have f1 := cell_later hb (v := .int .i64 H) (a := ⟨w.heap.size, 1, none⟩) (by simp [go_sem])
  have f2 := cell_later hb (v := .slice a zs.length cap) (a := ⟨w.heap.size, 2, none⟩) (by simp [go_sem])
  have x0 := cell_later hb (v := .int .i64 F.1) (a := ⟨w.heap.size + 1, 0, none⟩) (by simp [go_sem])
  have x1 := cell_later hb (v := .int .i64 F.2) (a := ⟨w.heap.size + 1, 1, none⟩) (by simp [go_sem])
  have x2 := cell_later hb (v := .int .i64 T.1) (a := ⟨w.heap.size + 1, 2, none⟩) (by simp [go_sem])
  have x3 := cell_later hb (v := .int .i64 T.2) (a := ⟨w.heap.size + 1, 3, none⟩) (by simp [go_sem])
  have x4 := cell_later hb (v := .int .i64 budget) (a := ⟨w.heap.size + 1, 4, none⟩) (by simp [go_sem])
  have y0 := cell_later hb (v := .int .i64 at_) (a := ⟨w.heap.size + 1 + 1, 0, none⟩) (by simp [go_sem])
  have y1 := cell_later hb (v := .int .i64 by_) (a := ⟨w.heap.size + 1 + 1, 1, none⟩) (by simp [go_sem])
  clear hb hk
  have zf0 := blk_lt f0
  have zf1 := blk_lt f1
  have zf2 := blk_lt f2
  have zx0 := blk_lt x0
  have zx1 := blk_lt x1
  have zx2 := blk_lt x2
  have zx3 := blk_lt x3
  have zx4 := blk_lt x4
  have zy0 := blk_lt y0
  have zy1 := blk_lt y1
  rw [hd]
  go_upto_region 3 with fail
  go_quiet (fail)
  go_upto_region 4 with fail
  obtain ⟨W2, hW2⟩ : ∃ W2, w1.drewN nq = W2 := ⟨_, rfl⟩
  have hdr := bl_drn w1 nq
  rw [hW2] at hdr ⊢
  clear hW2
  replace hA := bl_tr hA hdr
  replace f0 := cell_later hdr f0
  replace f1 := cell_later hdr f1
  replace f2 := cell_later hdr f2
  replace x0 := cell_later hdr x0
  replace x1 := cell_later hdr x1
  replace x2 := cell_later hdr x2
  replace x3 := cell_later hdr x3
  replace y0 := cell_later hdr y0
  replace y1 := cell_later hdr y1
  clear hdr x4 zx4 m0 m1 t0 t1 hr0 hnn w1' w2' w3' e0 e1 d1 d2 hd
  have hrW := hr.below hA
  have hAW := Lib.hid hA
  have HRW := Lib.hid hrW
  have hzy2 := blk_lt y0
  go_cut [8] from 45 to 51 (fun s wx => ∃ fb, s = .pointer (some ⟨fb, 0, none⟩) ∧ MoreC W2 A H zs fb wx)
  case first =>
    have hD := bl_dr (bl0 W2)
    have hFA := Lib.hid (fun W (h : Below W2.heap.size W2 W) => (show W.cell? ⟨w.heap.size, 0, none⟩ = some (.int .i64 A) ∧ W.cell? ⟨w.heap.size, 1, none⟩ = some (.int .i64 H) ∧ W.cell? ⟨w.heap.size, 2, none⟩ = some (.slice a zs.length cap) from ⟨cell_later h f0, cell_later h f1, cell_later h f2⟩))
    refine (wpIn_wide (n := 11)).1 ?_
    refine ordS_begin (S := (fun W9 : World => W9.cell? ⟨w.heap.size, 0, none⟩ = some (.int .i64 A) ∧ W9.cell? ⟨w.heap.size, 1, none⟩ = some (.int .i64 H) ∧ W9.cell? ⟨w.heap.size, 2, none⟩ = some (.slice a zs.length cap))) (by kernel_rfl) (hFA.out _ hD) (fun hH => ?_)
    refine' ordS_take (i := 0) (oi := { dst := some 45, op := Op.fieldAddr 26 (Operand.tmp 3) 0, type := 0, pos := _, after := #[], guard := none }) (v := _) rfl (by kernel_rfl) (by kernel_rfl) (by kernel_rfl) (by kernel_rfl) (fun _ _ _ h => h) (by assumption) (Or.inl ⟨by rfl, ?hy137⟩) (fun _ => rfl) ?rest137
    case hy137 => (intro w hSw; (try dsimp only at hSw); go_simp; try with_reducible rfl)
    try simp only [Act.put, List.setIfInBounds_toArray, List.set_cons_zero, List.set_cons_succ]
    refine' ordS_take (i := 1) (oi := { dst := some 46, op := Op.load 23 (Operand.tmp 45), type := 23, pos := _, after := #[{ on := 0, ground := Ground.data }], guard := none }) (v := _) rfl (by kernel_rfl) (by kernel_rfl) (by kernel_rfl) (by kernel_rfl) (fun _ _ _ h => h) (by assumption) (Or.inl ⟨by rfl, ?hy138⟩) (fun _ => rfl) ?rest138
    case hy138 => (intro w hSw; (try dsimp only at hSw); go_simp; try with_reducible rfl)
    try simp only [Act.put, List.setIfInBounds_toArray, List.set_cons_zero, List.set_cons_succ]
    refine' ordS_take (i := 3) (oi := { dst := some 48, op := Op.fieldAddr 26 (Operand.tmp 3) 1, type := 0, pos := _, after := #[], guard := none }) (v := _) rfl (by kernel_rfl) (by kernel_rfl) (by kernel_rfl) (by kernel_rfl) (fun _ _ _ h => h) (by assumption) (Or.inl ⟨by rfl, ?hy139⟩) (fun _ => rfl) ?rest139
    case hy139 => (intro w hSw; (try dsimp only at hSw); go_simp; try with_reducible rfl)
    try simp only [Act.put, List.setIfInBounds_toArray, List.set_cons_zero, List.set_cons_succ]
    refine' ordS_take (i := 4) (oi := { dst := some 49, op := Op.load 24 (Operand.tmp 48), type := 24, pos := _, after := #[{ on := 3, ground := Ground.data }], guard := none }) (v := _) rfl (by kernel_rfl) (by kernel_rfl) (by kernel_rfl) (by kernel_rfl) (fun _ _ _ h => h) (by assumption) (Or.inl ⟨by rfl, ?hy140⟩) (fun _ => rfl) ?rest140
    case hy140 => (intro w hSw; (try dsimp only at hSw); go_simp; try with_reducible rfl)
    try simp only [Act.put, List.setIfInBounds_toArray, List.set_cons_zero, List.set_cons_succ]
    refine ordS_pair (i := 2) (j := 7) (o := { dst := some 47, op := Op.buildSlice 24 0 #[], type := 24, pos := _, after := #[], guard := none }) (o2 := { dst := some 8, op := Op.alloc 26, type := 0, pos := _, after := #[], guard := none }) (by kernel_rfl) rfl (by rfl) rfl (by rfl) (fun K hK => ?_) (fun K hK => ?_)
    · go_simp
      have hb1 := bl_al hD (.cells #[] 50)
      refine hK _ _ (hFA.out _ hb1) ?_
      try simp only [Act.put, List.setIfInBounds_toArray, List.set_cons_zero, List.set_cons_succ]
      clear hK K
      have hown0 := own_later (own_emptyH (w := W2) (B := W2.heap.size) 50 (Nat.le_refl _)) (bl_dr (bl0 _))
      have hb2 : Below W2.heap.size W2 (W2.alloc (.cells #[] 50)).drew := bl_dr (bl_al (bl0 W2) _)
      refine ordS_pair (i := 5) (j := 7) (o := { dst := some 50, op := Op.call { callee := Callee.builtin Builtin.append, args := #[Operand.tmp 47, Operand.tmp 49], argTypes := #[24, 24] }, type := 24, pos := _, after := #[{ on := 2, ground := Ground.data }, { on := 4, ground := Ground.data }], guard := none }) (o2 := { dst := some 8, op := Op.alloc 26, type := 0, pos := _, after := #[], guard := none }) (by kernel_rfl) rfl (by rfl) rfl (by rfl) (fun K hK => ?_) (fun K hK => ?_)
      · refine wpIn_append_hh _ _ rfl W2.heap.size _ 0 [] rfl hown0 a cap zs rfl (HRW.out.below hb2) (by omega) (by simp) (fun v' w' hown hg => ?_)
        have hb3 := hb2.grown hg (by simp) (fun j hj => by cases hj; exact Nat.le_refl _)
        have hS3 := hFA.out _ hb3
        refine hK _ _ hS3 ?_
        try simp only [Act.put, List.setIfInBounds_toArray, List.set_cons_zero, List.set_cons_succ]
        clear hK K
        try simp only [Nat.zero_add, List.nil_append] at hown
        obtain ⟨ga, gc, rfl⟩ : ∃ a' c', v' = .slice a' zs.length c' := by
          rcases hown.2 with ⟨rfl, h⟩ | ⟨g, cap, cur, h, _⟩
          · exact ⟨none, 0, by rw [h]⟩
          · exact ⟨_, _, h⟩
        refine' ordS_take (i := 6) (oi := { dst := some 51, op := Op.build 26 #[(0, Operand.tmp 46), (1, Operand.tmp 50)], type := 26, pos := _, after := #[{ on := 1, ground := Ground.data }, { on := 5, ground := Ground.data }], guard := none }) (v := _) rfl (by kernel_rfl) (by kernel_rfl) (by kernel_rfl) (by kernel_rfl) (fun _ _ _ h => h) (by assumption) (Or.inl ⟨by rfl, ?hy141⟩) (fun _ => rfl) ?rest141
        case hy141 => (intro w hSw; (try dsimp only at hSw); go_simp; try with_reducible rfl)
        try simp only [Act.put, List.setIfInBounds_toArray, List.set_cons_zero, List.set_cons_succ]
        refine ordS_one (i := 7) (o := { dst := some 8, op := Op.alloc 26, type := 0, pos := _, after := #[], guard := none }) (by kernel_rfl) rfl (by rfl) (fun K hK => ?_)
        go_simp
        refine hK _ _ (hFA.out _ (bl_al hb3 _)) ?_
        try simp only [Act.put, List.setIfInBounds_toArray, List.set_cons_zero, List.set_cons_succ]
        clear hK K
        refine ordS_one (i := 8) (o := { dst := none, op := Op.store 26 (Operand.tmp 8) (Operand.tmp 51), type := 0, pos := _, after := #[{ on := 7, ground := Ground.data }, { on := 6, ground := Ground.data }, { on := 5, ground := Ground.chain }, { on := 0, ground := Ground.phase }, { on := 1, ground := Ground.phase }, { on := 2, ground := Ground.phase }, { on := 3, ground := Ground.phase }, { on := 4, ground := Ground.phase }, { on := 5, ground := Ground.phase }, { on := 6, ground := Ground.phase }, { on := 7, ground := Ground.phase }], guard := none }) (by kernel_rfl) rfl (by rfl) (fun K hK => ?_)
        go_simp
        refine hK _ _ (hFA.out _ (bl_al hb3 _)) ?_
        clear hK K
        refine ordS_done (by kernel_rfl) ?_
        go_wp2_with fail
        go_meet
        exact ⟨_, rfl, moreC_new hown hb3⟩
      · go_simp
        have hb4 : Below W2.heap.size W2 ((W2.alloc (.cells #[] 50)).alloc (.cells #[.int .i64 0, .int .i64 0, .slice none 0 0] 26)).drew := bl_dr (bl_al (bl_al (bl0 W2) _) _)
        have hS4 := hFA.out _ hb4
        refine hK _ _ hS4 ?_
        try simp only [Act.put, List.setIfInBounds_toArray, List.set_cons_zero, List.set_cons_succ]
        clear hK K
        have hown1 := own_later (own_later (own_emptyH (w := W2) (B := W2.heap.size) 50 (Nat.le_refl _)) (bl_al (bl0 _) (.cells #[.int .i64 0, .int .i64 0, .slice none 0 0] 26))) (bl_dr (bl0 _))
        have hq4 : ((W2.alloc (.cells #[] 50)).alloc (.cells #[.int .i64 0, .int .i64 0, .slice none 0 0] 26)).drew.heap[W2.heap.size + 1]? = some (.cells #[.int .i64 0, .int .i64 0, .slice none 0 0] 26 (0, 0)) := (two_allocs W2 _ _).2
        have hz4 := (Array.getElem?_eq_some_iff.1 hq4).1
        refine ordS_one (i := 5) (o := { dst := some 50, op := Op.call { callee := Callee.builtin Builtin.append, args := #[Operand.tmp 47, Operand.tmp 49], argTypes := #[24, 24] }, type := 24, pos := _, after := #[{ on := 2, ground := Ground.data }, { on := 4, ground := Ground.data }], guard := none }) (by kernel_rfl) rfl (by rfl) (fun K hK => ?_)
        refine wpIn_append_hh _ _ rfl W2.heap.size _ 0 [] rfl hown1 a cap zs rfl (HRW.out.below hb4) (by omega) hb4.size (fun v' w' hown hg => ?_)
        have hb3 := hb4.grown hg hb4.size (fun j hj => by cases hj; exact Nat.le_refl _)
        have hS3 := hFA.out _ hb3
        refine hK _ _ hS3 ?_
        try simp only [Act.put, List.setIfInBounds_toArray, List.set_cons_zero, List.set_cons_succ]
        clear hK K
        try simp only [Nat.zero_add, List.nil_append] at hown
        have hq3 := (hg.block _ hz4 (fun e => by have := Option.some.inj e; simp at this)).trans hq4
        have hne3 := own_ne_type hown hq3 (by decide)
        obtain ⟨ga, gc, rfl⟩ : ∃ a' c', v' = .slice a' zs.length c' := by
          rcases hown.2 with ⟨rfl, h⟩ | ⟨g, cap, cur, h, _⟩
          · exact ⟨none, 0, by rw [h]⟩
          · exact ⟨_, _, h⟩
        refine' ordS_take (i := 6) (oi := { dst := some 51, op := Op.build 26 #[(0, Operand.tmp 46), (1, Operand.tmp 50)], type := 26, pos := _, after := #[{ on := 1, ground := Ground.data }, { on := 5, ground := Ground.data }], guard := none }) (v := _) rfl (by kernel_rfl) (by kernel_rfl) (by kernel_rfl) (by kernel_rfl) (fun _ _ _ h => h) (by assumption) (Or.inl ⟨by rfl, ?hy142⟩) (fun _ => rfl) ?rest142
        case hy142 => (intro w hSw; (try dsimp only at hSw); go_simp; try with_reducible rfl)
        try simp only [Act.put, List.setIfInBounds_toArray, List.set_cons_zero, List.set_cons_succ]
        have hz3 := (Array.getElem?_eq_some_iff.1 hq3).1
        have k0 : w'.cell? ⟨W2.heap.size + 1, 0, none⟩ = some (.int .i64 0) := by simp [World.cell?, hq3]
        have k1 : w'.cell? ⟨W2.heap.size + 1, 1, none⟩ = some (.int .i64 0) := by simp [World.cell?, hq3]
        have k2 : w'.cell? ⟨W2.heap.size + 1, 2, none⟩ = some (.slice none 0 0) := by simp [World.cell?, hq3]
        have u0 : w'.frozen? ⟨W2.heap.size + 1, 0, none⟩ = false := by simp [World.frozen?, hq3]
        have u1 : w'.frozen? ⟨W2.heap.size + 1, 1, none⟩ = false := by simp [World.frozen?, hq3]
        have u2 : w'.frozen? ⟨W2.heap.size + 1, 2, none⟩ = false := by simp [World.frozen?, hq3]
        refine ordS_one (i := 8) (o := { dst := none, op := Op.store 26 (Operand.tmp 8) (Operand.tmp 51), type := 0, pos := _, after := #[{ on := 7, ground := Ground.data }, { on := 6, ground := Ground.data }, { on := 5, ground := Ground.chain }, { on := 0, ground := Ground.phase }, { on := 1, ground := Ground.phase }, { on := 2, ground := Ground.phase }, { on := 3, ground := Ground.phase }, { on := 4, ground := Ground.phase }, { on := 5, ground := Ground.phase }, { on := 6, ground := Ground.phase }, { on := 7, ground := Ground.phase }], guard := none }) (by kernel_rfl) rfl (by rfl) (fun K hK => ?_)
        go_simp
        refine hK _ _ (hFA.out _ (bl_st (bl_st (bl_st hb3 (show W2.heap.size ≤ W2.heap.size + 1 by omega) _) (by omega) _) (by omega) _)) ?_
        clear hK K
        refine ordS_done (by kernel_rfl) ?_
        go_wp2_with fail
        go_meet
        exact ⟨_, rfl, moreC_set hown hb3 hq3 (by omega) hne3⟩
    · go_simp
      have hb1 := bl_al hD (.cells #[.int .i64 0, .int .i64 0, .slice none 0 0] 26)
      refine hK _ _ (hFA.out _ hb1) ?_
      try simp only [Act.put, List.setIfInBounds_toArray, List.set_cons_zero, List.set_cons_succ]
      clear hK K
      refine ordS_one (i := 2) (o := { dst := some 47, op := Op.buildSlice 24 0 #[], type := 24, pos := _, after := #[], guard := none }) (by kernel_rfl) rfl (by rfl) (fun K hK => ?_)
      go_simp
      have hb4 : Below W2.heap.size W2 ((W2.alloc (.cells #[.int .i64 0, .int .i64 0, .slice none 0 0] 26)).alloc (.cells #[] 50)).drew := bl_dr (bl_al (bl_al (bl0 W2) _) _)
      have hS4 := hFA.out _ hb4
      refine hK _ _ hS4 ?_
      try simp only [Act.put, List.setIfInBounds_toArray, List.set_cons_zero, List.set_cons_succ]
      clear hK K
      have hown1 := own_later (own_emptyH (w := W2.alloc (.cells #[.int .i64 0, .int .i64 0, .slice none 0 0] 26)) (B := W2.heap.size) 50 (by simp)) (bl_dr (bl0 _))
      rw [World.size_alloc] at hown1
      have hq4 : ((W2.alloc (.cells #[.int .i64 0, .int .i64 0, .slice none 0 0] 26)).alloc (.cells #[] 50)).drew.heap[W2.heap.size]? = some (.cells #[.int .i64 0, .int .i64 0, .slice none 0 0] 26 (0, 0)) := (two_allocs W2 _ _).1
      have hz4 := (Array.getElem?_eq_some_iff.1 hq4).1
      refine ordS_one (i := 5) (o := { dst := some 50, op := Op.call { callee := Callee.builtin Builtin.append, args := #[Operand.tmp 47, Operand.tmp 49], argTypes := #[24, 24] }, type := 24, pos := _, after := #[{ on := 2, ground := Ground.data }, { on := 4, ground := Ground.data }], guard := none }) (by kernel_rfl) rfl (by rfl) (fun K hK => ?_)
      refine wpIn_append_hh _ _ rfl W2.heap.size _ 0 [] rfl hown1 a cap zs rfl (HRW.out.below hb4) (by omega) hb4.size (fun v' w' hown hg => ?_)
      have hb3 := hb4.grown hg hb4.size (fun j hj => by cases hj; exact Nat.le_succ _)
      have hS3 := hFA.out _ hb3
      refine hK _ _ hS3 ?_
      try simp only [Act.put, List.setIfInBounds_toArray, List.set_cons_zero, List.set_cons_succ]
      clear hK K
      try simp only [Nat.zero_add, List.nil_append] at hown
      have hq3 := (hg.block _ hz4 (fun e => by have := Option.some.inj e; simp at this)).trans hq4
      have hne3 := own_ne_type hown hq3 (by decide)
      obtain ⟨ga, gc, rfl⟩ : ∃ a' c', v' = .slice a' zs.length c' := by
        rcases hown.2 with ⟨rfl, h⟩ | ⟨g, cap, cur, h, _⟩
        · exact ⟨none, 0, by rw [h]⟩
        · exact ⟨_, _, h⟩
      refine' ordS_take (i := 6) (oi := { dst := some 51, op := Op.build 26 #[(0, Operand.tmp 46), (1, Operand.tmp 50)], type := 26, pos := _, after := #[{ on := 1, ground := Ground.data }, { on := 5, ground := Ground.data }], guard := none }) (v := _) rfl (by kernel_rfl) (by kernel_rfl) (by kernel_rfl) (by kernel_rfl) (fun _ _ _ h => h) (by assumption) (Or.inl ⟨by rfl, ?hy143⟩) (fun _ => rfl) ?rest143
      case hy143 => (intro w hSw; (try dsimp only at hSw); go_simp; try with_reducible rfl)
      try simp only [Act.put, List.setIfInBounds_toArray, List.set_cons_zero, List.set_cons_succ]
      have hz3 := (Array.getElem?_eq_some_iff.1 hq3).1
      have k0 : w'.cell? ⟨W2.heap.size, 0, none⟩ = some (.int .i64 0) := by simp [World.cell?, hq3]
      have k1 : w'.cell? ⟨W2.heap.size, 1, none⟩ = some (.int .i64 0) := by simp [World.cell?, hq3]
      have k2 : w'.cell? ⟨W2.heap.size, 2, none⟩ = some (.slice none 0 0) := by simp [World.cell?, hq3]
      have u0 : w'.frozen? ⟨W2.heap.size, 0, none⟩ = false := by simp [World.frozen?, hq3]
      have u1 : w'.frozen? ⟨W2.heap.size, 1, none⟩ = false := by simp [World.frozen?, hq3]
      have u2 : w'.frozen? ⟨W2.heap.size, 2, none⟩ = false := by simp [World.frozen?, hq3]
      refine ordS_one (i := 8) (o := { dst := none, op := Op.store 26 (Operand.tmp 8) (Operand.tmp 51), type := 0, pos := _, after := #[{ on := 7, ground := Ground.data }, { on := 6, ground := Ground.data }, { on := 5, ground := Ground.chain }, { on := 0, ground := Ground.phase }, { on := 1, ground := Ground.phase }, { on := 2, ground := Ground.phase }, { on := 3, ground := Ground.phase }, { on := 4, ground := Ground.phase }, { on := 5, ground := Ground.phase }, { on := 6, ground := Ground.phase }, { on := 7, ground := Ground.phase }], guard := none }) (by kernel_rfl) rfl (by rfl) (fun K hK => ?_)
      go_simp
      refine hK _ _ (hFA.out _ (bl_st (bl_st (bl_st hb3 (Nat.le_refl _) _) (Nat.le_refl _) _) (Nat.le_refl _) _)) ?_
      clear hK K
      refine ordS_done (by kernel_rfl) ?_
      go_wp2_with fail
      go_meet
      exact ⟨_, rfl, moreC_set hown hb3 hq3 (Nat.le_refl _) hne3⟩
  case rest =>
    obtain ⟨W3, rfl⟩ : ∃ W3, W3 = wc := ⟨_, rfl⟩
    obtain ⟨fb, rfl, ga, gc, c0, c1, c2, hown, hfb, hne, hB⟩ := hcut
    replace hA := bl_tr hAW.out hB
    replace f0 := cell_later hB f0
    replace f1 := cell_later hB f1
    replace f2 := cell_later hB f2
    replace x0 := cell_later hB x0
    replace x1 := cell_later hB x1
    replace x2 := cell_later hB x2
    replace x3 := cell_later hB x3
    replace y0 := cell_later hB y0
    replace y1 := cell_later hB y1
    have hszA := hAW.out.size
    obtain ⟨gg, rfl⟩ : ∃ g, ga = some ⟨g, 0, none⟩ := by
      rcases hown.2 with ⟨_, h⟩ | ⟨g, cap, cur, e, _⟩
      · omega
      · cases e; exact ⟨g, rfl⟩
    have hgg := hown.lt gg rfl
    have hne' : gg ≠ fb := fun e => hne (by rw [e]; rfl)
    have hnn : n < zs.length := by omega
    obtain ⟨gb, go, rfl, qn⟩ := (hr.below hA).cell hnn
    rw [show zs[n] = zs.getD n 0 by rw [List.getD_eq_getElem?_getD, List.getElem?_eq_getElem hnn]; rfl] at qn
    have hzn := getD_in hz n
    obtain ⟨zn, hzn0⟩ : ∃ zn, zs.getD n 0 = zn := ⟨_, rfl⟩
    rw [hzn0] at qn hzn
    have hn0 : (0 : Int) ≤ (n : Int) := by omega
    have HZN := Lib.hid hzn0
    have HOWN := Lib.hid hown
    have HB := Lib.hid hB
    have HA3 := Lib.hid hA
    have HR := Lib.hid hr
    clear hown hB hzn0 hr hrW hAW HRW hne hA
    have zf := blk_lt f0; have zx := blk_lt x0; have zy := blk_lt y0; have zc := blk_lt c0; have zq := blk_lt qn
    go_upto_region 5 with fail
    obtain ⟨cb, hcb⟩ : ∃ cb, decide (1 ≤ by_ ∧ by_ ≤ 1000 ∧ 0 < zn ∧ zn < 60000) = cb := ⟨_, rfl⟩
    have HCB := Lib.hid hcb
    clear hcb
    go_cut [75] from 52 to 74 (fun s wx => s = .bool cb ∧ wx = W3)
    case first =>
      by_cases b1 : 1 ≤ by_
      · have d1 : decide (1 ≤ by_) = true := decide_eq_true b1
        by_cases b2 : by_ ≤ 1000
        · have d2 : decide (by_ ≤ 1000) = true := decide_eq_true b2
          by_cases b3 : 0 < zn
          · have d3 : decide (0 < zn) = true := decide_eq_true b3
            by_cases b4 : zn < 60000
            · have d4 : decide (zn < 60000) = true := decide_eq_true b4
              have hcb : true = cb := (decide_eq_true (show 1 ≤ by_ ∧ by_ ≤ 1000 ∧ 0 < zn ∧ zn < 60000 from ⟨b1, b2, b3, b4⟩)).symm.trans HCB.out
              have HCC := Lib.hid hcb
              clear hcb
              clear b1 b2 b3 b4
              go_wp2_with fail
              go_meet
              exact ⟨by rw [HCC.out], rfl⟩
            · have d4 : decide (zn < 60000) = false := decide_eq_false b4
              have hcb : false = cb := (decide_eq_false (show ¬ (1 ≤ by_ ∧ by_ ≤ 1000 ∧ 0 < zn ∧ zn < 60000) from fun q => b4 q.2.2.2)).symm.trans HCB.out
              have HCC := Lib.hid hcb
              clear hcb
              clear b1 b2 b3 b4
              go_wp2_with fail
              go_meet
              exact ⟨by rw [HCC.out], rfl⟩
          · have d3 : decide (0 < zn) = false := decide_eq_false b3
            have hcb : false = cb := (decide_eq_false (show ¬ (1 ≤ by_ ∧ by_ ≤ 1000 ∧ 0 < zn ∧ zn < 60000) from fun q => b3 q.2.2.1)).symm.trans HCB.out
            have HCC := Lib.hid hcb
            clear hcb
            clear b1 b2 b3
            go_wp2_with fail
            go_meet
            exact ⟨by rw [HCC.out], rfl⟩
        · have d2 : decide (by_ ≤ 1000) = false := decide_eq_false b2
          have hcb : false = cb := (decide_eq_false (show ¬ (1 ≤ by_ ∧ by_ ≤ 1000 ∧ 0 < zn ∧ zn < 60000) from fun q => b2 q.2.1)).symm.trans HCB.out
          have HCC := Lib.hid hcb
          clear hcb
          clear b1 b2
          go_wp2_with fail
          go_meet
          exact ⟨by rw [HCC.out], rfl⟩
      · have d1 : decide (1 ≤ by_) = false := decide_eq_false b1
        have hcb : false = cb := (decide_eq_false (show ¬ (1 ≤ by_ ∧ by_ ≤ 1000 ∧ 0 < zn ∧ zn < 60000) from fun q => b1 q.1)).symm.trans HCB.out
        have HCC := Lib.hid hcb
        clear hcb
        clear b1
        go_wp2_with fail
        go_meet
        exact ⟨by rw [HCC.out], rfl⟩
    case rest =>
    obtain ⟨rfl, rfl⟩ := hcut
    obtain ⟨W3, rfl⟩ : ∃ W3, W3 = wc := ⟨_, rfl⟩
    have t0 : W3.cell? ⟨gg, n, none⟩ = some (.int .u16 zn) := by
      have := HOWN.out.cells (g := gg) rfl n (.int .u16 zn) (by
        rw [← HZN.out, List.getD_eq_getElem?_getD, List.getElem?_eq_getElem hnn]
        simp [cellsHH, hnn])
      rw [addr_addQ, Nat.zero_add] at this
      exact this
    have t1 := HOWN.out.frozenAt n
    have zt := blk_lt t0
    obtain ⟨v, hv⟩ : ∃ v, (if cb = true then zn + by_ else 0) = v := ⟨_, rfl⟩
    have HV := Lib.hid (show v = 0 ∨ zs.getD n 0 ≠ 0 ∧ zs.getD n 0 ≤ v ∧ v ≤ 65535 from by
      cases cb
      · exact .inl hv.symm
      · rw [if_pos rfl] at hv
        obtain ⟨b1, b2, b3, b4⟩ := of_decide_eq_true HCB.out
        rw [HZN.out]
        exact .inr ⟨by omega, by omega, by omega⟩)
    have HKS := Lib.hid (show ∀ (V : World) (u : Int), u = v → (V = W3.setCell ⟨gg, n, none⟩ (.int .u16 u) ∨ V = (W3.setCell ⟨gg, n, none⟩ (.int .u16 u)).drew) → KeptS (fun x => x = gg) W3 V ∧ V.ownsRow W2.heap.size 50 1 (.slice (some ⟨gg, 0, none⟩) zs.length gc) zs.length (cellsHH (zs.set n v)) ∧ Below W2.heap.size W2 V from by
      intro V u hu h
      subst hu
      have k1 := KeptS.of_grown (S := fun x => x = gg) (hgrown_set W3 gg n (.int .u16 u)) (fun x e _ => by cases e; rfl)
      have k2 := own_setHH HOWN.out n u
      have k3 := bl_st HB.out hgg.1 (.int .u16 u) (o := n)
      rcases h with rfl | rfl
      · exact ⟨k1, k2, k3⟩
      · exact ⟨k1.below (bl_dr (bl0 _)), own_later k2 (bl_dr (bl0 _)), bl_dr k3⟩)
    cases cb
    all_goals
      simp only [Bool.false_eq_true, if_false, if_true] at hv
      have HVV := Lib.hid hv
      clear hv
    all_goals
      first
      | (have hz0 : (0 : Int) = v := HVV.out
         clear HCB hz0
         go_upto_region 8 with fail
         obtain ⟨W4, hW4⟩ : ∃ W4, W3.setCell ⟨gg, n, none⟩ (.int .u16 0) = W4 := ⟨_, rfl⟩
         have HK4 := Lib.hid (HKS.out W4 0 HVV.out (.inl hW4.symm))
         rw [hW4]
         clear hW4)
      | (obtain ⟨b1, b2, b3, b4⟩ := of_decide_eq_true HCB.out
         have e1 : IntKind.u16.wrap by_ = by_ := by rw [IntKind.wrap_u16]; omega
         have e2 : IntKind.u16.wrap (zn + by_) = zn + by_ := by rw [IntKind.wrap_u16]; omega
         clear HCB b1 b2 b3 b4
         go_upto_region 6 with fail
         go_region
         go_upto_region 8 with fail
         obtain ⟨W4, hW4⟩ : ∃ W4, (W3.setCell ⟨gg, n, none⟩ (.int .u16 (zn + by_))).drew = W4 := ⟨_, rfl⟩
         have HK4 := Lib.hid (HKS.out W4 _ HVV.out (.inr hW4.symm))
         rw [hW4]
         clear hW4 e1 e2)
    all_goals
      obtain ⟨hk4, hown4, hB4⟩ := HK4.out
      have hA : Below w.heap.size w W4 := HA3.out.trans (hk4.to_below (fun k hk e => by omega) HA3.out.size)
      replace f0 := hk4.cell f0 (by omega)
      replace f1 := hk4.cell f1 (by omega)
      replace f2 := hk4.cell f2 (by omega)
      replace x0 := hk4.cell x0 (by omega)
      replace x1 := hk4.cell x1 (by omega)
      replace x2 := hk4.cell x2 (by omega)
      replace x3 := hk4.cell x3 (by omega)
      replace y0 := hk4.cell y0 (by omega)
      replace y1 := hk4.cell y1 (by omega)
      replace c0 := hk4.cell c0 (by omega)
      replace c1 := hk4.cell c1 (by omega)
      replace c2 := hk4.cell c2 (by omega)
      have hrg := rowH_ownS hown4
      have hr4 := HR.out.below hA
      obtain ⟨⟨E1, P1, C1, M1⟩, h1⟩ : ∃ t, seekT A H zs F T zs.length = t := ⟨_, rfl⟩
      obtain ⟨⟨E2, P2, C2, M2⟩, h2⟩ : ∃ t, seekT A H (zs.set n v) F T zs.length = t := ⟨_, rfl⟩
      have HMC := Lib.hid (more_cases hr4 hz (hs.below hA) hrg (hs.below hA) hnn HV.out h1 h2)
      have HF1 := Lib.hid (fun W h h' => sfind_as A H (some ⟨gb, go, none⟩) cap zs F T zs.length h1 W h hz h')
      have hf2 := fun W h h' => sfind_as A H (some ⟨gg, 0, none⟩) gc (zs.set n v) F T zs.length h2 W h (allH_set hz HV.out) h'
      rw [List.length_set] at hf2
      have HF2 := Lib.hid hf2
      have hgn := hown4.cells (g := gg) rfl n (.int .u16 v) (by simp [cellsHH, hnn])
      rw [addr_addQ, Nat.zero_add] at hgn
      have HRG := Lib.hid hrg
      have zf4 := blk_lt f0; have zx4 := blk_lt x0; have zy4 := blk_lt y0; have zc4 := blk_lt c0; have zg4 := blk_lt hgn
      clear hk4 hown4 hB4 hf2 h1 h2 qn t0 t1 zt zq HOWN HKS HK4
      go_wp2_with fail
      refine (HF1.out _ hr4 (hs.below hA)).mono ?_
      rintro e w5 ⟨⟨pa1, pc1, rfl, ho1, hl1⟩, hb⟩
      have hk : Below W4.heap.size W4 w5 := by first | exact hb | exact bl_tr (bl_al (bl0 _) _) hb | exact bl_tr (bl_dr (bl_al (bl0 _) _)) hb | exact bl_tr (bl_al (bl_al (bl0 _) _) _) hb | exact bl_tr (bl_dr (bl_al (bl_al (bl0 _) _) _)) hb | exact bl_tr (bl_al (bl_al (bl_al (bl0 _) _) _) _) hb | exact bl_tr (bl_dr (bl_al (bl_al (bl_al (bl0 _) _) _) _)) hb | exact bl_tr (bl_al (bl_al (bl_al (bl_al (bl0 _) _) _) _) _) hb | exact bl_tr (bl_dr (bl_al (bl_al (bl_al (bl_al (bl0 _) _) _) _) _)) hb | exact bl_tr (bl_al (bl_al (bl_al (bl_al (bl_al (bl0 _) _) _) _) _) _) hb | exact bl_tr (bl_dr (bl_al (bl_al (bl_al (bl_al (bl_al (bl0 _) _) _) _) _) _)) hb | exact bl_tr (bl_al (bl_al (bl_al (bl_al (bl_al (bl_al (bl0 _) _) _) _) _) _) _) hb | exact bl_tr (bl_dr (bl_al (bl_al (bl_al (bl_al (bl_al (bl_al (bl0 _) _) _) _) _) _) _)) hb | exact bl_tr (bl_dr (bl0 _)) hb
      replace hA := bl_tr hA hk
      replace hrg := hrg.below hk
      replace f0 := cell_later hk f0
      replace f1 := cell_later hk f1
      replace f2 := cell_later hk f2
      replace x0 := cell_later hk x0
      replace x1 := cell_later hk x1
      replace x2 := cell_later hk x2
      replace x3 := cell_later hk x3
      replace c0 := cell_later hk c0
      replace c1 := cell_later hk c1
      replace c2 := cell_later hk c2
      replace hgn := cell_later hk hgn
      clear hb hk
      have zf0 := blk_lt f0
      have zf1 := blk_lt f1
      have zf2 := blk_lt f2
      have zx0 := blk_lt x0
      have zx1 := blk_lt x1
      have zx2 := blk_lt x2
      have zx3 := blk_lt x3
      have zc0 := blk_lt c0
      have zc1 := blk_lt c1
      have zc2 := blk_lt c2
      have zhgn := blk_lt hgn
      have hp1 := own_rowS ho1
      clear ho1
      go_wp2_with fail
      refine (HF2.out _ (hrg.below (bl_al (bl0 _) _)) (hs.below (by first | exact hA | exact (bl_al hA _) | exact (bl_dr (bl_al hA _)) | exact (bl_al (bl_al hA _) _) | exact (bl_dr (bl_al (bl_al hA _) _)) | exact (bl_al (bl_al (bl_al hA _) _) _) | exact (bl_dr (bl_al (bl_al (bl_al hA _) _) _)) | exact (bl_al (bl_al (bl_al (bl_al hA _) _) _) _) | exact (bl_dr (bl_al (bl_al (bl_al (bl_al hA _) _) _) _)) | exact (bl_al (bl_al (bl_al (bl_al (bl_al hA _) _) _) _) _) | exact (bl_dr (bl_al (bl_al (bl_al (bl_al (bl_al hA _) _) _) _) _)) | exact (bl_al (bl_al (bl_al (bl_al (bl_al (bl_al hA _) _) _) _) _) _) | exact (bl_dr (bl_al (bl_al (bl_al (bl_al (bl_al (bl_al hA _) _) _) _) _) _)) | exact (bl_dr hA)))).mono ?_
      rintro e w6 ⟨⟨pa2, pc2, rfl, ho2, hl2⟩, hb⟩
      have hk : Below w5.heap.size w5 w6 := by first | exact hb | exact bl_tr (bl_al (bl0 _) _) hb | exact bl_tr (bl_dr (bl_al (bl0 _) _)) hb | exact bl_tr (bl_al (bl_al (bl0 _) _) _) hb | exact bl_tr (bl_dr (bl_al (bl_al (bl0 _) _) _)) hb | exact bl_tr (bl_al (bl_al (bl_al (bl0 _) _) _) _) hb | exact bl_tr (bl_dr (bl_al (bl_al (bl_al (bl0 _) _) _) _)) hb | exact bl_tr (bl_al (bl_al (bl_al (bl_al (bl0 _) _) _) _) _) hb | exact bl_tr (bl_dr (bl_al (bl_al (bl_al (bl_al (bl0 _) _) _) _) _)) hb | exact bl_tr (bl_al (bl_al (bl_al (bl_al (bl_al (bl0 _) _) _) _) _) _) hb | exact bl_tr (bl_dr (bl_al (bl_al (bl_al (bl_al (bl_al (bl0 _) _) _) _) _) _)) hb | exact bl_tr (bl_al (bl_al (bl_al (bl_al (bl_al (bl_al (bl0 _) _) _) _) _) _) _) hb | exact bl_tr (bl_dr (bl_al (bl_al (bl_al (bl_al (bl_al (bl_al (bl0 _) _) _) _) _) _) _)) hb | exact bl_tr (bl_dr (bl0 _)) hb
      replace hA := bl_tr hA hk
      replace hp1 := hp1.below hk
      replace f0 := cell_later hk f0
      replace f1 := cell_later hk f1
      replace f2 := cell_later hk f2
      replace x0 := cell_later hk x0
      replace x1 := cell_later hk x1
      replace x2 := cell_later hk x2
      replace x3 := cell_later hk x3
      replace c0 := cell_later hk c0
      replace c1 := cell_later hk c1
      replace c2 := cell_later hk c2
      replace hgn := cell_later hk hgn
      have r0 := cell_later hb (v := .slice pa1 P1.length pc1) (a := ⟨w5.heap.size, 0, none⟩) (by simp [go_sem])
      have r1 := cell_later hb (v := .int .u64 C1) (a := ⟨w5.heap.size, 1, none⟩) (by simp [go_sem])
      have r2 := cell_later hb (v := .int .i64 M1) (a := ⟨w5.heap.size, 2, none⟩) (by simp [go_sem])
      clear hb hk
      have zf0 := blk_lt f0
      have zf1 := blk_lt f1
      have zf2 := blk_lt f2
      have zx0 := blk_lt x0
      have zx1 := blk_lt x1
      have zx2 := blk_lt x2
      have zx3 := blk_lt x3
      have zc0 := blk_lt c0
      have zc1 := blk_lt c1
      have zc2 := blk_lt c2
      have zhgn := blk_lt hgn
      have zr0 := blk_lt r0
      have zr1 := blk_lt r1
      have zr2 := blk_lt r2
      have hp2 := own_rowS ho2
      clear ho2
      by_cases hE : E1 = 0
      case neg =>
        obtain ⟨q1, q2⟩ := HMC.out.1 hE
        subst q1 q2
        have n1 : (E2 != (0 : Int)) = true := by rw [bne_iff_ne]; exact hE
        have n3 : (E2 == E2) = true := by simp
        clear hE
        go_wp2_with fail
        refine (awake10 _ (hs.below (by first | exact hA | exact (bl_al hA _) | exact (bl_dr (bl_al hA _)) | exact (bl_al (bl_al hA _) _) | exact (bl_dr (bl_al (bl_al hA _) _)) | exact (bl_al (bl_al (bl_al hA _) _) _) | exact (bl_dr (bl_al (bl_al (bl_al hA _) _) _)) | exact (bl_al (bl_al (bl_al (bl_al hA _) _) _) _) | exact (bl_dr (bl_al (bl_al (bl_al (bl_al hA _) _) _) _)) | exact (bl_al (bl_al (bl_al (bl_al (bl_al hA _) _) _) _) _) | exact (bl_dr (bl_al (bl_al (bl_al (bl_al (bl_al hA _) _) _) _) _)) | exact (bl_al (bl_al (bl_al (bl_al (bl_al (bl_al hA _) _) _) _) _) _) | exact (bl_dr (bl_al (bl_al (bl_al (bl_al (bl_al (bl_al hA _) _) _) _) _) _)) | exact (bl_dr hA)))).mono ?_
        rintro e w7 ⟨rfl, hb⟩
        have hk : Below w6.heap.size w6 w7 := by first | exact hb | exact bl_tr (bl_al (bl0 _) _) hb | exact bl_tr (bl_dr (bl_al (bl0 _) _)) hb | exact bl_tr (bl_al (bl_al (bl0 _) _) _) hb | exact bl_tr (bl_dr (bl_al (bl_al (bl0 _) _) _)) hb | exact bl_tr (bl_al (bl_al (bl_al (bl0 _) _) _) _) hb | exact bl_tr (bl_dr (bl_al (bl_al (bl_al (bl0 _) _) _) _)) hb | exact bl_tr (bl_al (bl_al (bl_al (bl_al (bl0 _) _) _) _) _) hb | exact bl_tr (bl_dr (bl_al (bl_al (bl_al (bl_al (bl0 _) _) _) _) _)) hb | exact bl_tr (bl_al (bl_al (bl_al (bl_al (bl_al (bl0 _) _) _) _) _) _) hb | exact bl_tr (bl_dr (bl_al (bl_al (bl_al (bl_al (bl_al (bl0 _) _) _) _) _) _)) hb | exact bl_tr (bl_al (bl_al (bl_al (bl_al (bl_al (bl_al (bl0 _) _) _) _) _) _) _) hb | exact bl_tr (bl_dr (bl_al (bl_al (bl_al (bl_al (bl_al (bl_al (bl0 _) _) _) _) _) _) _)) hb | exact bl_tr (bl_dr (bl0 _)) hb
        replace hA := bl_tr hA hk
        clear hb hk
        go_wp2
        go_ret
        exact ⟨rfl, hA⟩
      case pos =>
      obtain ⟨⟨ma1, ma2⟩, mq1, mq2⟩ := HMC.out.2 hE
      have MQ1 := Lib.hid mq1
      have MQ2 := Lib.hid mq2
      clear mq1 mq2 HMC
      subst hE
      go_upto_region 12 with fail
      have hal := bl_al (bl0 w6) (.cells #[.slice pa2 P2.length pc2, .int .u64 C2, .int .i64 M2] 36)
      obtain ⟨W7, hW7⟩ : ∃ W7, w6.alloc (.cells #[.slice pa2 P2.length pc2, .int .u64 C2, .int .i64 M2] 36) = W7 := ⟨_, rfl⟩
      have s0 : W7.cell? ⟨w6.heap.size, 0, none⟩ = some (.slice pa2 P2.length pc2) := by rw [← hW7]; simp [go_sem]
      have s1 : W7.cell? ⟨w6.heap.size, 1, none⟩ = some (.int .u64 C2) := by rw [← hW7]; simp [go_sem]
      rw [hW7] at hal ⊢
      clear hW7
      replace hA := bl_tr hA hal
      replace f0 := cell_later hal f0; replace f1 := cell_later hal f1; replace f2 := cell_later hal f2
      replace c0 := cell_later hal c0; replace c1 := cell_later hal c1; replace c2 := cell_later hal c2
      replace r0 := cell_later hal r0; replace r1 := cell_later hal r1; replace r2 := cell_later hal r2
      replace hgn := cell_later hal hgn
      replace hp1 := hp1.below hal
      have HA7 := Lib.hid hA
      have tm : ((n : Int)).tmod A = (n : Int) % A := Int.tmod_eq_emod_of_nonneg hn0
      have td : ((n : Int)).tdiv A = (n : Int) / A := Int.tdiv_eq_ediv_of_nonneg hn0
      have tb1 : IntKind.i64.wrap ((n : Int) / A) = (n : Int) / A := IntWalk.i64_in _ (by have := Int.ediv_nonneg hn0 (show 0 ≤ A by omega); have := Int.ediv_le_self A hn0; omega)
      have tb2 : IntKind.i64.wrap ((n : Int) % A) = (n : Int) % A := IntWalk.i64_in _ (by have h1 := Int.emod_nonneg (n : Int) (show A ≠ 0 by omega); have h2 := Int.emod_add_mul_ediv (n : Int) A; have h3 := Int.mul_nonneg (show 0 ≤ A by omega) (Int.ediv_nonneg hn0 (show 0 ≤ A by omega)); omega)
      have ta1 : A ≠ 0 := by omega
      have ta2 : (A == 0) = false := by rw [beq_eq_false_iff_ne]; exact ta1
      obtain ⟨cx, hcx⟩ : ∃ cx, cellN A n = cx := ⟨_, rfl⟩
      have ex1 : (n : Int) % A = cx.1 := by rw [← hcx]; rfl
      have ex2 : (n : Int) / A = cx.2 := by rw [← hcx]; rfl
      rw [ex1] at tm tb2
      rw [ex2] at td tb1
      have HCX := Lib.hid hcx
      have hl1' : P1.length ≤ 65536 := hl1
      clear hal hcx ex1 ex2 hA hl1 HF1 HF2 HRG hr4 hrg hp2 ma1 ma2 hl2 x0 x1 x2 x3 y0 y1 hz
      have zf7 := blk_lt f0; have zr7 := blk_lt r0; have zs7 := blk_lt s0; have zc7 := blk_lt c0; have zg7 := blk_lt hgn
      go_wp2_with fail
      go_loopw [13, 14] (fun tv iv wr => ∃ k : Nat, k ≤ P1.length ∧ iv = .int .i64 k ∧ tv = .bool (decide (cx ∈ P1.take k)) ∧ Below W7.heap.size W7 wr) (fun _ iv _ => P1.length - (intOf iv).toNat)
      case atStart => exact ⟨0, Nat.zero_le _, rfl, by simp, bl0 _⟩
      case round =>
        obtain ⟨k, hk, rfl, rfl, hBk⟩ := hrel
        replace f0 := cell_later hBk f0; replace f1 := cell_later hBk f1; replace f2 := cell_later hBk f2
        replace c0 := cell_later hBk c0; replace c1 := cell_later hBk c1; replace c2 := cell_later hBk c2
        replace r0 := cell_later hBk r0; replace r1 := cell_later hBk r1; replace r2 := cell_later hBk r2
        replace s0 := cell_later hBk s0; replace s1 := cell_later hBk s1
        replace hgn := cell_later hBk hgn
        have hk0 : (0 : Int) ≤ (k : Int) := by omega
        by_cases hlt : k < P1.length
        · have hlt2 : (k : Int) < (P1.length : Int) := by omega
          have hwk : IntKind.i64.wrap ((k : Int) + 1) = (k : Int) + 1 := by rw [IntWalk.i64_in _ (by omega)]
          obtain ⟨gp, op, rfl, p0, p1⟩ := (hp1.below hBk).cell hlt
          obtain ⟨tb, htb⟩ : ∃ tb, decide (cx ∈ P1.take k) = tb := ⟨_, rfl⟩
          obtain ⟨te, hte⟩ : ∃ te, decide (P1[k] = cx) = te := ⟨_, rfl⟩
          have hnext : decide (cx ∈ P1.take (k + 1)) = (tb || te) := by
            rw [List.take_succ_eq_append_getElem hlt, ← htb, ← hte, Bool.eq_iff_iff]
            simp only [Bool.or_eq_true, decide_eq_true_eq, List.mem_append, List.mem_singleton]
            constructor
            · rintro (h | h)
              · exact .inl h
              · exact .inr h.symm
            · rintro (h | h)
              · exact .inl h
              · exact .inr h.symm
          have hcmp := fun w => eql_cell P1[k] cx w
          rw [hte] at hcmp
          rw [htb]
          have HNX := Lib.hid hnext
          have HBk := Lib.hid hBk
          have zf8 := blk_lt f0; have zp8 := blk_lt p0; have zr8 := blk_lt r0
          clear hnext htb hte hBk hp1
          generalize P1[k].1 = px at *
          generalize P1[k].2 = py at *
          go_upto_region 16 with fail
          cases tb
          all_goals
            simp only [Bool.false_or, Bool.true_or] at HNX
            go_quiet (fail)
            go_wp2_with fail
            go_roundw
            case rel => exact ⟨k + 1, by omega, by go_num, by rw [HNX.out], bl_tr HBk.out (bl_drn _ _)⟩
            case measure => simp [intOf]; omega
        · obtain rfl : k = P1.length := by omega
          have hge : ¬ (P1.length : Int) < (P1.length : Int) := by omega
          have hA9 := bl_tr HA7.out hBk
          have zf8 := blk_lt f0; have zr8 := blk_lt r0; have zs8 := blk_lt s0; have zc8 := blk_lt c0; have zg8 := blk_lt hgn
          rw [List.take_length]
          have HAW9 := Lib.hid (awake10 wr (hs.below hA9))
          clear hlt hk
          by_cases hin : cx ∈ P1
          · rw [decide_eq_true hin]
            clear hin
            have hm2 := MQ2.out
            rcases hm2 with ⟨q1, q2⟩ | ⟨q1, q2, q3⟩
            · subst q1
              have d1 : decide (C1 ≤ C2) = true := decide_eq_true q2
              clear q2
              go_wp2_with fail
              refine HAW9.out.mono ?_
              rintro e wz ⟨rfl, hbz⟩
              replace hA9 := bl_tr hA9 hbz
              go_wp2
              go_ret
              exact ⟨rfl, hA9⟩
            · subst q1 q2 q3
              go_wp2_with fail
              refine HAW9.out.mono ?_
              rintro e wz ⟨rfl, hbz⟩
              replace hA9 := bl_tr hA9 hbz
              go_wp2
              go_ret
              exact ⟨rfl, hA9⟩
          · rw [decide_eq_false hin]
            obtain ⟨q1, q2⟩ := MQ1.out (by rw [HCX.out]; exact hin)
            subst q1 q2
            have d1 : (C2 == C2) = true := by simp
            clear hin
            go_wp2_with fail
            refine HAW9.out.mono ?_
            rintro e wz ⟨rfl, hbz⟩
            replace hA9 := bl_tr hA9 hbz
            go_wp2
            go_ret
            exact ⟨rfl, hA9⟩
end Go.Proofs.YtldpajfendkhbaaDoor
