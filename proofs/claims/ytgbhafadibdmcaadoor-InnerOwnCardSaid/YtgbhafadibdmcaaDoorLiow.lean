/- InnerOwn: the law's walk. -/
import Derived.Test.YtgbhafadibdmcaaDoorXr
import Derived.Test.YtgbhafadibdmcaaDoorL1
namespace Go.Proofs.YtgbhafadibdmcaaDoor
open Go.RowKit

/-- The first row's first cost, and all that lies where it lies, is another one. -/
theorem tab_poke {W : World} {b n : Nat} {gs : List Nat} {rs : List (List Int)} {v : Int} (h : TabH W b n 0 gs rs) (hn : ∀ r ∈ rs, r.length = n) (h0 : 0 < rs.length) (hn0 : 0 < n) :
    ∃ g qs, gs[0]? = some g ∧ qs.length = rs.length ∧ (∀ r ∈ qs, r.length = n) ∧ (qs.getD 0 []).getD 0 0 = v ∧ TabR (W.setCell ⟨g, 0, none⟩ (.int .u64 v)) (some ⟨b, 0, none⟩) qs := by
  have hgl := h.len
  obtain ⟨g, hg⟩ : ∃ g, gs[0]? = some g := ⟨_, List.getElem?_eq_getElem (by omega)⟩
  refine ⟨g, (List.range rs.length).map (fun i => if gs[i]? = some g then (rs.getD i []).set 0 v else rs.getD i []), hg, by simp, ?_, ?_, ?_⟩
  · intro r hr
    obtain ⟨i, hi, rfl⟩ := List.mem_map.1 hr
    have hi := List.mem_range.1 hi
    have hm : (rs.getD i []).length = n := by
      rw [List.getD_eq_getElem?_getD, List.getElem?_eq_getElem hi]
      exact hn _ (List.getElem_mem hi)
    split
    · rw [List.length_set]; exact hm
    · exact hm
  · have hr0 : (rs.getD 0 []).length = n := by
      rw [List.getD_eq_getElem?_getD, List.getElem?_eq_getElem h0]
      exact hn _ (List.getElem_mem h0)
    have e0 : ((List.range rs.length).map (fun i => if gs[i]? = some g then (rs.getD i []).set 0 v else rs.getD i [])).getD 0 [] = (rs.getD 0 []).set 0 v := by
      rw [List.getD_eq_getElem?_getD, List.getElem?_map, List.getElem?_range h0]
      simp [hg]
    rw [e0, List.getD_eq_getElem?_getD, List.getElem?_set_self (by omega)]
    rfl
  · refine .inr ⟨b, 0, rfl, fun i r hr => ?_⟩
    rw [List.getElem?_map] at hr
    have hil : i < rs.length := by
      apply Classical.byContradiction
      intro hc
      rw [List.getElem?_eq_none (by simp; omega)] at hr
      cases hr
    rw [List.getElem?_range hil] at hr
    have e := Option.some.inj hr
    have hgi : i < gs.length := by omega
    have hri : rs.getD i [] = rs[i] := by rw [List.getD_eq_getElem?_getD, List.getElem?_eq_getElem hil]; rfl
    have hrow := h.row i gs[i] rs[i] (List.getElem?_eq_getElem hgi) (List.getElem?_eq_getElem hil)
    have hgb : g ≠ b := by
      have h0r := h.row 0 g rs[0] hg (List.getElem?_eq_getElem h0)
      exact tab_ne h.tab h0r
    have hlen : r.length = n := by
      rw [← e]
      have hm : (rs.getD i []).length = n := by rw [hri]; exact hn _ (List.getElem_mem hil)
      simp only
      split
      · rw [List.length_set]; exact hm
      · exact hm
    have htab : (W.setCell ⟨g, 0, none⟩ (.int .u64 v)).heap[b]? = some (.cells (tabC n gs 0).toArray 42 (0, 0)) :=
      ((hgrown_set W g 0 _).block b (Array.getElem?_eq_some_iff.1 h.tab).1 (fun q => hgb (by cases q; rfl))).trans h.tab
    refine ⟨some ⟨gs[i], 0, none⟩, n, ?_, ?_⟩
    · rw [hlen, Nat.zero_add]
      simp [World.cell?, htab, tabC, hgi]
    · simp only at e
      by_cases hq : gs[i] = g
      · rw [if_pos (by rw [List.getElem?_eq_getElem hgi, hq]), hri] at e
        rw [hq] at hrow ⊢
        refine rowU_heap ?_
        rw [hset_same W g 0 _ _ (.int .u64 v) hrow, ← e]
        simp [cellsU]
      · rw [if_neg (fun q => hq (by rw [List.getElem?_eq_getElem hgi] at q; exact Option.some.inj q)), hri] at e
        rw [← e]
        exact rowU_heap (((hgrown_set W g 0 _).block gs[i] (Array.getElem?_eq_some_iff.1 hrow).1 (fun q => hq (by cases q; rfl))).trans hrow)
theorem tblO_at (A : Int) (b : BX) (zs : List Int) (cs : List IC) {i : Nat} (hi : i < cs.length) : (tblO A b zs cs)[i]? = some (rowO A b zs cs[i] cs) := by
  unfold tblO
  rw [List.getElem?_map, List.getElem?_eq_getElem hi]; rfl
theorem rowO_at (A : Int) (b : BX) (zs : List Int) (c : IC) (cs : List IC) {j : Nat} {d : IC} (hj : cs[j]? = some d) : (rowO A b zs c cs)[j]? = some (atD (farO A b zs c) (numN A d)) := by
  unfold rowO
  rw [List.getElem?_map, hj]; rfl
theorem backO_at (A : Int) (b : BX) (zs : List Int) (p : IC) (cs : List IC) {j : Nat} {d : IC} (hj : cs[j]? = some d) : (backO A b zs p cs)[j]? = some (atD (farO A b zs d) (numN A p)) := by
  unfold backO
  rw [List.getElem?_map, hj]; rfl
/-- A cell of a table is 0 far from itself, or a wall. -/
theorem iow_src {A B : Int} {a : Option Addr} {cap : Nat} {zs : List Int} {X Y S id : Int} {cs : List IC} {w : World} (hs : Stp w) (hr : RowH w a zs) (hz : AllH zs) (h : chkI A B zs.length X Y S id cs = 0) {c : IC} (hc : c ∈ cs) : atD (farO A (bxB A B S id) zs c) (numN A c) ≠ 77 := by
  obtain ⟨hchk, rfl, rfl, hpl, hwr⟩ := chkI_ok h
  obtain ⟨BX, BY, U, V, hbb, _, hbx, hhas⟩ := clu_box hpl
  rw [hbb]
  have hin : inBx (BX, BY, (U : Int), (V : Int)) c = true := by rw [← hhas]; exact wrg_in hwr c hc
  obtain ⟨hmay, hn⟩ := chkF_may hchk
  have hf := farO_far X Y a cap zs (BX, BY, (U : Int), (V : Int)) c w hz hr hs hn hbx.fits hin
  by_cases ho : (gphB X Y (BX, BY, (U : Int), (V : Int)) zs).opn (numN X c)
  · rw [hf.src ho]; decide
  · rw [hf.wall _ ho]; decide
theorem ownC_neU {W : World} {base n c b : Nat} {a : Option Addr} {zs : List IC} {cs : Array Value} (h : OwnC W base a n c zs) (hb : W.heap[b]? = some (.cells cs 36 (0, 0))) : (Value.slice a n c).ownBlock ≠ some b := by
  intro e
  rcases h.2 with ⟨e1, _⟩ | ⟨g, cap, cur, e1, _, hg, _⟩
  · cases e1; cases e
  · cases e1
    have : g = b := by simpa [Value.ownBlock] using e
    subst this
    rw [hb] at hg
    have h2 := Option.some.inj hg
    injection h2 with _ h4
    exact absurd h4 (by decide)
theorem TabH.apart {W W' : World} {b n m x : Nat} {gs : List Nat} {rs : List (List Int)} (h : TabH W b n m gs rs) (hg : W.grownBy W' (some x)) (hb : b ≠ x) (hgs : ∀ (i g : Nat) (r : List Int), gs[i]? = some g → rs[i]? = some r → g ≠ x) : TabH W' b n m gs rs :=
  ⟨h.len, (hg.block _ (Array.getElem?_eq_some_iff.1 h.tab).1 (fun e => by cases e; exact hb rfl)).trans h.tab, fun i g r h1 h2 => (hg.block _ (Array.getElem?_eq_some_iff.1 (h.row i g r h1 h2)).1 (fun e => by cases e; exact hgs i _ r h1 h2 rfl)).trans (h.row i g r h1 h2)⟩
theorem own_fz {W : World} {base n c g o : Nat} {e : TypeId} {s : Nat} {xs : List Value} (h : W.ownsRow base e s (.slice (some ⟨g, 0, none⟩) n c) n xs) : W.frozen? ⟨g, o, none⟩ = false := by
  rcases h.2 with ⟨q, _⟩ | ⟨g', cap, cur, q, _, hg, _⟩
  · cases q
  · cases q
    simp [World.frozen?, hg]
set_option maxRecDepth 100000 in
set_option maxHeartbeats 8000000 in
/-- What is not asked. -/
theorem iow_off (A B : Int) (a : Option Addr) (cap : Nat) (zs : List Int) (X Y S id at_ : Int) (ca : Option Addr) (cc : Nat) (cs : List IC) (p : IC) (w : World) (hs : Stp w) (h : ¬ ((zs.length ≤ 260 ∧ cs.length ≤ 60) ∧ cs.length ≤ 30 ∧ 0 ≤ at_ ∧ at_ < cs.length)) :
    Calls Tryd.prog 6 #[.agg #[.int .i64 A, .int .i64 B, .slice a zs.length cap], .agg #[.int .i64 X, .int .i64 Y, .int .i64 S], .agg #[.int .i64 id, .slice ca cs.length cc, .int .i64 p.1, .int .i64 p.2, .int .i64 at_]] w fun e w' => e = .returned (.bool true) ∧ Below w.heap.size w w' := by
  have hA := bl0 w
  have H1 := Lib.hid (fun w => small13_any A B a zs.length cap id ca cs.length cc p w)
  by_cases hsm : zs.length ≤ 260 ∧ cs.length ≤ 60
  · rw [decide_eq_true hsm.1, decide_eq_true hsm.2] at H1
    by_cases h30 : cs.length ≤ 30
    · have b1 : decide (30 < cs.length) = false := decide_eq_false (by omega)
      have i1 : decide ((30 : Int) < (cs.length : Int)) = false := decide_eq_false (by omega)
      by_cases hat : 0 ≤ at_
      · have i2 : decide (at_ < 0) = false := decide_eq_false (by omega)
        have i3 : decide ((cs.length : Int) ≤ at_) = true := decide_eq_true (by omega)
        clear h hsm h30 hat
        go_enter Tryd.func6, Tryd.ntmps6
        go_wp2_with fail
        refine (H1.out _).mono ?_
        rintro e w1 ⟨rfl, hb⟩
        have hk : Below w.heap.size w w1 := by first | exact hb | exact bl_tr (bl_al (bl0 _) _) hb | exact bl_tr (bl_dr (bl_al (bl0 _) _)) hb | exact bl_tr (bl_al (bl_al (bl0 _) _) _) hb | exact bl_tr (bl_dr (bl_al (bl_al (bl0 _) _) _)) hb | exact bl_tr (bl_al (bl_al (bl_al (bl0 _) _) _) _) hb | exact bl_tr (bl_dr (bl_al (bl_al (bl_al (bl0 _) _) _) _)) hb | exact bl_tr (bl_al (bl_al (bl_al (bl_al (bl0 _) _) _) _) _) hb | exact bl_tr (bl_dr (bl_al (bl_al (bl_al (bl_al (bl0 _) _) _) _) _)) hb | exact bl_tr (bl_al (bl_al (bl_al (bl_al (bl_al (bl0 _) _) _) _) _) _) hb | exact bl_tr (bl_dr (bl_al (bl_al (bl_al (bl_al (bl_al (bl0 _) _) _) _) _) _)) hb | exact bl_tr (bl_al (bl_al (bl_al (bl_al (bl_al (bl_al (bl0 _) _) _) _) _) _) _) hb | exact bl_tr (bl_dr (bl_al (bl_al (bl_al (bl_al (bl_al (bl_al (bl0 _) _) _) _) _) _) _)) hb | exact bl_tr (bl_dr (bl0 _)) hb
        replace hA := bl_tr hA hk
        have f0 := cell_later hb (v := .int .i64 A) (a := ⟨w.heap.size, 0, none⟩) (by simp [go_sem])
        have f1 := cell_later hb (v := .int .i64 B) (a := ⟨w.heap.size, 1, none⟩) (by simp [go_sem])
        have f2 := cell_later hb (v := .slice a zs.length cap) (a := ⟨w.heap.size, 2, none⟩) (by simp [go_sem])
        have p0 := cell_later hb (v := .int .i64 X) (a := ⟨w.heap.size + 1, 0, none⟩) (by simp [go_sem])
        have p1 := cell_later hb (v := .int .i64 Y) (a := ⟨w.heap.size + 1, 1, none⟩) (by simp [go_sem])
        have p2 := cell_later hb (v := .int .i64 S) (a := ⟨w.heap.size + 1, 2, none⟩) (by simp [go_sem])
        have c0 := cell_later hb (v := .int .i64 id) (a := ⟨w.heap.size + 1 + 1 + 1, 0, none⟩) (by simp [go_sem])
        have c1 := cell_later hb (v := .slice ca cs.length cc) (a := ⟨w.heap.size + 1 + 1 + 1, 1, none⟩) (by simp [go_sem])
        clear hb hk
        have zf0 := blk_lt f0
        have zf1 := blk_lt f1
        have zf2 := blk_lt f2
        have zp0 := blk_lt p0
        have zp1 := blk_lt p1
        have zp2 := blk_lt p2
        have zc0 := blk_lt c0
        have zc1 := blk_lt c1
        go_wp2_with fail
        refine (awake13 _ (hs.below (by first | exact hA | exact (bl_al hA _) | exact (bl_dr (bl_al hA _)) | exact (bl_al (bl_al hA _) _) | exact (bl_dr (bl_al (bl_al hA _) _)) | exact (bl_al (bl_al (bl_al hA _) _) _) | exact (bl_dr (bl_al (bl_al (bl_al hA _) _) _)) | exact (bl_al (bl_al (bl_al (bl_al hA _) _) _) _) | exact (bl_dr (bl_al (bl_al (bl_al (bl_al hA _) _) _) _)) | exact (bl_al (bl_al (bl_al (bl_al (bl_al hA _) _) _) _) _) | exact (bl_dr (bl_al (bl_al (bl_al (bl_al (bl_al hA _) _) _) _) _)) | exact (bl_al (bl_al (bl_al (bl_al (bl_al (bl_al hA _) _) _) _) _) _) | exact (bl_dr (bl_al (bl_al (bl_al (bl_al (bl_al (bl_al hA _) _) _) _) _) _)) | exact (bl_dr hA)))).mono ?_
        rintro e w2 ⟨rfl, hb⟩
        have hk : Below w1.heap.size w1 w2 := by first | exact hb | exact bl_tr (bl_al (bl0 _) _) hb | exact bl_tr (bl_dr (bl_al (bl0 _) _)) hb | exact bl_tr (bl_al (bl_al (bl0 _) _) _) hb | exact bl_tr (bl_dr (bl_al (bl_al (bl0 _) _) _)) hb | exact bl_tr (bl_al (bl_al (bl_al (bl0 _) _) _) _) hb | exact bl_tr (bl_dr (bl_al (bl_al (bl_al (bl0 _) _) _) _)) hb | exact bl_tr (bl_al (bl_al (bl_al (bl_al (bl0 _) _) _) _) _) hb | exact bl_tr (bl_dr (bl_al (bl_al (bl_al (bl_al (bl0 _) _) _) _) _)) hb | exact bl_tr (bl_al (bl_al (bl_al (bl_al (bl_al (bl0 _) _) _) _) _) _) hb | exact bl_tr (bl_dr (bl_al (bl_al (bl_al (bl_al (bl_al (bl0 _) _) _) _) _) _)) hb | exact bl_tr (bl_al (bl_al (bl_al (bl_al (bl_al (bl_al (bl0 _) _) _) _) _) _) _) hb | exact bl_tr (bl_dr (bl_al (bl_al (bl_al (bl_al (bl_al (bl_al (bl0 _) _) _) _) _) _) _)) hb | exact bl_tr (bl_dr (bl0 _)) hb
        replace hA := bl_tr hA hk
        clear hb hk
        go_wp2
        go_ret
        exact ⟨rfl, hA⟩
      · have i2 : decide (at_ < 0) = true := decide_eq_true (by omega)
        clear h hsm h30 hat
        go_enter Tryd.func6, Tryd.ntmps6
        go_wp2_with fail
        refine (H1.out _).mono ?_
        rintro e w1 ⟨rfl, hb⟩
        have hk : Below w.heap.size w w1 := by first | exact hb | exact bl_tr (bl_al (bl0 _) _) hb | exact bl_tr (bl_dr (bl_al (bl0 _) _)) hb | exact bl_tr (bl_al (bl_al (bl0 _) _) _) hb | exact bl_tr (bl_dr (bl_al (bl_al (bl0 _) _) _)) hb | exact bl_tr (bl_al (bl_al (bl_al (bl0 _) _) _) _) hb | exact bl_tr (bl_dr (bl_al (bl_al (bl_al (bl0 _) _) _) _)) hb | exact bl_tr (bl_al (bl_al (bl_al (bl_al (bl0 _) _) _) _) _) hb | exact bl_tr (bl_dr (bl_al (bl_al (bl_al (bl_al (bl0 _) _) _) _) _)) hb | exact bl_tr (bl_al (bl_al (bl_al (bl_al (bl_al (bl0 _) _) _) _) _) _) hb | exact bl_tr (bl_dr (bl_al (bl_al (bl_al (bl_al (bl_al (bl0 _) _) _) _) _) _)) hb | exact bl_tr (bl_al (bl_al (bl_al (bl_al (bl_al (bl_al (bl0 _) _) _) _) _) _) _) hb | exact bl_tr (bl_dr (bl_al (bl_al (bl_al (bl_al (bl_al (bl_al (bl0 _) _) _) _) _) _) _)) hb | exact bl_tr (bl_dr (bl0 _)) hb
        replace hA := bl_tr hA hk
        have f0 := cell_later hb (v := .int .i64 A) (a := ⟨w.heap.size, 0, none⟩) (by simp [go_sem])
        have f1 := cell_later hb (v := .int .i64 B) (a := ⟨w.heap.size, 1, none⟩) (by simp [go_sem])
        have f2 := cell_later hb (v := .slice a zs.length cap) (a := ⟨w.heap.size, 2, none⟩) (by simp [go_sem])
        have p0 := cell_later hb (v := .int .i64 X) (a := ⟨w.heap.size + 1, 0, none⟩) (by simp [go_sem])
        have p1 := cell_later hb (v := .int .i64 Y) (a := ⟨w.heap.size + 1, 1, none⟩) (by simp [go_sem])
        have p2 := cell_later hb (v := .int .i64 S) (a := ⟨w.heap.size + 1, 2, none⟩) (by simp [go_sem])
        have c0 := cell_later hb (v := .int .i64 id) (a := ⟨w.heap.size + 1 + 1 + 1, 0, none⟩) (by simp [go_sem])
        have c1 := cell_later hb (v := .slice ca cs.length cc) (a := ⟨w.heap.size + 1 + 1 + 1, 1, none⟩) (by simp [go_sem])
        clear hb hk
        have zf0 := blk_lt f0
        have zf1 := blk_lt f1
        have zf2 := blk_lt f2
        have zp0 := blk_lt p0
        have zp1 := blk_lt p1
        have zp2 := blk_lt p2
        have zc0 := blk_lt c0
        have zc1 := blk_lt c1
        go_wp2_with fail
        refine (awake13 _ (hs.below (by first | exact hA | exact (bl_al hA _) | exact (bl_dr (bl_al hA _)) | exact (bl_al (bl_al hA _) _) | exact (bl_dr (bl_al (bl_al hA _) _)) | exact (bl_al (bl_al (bl_al hA _) _) _) | exact (bl_dr (bl_al (bl_al (bl_al hA _) _) _)) | exact (bl_al (bl_al (bl_al (bl_al hA _) _) _) _) | exact (bl_dr (bl_al (bl_al (bl_al (bl_al hA _) _) _) _)) | exact (bl_al (bl_al (bl_al (bl_al (bl_al hA _) _) _) _) _) | exact (bl_dr (bl_al (bl_al (bl_al (bl_al (bl_al hA _) _) _) _) _)) | exact (bl_al (bl_al (bl_al (bl_al (bl_al (bl_al hA _) _) _) _) _) _) | exact (bl_dr (bl_al (bl_al (bl_al (bl_al (bl_al (bl_al hA _) _) _) _) _) _)) | exact (bl_dr hA)))).mono ?_
        rintro e w2 ⟨rfl, hb⟩
        have hk : Below w1.heap.size w1 w2 := by first | exact hb | exact bl_tr (bl_al (bl0 _) _) hb | exact bl_tr (bl_dr (bl_al (bl0 _) _)) hb | exact bl_tr (bl_al (bl_al (bl0 _) _) _) hb | exact bl_tr (bl_dr (bl_al (bl_al (bl0 _) _) _)) hb | exact bl_tr (bl_al (bl_al (bl_al (bl0 _) _) _) _) hb | exact bl_tr (bl_dr (bl_al (bl_al (bl_al (bl0 _) _) _) _)) hb | exact bl_tr (bl_al (bl_al (bl_al (bl_al (bl0 _) _) _) _) _) hb | exact bl_tr (bl_dr (bl_al (bl_al (bl_al (bl_al (bl0 _) _) _) _) _)) hb | exact bl_tr (bl_al (bl_al (bl_al (bl_al (bl_al (bl0 _) _) _) _) _) _) hb | exact bl_tr (bl_dr (bl_al (bl_al (bl_al (bl_al (bl_al (bl0 _) _) _) _) _) _)) hb | exact bl_tr (bl_al (bl_al (bl_al (bl_al (bl_al (bl_al (bl0 _) _) _) _) _) _) _) hb | exact bl_tr (bl_dr (bl_al (bl_al (bl_al (bl_al (bl_al (bl_al (bl0 _) _) _) _) _) _) _)) hb | exact bl_tr (bl_dr (bl0 _)) hb
        replace hA := bl_tr hA hk
        clear hb hk
        go_wp2
        go_ret
        exact ⟨rfl, hA⟩
    · have b1 : decide (30 < cs.length) = true := decide_eq_true (by omega)
      have i1 : decide ((30 : Int) < (cs.length : Int)) = true := decide_eq_true (by omega)
      clear h hsm h30
      go_enter Tryd.func6, Tryd.ntmps6
      go_wp2_with fail
      refine (H1.out _).mono ?_
      rintro e w1 ⟨rfl, hb⟩
      have hk : Below w.heap.size w w1 := by first | exact hb | exact bl_tr (bl_al (bl0 _) _) hb | exact bl_tr (bl_dr (bl_al (bl0 _) _)) hb | exact bl_tr (bl_al (bl_al (bl0 _) _) _) hb | exact bl_tr (bl_dr (bl_al (bl_al (bl0 _) _) _)) hb | exact bl_tr (bl_al (bl_al (bl_al (bl0 _) _) _) _) hb | exact bl_tr (bl_dr (bl_al (bl_al (bl_al (bl0 _) _) _) _)) hb | exact bl_tr (bl_al (bl_al (bl_al (bl_al (bl0 _) _) _) _) _) hb | exact bl_tr (bl_dr (bl_al (bl_al (bl_al (bl_al (bl0 _) _) _) _) _)) hb | exact bl_tr (bl_al (bl_al (bl_al (bl_al (bl_al (bl0 _) _) _) _) _) _) hb | exact bl_tr (bl_dr (bl_al (bl_al (bl_al (bl_al (bl_al (bl0 _) _) _) _) _) _)) hb | exact bl_tr (bl_al (bl_al (bl_al (bl_al (bl_al (bl_al (bl0 _) _) _) _) _) _) _) hb | exact bl_tr (bl_dr (bl_al (bl_al (bl_al (bl_al (bl_al (bl_al (bl0 _) _) _) _) _) _) _)) hb | exact bl_tr (bl_dr (bl0 _)) hb
      replace hA := bl_tr hA hk
      have f0 := cell_later hb (v := .int .i64 A) (a := ⟨w.heap.size, 0, none⟩) (by simp [go_sem])
      have f1 := cell_later hb (v := .int .i64 B) (a := ⟨w.heap.size, 1, none⟩) (by simp [go_sem])
      have f2 := cell_later hb (v := .slice a zs.length cap) (a := ⟨w.heap.size, 2, none⟩) (by simp [go_sem])
      have p0 := cell_later hb (v := .int .i64 X) (a := ⟨w.heap.size + 1, 0, none⟩) (by simp [go_sem])
      have p1 := cell_later hb (v := .int .i64 Y) (a := ⟨w.heap.size + 1, 1, none⟩) (by simp [go_sem])
      have p2 := cell_later hb (v := .int .i64 S) (a := ⟨w.heap.size + 1, 2, none⟩) (by simp [go_sem])
      have c0 := cell_later hb (v := .int .i64 id) (a := ⟨w.heap.size + 1 + 1 + 1, 0, none⟩) (by simp [go_sem])
      have c1 := cell_later hb (v := .slice ca cs.length cc) (a := ⟨w.heap.size + 1 + 1 + 1, 1, none⟩) (by simp [go_sem])
      clear hb hk
      have zf0 := blk_lt f0
      have zf1 := blk_lt f1
      have zf2 := blk_lt f2
      have zp0 := blk_lt p0
      have zp1 := blk_lt p1
      have zp2 := blk_lt p2
      have zc0 := blk_lt c0
      have zc1 := blk_lt c1
      go_wp2_with fail
      refine (awake13 _ (hs.below (by first | exact hA | exact (bl_al hA _) | exact (bl_dr (bl_al hA _)) | exact (bl_al (bl_al hA _) _) | exact (bl_dr (bl_al (bl_al hA _) _)) | exact (bl_al (bl_al (bl_al hA _) _) _) | exact (bl_dr (bl_al (bl_al (bl_al hA _) _) _)) | exact (bl_al (bl_al (bl_al (bl_al hA _) _) _) _) | exact (bl_dr (bl_al (bl_al (bl_al (bl_al hA _) _) _) _)) | exact (bl_al (bl_al (bl_al (bl_al (bl_al hA _) _) _) _) _) | exact (bl_dr (bl_al (bl_al (bl_al (bl_al (bl_al hA _) _) _) _) _)) | exact (bl_al (bl_al (bl_al (bl_al (bl_al (bl_al hA _) _) _) _) _) _) | exact (bl_dr (bl_al (bl_al (bl_al (bl_al (bl_al (bl_al hA _) _) _) _) _) _)) | exact (bl_dr hA)))).mono ?_
      rintro e w2 ⟨rfl, hb⟩
      have hk : Below w1.heap.size w1 w2 := by first | exact hb | exact bl_tr (bl_al (bl0 _) _) hb | exact bl_tr (bl_dr (bl_al (bl0 _) _)) hb | exact bl_tr (bl_al (bl_al (bl0 _) _) _) hb | exact bl_tr (bl_dr (bl_al (bl_al (bl0 _) _) _)) hb | exact bl_tr (bl_al (bl_al (bl_al (bl0 _) _) _) _) hb | exact bl_tr (bl_dr (bl_al (bl_al (bl_al (bl0 _) _) _) _)) hb | exact bl_tr (bl_al (bl_al (bl_al (bl_al (bl0 _) _) _) _) _) hb | exact bl_tr (bl_dr (bl_al (bl_al (bl_al (bl_al (bl0 _) _) _) _) _)) hb | exact bl_tr (bl_al (bl_al (bl_al (bl_al (bl_al (bl0 _) _) _) _) _) _) hb | exact bl_tr (bl_dr (bl_al (bl_al (bl_al (bl_al (bl_al (bl0 _) _) _) _) _) _)) hb | exact bl_tr (bl_al (bl_al (bl_al (bl_al (bl_al (bl_al (bl0 _) _) _) _) _) _) _) hb | exact bl_tr (bl_dr (bl_al (bl_al (bl_al (bl_al (bl_al (bl_al (bl0 _) _) _) _) _) _) _)) hb | exact bl_tr (bl_dr (bl0 _)) hb
      replace hA := bl_tr hA hk
      clear hb hk
      go_wp2
      go_ret
      exact ⟨rfl, hA⟩
  · rw [small13_no hsm] at H1
    clear h hsm
    go_enter Tryd.func6, Tryd.ntmps6
    go_wp2_with fail
    refine (H1.out _).mono ?_
    rintro e w1 ⟨rfl, hb⟩
    have hk : Below w.heap.size w w1 := by first | exact hb | exact bl_tr (bl_al (bl0 _) _) hb | exact bl_tr (bl_dr (bl_al (bl0 _) _)) hb | exact bl_tr (bl_al (bl_al (bl0 _) _) _) hb | exact bl_tr (bl_dr (bl_al (bl_al (bl0 _) _) _)) hb | exact bl_tr (bl_al (bl_al (bl_al (bl0 _) _) _) _) hb | exact bl_tr (bl_dr (bl_al (bl_al (bl_al (bl0 _) _) _) _)) hb | exact bl_tr (bl_al (bl_al (bl_al (bl_al (bl0 _) _) _) _) _) hb | exact bl_tr (bl_dr (bl_al (bl_al (bl_al (bl_al (bl0 _) _) _) _) _)) hb | exact bl_tr (bl_al (bl_al (bl_al (bl_al (bl_al (bl0 _) _) _) _) _) _) hb | exact bl_tr (bl_dr (bl_al (bl_al (bl_al (bl_al (bl_al (bl0 _) _) _) _) _) _)) hb | exact bl_tr (bl_al (bl_al (bl_al (bl_al (bl_al (bl_al (bl0 _) _) _) _) _) _) _) hb | exact bl_tr (bl_dr (bl_al (bl_al (bl_al (bl_al (bl_al (bl_al (bl0 _) _) _) _) _) _) _)) hb | exact bl_tr (bl_dr (bl0 _)) hb
    replace hA := bl_tr hA hk
    have f0 := cell_later hb (v := .int .i64 A) (a := ⟨w.heap.size, 0, none⟩) (by simp [go_sem])
    have f1 := cell_later hb (v := .int .i64 B) (a := ⟨w.heap.size, 1, none⟩) (by simp [go_sem])
    have f2 := cell_later hb (v := .slice a zs.length cap) (a := ⟨w.heap.size, 2, none⟩) (by simp [go_sem])
    have p0 := cell_later hb (v := .int .i64 X) (a := ⟨w.heap.size + 1, 0, none⟩) (by simp [go_sem])
    have p1 := cell_later hb (v := .int .i64 Y) (a := ⟨w.heap.size + 1, 1, none⟩) (by simp [go_sem])
    have p2 := cell_later hb (v := .int .i64 S) (a := ⟨w.heap.size + 1, 2, none⟩) (by simp [go_sem])
    have c0 := cell_later hb (v := .int .i64 id) (a := ⟨w.heap.size + 1 + 1 + 1, 0, none⟩) (by simp [go_sem])
    have c1 := cell_later hb (v := .slice ca cs.length cc) (a := ⟨w.heap.size + 1 + 1 + 1, 1, none⟩) (by simp [go_sem])
    clear hb hk
    have zf0 := blk_lt f0
    have zf1 := blk_lt f1
    have zf2 := blk_lt f2
    have zp0 := blk_lt p0
    have zp1 := blk_lt p1
    have zp2 := blk_lt p2
    have zc0 := blk_lt c0
    have zc1 := blk_lt c1
    go_wp2_with fail
    refine (awake13 _ (hs.below (by first | exact hA | exact (bl_al hA _) | exact (bl_dr (bl_al hA _)) | exact (bl_al (bl_al hA _) _) | exact (bl_dr (bl_al (bl_al hA _) _)) | exact (bl_al (bl_al (bl_al hA _) _) _) | exact (bl_dr (bl_al (bl_al (bl_al hA _) _) _)) | exact (bl_al (bl_al (bl_al (bl_al hA _) _) _) _) | exact (bl_dr (bl_al (bl_al (bl_al (bl_al hA _) _) _) _)) | exact (bl_al (bl_al (bl_al (bl_al (bl_al hA _) _) _) _) _) | exact (bl_dr (bl_al (bl_al (bl_al (bl_al (bl_al hA _) _) _) _) _)) | exact (bl_al (bl_al (bl_al (bl_al (bl_al (bl_al hA _) _) _) _) _) _) | exact (bl_dr (bl_al (bl_al (bl_al (bl_al (bl_al (bl_al hA _) _) _) _) _) _)) | exact (bl_dr hA)))).mono ?_
    rintro e w2 ⟨rfl, hb⟩
    have hk : Below w1.heap.size w1 w2 := by first | exact hb | exact bl_tr (bl_al (bl0 _) _) hb | exact bl_tr (bl_dr (bl_al (bl0 _) _)) hb | exact bl_tr (bl_al (bl_al (bl0 _) _) _) hb | exact bl_tr (bl_dr (bl_al (bl_al (bl0 _) _) _)) hb | exact bl_tr (bl_al (bl_al (bl_al (bl0 _) _) _) _) hb | exact bl_tr (bl_dr (bl_al (bl_al (bl_al (bl0 _) _) _) _)) hb | exact bl_tr (bl_al (bl_al (bl_al (bl_al (bl0 _) _) _) _) _) hb | exact bl_tr (bl_dr (bl_al (bl_al (bl_al (bl_al (bl0 _) _) _) _) _)) hb | exact bl_tr (bl_al (bl_al (bl_al (bl_al (bl_al (bl0 _) _) _) _) _) _) hb | exact bl_tr (bl_dr (bl_al (bl_al (bl_al (bl_al (bl_al (bl0 _) _) _) _) _) _)) hb | exact bl_tr (bl_al (bl_al (bl_al (bl_al (bl_al (bl_al (bl0 _) _) _) _) _) _) _) hb | exact bl_tr (bl_dr (bl_al (bl_al (bl_al (bl_al (bl_al (bl_al (bl0 _) _) _) _) _) _) _)) hb | exact bl_tr (bl_dr (bl0 _)) hb
    replace hA := bl_tr hA hk
    clear hb hk
    go_wp2
    go_ret
    exact ⟨rfl, hA⟩
set_option maxRecDepth 100000 in
set_option maxHeartbeats 8000000 in
theorem iow_main (A B : Int) (a : Option Addr) (cap : Nat) (zs : List Int) (X Y S id : Int) (k : Nat) (ca : Option Addr) (cc : Nat) (cs : List IC) (p : IC) (w : World) (hs : Stp w) (hr : RowH w a zs) (hz : AllH zs) (hc : zs.length ≤ cap) (hcs : RowC w ca cs) (hsm : zs.length ≤ 260 ∧ cs.length ≤ 60) (h30 : cs.length ≤ 30) (hk : k < cs.length) :
    Calls Tryd.prog 6 #[.agg #[.int .i64 A, .int .i64 B, .slice a zs.length cap], .agg #[.int .i64 X, .int .i64 Y, .int .i64 S], .agg #[.int .i64 id, .slice ca cs.length cc, .int .i64 p.1, .int .i64 p.2, .int .i64 (k : Int)]] w fun e w' => e = .returned (.bool true) ∧ Below w.heap.size w w' := by
  have hA := bl0 w
  have H1 := Lib.hid (fun w => small13_any A B a zs.length cap id ca cs.length cc p w)
  rw [decide_eq_true hsm.1, decide_eq_true hsm.2] at H1
  have b1 : decide (30 < cs.length) = false := decide_eq_false (by omega)
  have i1 : decide ((30 : Int) < (cs.length : Int)) = false := decide_eq_false (by omega)
  have i2 : decide ((k : Int) < 0) = false := decide_eq_false (by omega)
  have i3 : decide ((cs.length : Int) ≤ (k : Int)) = false := decide_eq_false (by omega)
  have b3 : decide (cs.length ≤ k) = false := decide_eq_false (by omega)
  have hk0 : (0 : Int) ≤ (k : Int) := by omega
  have hk1 : (k : Int) < (cs.length : Int) := by omega
  have hl : cs.length ≤ 1048576 := by omega
  have hl2 : (cs.length : Int) ≤ 30 := by omega
  obtain ⟨d, hd⟩ : ∃ d, cs[k] = d := ⟨_, rfl⟩
  have HDM := Lib.hid (show d ∈ cs by rw [← hd]; exact List.getElem_mem hk)
  have HDK := Lib.hid (show cs[k]? = some d by rw [List.getElem?_eq_getElem hk, hd])
  obtain ⟨cb, co, rfl, q0, q1⟩ := hcs.cell hk
  rw [hd] at q0 q1
  clear hd
  obtain ⟨E, hE⟩ : ∃ E, chkI A B zs.length X Y S id cs = E := ⟨_, rfl⟩
  have hXE : toXi A B zs.length X Y S id cs d = E := by
    unfold toXi
    rw [hE]
    by_cases h0 : E = 0
    · rw [if_neg (fun q => q h0), h0]
      rw [h0] at hE
      obtain ⟨_, _, _, _, hwr⟩ := chkI_ok hE
      rw [if_pos (wrg_in hwr d HDM.out)]
    · rw [if_pos h0]
  have H2 := Lib.hid (fun w hr hcs hs => of_i A B a cap zs X Y S id (some ⟨cb, co, none⟩) cc cs w hr hz hc hcs hl hs)
  have H3 := Lib.hid (fun w (rb : Nat) hr hcs hs => to_i A B a cap zs X Y S id (some ⟨cb, co, none⟩) cc cs (some ⟨rb, 0, none⟩) 1 1 d w hr hz hc hcs hl hs)
  have H4 := Lib.hid (fun w (rb : Nat) hr hcs hs => back_i A B a cap zs X Y S id (some ⟨cb, co, none⟩) cc cs (some ⟨rb, 0, none⟩) 1 1 d w hr hz hc hcs hl hs)
  unfold OfR at H2
  unfold ToR at H3 H4
  rw [hE] at H2
  rw [hXE] at H3 H4
  have HE := Lib.hid hE
  have HTB : ofRows A B zs X Y S id cs = if E = 0 then tblO A (bxB A B S id) zs cs else [] := by unfold ofRows; rw [hE]
  have HKC : ofCel A B zs.length X Y S id cs = if E = 0 then cs else [] := by unfold ofCel; rw [hE]
  have HL1 : toLi A B zs X Y S id cs d = if E = 0 then rowO A (bxB A B S id) zs d cs else [] := by unfold toLi; rw [hXE]
  have HL2 : backLi A B zs X Y S id cs d = if E = 0 then backO A (bxB A B S id) zs d cs else [] := by unfold backLi; rw [hXE]
  obtain ⟨m, hm⟩ : ∃ m, (if E = 0 then cs.length else 0) = m := ⟨_, rfl⟩
  have l1 : (ofRows A B zs X Y S id cs).length = m := by rw [HTB, ← hm]; split <;> simp [tblO]
  have l2 : (ofCel A B zs.length X Y S id cs).length = m := by rw [HKC, ← hm]; split <;> simp
  have l3 : (toLi A B zs X Y S id cs d).length = m := by rw [HL1, ← hm]; split <;> simp [rowO]
  have l4 : (backLi A B zs X Y S id cs d).length = m := by rw [HL2, ← hm]; split <;> simp [backO]
  simp only [l1, l2] at H2
  simp only [l3] at H3
  simp only [l4] at H4
  obtain ⟨TB, hTB⟩ : ∃ TB, ofRows A B zs X Y S id cs = TB := ⟨_, rfl⟩
  obtain ⟨KC, hKC⟩ : ∃ KC, ofCel A B zs.length X Y S id cs = KC := ⟨_, rfl⟩
  obtain ⟨L1, hL1⟩ : ∃ L1, toLi A B zs X Y S id cs d = L1 := ⟨_, rfl⟩
  obtain ⟨L2, hL2⟩ : ∃ L2, backLi A B zs X Y S id cs d = L2 := ⟨_, rfl⟩
  rw [hTB] at H2 HTB l1
  rw [hKC] at H2 HKC l2
  rw [hL1] at H3 HL1 l3
  rw [hL2] at H4 HL2 l4
  have HLL := Lib.hid (And.intro l1 (And.intro l2 (And.intro l3 l4)))
  have HM := Lib.hid hm
  have HSM := Lib.hid hsm
  have HPOS := Lib.hid (show E = 0 → (∀ r ∈ TB, r.length = cs.length) ∧ TB[k]? = some L1 ∧ (∀ i (hi : i < TB.length), TB[i].getD k 0 = L2.getD i 0) ∧ (TB.getD 0 []).getD 0 0 ≠ 77 ∧ KC = cs ∧ L2.length = cs.length from fun h0 => by
    rw [h0, if_pos rfl] at HTB HKC HL1 HL2
    rw [HTB, HKC, HL1, HL2]
    refine ⟨fun r hr => ?_, ?_, fun i hi => ?_, ?_, rfl, by simp [backO]⟩
    · unfold tblO at hr
      obtain ⟨c, _, rfl⟩ := List.mem_map.1 hr
      exact rowO_len A _ zs c cs
    · rw [tblO_at A _ zs cs hk]
      rw [List.getElem?_eq_getElem hk] at HDK
      rw [Option.some.inj HDK.out]
    · have hi' : i < cs.length := by simpa [tblO] using hi
      have e1 := tblO_at A (bxB A B S id) zs cs hi'
      rw [List.getElem?_eq_getElem (by simpa [tblO] using hi')] at e1
      rw [Option.some.inj e1, List.getD_eq_getElem?_getD, rowO_at A _ zs _ cs HDK.out, List.getD_eq_getElem?_getD, backO_at A _ zs d cs (List.getElem?_eq_getElem hi')]
    · have h00 : 0 < cs.length := by omega
      rw [List.getD_eq_getElem?_getD, List.getD_eq_getElem?_getD, tblO_at A _ zs cs h00]
      simp only [Option.getD_some]
      rw [rowO_at A _ zs _ cs (List.getElem?_eq_getElem h00)]
      rw [h0] at hE
      exact iow_src (cap := cap) hs hr hz hE (List.getElem_mem h00))
  clear hE hXE hTB hKC hL1 hL2 l1 l2 l3 l4 hm hsm HTB HKC HL1 HL2
  go_enter Tryd.func6, Tryd.ntmps6
  go_wp2_with fail
  refine (H1.out _).mono ?_
  rintro e w1 ⟨rfl, hb⟩
  have hk : Below w.heap.size w w1 := by first | exact hb | exact bl_tr (bl_al (bl0 _) _) hb | exact bl_tr (bl_dr (bl_al (bl0 _) _)) hb | exact bl_tr (bl_al (bl_al (bl0 _) _) _) hb | exact bl_tr (bl_dr (bl_al (bl_al (bl0 _) _) _)) hb | exact bl_tr (bl_al (bl_al (bl_al (bl0 _) _) _) _) hb | exact bl_tr (bl_dr (bl_al (bl_al (bl_al (bl0 _) _) _) _)) hb | exact bl_tr (bl_al (bl_al (bl_al (bl_al (bl0 _) _) _) _) _) hb | exact bl_tr (bl_dr (bl_al (bl_al (bl_al (bl_al (bl0 _) _) _) _) _)) hb | exact bl_tr (bl_al (bl_al (bl_al (bl_al (bl_al (bl0 _) _) _) _) _) _) hb | exact bl_tr (bl_dr (bl_al (bl_al (bl_al (bl_al (bl_al (bl0 _) _) _) _) _) _)) hb | exact bl_tr (bl_al (bl_al (bl_al (bl_al (bl_al (bl_al (bl0 _) _) _) _) _) _) _) hb | exact bl_tr (bl_dr (bl_al (bl_al (bl_al (bl_al (bl_al (bl_al (bl0 _) _) _) _) _) _) _)) hb | exact bl_tr (bl_dr (bl0 _)) hb
  replace hA := bl_tr hA hk
  replace q0 := cell_later hk q0
  replace q1 := cell_later hk q1
  have f0 := cell_later hb (v := .int .i64 A) (a := ⟨w.heap.size, 0, none⟩) (by simp [go_sem])
  have f1 := cell_later hb (v := .int .i64 B) (a := ⟨w.heap.size, 1, none⟩) (by simp [go_sem])
  have f2 := cell_later hb (v := .slice a zs.length cap) (a := ⟨w.heap.size, 2, none⟩) (by simp [go_sem])
  have p0 := cell_later hb (v := .int .i64 X) (a := ⟨w.heap.size + 1, 0, none⟩) (by simp [go_sem])
  have p1 := cell_later hb (v := .int .i64 Y) (a := ⟨w.heap.size + 1, 1, none⟩) (by simp [go_sem])
  have p2 := cell_later hb (v := .int .i64 S) (a := ⟨w.heap.size + 1, 2, none⟩) (by simp [go_sem])
  have c0 := cell_later hb (v := .int .i64 id) (a := ⟨w.heap.size + 1 + 1 + 1, 0, none⟩) (by simp [go_sem])
  have c1 := cell_later hb (v := .slice (some ⟨cb, co, none⟩) cs.length cc) (a := ⟨w.heap.size + 1 + 1 + 1, 1, none⟩) (by simp [go_sem])
  clear hb hk
  have zq0 := blk_lt q0
  have zq1 := blk_lt q1
  have zf0 := blk_lt f0
  have zf1 := blk_lt f1
  have zf2 := blk_lt f2
  have zp0 := blk_lt p0
  have zp1 := blk_lt p1
  have zp2 := blk_lt p2
  have zc0 := blk_lt c0
  have zc1 := blk_lt c1
  go_wp2_with fail
  refine (H2.out _ (hr.below (by first | exact hA | exact (bl_al hA _) | exact (bl_dr (bl_al hA _)) | exact (bl_al (bl_al hA _) _) | exact (bl_dr (bl_al (bl_al hA _) _)) | exact (bl_al (bl_al (bl_al hA _) _) _) | exact (bl_dr (bl_al (bl_al (bl_al hA _) _) _)) | exact (bl_al (bl_al (bl_al (bl_al hA _) _) _) _) | exact (bl_dr (bl_al (bl_al (bl_al (bl_al hA _) _) _) _)) | exact (bl_al (bl_al (bl_al (bl_al (bl_al hA _) _) _) _) _) | exact (bl_dr (bl_al (bl_al (bl_al (bl_al (bl_al hA _) _) _) _) _)) | exact (bl_al (bl_al (bl_al (bl_al (bl_al (bl_al hA _) _) _) _) _) _) | exact (bl_dr (bl_al (bl_al (bl_al (bl_al (bl_al (bl_al hA _) _) _) _) _) _)) | exact (bl_dr hA))) (hcs.below (by first | exact hA | exact (bl_al hA _) | exact (bl_dr (bl_al hA _)) | exact (bl_al (bl_al hA _) _) | exact (bl_dr (bl_al (bl_al hA _) _)) | exact (bl_al (bl_al (bl_al hA _) _) _) | exact (bl_dr (bl_al (bl_al (bl_al hA _) _) _)) | exact (bl_al (bl_al (bl_al (bl_al hA _) _) _) _) | exact (bl_dr (bl_al (bl_al (bl_al (bl_al hA _) _) _) _)) | exact (bl_al (bl_al (bl_al (bl_al (bl_al hA _) _) _) _) _) | exact (bl_dr (bl_al (bl_al (bl_al (bl_al (bl_al hA _) _) _) _) _)) | exact (bl_al (bl_al (bl_al (bl_al (bl_al (bl_al hA _) _) _) _) _) _) | exact (bl_dr (bl_al (bl_al (bl_al (bl_al (bl_al (bl_al hA _) _) _) _) _) _)) | exact (bl_dr hA))) (hs.below (by first | exact hA | exact (bl_al hA _) | exact (bl_dr (bl_al hA _)) | exact (bl_al (bl_al hA _) _) | exact (bl_dr (bl_al (bl_al hA _) _)) | exact (bl_al (bl_al (bl_al hA _) _) _) | exact (bl_dr (bl_al (bl_al (bl_al hA _) _) _)) | exact (bl_al (bl_al (bl_al (bl_al hA _) _) _) _) | exact (bl_dr (bl_al (bl_al (bl_al (bl_al hA _) _) _) _)) | exact (bl_al (bl_al (bl_al (bl_al (bl_al hA _) _) _) _) _) | exact (bl_dr (bl_al (bl_al (bl_al (bl_al (bl_al hA _) _) _) _) _)) | exact (bl_al (bl_al (bl_al (bl_al (bl_al (bl_al hA _) _) _) _) _) _) | exact (bl_dr (bl_al (bl_al (bl_al (bl_al (bl_al (bl_al hA _) _) _) _) _) _)) | exact (bl_dr hA)))).mono ?_
  rintro e w2 ⟨ka, kc, ta, tc, rfl, ho, ht, hb⟩
  have hk : Below w1.heap.size w1 w2 := by first | exact hb | exact bl_tr (bl_al (bl0 _) _) hb | exact bl_tr (bl_dr (bl_al (bl0 _) _)) hb | exact bl_tr (bl_al (bl_al (bl0 _) _) _) hb | exact bl_tr (bl_dr (bl_al (bl_al (bl0 _) _) _)) hb | exact bl_tr (bl_al (bl_al (bl_al (bl0 _) _) _) _) hb | exact bl_tr (bl_dr (bl_al (bl_al (bl_al (bl0 _) _) _) _)) hb | exact bl_tr (bl_al (bl_al (bl_al (bl_al (bl0 _) _) _) _) _) hb | exact bl_tr (bl_dr (bl_al (bl_al (bl_al (bl_al (bl0 _) _) _) _) _)) hb | exact bl_tr (bl_al (bl_al (bl_al (bl_al (bl_al (bl0 _) _) _) _) _) _) hb | exact bl_tr (bl_dr (bl_al (bl_al (bl_al (bl_al (bl_al (bl0 _) _) _) _) _) _)) hb | exact bl_tr (bl_al (bl_al (bl_al (bl_al (bl_al (bl_al (bl0 _) _) _) _) _) _) _) hb | exact bl_tr (bl_dr (bl_al (bl_al (bl_al (bl_al (bl_al (bl_al (bl0 _) _) _) _) _) _) _)) hb | exact bl_tr (bl_dr (bl0 _)) hb
  replace hA := bl_tr hA hk
  replace f0 := cell_later hk f0
  replace f1 := cell_later hk f1
  replace f2 := cell_later hk f2
  replace p0 := cell_later hk p0
  replace p1 := cell_later hk p1
  replace p2 := cell_later hk p2
  replace c0 := cell_later hk c0
  replace c1 := cell_later hk c1
  replace q0 := cell_later hk q0
  replace q1 := cell_later hk q1
  clear hb hk
  have zf0 := blk_lt f0
  have zf1 := blk_lt f1
  have zf2 := blk_lt f2
  have zp0 := blk_lt p0
  have zp1 := blk_lt p1
  have zp2 := blk_lt p2
  have zc0 := blk_lt c0
  have zc1 := blk_lt c1
  have zq0 := blk_lt q0
  have zq1 := blk_lt q1
  have hz1w : w.heap.size + 1 + 1 + 1 < w1.heap.size := by assumption
  have HO := Lib.hid ho
  have HTT := Lib.hid ht
  clear ho ht
  go_upto_region 7 with fail
  obtain ⟨W3, hW3⟩ : ∃ W3, (((w2.alloc (.cells #[.slice ka m kc, .slice ta m tc] 54)).alloc (.cells #[.int .u64 7] 36)).alloc (.cells #[.slice (some ⟨w2.heap.size + 1, 0, none⟩) 1 1] 42)).alloc (.cells #[.slice (some ⟨cb, co, none⟩) cs.length cc, .slice (some ⟨w2.heap.size + 1 + 1, 0, none⟩) 1 1] 54) = W3 := ⟨_, rfl⟩
  have hb23 : Below w2.heap.size w2 W3 := by rw [← hW3]; exact bl_al (bl_al (bl_al (bl_al (bl0 _) _) _) _) _
  have t0 : W3.cell? ⟨w2.heap.size, 0, none⟩ = some (.slice ka m kc) := by rw [← hW3]; simp [go_sem]
  have t1 : W3.cell? ⟨w2.heap.size, 1, none⟩ = some (.slice ta m tc) := by rw [← hW3]; simp [go_sem]
  have u0 : W3.cell? ⟨w2.heap.size + 1 + 1 + 1, 0, none⟩ = some (.slice (some ⟨cb, co, none⟩) cs.length cc) := by rw [← hW3]; simp [go_sem]
  have u1 : W3.cell? ⟨w2.heap.size + 1 + 1 + 1, 1, none⟩ = some (.slice (some ⟨w2.heap.size + 1 + 1, 0, none⟩) 1 1) := by rw [← hW3]; simp [go_sem]
  rw [hW3]
  replace f0 := cell_later hb23 f0; replace f1 := cell_later hb23 f1; replace f2 := cell_later hb23 f2; replace p0 := cell_later hb23 p0; replace p1 := cell_later hb23 p1; replace p2 := cell_later hb23 p2
  replace c0 := cell_later hb23 c0; replace c1 := cell_later hb23 c1; replace q0 := cell_later hb23 q0; replace q1 := cell_later hb23 q1
  have hA3 := bl_tr hA hb23
  have HF9 := Lib.hid (show ∀ W8, Below W3.heap.size W3 W8 → W8.cell? ⟨w.heap.size, 0, none⟩ = some (.int .i64 A) ∧ W8.cell? ⟨w.heap.size, 1, none⟩ = some (.int .i64 B) ∧ W8.cell? ⟨w.heap.size, 2, none⟩ = some (.slice a zs.length cap) ∧ W8.cell? ⟨w.heap.size + 1, 0, none⟩ = some (.int .i64 X) ∧ W8.cell? ⟨w.heap.size + 1, 1, none⟩ = some (.int .i64 Y) ∧ W8.cell? ⟨w.heap.size + 1, 2, none⟩ = some (.int .i64 S) ∧ W8.cell? ⟨w.heap.size + 1 + 1 + 1, 0, none⟩ = some (.int .i64 id) ∧ W8.cell? ⟨w.heap.size + 1 + 1 + 1, 1, none⟩ = some (.slice (some ⟨cb, co, none⟩) cs.length cc) ∧ W8.cell? ⟨w2.heap.size + 1 + 1 + 1, 0, none⟩ = some (.slice (some ⟨cb, co, none⟩) cs.length cc) ∧ W8.cell? ⟨w2.heap.size + 1 + 1 + 1, 1, none⟩ = some (.slice (some ⟨w2.heap.size + 1 + 1, 0, none⟩) 1 1) ∧ W8.cell? ⟨cb, co + k * 2, none⟩ = some (.int .i64 d.1) ∧ W8.cell? ⟨cb, co + k * 2 + 1, none⟩ = some (.int .i64 d.2) from fun W8 h => ⟨cell_later h f0, cell_later h f1, cell_later h f2, cell_later h p0, cell_later h p1, cell_later h p2, cell_later h c0, cell_later h c1, cell_later h u0, cell_later h u1, cell_later h q0, cell_later h q1⟩)
  have HFT := Lib.hid (show ∀ W8, Below W3.heap.size W3 W8 → W8.cell? ⟨w2.heap.size, 0, none⟩ = some (.slice ka m kc) ∧ W8.cell? ⟨w2.heap.size, 1, none⟩ = some (.slice ta m tc) from fun W8 h => ⟨cell_later h t0, cell_later h t1⟩)
  have HR := Lib.hid (fun W8 (h : Below W3.heap.size W3 W8) => (hr.below hA3).below h)
  have HC := Lib.hid (fun W8 (h : Below W3.heap.size W3 W8) => (hcs.below hA3).below h)
  have HS := Lib.hid (fun W8 (h : Below W3.heap.size W3 W8) => (hs.below hA3).below h)
  have HBW := Lib.hid (fun W8 (h : Below W3.heap.size W3 W8) => bl_tr hA3 h)
  have HB23 := Lib.hid hb23
  have HA2 := Lib.hid hA
  have HR0 := Lib.hid hr
  have HC0 := Lib.hid hcs
  have HS0 := Lib.hid hs
  have HZ1 := Lib.hid hz1w
  have hB3 := bl0 W3
  clear hW3 hb23 f0 f1 f2 p0 p1 p2 c0 c1 u0 u1 q0 q1 t0 t1 hr hcs hs hA hA3 H1
  go_upto_region 7 with fail
  have hB := bl_dr (bl0 W3)
  refine (wpIn_wide (n := 11)).1 ?_
  refine ordS_begin (S := (fun W9 : World => W9.cell? ⟨w.heap.size, 0, none⟩ = some (.int .i64 A) ∧ W9.cell? ⟨w.heap.size, 1, none⟩ = some (.int .i64 B) ∧ W9.cell? ⟨w.heap.size, 2, none⟩ = some (.slice a zs.length cap) ∧ W9.cell? ⟨w.heap.size + 1, 0, none⟩ = some (.int .i64 X) ∧ W9.cell? ⟨w.heap.size + 1, 1, none⟩ = some (.int .i64 Y) ∧ W9.cell? ⟨w.heap.size + 1, 2, none⟩ = some (.int .i64 S) ∧ W9.cell? ⟨w.heap.size + 1 + 1 + 1, 0, none⟩ = some (.int .i64 id) ∧ W9.cell? ⟨w.heap.size + 1 + 1 + 1, 1, none⟩ = some (.slice (some ⟨cb, co, none⟩) cs.length cc) ∧ W9.cell? ⟨w2.heap.size + 1 + 1 + 1, 0, none⟩ = some (.slice (some ⟨cb, co, none⟩) cs.length cc) ∧ W9.cell? ⟨w2.heap.size + 1 + 1 + 1, 1, none⟩ = some (.slice (some ⟨w2.heap.size + 1 + 1, 0, none⟩) 1 1) ∧ W9.cell? ⟨cb, co + k * 2, none⟩ = some (.int .i64 d.1) ∧ W9.cell? ⟨cb, co + k * 2 + 1, none⟩ = some (.int .i64 d.2))) (by kernel_rfl) (HF9.out _ (bl_tr hB3 hB)) (fun hH => ?_)
  refine' ordS_take (i := 0) (oi := { dst := some 62, op := Op.load 26 (Operand.tmp 3), type := 26, pos := _, after := #[], guard := none }) (v := _) rfl (by kernel_rfl) (by kernel_rfl) (by kernel_rfl) (by kernel_rfl) (fun _ _ _ h => h) (by assumption) (Or.inl ⟨by rfl, ?hy451⟩) (fun _ => rfl) ?rest451
  case hy451 => (intro w hSw; (try dsimp only at hSw); go_simp; try with_reducible rfl)
  try simp only [Act.put, List.setIfInBounds_toArray, List.set_cons_zero, List.set_cons_succ]
  refine' ordS_take (i := 1) (oi := { dst := some 63, op := Op.load 48 (Operand.tmp 4), type := 48, pos := _, after := #[], guard := none }) (v := _) rfl (by kernel_rfl) (by kernel_rfl) (by kernel_rfl) (by kernel_rfl) (fun _ _ _ h => h) (by assumption) (Or.inl ⟨by rfl, ?hy452⟩) (fun _ => rfl) ?rest452
  case hy452 => (intro w hSw; (try dsimp only at hSw); go_simp; try with_reducible rfl)
  try simp only [Act.put, List.setIfInBounds_toArray, List.set_cons_zero, List.set_cons_succ]
  refine' ordS_take (i := 2) (oi := { dst := some 64, op := Op.fieldAddr 50 (Operand.tmp 7) 0, type := 0, pos := _, after := #[], guard := none }) (v := _) rfl (by kernel_rfl) (by kernel_rfl) (by kernel_rfl) (by kernel_rfl) (fun _ _ _ h => h) (by assumption) (Or.inl ⟨by rfl, ?hy453⟩) (fun _ => rfl) ?rest453
  case hy453 => (intro w hSw; (try dsimp only at hSw); go_simp; try with_reducible rfl)
  try simp only [Act.put, List.setIfInBounds_toArray, List.set_cons_zero, List.set_cons_succ]
  refine' ordS_take (i := 3) (oi := { dst := some 65, op := Op.load 3 (Operand.tmp 64), type := 3, pos := _, after := #[{ on := 2, ground := Ground.data }], guard := none }) (v := _) rfl (by kernel_rfl) (by kernel_rfl) (by kernel_rfl) (by kernel_rfl) (fun _ _ _ h => h) (by assumption) (Or.inl ⟨by rfl, ?hy454⟩) (fun _ => rfl) ?rest454
  case hy454 => (intro w hSw; (try dsimp only at hSw); go_simp; try with_reducible rfl)
  try simp only [Act.put, List.setIfInBounds_toArray, List.set_cons_zero, List.set_cons_succ]
  refine' ordS_take (i := 4) (oi := { dst := some 66, op := Op.load 54 (Operand.tmp 11), type := 54, pos := _, after := #[], guard := none }) (v := _) rfl (by kernel_rfl) (by kernel_rfl) (by kernel_rfl) (by kernel_rfl) (fun _ _ _ h => h) (by assumption) (Or.inl ⟨by rfl, ?hy455⟩) (fun _ => rfl) ?rest455
  case hy455 => (intro w hSw; (try dsimp only at hSw); go_simp; try with_reducible rfl)
  try simp only [Act.put, List.setIfInBounds_toArray, List.set_cons_zero, List.set_cons_succ]
  refine' ordS_take (i := 5) (oi := { dst := some 67, op := Op.fieldAddr 50 (Operand.tmp 7) 1, type := 0, pos := _, after := #[], guard := none }) (v := _) rfl (by kernel_rfl) (by kernel_rfl) (by kernel_rfl) (by kernel_rfl) (fun _ _ _ h => h) (by assumption) (Or.inl ⟨by rfl, ?hy456⟩) (fun _ => rfl) ?rest456
  case hy456 => (intro w hSw; (try dsimp only at hSw); go_simp; try with_reducible rfl)
  try simp only [Act.put, List.setIfInBounds_toArray, List.set_cons_zero, List.set_cons_succ]
  refine' ordS_take (i := 6) (oi := { dst := some 68, op := Op.load 35 (Operand.tmp 67), type := 35, pos := _, after := #[{ on := 5, ground := Ground.data }], guard := none }) (v := _) rfl (by kernel_rfl) (by kernel_rfl) (by kernel_rfl) (by kernel_rfl) (fun _ _ _ h => h) (by assumption) (Or.inl ⟨by rfl, ?hy457⟩) (fun _ => rfl) ?rest457
  case hy457 => (intro w hSw; (try dsimp only at hSw); go_simp; try with_reducible rfl)
  try simp only [Act.put, List.setIfInBounds_toArray, List.set_cons_zero, List.set_cons_succ]
  refine' ordS_take (i := 7) (oi := { dst := some 69, op := Op.move (Operand.tmp 8), type := 3, pos := _, after := #[], guard := none }) (v := _) rfl (by kernel_rfl) (by kernel_rfl) (by kernel_rfl) (by kernel_rfl) (fun _ _ _ h => h) (by assumption) (Or.inl ⟨by rfl, ?hy458⟩) (fun _ => rfl) ?rest458
  case hy458 => (intro w hSw; (try dsimp only at hSw); go_simp; try with_reducible rfl)
  try simp only [Act.put, List.setIfInBounds_toArray, List.set_cons_zero, List.set_cons_succ]
  refine' ordS_take (i := 8) (oi := { dst := some 70, op := Op.indexAddr 35 (Operand.tmp 68) (Operand.tmp 69), type := 0, pos := _, after := #[{ on := 6, ground := Ground.data }, { on := 7, ground := Ground.data }], guard := none }) (v := _) rfl (by kernel_rfl) (by kernel_rfl) (by kernel_rfl) (by kernel_rfl) (fun _ _ _ h => h) (by assumption) (Or.inl ⟨by rfl, ?hy459⟩) (fun _ => rfl) ?rest459
  case hy459 => (intro w hSw; (try dsimp only at hSw); go_simp; try with_reducible rfl)
  try simp only [Act.put, List.setIfInBounds_toArray, List.set_cons_zero, List.set_cons_succ]
  refine' ordS_take (i := 9) (oi := { dst := some 71, op := Op.load 30 (Operand.tmp 70), type := 30, pos := _, after := #[{ on := 8, ground := Ground.data }], guard := none }) (v := _) rfl (by kernel_rfl) (by kernel_rfl) (by kernel_rfl) (by kernel_rfl) (fun _ _ _ h => h) (by assumption) (Or.inl ⟨by rfl, ?hy460⟩) (fun _ => rfl) ?rest460
  case hy460 => (intro w hSw; (try dsimp only at hSw); go_simp; try with_reducible rfl)
  try simp only [Act.put, List.setIfInBounds_toArray, List.set_cons_zero, List.set_cons_succ]
  obtain ⟨W2, hW2⟩ : ∃ W2, W3.drew = W2 := ⟨_, rfl⟩
  rw [hW2] at hB
  rw [hW2]
  clear hW2 hH
  refine ordS_one (i := 10) (o := { dst := some 72, op := Op.call { callee := Callee.value (Operand.func 25), args := #[Operand.tmp 62, Operand.tmp 63, Operand.tmp 65, Operand.tmp 66, Operand.tmp 71], argTypes := #[26, 48, 3, 54, 30] }, type := 65, pos := _, after := #[{ on := 0, ground := Ground.data }, { on := 1, ground := Ground.data }, { on := 3, ground := Ground.data }, { on := 4, ground := Ground.data }, { on := 9, ground := Ground.data }], guard := none }) (by kernel_rfl) rfl (by rfl) (fun K hK => ?_)
  go_simp
  refine ⟨trivial, ?_⟩
  with_reducible refine (callsIn_wide.2 (H3.out _ _ (HR.out _ (bl_tr hB3 hB)) (HC.out _ (bl_tr hB3 hB)) (HS.out _ (bl_tr hB3 hB)))).mono ?_
  rintro e V1 ⟨gA, kA, rfl, hqA, hb⟩
  replace hB := bl_tr hB hb
  replace hB3 := bl_tr hB3 hB
  refine hK _ _ (HF9.out _ hB3) ?_
  have hS9 := HF9.out _ hB3
  clear hK K
  try simp only [Act.put, List.setIfInBounds_toArray, List.set_cons_zero, List.set_cons_succ]
  refine' ordS_take (i := 11) (oi := { dst := some 61, op := Op.move (Operand.tmp 72), type := 65, pos := _, after := #[{ on := 10, ground := Ground.data }], guard := none }) (v := _) rfl (by kernel_rfl) (by kernel_rfl) (by kernel_rfl) (by kernel_rfl) (fun _ _ _ h => h) (by assumption) (Or.inl ⟨by rfl, ?hy461⟩) (fun _ => rfl) ?rest461
  case hy461 => (intro w hSw; (try dsimp only at hSw); go_simp; try with_reducible rfl)
  try simp only [Act.put, List.setIfInBounds_toArray, List.set_cons_zero, List.set_cons_succ]
  refine' ordS_take (i := 12) (oi := { dst := some 73, op := Op.extract (Operand.tmp 61) 0, type := 42, pos := _, after := #[{ on := 11, ground := Ground.data }], guard := none }) (v := _) rfl (by kernel_rfl) (by kernel_rfl) (by kernel_rfl) (by kernel_rfl) (fun _ _ _ h => h) (by assumption) (Or.inl ⟨by rfl, ?hy462⟩) (fun _ => rfl) ?rest462
  case hy462 => (intro w hSw; (try dsimp only at hSw); go_simp; try with_reducible rfl)
  try simp only [Act.put, List.setIfInBounds_toArray, List.set_cons_zero, List.set_cons_succ]
  refine' ordS_take (i := 13) (oi := { dst := some 74, op := Op.extract (Operand.tmp 61) 1, type := 37, pos := _, after := #[{ on := 11, ground := Ground.data }, { on := 14, ground := Ground.gcOnly Departure.lateStores }], guard := none }) (v := _) rfl (by kernel_rfl) (by kernel_rfl) (by kernel_rfl) (by kernel_rfl) (fun _ _ _ h => h) (by assumption) (Or.inl ⟨by rfl, ?hy463⟩) (fun _ => rfl) ?rest463
  case hy463 => (intro w hSw; (try dsimp only at hSw); go_simp; try with_reducible rfl)
  try simp only [Act.put, List.setIfInBounds_toArray, List.set_cons_zero, List.set_cons_succ]
  refine' ordS_take (i := 14) (oi := { dst := some 12, op := Op.assign (Operand.tmp 73), type := 42, pos := _, after := #[{ on := 12, ground := Ground.data }, { on := 10, ground := Ground.chain }, { on := 0, ground := Ground.phase }, { on := 1, ground := Ground.phase }, { on := 2, ground := Ground.phase }, { on := 3, ground := Ground.phase }, { on := 4, ground := Ground.phase }, { on := 5, ground := Ground.phase }, { on := 6, ground := Ground.phase }, { on := 7, ground := Ground.phase }, { on := 8, ground := Ground.phase }, { on := 9, ground := Ground.phase }, { on := 10, ground := Ground.phase }, { on := 11, ground := Ground.phase }, { on := 12, ground := Ground.phase }, { on := 13, ground := Ground.textOnly Departure.lateStores }], guard := none }) (v := _) rfl (by kernel_rfl) (by kernel_rfl) (by kernel_rfl) (by kernel_rfl) (fun _ _ _ h => h) (by assumption) (Or.inl ⟨by rfl, ?hy464⟩) (fun _ => rfl) ?rest464
  case hy464 => (intro w hSw; (try dsimp only at hSw); go_simp; try with_reducible rfl)
  try simp only [Act.put, List.setIfInBounds_toArray, List.set_cons_zero, List.set_cons_succ]
  refine' ordS_take (i := 15) (oi := { dst := some 13, op := Op.assign (Operand.tmp 74), type := 37, pos := _, after := #[{ on := 13, ground := Ground.data }, { on := 14, ground := Ground.chain }, { on := 0, ground := Ground.phase }, { on := 1, ground := Ground.phase }, { on := 2, ground := Ground.phase }, { on := 3, ground := Ground.phase }, { on := 4, ground := Ground.phase }, { on := 5, ground := Ground.phase }, { on := 6, ground := Ground.phase }, { on := 7, ground := Ground.phase }, { on := 8, ground := Ground.phase }, { on := 9, ground := Ground.phase }, { on := 10, ground := Ground.phase }, { on := 11, ground := Ground.phase }, { on := 12, ground := Ground.phase }, { on := 13, ground := Ground.phase }, { on := 14, ground := Ground.phase }], guard := none }) (v := _) rfl (by kernel_rfl) (by kernel_rfl) (by kernel_rfl) (by kernel_rfl) (fun _ _ _ h => h) (by assumption) (Or.inl ⟨by rfl, ?hy465⟩) (fun _ => rfl) ?rest465
  case hy465 => (intro w hSw; (try dsimp only at hSw); go_simp; try with_reducible rfl)
  try simp only [Act.put, List.setIfInBounds_toArray, List.set_cons_zero, List.set_cons_succ]
  refine ordS_done (by kernel_rfl) ?_
  clear hS9
  have HRA := Lib.hid (rowU_or hqA)
  have HVV := Lib.hid hb
  clear hqA hb hB
  go_upto_region 8 with fail
  have hB := bl_dr (bl0 V1)
  refine (wpIn_wide (n := 11)).1 ?_
  refine ordS_begin (S := (fun W9 : World => W9.cell? ⟨w.heap.size, 0, none⟩ = some (.int .i64 A) ∧ W9.cell? ⟨w.heap.size, 1, none⟩ = some (.int .i64 B) ∧ W9.cell? ⟨w.heap.size, 2, none⟩ = some (.slice a zs.length cap) ∧ W9.cell? ⟨w.heap.size + 1, 0, none⟩ = some (.int .i64 X) ∧ W9.cell? ⟨w.heap.size + 1, 1, none⟩ = some (.int .i64 Y) ∧ W9.cell? ⟨w.heap.size + 1, 2, none⟩ = some (.int .i64 S) ∧ W9.cell? ⟨w.heap.size + 1 + 1 + 1, 0, none⟩ = some (.int .i64 id) ∧ W9.cell? ⟨w.heap.size + 1 + 1 + 1, 1, none⟩ = some (.slice (some ⟨cb, co, none⟩) cs.length cc) ∧ W9.cell? ⟨w2.heap.size + 1 + 1 + 1, 0, none⟩ = some (.slice (some ⟨cb, co, none⟩) cs.length cc) ∧ W9.cell? ⟨w2.heap.size + 1 + 1 + 1, 1, none⟩ = some (.slice (some ⟨w2.heap.size + 1 + 1, 0, none⟩) 1 1) ∧ W9.cell? ⟨cb, co + k * 2, none⟩ = some (.int .i64 d.1) ∧ W9.cell? ⟨cb, co + k * 2 + 1, none⟩ = some (.int .i64 d.2))) (by kernel_rfl) (HF9.out _ (bl_tr hB3 hB)) (fun hH => ?_)
  refine' ordS_take (i := 0) (oi := { dst := some 76, op := Op.load 26 (Operand.tmp 3), type := 26, pos := _, after := #[], guard := none }) (v := _) rfl (by kernel_rfl) (by kernel_rfl) (by kernel_rfl) (by kernel_rfl) (fun _ _ _ h => h) (by assumption) (Or.inl ⟨by rfl, ?hy466⟩) (fun _ => rfl) ?rest466
  case hy466 => (intro w hSw; (try dsimp only at hSw); go_simp; try with_reducible rfl)
  try simp only [Act.put, List.setIfInBounds_toArray, List.set_cons_zero, List.set_cons_succ]
  refine' ordS_take (i := 1) (oi := { dst := some 77, op := Op.load 48 (Operand.tmp 4), type := 48, pos := _, after := #[], guard := none }) (v := _) rfl (by kernel_rfl) (by kernel_rfl) (by kernel_rfl) (by kernel_rfl) (fun _ _ _ h => h) (by assumption) (Or.inl ⟨by rfl, ?hy467⟩) (fun _ => rfl) ?rest467
  case hy467 => (intro w hSw; (try dsimp only at hSw); go_simp; try with_reducible rfl)
  try simp only [Act.put, List.setIfInBounds_toArray, List.set_cons_zero, List.set_cons_succ]
  refine' ordS_take (i := 2) (oi := { dst := some 78, op := Op.fieldAddr 50 (Operand.tmp 7) 0, type := 0, pos := _, after := #[], guard := none }) (v := _) rfl (by kernel_rfl) (by kernel_rfl) (by kernel_rfl) (by kernel_rfl) (fun _ _ _ h => h) (by assumption) (Or.inl ⟨by rfl, ?hy468⟩) (fun _ => rfl) ?rest468
  case hy468 => (intro w hSw; (try dsimp only at hSw); go_simp; try with_reducible rfl)
  try simp only [Act.put, List.setIfInBounds_toArray, List.set_cons_zero, List.set_cons_succ]
  refine' ordS_take (i := 3) (oi := { dst := some 79, op := Op.load 3 (Operand.tmp 78), type := 3, pos := _, after := #[{ on := 2, ground := Ground.data }], guard := none }) (v := _) rfl (by kernel_rfl) (by kernel_rfl) (by kernel_rfl) (by kernel_rfl) (fun _ _ _ h => h) (by assumption) (Or.inl ⟨by rfl, ?hy469⟩) (fun _ => rfl) ?rest469
  case hy469 => (intro w hSw; (try dsimp only at hSw); go_simp; try with_reducible rfl)
  try simp only [Act.put, List.setIfInBounds_toArray, List.set_cons_zero, List.set_cons_succ]
  refine' ordS_take (i := 4) (oi := { dst := some 80, op := Op.load 54 (Operand.tmp 11), type := 54, pos := _, after := #[], guard := none }) (v := _) rfl (by kernel_rfl) (by kernel_rfl) (by kernel_rfl) (by kernel_rfl) (fun _ _ _ h => h) (by assumption) (Or.inl ⟨by rfl, ?hy470⟩) (fun _ => rfl) ?rest470
  case hy470 => (intro w hSw; (try dsimp only at hSw); go_simp; try with_reducible rfl)
  try simp only [Act.put, List.setIfInBounds_toArray, List.set_cons_zero, List.set_cons_succ]
  refine' ordS_take (i := 5) (oi := { dst := some 81, op := Op.fieldAddr 50 (Operand.tmp 7) 1, type := 0, pos := _, after := #[], guard := none }) (v := _) rfl (by kernel_rfl) (by kernel_rfl) (by kernel_rfl) (by kernel_rfl) (fun _ _ _ h => h) (by assumption) (Or.inl ⟨by rfl, ?hy471⟩) (fun _ => rfl) ?rest471
  case hy471 => (intro w hSw; (try dsimp only at hSw); go_simp; try with_reducible rfl)
  try simp only [Act.put, List.setIfInBounds_toArray, List.set_cons_zero, List.set_cons_succ]
  refine' ordS_take (i := 6) (oi := { dst := some 82, op := Op.load 35 (Operand.tmp 81), type := 35, pos := _, after := #[{ on := 5, ground := Ground.data }], guard := none }) (v := _) rfl (by kernel_rfl) (by kernel_rfl) (by kernel_rfl) (by kernel_rfl) (fun _ _ _ h => h) (by assumption) (Or.inl ⟨by rfl, ?hy472⟩) (fun _ => rfl) ?rest472
  case hy472 => (intro w hSw; (try dsimp only at hSw); go_simp; try with_reducible rfl)
  try simp only [Act.put, List.setIfInBounds_toArray, List.set_cons_zero, List.set_cons_succ]
  refine' ordS_take (i := 7) (oi := { dst := some 83, op := Op.move (Operand.tmp 8), type := 3, pos := _, after := #[], guard := none }) (v := _) rfl (by kernel_rfl) (by kernel_rfl) (by kernel_rfl) (by kernel_rfl) (fun _ _ _ h => h) (by assumption) (Or.inl ⟨by rfl, ?hy473⟩) (fun _ => rfl) ?rest473
  case hy473 => (intro w hSw; (try dsimp only at hSw); go_simp; try with_reducible rfl)
  try simp only [Act.put, List.setIfInBounds_toArray, List.set_cons_zero, List.set_cons_succ]
  refine' ordS_take (i := 8) (oi := { dst := some 84, op := Op.indexAddr 35 (Operand.tmp 82) (Operand.tmp 83), type := 0, pos := _, after := #[{ on := 6, ground := Ground.data }, { on := 7, ground := Ground.data }], guard := none }) (v := _) rfl (by kernel_rfl) (by kernel_rfl) (by kernel_rfl) (by kernel_rfl) (fun _ _ _ h => h) (by assumption) (Or.inl ⟨by rfl, ?hy474⟩) (fun _ => rfl) ?rest474
  case hy474 => (intro w hSw; (try dsimp only at hSw); go_simp; try with_reducible rfl)
  try simp only [Act.put, List.setIfInBounds_toArray, List.set_cons_zero, List.set_cons_succ]
  refine' ordS_take (i := 9) (oi := { dst := some 85, op := Op.load 30 (Operand.tmp 84), type := 30, pos := _, after := #[{ on := 8, ground := Ground.data }], guard := none }) (v := _) rfl (by kernel_rfl) (by kernel_rfl) (by kernel_rfl) (by kernel_rfl) (fun _ _ _ h => h) (by assumption) (Or.inl ⟨by rfl, ?hy475⟩) (fun _ => rfl) ?rest475
  case hy475 => (intro w hSw; (try dsimp only at hSw); go_simp; try with_reducible rfl)
  try simp only [Act.put, List.setIfInBounds_toArray, List.set_cons_zero, List.set_cons_succ]
  obtain ⟨W2, hW2⟩ : ∃ W2, V1.drew = W2 := ⟨_, rfl⟩
  rw [hW2] at hB
  rw [hW2]
  clear hW2 hH
  refine ordS_one (i := 10) (o := { dst := some 86, op := Op.call { callee := Callee.value (Operand.func 26), args := #[Operand.tmp 76, Operand.tmp 77, Operand.tmp 79, Operand.tmp 80, Operand.tmp 85], argTypes := #[26, 48, 3, 54, 30] }, type := 65, pos := _, after := #[{ on := 0, ground := Ground.data }, { on := 1, ground := Ground.data }, { on := 3, ground := Ground.data }, { on := 4, ground := Ground.data }, { on := 9, ground := Ground.data }], guard := none }) (by kernel_rfl) rfl (by rfl) (fun K hK => ?_)
  go_simp
  refine ⟨trivial, ?_⟩
  with_reducible refine (callsIn_wide.2 (H4.out _ _ (HR.out _ (bl_tr hB3 hB)) (HC.out _ (bl_tr hB3 hB)) (HS.out _ (bl_tr hB3 hB)))).mono ?_
  rintro e V2 ⟨gB, kB, rfl, hqB, hb⟩
  replace hB := bl_tr hB hb
  replace hB3 := bl_tr hB3 hB
  refine hK _ _ (HF9.out _ hB3) ?_
  have hS9 := HF9.out _ hB3
  clear hK K
  try simp only [Act.put, List.setIfInBounds_toArray, List.set_cons_zero, List.set_cons_succ]
  refine' ordS_take (i := 11) (oi := { dst := some 75, op := Op.move (Operand.tmp 86), type := 65, pos := _, after := #[{ on := 10, ground := Ground.data }], guard := none }) (v := _) rfl (by kernel_rfl) (by kernel_rfl) (by kernel_rfl) (by kernel_rfl) (fun _ _ _ h => h) (by assumption) (Or.inl ⟨by rfl, ?hy476⟩) (fun _ => rfl) ?rest476
  case hy476 => (intro w hSw; (try dsimp only at hSw); go_simp; try with_reducible rfl)
  try simp only [Act.put, List.setIfInBounds_toArray, List.set_cons_zero, List.set_cons_succ]
  refine' ordS_take (i := 12) (oi := { dst := some 87, op := Op.extract (Operand.tmp 75) 0, type := 42, pos := _, after := #[{ on := 11, ground := Ground.data }], guard := none }) (v := _) rfl (by kernel_rfl) (by kernel_rfl) (by kernel_rfl) (by kernel_rfl) (fun _ _ _ h => h) (by assumption) (Or.inl ⟨by rfl, ?hy477⟩) (fun _ => rfl) ?rest477
  case hy477 => (intro w hSw; (try dsimp only at hSw); go_simp; try with_reducible rfl)
  try simp only [Act.put, List.setIfInBounds_toArray, List.set_cons_zero, List.set_cons_succ]
  refine' ordS_take (i := 13) (oi := { dst := some 88, op := Op.extract (Operand.tmp 75) 1, type := 37, pos := _, after := #[{ on := 11, ground := Ground.data }, { on := 14, ground := Ground.gcOnly Departure.lateStores }], guard := none }) (v := _) rfl (by kernel_rfl) (by kernel_rfl) (by kernel_rfl) (by kernel_rfl) (fun _ _ _ h => h) (by assumption) (Or.inl ⟨by rfl, ?hy478⟩) (fun _ => rfl) ?rest478
  case hy478 => (intro w hSw; (try dsimp only at hSw); go_simp; try with_reducible rfl)
  try simp only [Act.put, List.setIfInBounds_toArray, List.set_cons_zero, List.set_cons_succ]
  refine' ordS_take (i := 14) (oi := { dst := some 14, op := Op.assign (Operand.tmp 87), type := 42, pos := _, after := #[{ on := 12, ground := Ground.data }, { on := 10, ground := Ground.chain }, { on := 0, ground := Ground.phase }, { on := 1, ground := Ground.phase }, { on := 2, ground := Ground.phase }, { on := 3, ground := Ground.phase }, { on := 4, ground := Ground.phase }, { on := 5, ground := Ground.phase }, { on := 6, ground := Ground.phase }, { on := 7, ground := Ground.phase }, { on := 8, ground := Ground.phase }, { on := 9, ground := Ground.phase }, { on := 10, ground := Ground.phase }, { on := 11, ground := Ground.phase }, { on := 12, ground := Ground.phase }, { on := 13, ground := Ground.textOnly Departure.lateStores }], guard := none }) (v := _) rfl (by kernel_rfl) (by kernel_rfl) (by kernel_rfl) (by kernel_rfl) (fun _ _ _ h => h) (by assumption) (Or.inl ⟨by rfl, ?hy479⟩) (fun _ => rfl) ?rest479
  case hy479 => (intro w hSw; (try dsimp only at hSw); go_simp; try with_reducible rfl)
  try simp only [Act.put, List.setIfInBounds_toArray, List.set_cons_zero, List.set_cons_succ]
  refine' ordS_take (i := 15) (oi := { dst := some 15, op := Op.assign (Operand.tmp 88), type := 37, pos := _, after := #[{ on := 13, ground := Ground.data }, { on := 14, ground := Ground.chain }, { on := 0, ground := Ground.phase }, { on := 1, ground := Ground.phase }, { on := 2, ground := Ground.phase }, { on := 3, ground := Ground.phase }, { on := 4, ground := Ground.phase }, { on := 5, ground := Ground.phase }, { on := 6, ground := Ground.phase }, { on := 7, ground := Ground.phase }, { on := 8, ground := Ground.phase }, { on := 9, ground := Ground.phase }, { on := 10, ground := Ground.phase }, { on := 11, ground := Ground.phase }, { on := 12, ground := Ground.phase }, { on := 13, ground := Ground.phase }, { on := 14, ground := Ground.phase }], guard := none }) (v := _) rfl (by kernel_rfl) (by kernel_rfl) (by kernel_rfl) (by kernel_rfl) (fun _ _ _ h => h) (by assumption) (Or.inl ⟨by rfl, ?hy480⟩) (fun _ => rfl) ?rest480
  case hy480 => (intro w hSw; (try dsimp only at hSw); go_simp; try with_reducible rfl)
  try simp only [Act.put, List.setIfInBounds_toArray, List.set_cons_zero, List.set_cons_succ]
  refine ordS_done (by kernel_rfl) ?_
  clear hS9
  have HRB := Lib.hid (rowU_or hqB)
  have HRA2 := Lib.hid (HRA.out.below hB)
  have HB3 := Lib.hid hB3
  clear hqB hb hB HRA H3 H4
  obtain ⟨f0, f1, f2, p0, p1, p2, c0, c1, -⟩ := HF9.out _ HB3.out
  obtain ⟨t0, t1⟩ := HFT.out _ HB3.out
  by_cases h0 : E = 0
  case neg =>
    obtain rfl : m = 0 := by have := HM.out; rw [if_neg h0] at this; exact this.symm
    have e1 : (E == E) = true := beq_self_eq_true _
    have e2 : (E != 0) = true := by rw [bne_iff_ne]; exact h0
    clear h0 f0 f1 f2 p0 p1 p2 c0 c1 t0 t1
    go_wp2_with fail
    refine (awake13 _ (HS.out _ HB3.out)).mono ?_
    rintro e W9 ⟨rfl, hb9⟩
    have hA9 := HBW.out _ (bl_tr HB3.out hb9)
    clear hb9 hB3
    go_wp2
    go_ret
    exact ⟨rfl, hA9⟩
  case pos =>
    subst h0
    obtain rfl : m = cs.length := by have := HM.out; rw [if_pos rfl] at this; exact this.symm
    obtain ⟨hTR, hTK, hTI, h77, hKC, hl4⟩ := HPOS.out rfl
    subst hKC
    obtain ⟨hl1, -, hl3, -⟩ := HLL.out
    obtain ⟨tb, gs, hta, hb1, hgs, hTH⟩ : ∃ b gs, ta = some ⟨b, 0, none⟩ ∧ w1.heap.size ≤ b ∧ (∀ g ∈ gs, w1.heap.size ≤ g) ∧ TabH w2 b KC.length 0 gs TB := by
      rcases HTT.out with h | h
      · rw [h] at hl1; simp at hl1; omega
      · exact h
    subst hta
    have HTH := Lib.hid (fun W8 (h : Below W3.heap.size W3 W8) => hTH.below (bl_tr HB23.out h))
    have HTD := Lib.hid (fun W8 (h : Below W3.heap.size W3 W8) => (hTH.read hTR).below (bl_tr HB23.out h))
    have HTR := Lib.hid hTR
    have HTI := Lib.hid hTI
    have H77 := Lib.hid h77
    have HGS := Lib.hid hgs
    have HTH2 := Lib.hid hTH
    obtain ⟨hkT, hTk⟩ := List.getElem?_eq_some_iff.1 hTK
    obtain ⟨tb', to', ra, rc, e, r1, r2⟩ := (HTD.out _ HB3.out).cell hkT
    cases e
    rw [hTk] at r1 r2
    rw [hl3] at r1
    have hra := HRA2.out
    have HSA := Lib.hid (fun a a2 c c2 w h1 h2 => (show Calls Tryd.prog 27 #[.slice a KC.length c, .slice a2 KC.length c2] w (fun e w' => e = .returned (.bool true) ∧ Below w.heap.size w w') by
      have := same13_any a a2 c c2 L1 L1 w h1 h2 (by omega)
      rw [decide_eq_true rfl, hl3] at this
      exact this))
    have zt0 := blk_lt t0
    have zc0 := blk_lt c0
    have zr := blk_lt r1
    have HL1T := Lib.hid hl1
    have HL4 := Lib.hid hl4
    rw [Nat.zero_add] at r1
    clear f0 f1 f2 p0 p1 p2 hTR hTI h77 hgs hTH hTK hTk hl1 hl3 hl4 hb1 hra
    go_wp2_with fail
    refine (HSA.out _ _ _ _ _ HRA2.out r2).mono ?_
    rintro e V3 ⟨rfl, hb⟩
    have HB4 := Lib.hid (bl_tr HB3.out hb)
    have HRB3 := Lib.hid (HRB.out.below hb)
    clear hb t0 t1 c0 c1 r1 r2 zt0 zc0 zr hB3
    go_wp2_with fail
    go_loopw [16] (fun iv wr => ∃ i : Nat, i ≤ KC.length ∧ iv = .int .i64 i ∧ Below V3.heap.size V3 wr) (fun iv _ => KC.length - (intOf iv).toNat)
    case atStart => exact ⟨0, Nat.zero_le _, rfl, bl0 _⟩
    case round =>
      obtain ⟨i, hi, rfl, hBr⟩ := hrel
      have hi0 : (0 : Int) ≤ (i : Int) := by omega
      have hB30 := bl_tr HB4.out hBr
      obtain ⟨f0, f1, f2, p0, p1, p2, c0, c1, -⟩ := HF9.out _ hB30
      obtain ⟨t0, t1⟩ := HFT.out _ hB30
      have zt0 := blk_lt t0
      have zc0 := blk_lt c0
      by_cases hlt : i < KC.length
      · have hlt2 : (i : Int) < (KC.length : Int) := by omega
        have hiT : i < TB.length := by rw [HL1T.out]; exact hlt
        obtain ⟨tb', to', sa, sc, e, r1, r2⟩ := (HTD.out _ hB30).cell hiT
        cases e
        have hlr := HTR.out TB[i] (List.getElem_mem hiT)
        rw [hlr, Nat.zero_add] at r1
        have hkr : k < TB[i].length := by rw [hlr]; exact hk
        have hiL : i < L2.length := by rw [HL4.out]; exact hlt
        obtain ⟨sb, so, rfl, r3⟩ := r2.cell hkr
        obtain ⟨lb, lo, rfl, r4⟩ := (HRB3.out.below hBr).cell hiL
        have hv := HTI.out i hiT
        rw [List.getD_eq_getElem?_getD, List.getElem?_eq_getElem hkr, List.getD_eq_getElem?_getD, List.getElem?_eq_getElem hiL] at hv
        simp only [Option.getD_some] at hv
        rw [← atD_get hkr, hv] at r3
        rw [← atD_get hiL] at r4
        obtain ⟨v, hv2⟩ : ∃ v, L2[i] = v := ⟨_, rfl⟩
        rw [hv2] at r3 r4
        have hvv : (v != v) = false := by simp
        have hnn : ((KC.length : Int) != (KC.length : Int)) = false := by simp
        clear hv hv2 r2 hlr hkr hiL f0 f1 f2 p0 p1 p2 t0
        go_upto_region 16 with fail
        have hD := bl_dr (bl0 wr)
        refine (wpIn_wide (n := 11)).1 ?_
        refine ordS_begin (S := (fun W9 : World => W9.cell? ⟨w2.heap.size, 1, none⟩ = some (.slice (some ⟨tb, 0, none⟩) KC.length tc) ∧ W9.cell? ⟨w.heap.size + 1 + 1 + 1, 1, none⟩ = some (.slice (some ⟨cb, co, none⟩) KC.length cc) ∧ W9.cell? ⟨tb, i, none⟩ = some (.slice (some ⟨sb, so, none⟩) KC.length sc) ∧ W9.cell? ⟨sb, so + k, none⟩ = some (.int .u64 v) ∧ W9.cell? ⟨lb, lo + i, none⟩ = some (.int .u64 v))) (by kernel_rfl) ⟨cell_later hD t1, cell_later hD c1, cell_later hD r1, cell_later hD r3, cell_later hD r4⟩ (fun hH => ?_)
        refine' ordS_take (i := 0) (oi := { dst := some 149, op := Op.fieldAddr 54 (Operand.tmp 9) 1, type := 0, pos := _, after := #[], guard := none }) (v := _) rfl (by kernel_rfl) (by kernel_rfl) (by kernel_rfl) (by kernel_rfl) (fun _ _ _ h => h) (by assumption) (Or.inl ⟨by rfl, ?hy481⟩) (fun _ => rfl) ?rest481
        case hy481 => (intro w hSw; (try dsimp only at hSw); go_simp; try with_reducible rfl)
        try simp only [Act.put, List.setIfInBounds_toArray, List.set_cons_zero, List.set_cons_succ]
        refine' ordS_take (i := 1) (oi := { dst := some 150, op := Op.load 52 (Operand.tmp 149), type := 52, pos := _, after := #[{ on := 0, ground := Ground.data }], guard := none }) (v := _) rfl (by kernel_rfl) (by kernel_rfl) (by kernel_rfl) (by kernel_rfl) (fun _ _ _ h => h) (by assumption) (Or.inl ⟨by rfl, ?hy482⟩) (fun _ => rfl) ?rest482
        case hy482 => (intro w hSw; (try dsimp only at hSw); go_simp; try with_reducible rfl)
        try simp only [Act.put, List.setIfInBounds_toArray, List.set_cons_zero, List.set_cons_succ]
        refine' ordS_take (i := 2) (oi := { dst := some 151, op := Op.move (Operand.tmp 16), type := 3, pos := _, after := #[], guard := none }) (v := _) rfl (by kernel_rfl) (by kernel_rfl) (by kernel_rfl) (by kernel_rfl) (fun _ _ _ h => h) (by assumption) (Or.inl ⟨by rfl, ?hy483⟩) (fun _ => rfl) ?rest483
        case hy483 => (intro w hSw; (try dsimp only at hSw); go_simp; try with_reducible rfl)
        try simp only [Act.put, List.setIfInBounds_toArray, List.set_cons_zero, List.set_cons_succ]
        refine' ordS_take (i := 3) (oi := { dst := some 152, op := Op.indexAddr 52 (Operand.tmp 150) (Operand.tmp 151), type := 0, pos := _, after := #[{ on := 1, ground := Ground.data }, { on := 2, ground := Ground.data }], guard := none }) (v := _) rfl (by kernel_rfl) (by kernel_rfl) (by kernel_rfl) (by kernel_rfl) (fun _ _ _ h => h) (by assumption) (Or.inl ⟨by rfl, ?hy484⟩) (fun _ => rfl) ?rest484
        case hy484 => (intro w hSw; (try dsimp only at hSw); go_simp; try with_reducible rfl)
        try simp only [Act.put, List.setIfInBounds_toArray, List.set_cons_zero, List.set_cons_succ]
        refine' ordS_take (i := 4) (oi := { dst := some 153, op := Op.load 42 (Operand.tmp 152), type := 42, pos := _, after := #[{ on := 3, ground := Ground.data }], guard := none }) (v := _) rfl (by kernel_rfl) (by kernel_rfl) (by kernel_rfl) (by kernel_rfl) (fun _ _ _ h => h) (by assumption) (Or.inl ⟨by rfl, ?hy485⟩) (fun _ => rfl) ?rest485
        case hy485 => (intro w hSw; (try dsimp only at hSw); go_simp; try with_reducible rfl)
        try simp only [Act.put, List.setIfInBounds_toArray, List.set_cons_zero, List.set_cons_succ]
        refine' ordS_take (i := 5) (oi := { dst := some 154, op := Op.call { callee := Callee.builtin Builtin.len, args := #[Operand.tmp 153], argTypes := #[42] }, type := 3, pos := _, after := #[{ on := 4, ground := Ground.data }], guard := none }) (v := _) rfl (by kernel_rfl) (by kernel_rfl) (by kernel_rfl) (by kernel_rfl) (fun _ _ _ h => h) (by assumption) (Or.inl ⟨by rfl, ?hy486⟩) (fun _ => rfl) ?rest486
        case hy486 => (intro w hSw; (try dsimp only at hSw); go_simp; try with_reducible rfl)
        try simp only [Act.put, List.setIfInBounds_toArray, List.set_cons_zero, List.set_cons_succ]
        refine' ordS_take (i := 6) (oi := { dst := some 155, op := Op.fieldAddr 50 (Operand.tmp 7) 1, type := 0, pos := _, after := #[], guard := none }) (v := _) rfl (by kernel_rfl) (by kernel_rfl) (by kernel_rfl) (by kernel_rfl) (fun _ _ _ h => h) (by assumption) (Or.inl ⟨by rfl, ?hy487⟩) (fun _ => rfl) ?rest487
        case hy487 => (intro w hSw; (try dsimp only at hSw); go_simp; try with_reducible rfl)
        try simp only [Act.put, List.setIfInBounds_toArray, List.set_cons_zero, List.set_cons_succ]
        refine' ordS_take (i := 7) (oi := { dst := some 156, op := Op.load 35 (Operand.tmp 155), type := 35, pos := _, after := #[{ on := 6, ground := Ground.data }], guard := none }) (v := _) rfl (by kernel_rfl) (by kernel_rfl) (by kernel_rfl) (by kernel_rfl) (fun _ _ _ h => h) (by assumption) (Or.inl ⟨by rfl, ?hy488⟩) (fun _ => rfl) ?rest488
        case hy488 => (intro w hSw; (try dsimp only at hSw); go_simp; try with_reducible rfl)
        try simp only [Act.put, List.setIfInBounds_toArray, List.set_cons_zero, List.set_cons_succ]
        refine' ordS_take (i := 8) (oi := { dst := some 157, op := Op.call { callee := Callee.builtin Builtin.len, args := #[Operand.tmp 156], argTypes := #[35] }, type := 3, pos := _, after := #[{ on := 7, ground := Ground.data }], guard := none }) (v := _) rfl (by kernel_rfl) (by kernel_rfl) (by kernel_rfl) (by kernel_rfl) (fun _ _ _ h => h) (by assumption) (Or.inl ⟨by rfl, ?hy489⟩) (fun _ => rfl) ?rest489
        case hy489 => (intro w hSw; (try dsimp only at hSw); go_simp; try with_reducible rfl)
        try simp only [Act.put, List.setIfInBounds_toArray, List.set_cons_zero, List.set_cons_succ]
        refine' ordS_take (i := 9) (oi := { dst := some 158, op := Op.binOp BinOp.neq 3 (Operand.tmp 154) (Operand.tmp 157) 3, type := 4, pos := _, after := #[{ on := 5, ground := Ground.data }, { on := 8, ground := Ground.data }], guard := none }) (v := _) rfl (by kernel_rfl) (by kernel_rfl) (by kernel_rfl) (by kernel_rfl) (fun _ _ _ h => h) (by assumption) (Or.inl ⟨by rfl, ?hy490⟩) (fun _ => rfl) ?rest490
        case hy490 => (intro w hSw; (try dsimp only at hSw); go_simp; try with_reducible rfl)
        try simp only [Act.put, List.setIfInBounds_toArray, List.set_cons_zero, List.set_cons_succ]
        refine' ordS_take (i := 10) (oi := { dst := some 159, op := Op.move (Operand.tmp 158), type := 4, pos := _, after := #[{ on := 9, ground := Ground.data }], guard := none }) (v := _) rfl (by kernel_rfl) (by kernel_rfl) (by kernel_rfl) (by kernel_rfl) (fun _ _ _ h => h) (by assumption) (Or.inl ⟨by rfl, ?hy491⟩) (fun _ => rfl) ?rest491
        case hy491 => (intro w hSw; (try dsimp only at hSw); go_simp; try with_reducible rfl)
        try simp only [Act.put, List.setIfInBounds_toArray, List.set_cons_zero, List.set_cons_succ]
        refine' ordS_take (i := 11) (oi := { dst := some 160, op := Op.move (Operand.tmp 14), type := 42, pos := _, after := #[{ on := 10, ground := Ground.guard }], guard := some (10, false) }) (v := _) rfl (by kernel_rfl) (by kernel_rfl) (by kernel_rfl) (by kernel_rfl) (fun _ _ _ h => h) (by assumption) (Or.inl ⟨by rfl, ?hy492⟩) (fun _ => rfl) ?rest492
        case hy492 => (intro w hSw; (try dsimp only at hSw); go_simp; try with_reducible rfl)
        try simp only [Act.put, List.setIfInBounds_toArray, List.set_cons_zero, List.set_cons_succ]
        refine' ordS_take (i := 12) (oi := { dst := some 161, op := Op.move (Operand.tmp 16), type := 3, pos := _, after := #[{ on := 10, ground := Ground.guard }], guard := some (10, false) }) (v := _) rfl (by kernel_rfl) (by kernel_rfl) (by kernel_rfl) (by kernel_rfl) (fun _ _ _ h => h) (by assumption) (Or.inl ⟨by rfl, ?hy493⟩) (fun _ => rfl) ?rest493
        case hy493 => (intro w hSw; (try dsimp only at hSw); go_simp; try with_reducible rfl)
        try simp only [Act.put, List.setIfInBounds_toArray, List.set_cons_zero, List.set_cons_succ]
        refine' ordS_take (i := 13) (oi := { dst := some 162, op := Op.indexAddr 42 (Operand.tmp 160) (Operand.tmp 161), type := 0, pos := _, after := #[{ on := 11, ground := Ground.data }, { on := 12, ground := Ground.data }, { on := 10, ground := Ground.guard }], guard := some (10, false) }) (v := _) rfl (by kernel_rfl) (by kernel_rfl) (by kernel_rfl) (by kernel_rfl) (fun _ _ _ h => h) (by assumption) (Or.inl ⟨by rfl, ?hy494⟩) (fun _ => rfl) ?rest494
        case hy494 => (intro w hSw; (try dsimp only at hSw); go_simp; try with_reducible rfl)
        try simp only [Act.put, List.setIfInBounds_toArray, List.set_cons_zero, List.set_cons_succ]
        refine' ordS_take (i := 14) (oi := { dst := some 163, op := Op.load 36 (Operand.tmp 162), type := 36, pos := _, after := #[{ on := 13, ground := Ground.data }, { on := 10, ground := Ground.guard }], guard := some (10, false) }) (v := _) rfl (by kernel_rfl) (by kernel_rfl) (by kernel_rfl) (by kernel_rfl) (fun _ _ _ h => h) (by assumption) (Or.inl ⟨by rfl, ?hy495⟩) (fun _ => rfl) ?rest495
        case hy495 => (intro w hSw; (try dsimp only at hSw); go_simp; try with_reducible rfl)
        try simp only [Act.put, List.setIfInBounds_toArray, List.set_cons_zero, List.set_cons_succ]
        refine' ordS_take (i := 15) (oi := { dst := some 164, op := Op.fieldAddr 54 (Operand.tmp 9) 1, type := 0, pos := _, after := #[{ on := 10, ground := Ground.guard }], guard := some (10, false) }) (v := _) rfl (by kernel_rfl) (by kernel_rfl) (by kernel_rfl) (by kernel_rfl) (fun _ _ _ h => h) (by assumption) (Or.inl ⟨by rfl, ?hy496⟩) (fun _ => rfl) ?rest496
        case hy496 => (intro w hSw; (try dsimp only at hSw); go_simp; try with_reducible rfl)
        try simp only [Act.put, List.setIfInBounds_toArray, List.set_cons_zero, List.set_cons_succ]
        refine' ordS_take (i := 16) (oi := { dst := some 165, op := Op.load 52 (Operand.tmp 164), type := 52, pos := _, after := #[{ on := 15, ground := Ground.data }, { on := 10, ground := Ground.guard }], guard := some (10, false) }) (v := _) rfl (by kernel_rfl) (by kernel_rfl) (by kernel_rfl) (by kernel_rfl) (fun _ _ _ h => h) (by assumption) (Or.inl ⟨by rfl, ?hy497⟩) (fun _ => rfl) ?rest497
        case hy497 => (intro w hSw; (try dsimp only at hSw); go_simp; try with_reducible rfl)
        try simp only [Act.put, List.setIfInBounds_toArray, List.set_cons_zero, List.set_cons_succ]
        refine' ordS_take (i := 17) (oi := { dst := some 166, op := Op.move (Operand.tmp 16), type := 3, pos := _, after := #[{ on := 10, ground := Ground.guard }], guard := some (10, false) }) (v := _) rfl (by kernel_rfl) (by kernel_rfl) (by kernel_rfl) (by kernel_rfl) (fun _ _ _ h => h) (by assumption) (Or.inl ⟨by rfl, ?hy498⟩) (fun _ => rfl) ?rest498
        case hy498 => (intro w hSw; (try dsimp only at hSw); go_simp; try with_reducible rfl)
        try simp only [Act.put, List.setIfInBounds_toArray, List.set_cons_zero, List.set_cons_succ]
        refine' ordS_take (i := 18) (oi := { dst := some 167, op := Op.indexAddr 52 (Operand.tmp 165) (Operand.tmp 166), type := 0, pos := _, after := #[{ on := 16, ground := Ground.data }, { on := 17, ground := Ground.data }, { on := 10, ground := Ground.guard }], guard := some (10, false) }) (v := _) rfl (by kernel_rfl) (by kernel_rfl) (by kernel_rfl) (by kernel_rfl) (fun _ _ _ h => h) (by assumption) (Or.inl ⟨by rfl, ?hy499⟩) (fun _ => rfl) ?rest499
        case hy499 => (intro w hSw; (try dsimp only at hSw); go_simp; try with_reducible rfl)
        try simp only [Act.put, List.setIfInBounds_toArray, List.set_cons_zero, List.set_cons_succ]
        refine' ordS_take (i := 19) (oi := { dst := some 168, op := Op.load 42 (Operand.tmp 167), type := 42, pos := _, after := #[{ on := 18, ground := Ground.data }, { on := 10, ground := Ground.guard }], guard := some (10, false) }) (v := _) rfl (by kernel_rfl) (by kernel_rfl) (by kernel_rfl) (by kernel_rfl) (fun _ _ _ h => h) (by assumption) (Or.inl ⟨by rfl, ?hy500⟩) (fun _ => rfl) ?rest500
        case hy500 => (intro w hSw; (try dsimp only at hSw); go_simp; try with_reducible rfl)
        try simp only [Act.put, List.setIfInBounds_toArray, List.set_cons_zero, List.set_cons_succ]
        refine' ordS_take (i := 20) (oi := { dst := some 169, op := Op.move (Operand.tmp 8), type := 3, pos := _, after := #[{ on := 10, ground := Ground.guard }], guard := some (10, false) }) (v := _) rfl (by kernel_rfl) (by kernel_rfl) (by kernel_rfl) (by kernel_rfl) (fun _ _ _ h => h) (by assumption) (Or.inl ⟨by rfl, ?hy501⟩) (fun _ => rfl) ?rest501
        case hy501 => (intro w hSw; (try dsimp only at hSw); go_simp; try with_reducible rfl)
        try simp only [Act.put, List.setIfInBounds_toArray, List.set_cons_zero, List.set_cons_succ]
        refine' ordS_take (i := 21) (oi := { dst := some 170, op := Op.indexAddr 42 (Operand.tmp 168) (Operand.tmp 169), type := 0, pos := _, after := #[{ on := 19, ground := Ground.data }, { on := 20, ground := Ground.data }, { on := 10, ground := Ground.guard }], guard := some (10, false) }) (v := _) rfl (by kernel_rfl) (by kernel_rfl) (by kernel_rfl) (by kernel_rfl) (fun _ _ _ h => h) (by assumption) (Or.inl ⟨by rfl, ?hy502⟩) (fun _ => rfl) ?rest502
        case hy502 => (intro w hSw; (try dsimp only at hSw); go_simp; try with_reducible rfl)
        try simp only [Act.put, List.setIfInBounds_toArray, List.set_cons_zero, List.set_cons_succ]
        refine' ordS_take (i := 22) (oi := { dst := some 171, op := Op.load 36 (Operand.tmp 170), type := 36, pos := _, after := #[{ on := 21, ground := Ground.data }, { on := 10, ground := Ground.guard }], guard := some (10, false) }) (v := _) rfl (by kernel_rfl) (by kernel_rfl) (by kernel_rfl) (by kernel_rfl) (fun _ _ _ h => h) (by assumption) (Or.inl ⟨by rfl, ?hy503⟩) (fun _ => rfl) ?rest503
        case hy503 => (intro w hSw; (try dsimp only at hSw); go_simp; try with_reducible rfl)
        try simp only [Act.put, List.setIfInBounds_toArray, List.set_cons_zero, List.set_cons_succ]
        refine' ordS_take (i := 23) (oi := { dst := some 172, op := Op.binOp BinOp.neq 36 (Operand.tmp 163) (Operand.tmp 171) 36, type := 4, pos := _, after := #[{ on := 14, ground := Ground.data }, { on := 22, ground := Ground.data }, { on := 10, ground := Ground.guard }], guard := some (10, false) }) (v := _) rfl (by kernel_rfl) (by kernel_rfl) (by kernel_rfl) (by kernel_rfl) (fun _ _ _ h => h) (by assumption) (Or.inl ⟨by rfl, ?hy504⟩) (fun _ => rfl) ?rest504
        case hy504 => (intro w hSw; (try dsimp only at hSw); go_simp; try with_reducible rfl)
        try simp only [Act.put, List.setIfInBounds_toArray, List.set_cons_zero, List.set_cons_succ]
        refine' ordS_take (i := 24) (oi := { dst := some 173, op := Op.pick (Operand.tmp 159) (Operand.const (Value.bool true)) (Operand.tmp 172), type := 4, pos := _, after := #[{ on := 10, ground := Ground.data }, { on := 23, ground := Ground.data }], guard := none }) (v := _) rfl (by kernel_rfl) (by kernel_rfl) (by kernel_rfl) (by kernel_rfl) (fun _ _ _ h => h) (by assumption) (Or.inl ⟨by rfl, ?hy505⟩) (fun _ => rfl) ?rest505
        case hy505 => (intro w hSw; (try dsimp only at hSw); go_simp; try with_reducible rfl)
        try simp only [Act.put, List.setIfInBounds_toArray, List.set_cons_zero, List.set_cons_succ]
        refine ordS_done (by kernel_rfl) ?_
        have hBD := bl_tr hBr hD
        clear hH hD t1 c1 r1 r3 r4 zt0 zc0
        go_wp2
        go_roundw
        case rel => exact ⟨i + 1, by omega, by go_num, hBD⟩
        case measure => simp [intOf]; omega
      · obtain rfl : i = KC.length := by omega
        have hge : ¬ (KC.length : Int) < (KC.length : Int) := by omega
        have hrc := HC.out _ hB30
        have hown0 := own_emptyC (w := wr) (B := wr.heap.size) 30 (Nat.le_refl _)
        have hb5 := bl_al (bl0 wr) (.cells #[] 30)
        have hrc5 := hrc.below hb5
        go_wp2_with (at_builtin; refine wpList_append_rowQ rfl _ _ rfl wr.heap.size _ _ _ rfl hown0 (some ⟨cb, co, none⟩) cc KC rfl hrc5 ?c3 ?c5 ?_)
        try case c3 => omega
        try case c5 => (rw [World.size_alloc]; omega)
        intro v' W6 hown' hgrow
        have hB6 : Below W3.heap.size W3 W6 := (bl_al hB30 (.cells #[] 30)).grown hgrow (by have := hB30.size; rw [World.size_alloc]; omega) (fun j hj => by have := hB30.size; simp [Value.ownBlock] at hj; omega)
        try simp only [Nat.zero_add, List.nil_append] at hown'
        obtain ⟨wa, wc, rfl⟩ : ∃ a' c', v' = .slice a' KC.length c' := by
          rcases hown'.2 with ⟨rfl, h⟩ | ⟨g, cap, cur, h, _⟩
          · exact ⟨none, 0, by rw [h]⟩
          · exact ⟨_, _, h⟩
        have hsz6 : w2.heap.size ≤ wr.heap.size := Nat.le_trans HB23.out.size hB30.size
        have ho6 : OwnC W6 w1.heap.size ka KC.length kc KC := own_later HO.out (bl_tr HB23.out hB6)
        obtain ⟨g, rfl⟩ : ∃ g, ka = some ⟨g, 0, none⟩ := by
          rcases ho6.2 with ⟨_, h⟩ | ⟨g, cap, cur, e, _⟩
          · omega
          · cases e; exact ⟨g, rfl⟩
        have hTH6 := HTH.out _ hB6
        obtain ⟨hg1, hg2⟩ := World.ownsRow.lt HO.out g rfl
        obtain ⟨z0, hz0⟩ : ∃ z0, KC[0]? = some z0 := ⟨_, List.getElem?_eq_getElem (by omega)⟩
        have x0 : W6.cell? ⟨g, 0, none⟩ = some (.int .i64 z0.1) := by have := (own_cellC ho6 hz0).1; simpa using this
        have x1 : W6.cell? ⟨g, 1, none⟩ = some (.int .i64 z0.2) := by have := (own_cellC ho6 hz0).2; simpa using this
        have y0 : W6.frozen? ⟨g, 0, none⟩ = false := own_fz ho6
        have y1 : W6.frozen? ⟨g, 1, none⟩ = false := own_fz ho6
        have zx := blk_lt x0
        have hkn : (0 : Int) < (KC.length : Int) := by omega
        have hkn2 : 0 < KC.length := by omega
        have t0 := (HFT.out _ hB6).1
        have zt6 := blk_lt t0
        have HOW := Lib.hid hown'
        have HO6 := Lib.hid ho6
        have HTH6 := Lib.hid hTH6
        have HB6 := Lib.hid hB6
        clear f0 f1 f2 p0 p1 p2 c0 c1 t1 zt0 zc0 hrc hown0 hb5 hrc5 hown' hgrow hB6 ho6 hTH6 hBr hB30
        go_upto_region 20 with fail
        obtain ⟨W7, hW7⟩ : ∃ W7, (W6.setCell ⟨g, 0, none⟩ (.int .i64 77)).setCell ⟨g, 1, none⟩ (.int .i64 0) = W7 := ⟨_, rfl⟩
        have g67a := hgrown_set W6 g 0 (.int .i64 77)
        have g67b := hgrown_set (W6.setCell ⟨g, 0, none⟩ (.int .i64 77)) g 1 (.int .i64 0)
        rw [hW7] at g67b
        have hK7 : ∀ (j o : Nat) v, W6.cell? ⟨j, o, none⟩ = some v → j ≠ g → W7.cell? ⟨j, o, none⟩ = some v := fun j o v h hne => g67b.cell (g67a.cell h (fun e => hne (by cases e; rfl))) (fun e => hne (by cases e; rfl))
        have ho7 : OwnC W7 w1.heap.size (some ⟨g, 0, none⟩) KC.length kc (KC.set 0 (77, 0)) := by rw [← hW7]; exact own_setC HO6.out 0 (77, 0)
        have hne1 : tb ≠ g := fun e => ownC_ne HO6.out HTH6.out.tab (by rw [e]; rfl)
        have hne2 : ∀ (i g' : Nat) (r : List Int), gs[i]? = some g' → TB[i]? = some r → g' ≠ g := fun i g' r h1 h2 e => ownC_neU HO6.out (HTH6.out.row i g' r h1 h2) (by rw [e]; rfl)
        have hTH7 := (HTH6.out.apart g67a hne1 hne2).apart g67b hne1 hne2
        obtain ⟨g0, qs, hg0, hql, hqn, hq77, hqr⟩ := tab_poke (v := 77) hTH7 HTR.out (by rw [HL1T.out]; omega) hkn2
        obtain ⟨r0, hr0⟩ : ∃ r0, TB[0]? = some r0 := ⟨_, List.getElem?_eq_getElem (by rw [HL1T.out]; omega)⟩
        have hrl0 := HTR.out r0 (List.mem_of_getElem? hr0)
        obtain ⟨v0, rr, rfl⟩ : ∃ v0 rr, r0 = v0 :: rr := by
          cases r0 with
          | nil => simp at hrl0; omega
          | cons x l => exact ⟨x, l, rfl⟩
        have hrow7 := hTH7.row 0 g0 _ hg0 hr0
        have hg0g : g0 ≠ g := hne2 0 g0 _ hg0 hr0
        have hg0w : w1.heap.size ≤ g0 := HGS.out g0 (List.mem_of_getElem? hg0)
        have hg02 : g0 < w2.heap.size := (Array.getElem?_eq_some_iff.1 (HTH2.out.row 0 g0 _ hg0 hr0)).1
        have t1 := hK7 _ _ _ (HFT.out _ HB6.out).2 (by omega)
        have s0 : W7.cell? ⟨tb, 0, none⟩ = some (.slice (some ⟨g0, 0, none⟩) KC.length KC.length) := by
          have ht := hTH7.tab
          simp [World.cell?, ht, tabC, hg0]
        have s1 : W7.cell? ⟨g0, 0, none⟩ = some (.int .u64 v0) := by simp [World.cell?, hrow7, cellsU]
        have s2 : W7.frozen? ⟨g0, 0, none⟩ = false := by simp [World.frozen?, hrow7]
        have zt1 := blk_lt t1
        have zs0 := blk_lt s0
        have zs1 := blk_lt s1
        rw [hW7]
        have HK7 := Lib.hid hK7
        have HO7 := Lib.hid ho7
        have HG1 := Lib.hid g67a
        have HG2 := Lib.hid g67b
        have HQR := Lib.hid hqr
        have HQ := Lib.hid (And.intro hql (And.intro hqn hq77))
        have HNE := Lib.hid (And.intro hg0g (And.intro hg0w hg02))
        have HW7 := Lib.hid hW7
        clear hW7 g67a g67b hK7 ho7 hne1 hne2 hTH7 hql hqn hq77 hqr hr0 hrl0 hrow7 hg0g hg0w hg02 x0 x1 y0 y1 zx t0 zt6 hz0
        go_upto_region 21 with fail
        obtain ⟨W8, hW8⟩ : ∃ W8, W7.setCell ⟨g0, 0, none⟩ (.int .u64 77) = W8 := ⟨_, rfl⟩
        have g78 := hgrown_set W7 g0 0 (.int .u64 77)
        obtain ⟨hg0g, hg0w, hg02⟩ := HNE.out
        have hZ1 := HZ1.out
        have hK8 : ∀ (j o : Nat) v, W6.cell? ⟨j, o, none⟩ = some v → j ≠ g → j ≠ g0 → W8.cell? ⟨j, o, none⟩ = some v := fun j o v h h1 h2 => by rw [← hW8]; exact g78.cell (HK7.out j o v h h1) (fun e => h2 (by cases e; rfl))
        have hA : Below w.heap.size w W8 := by
          rw [← hW8, ← HW7.out]
          exact bl_st (bl_st (bl_st (HBW.out _ HB6.out) (by omega) _) (by omega) _) (by omega) _
        obtain ⟨f0, f1, f2, p0, p1, p2, c0, c1, -⟩ := HF9.out _ HB6.out
        replace f0 := hK8 _ _ _ f0 (by omega) (by omega); replace f1 := hK8 _ _ _ f1 (by omega) (by omega); replace f2 := hK8 _ _ _ f2 (by omega) (by omega)
        replace p0 := hK8 _ _ _ p0 (by omega) (by omega); replace p1 := hK8 _ _ _ p1 (by omega) (by omega); replace p2 := hK8 _ _ _ p2 (by omega) (by omega)
        replace c0 := hK8 _ _ _ c0 (by omega) (by omega); replace c1 := hK8 _ _ _ c1 (by omega) (by omega)
        obtain ⟨t0, t1⟩ := HFT.out _ HB6.out
        replace t0 := hK8 _ _ _ t0 (by omega) (by omega); replace t1 := hK8 _ _ _ t1 (by omega) (by omega)
        have hrk : RowC W8 (some ⟨g, 0, none⟩) (KC.set 0 (77, 0)) := by
          rw [← hW8]
          exact own_rowC (World.ownsRow.kept HO7.out g78 (.inr (fun e => hg0g (by cases e; rfl)))) (by simp)
        have hqr : TabR W8 (some ⟨tb, 0, none⟩) qs := by rw [← hW8]; exact HQR.out
        have hwas : RowC W8 wa KC := by
          rw [← hW8]
          have hlow : ∀ j, (Value.slice wa KC.length wc).ownBlock = some j → w2.heap.size ≤ j := fun j hj => Nat.le_trans hsz6 (HOW.out.lt j hj).1
          have a1 := World.ownsRow.kept HOW.out HG1.out (.inr (fun e => by have := hlow _ e; omega))
          have a2 := World.ownsRow.kept a1 HG2.out (.inr (fun e => by have := hlow _ e; omega))
          exact own_rowC (World.ownsRow.kept a2 g78 (.inr (fun e => by have := hlow _ e; omega))) rfl
        have hl1 := HL1T.out
        have hqq := HQ.out
        have HCE := Lib.hid (fun a a2 c c2 w h1 h2 => (show Calls Tryd.prog 21 #[.slice a KC.length c, .slice a2 KC.length c2] w (fun e w' => e = .returned (.bool true) ∧ Below w.heap.size w w') by
          have := cells13_any a a2 c c2 KC KC w h1 h2 hl
          rw [decide_eq_true rfl] at this
          exact this))
        have HSI := Lib.hid (fun kv tv kc kvc tc tvc w h1 h2 h3 h4 => (show Calls Tryd.prog 28 #[.agg #[.slice (some ⟨g, 0, none⟩) KC.length kc, .slice (some ⟨tb, 0, none⟩) KC.length tc], .agg #[.slice kv KC.length kvc, .slice tv KC.length tvc]] w (fun e w' => e = .returned (.bool false) ∧ Below w.heap.size w w') by
          have := same_i (some ⟨g, 0, none⟩) kv (some ⟨tb, 0, none⟩) tv kc kvc tc tvc (KC.set 0 (77, 0)) KC qs TB w h1 h2 h3 h4 (by simp; omega) (by rw [hqq.1, hl1]; omega) (fun r hr => by rw [hqq.2.1 r hr]; omega)
          rw [decide_eq_false (show ¬ qs = TB from fun e => H77.out (by rw [← e]; exact hqq.2.2)), Bool.and_false] at this
          simp only [List.length_set] at this
          rw [hqq.1, hl1] at this
          exact this))
        rw [hW8]
        have zf0 := blk_lt f0; have zp0 := blk_lt p0; have zc0 := blk_lt c0; have zt0 := blk_lt t0
        clear hW8 g78 hK8 hl1 hqq hg0g hg0w hg02 hZ1 zt1 zs0 zs1 s0 s1 s2
        go_wp2_with fail
        refine (H2.out _ (HR0.out.below hA) (HC0.out.below hA) (HS0.out.below hA)).mono ?_
        rintro e W9 ⟨kv, kvc, tv, tvc, rfl, hov, htv, hb⟩
        have hk : Below W8.heap.size W8 W9 := by first | exact hb | exact bl_tr (bl_al (bl0 _) _) hb | exact bl_tr (bl_dr (bl_al (bl0 _) _)) hb | exact bl_tr (bl_al (bl_al (bl0 _) _) _) hb | exact bl_tr (bl_dr (bl_al (bl_al (bl0 _) _) _)) hb | exact bl_tr (bl_al (bl_al (bl_al (bl0 _) _) _) _) hb | exact bl_tr (bl_dr (bl_al (bl_al (bl_al (bl0 _) _) _) _)) hb | exact bl_tr (bl_al (bl_al (bl_al (bl_al (bl0 _) _) _) _) _) hb | exact bl_tr (bl_dr (bl_al (bl_al (bl_al (bl_al (bl0 _) _) _) _) _)) hb | exact bl_tr (bl_al (bl_al (bl_al (bl_al (bl_al (bl0 _) _) _) _) _) _) hb | exact bl_tr (bl_dr (bl_al (bl_al (bl_al (bl_al (bl_al (bl0 _) _) _) _) _) _)) hb | exact bl_tr (bl_al (bl_al (bl_al (bl_al (bl_al (bl_al (bl0 _) _) _) _) _) _) _) hb | exact bl_tr (bl_dr (bl_al (bl_al (bl_al (bl_al (bl_al (bl_al (bl0 _) _) _) _) _) _) _)) hb | exact bl_tr (bl_dr (bl0 _)) hb
        replace hA := bl_tr hA hk
        replace hrk := hrk.below hk
        replace hqr := hqr.below hk
        replace hwas := hwas.below hk
        replace t0 := cell_later hk t0
        replace t1 := cell_later hk t1
        replace c1 := cell_later hk c1
        clear hb hk
        have zt0 := blk_lt t0
        have zt1 := blk_lt t1
        have zc1 := blk_lt c1
        have hrv : RowC W9 kv KC := hov.rowC
        have htr : TabR W9 tv TB := by
          rcases htv with h | ⟨b, gs', rfl, _, _, h⟩
          · exact .inl h
          · exact h.read HTR.out
        clear hov htv
        go_wp2_with fail
        refine (HCE.out _ _ _ _ _ (HC0.out.below (by first | exact hA | exact (bl_al hA _) | exact (bl_dr (bl_al hA _)) | exact (bl_al (bl_al hA _) _) | exact (bl_dr (bl_al (bl_al hA _) _)) | exact (bl_al (bl_al (bl_al hA _) _) _) | exact (bl_dr (bl_al (bl_al (bl_al hA _) _) _)) | exact (bl_al (bl_al (bl_al (bl_al hA _) _) _) _) | exact (bl_dr (bl_al (bl_al (bl_al (bl_al hA _) _) _) _)) | exact (bl_al (bl_al (bl_al (bl_al (bl_al hA _) _) _) _) _) | exact (bl_dr (bl_al (bl_al (bl_al (bl_al (bl_al hA _) _) _) _) _)) | exact (bl_al (bl_al (bl_al (bl_al (bl_al (bl_al hA _) _) _) _) _) _) | exact (bl_dr (bl_al (bl_al (bl_al (bl_al (bl_al (bl_al hA _) _) _) _) _) _)) | exact (bl_dr hA))) (hwas.below (bl_al (bl0 _) _))).mono ?_
        rintro e W10 ⟨rfl, hb⟩
        have hk : Below W9.heap.size W9 W10 := by first | exact hb | exact bl_tr (bl_al (bl0 _) _) hb | exact bl_tr (bl_dr (bl_al (bl0 _) _)) hb | exact bl_tr (bl_al (bl_al (bl0 _) _) _) hb | exact bl_tr (bl_dr (bl_al (bl_al (bl0 _) _) _)) hb | exact bl_tr (bl_al (bl_al (bl_al (bl0 _) _) _) _) hb | exact bl_tr (bl_dr (bl_al (bl_al (bl_al (bl0 _) _) _) _)) hb | exact bl_tr (bl_al (bl_al (bl_al (bl_al (bl0 _) _) _) _) _) hb | exact bl_tr (bl_dr (bl_al (bl_al (bl_al (bl_al (bl0 _) _) _) _) _)) hb | exact bl_tr (bl_al (bl_al (bl_al (bl_al (bl_al (bl0 _) _) _) _) _) _) hb | exact bl_tr (bl_dr (bl_al (bl_al (bl_al (bl_al (bl_al (bl0 _) _) _) _) _) _)) hb | exact bl_tr (bl_al (bl_al (bl_al (bl_al (bl_al (bl_al (bl0 _) _) _) _) _) _) _) hb | exact bl_tr (bl_dr (bl_al (bl_al (bl_al (bl_al (bl_al (bl_al (bl0 _) _) _) _) _) _) _)) hb | exact bl_tr (bl_dr (bl0 _)) hb
        replace hA := bl_tr hA hk
        replace hrk := hrk.below hk
        replace hqr := hqr.below hk
        replace hrv := hrv.below hk
        replace htr := htr.below hk
        replace t0 := cell_later hk t0
        replace t1 := cell_later hk t1
        have v0 := cell_later hb (v := .slice kv KC.length kvc) (a := ⟨W9.heap.size, 0, none⟩) (by simp [go_sem])
        have v1 := cell_later hb (v := .slice tv KC.length tvc) (a := ⟨W9.heap.size, 1, none⟩) (by simp [go_sem])
        clear hb hk
        have zt0 := blk_lt t0
        have zt1 := blk_lt t1
        have zv0 := blk_lt v0
        have zv1 := blk_lt v1
        go_wp2_with fail
        refine (HSI.out _ _ _ _ _ _ _ hrk hrv hqr htr).mono ?_
        rintro e W11 ⟨rfl, hb⟩
        have hk : Below W10.heap.size W10 W11 := by first | exact hb | exact bl_tr (bl_al (bl0 _) _) hb | exact bl_tr (bl_dr (bl_al (bl0 _) _)) hb | exact bl_tr (bl_al (bl_al (bl0 _) _) _) hb | exact bl_tr (bl_dr (bl_al (bl_al (bl0 _) _) _)) hb | exact bl_tr (bl_al (bl_al (bl_al (bl0 _) _) _) _) hb | exact bl_tr (bl_dr (bl_al (bl_al (bl_al (bl0 _) _) _) _)) hb | exact bl_tr (bl_al (bl_al (bl_al (bl_al (bl0 _) _) _) _) _) hb | exact bl_tr (bl_dr (bl_al (bl_al (bl_al (bl_al (bl0 _) _) _) _) _)) hb | exact bl_tr (bl_al (bl_al (bl_al (bl_al (bl_al (bl0 _) _) _) _) _) _) hb | exact bl_tr (bl_dr (bl_al (bl_al (bl_al (bl_al (bl_al (bl0 _) _) _) _) _) _)) hb | exact bl_tr (bl_al (bl_al (bl_al (bl_al (bl_al (bl_al (bl0 _) _) _) _) _) _) _) hb | exact bl_tr (bl_dr (bl_al (bl_al (bl_al (bl_al (bl_al (bl_al (bl0 _) _) _) _) _) _) _)) hb | exact bl_tr (bl_dr (bl0 _)) hb
        replace hA := bl_tr hA hk
        clear hb hk
        go_wp2_with fail
        refine (awake13 _ (HS0.out.below (by first | exact hA | exact (bl_al hA _) | exact (bl_dr (bl_al hA _)) | exact (bl_al (bl_al hA _) _) | exact (bl_dr (bl_al (bl_al hA _) _)) | exact (bl_al (bl_al (bl_al hA _) _) _) | exact (bl_dr (bl_al (bl_al (bl_al hA _) _) _)) | exact (bl_al (bl_al (bl_al (bl_al hA _) _) _) _) | exact (bl_dr (bl_al (bl_al (bl_al (bl_al hA _) _) _) _)) | exact (bl_al (bl_al (bl_al (bl_al (bl_al hA _) _) _) _) _) | exact (bl_dr (bl_al (bl_al (bl_al (bl_al (bl_al hA _) _) _) _) _)) | exact (bl_al (bl_al (bl_al (bl_al (bl_al (bl_al hA _) _) _) _) _) _) | exact (bl_dr (bl_al (bl_al (bl_al (bl_al (bl_al (bl_al hA _) _) _) _) _) _)) | exact (bl_dr hA)))).mono ?_
        rintro e W12 ⟨rfl, hb⟩
        have hk : Below W11.heap.size W11 W12 := by first | exact hb | exact bl_tr (bl_al (bl0 _) _) hb | exact bl_tr (bl_dr (bl_al (bl0 _) _)) hb | exact bl_tr (bl_al (bl_al (bl0 _) _) _) hb | exact bl_tr (bl_dr (bl_al (bl_al (bl0 _) _) _)) hb | exact bl_tr (bl_al (bl_al (bl_al (bl0 _) _) _) _) hb | exact bl_tr (bl_dr (bl_al (bl_al (bl_al (bl0 _) _) _) _)) hb | exact bl_tr (bl_al (bl_al (bl_al (bl_al (bl0 _) _) _) _) _) hb | exact bl_tr (bl_dr (bl_al (bl_al (bl_al (bl_al (bl0 _) _) _) _) _)) hb | exact bl_tr (bl_al (bl_al (bl_al (bl_al (bl_al (bl0 _) _) _) _) _) _) hb | exact bl_tr (bl_dr (bl_al (bl_al (bl_al (bl_al (bl_al (bl0 _) _) _) _) _) _)) hb | exact bl_tr (bl_al (bl_al (bl_al (bl_al (bl_al (bl_al (bl0 _) _) _) _) _) _) _) hb | exact bl_tr (bl_dr (bl_al (bl_al (bl_al (bl_al (bl_al (bl_al (bl0 _) _) _) _) _) _) _)) hb | exact bl_tr (bl_dr (bl0 _)) hb
        replace hA := bl_tr hA hk
        clear hb hk
        go_wp2
        go_ret
        exact ⟨rfl, hA⟩
end Go.Proofs.YtgbhafadibdmcaaDoor
