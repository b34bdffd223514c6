/- Paths: the program's Moves. -/
import Derived.Test.YtlmloedjakpogabDoorAh
import Derived.Laws.MakeOwn
namespace Go.Proofs.YtlmloedjakpogabDoor
open Go.RowKit Go.Shelf
attribute [local go_sem] Oper.semAt_some

def cellsB (zs : List Int) : List Value := zs.map (Value.int .u8)
theorem cellsB_snoc (zs : List Int) (z : Int) : cellsB (zs ++ [z]) = cellsB zs ++ [.int .u8 z] := by simp [cellsB]
theorem cellsB_one (zs : List Int) : ∀ u ∈ cellsB zs, u.oneCell' = true := by
  intro u hu
  simp only [cellsB, List.mem_map] at hu
  obtain ⟨t, _, rfl⟩ := hu
  rfl
theorem cellsB_len (zs : List Int) : (cellsB zs).length = zs.length := by simp [cellsB]
theorem Tryd.infoU8 : (Tryd.prog.info? 5).map (fun i => (i.zero, i.size, i.bytes)) = some (some (.int .u8 0), 1, 1) := by kernel_rfl
theorem rowB_of_own {w : World} {base : Nat} {v : Value} {zs : List Int} (h : w.ownsRow base 5 1 v zs.length (cellsB zs)) : ∃ a cap, v = .slice a zs.length cap ∧ RowB w a zs ∧ zs.length ≤ cap := by
  have hown := h
  rcases h.2 with ⟨rfl, h0⟩ | ⟨g, cap, cur, rfl, hb, hg, hc, _⟩
  · refine ⟨none, 0, by rw [h0], .inl (List.eq_nil_of_length_eq_zero h0), by omega⟩
  · refine ⟨_, cap, rfl, .inr ⟨g, 0, rfl, fun i z hz => ?_⟩, hc⟩
    have a0 := hown.cells (g := g) rfl i (.int .u8 z) (by simp [cellsB, hz])
    rw [addr_add, Nat.zero_add] at a0
    rw [Nat.zero_add]
    exact a0
/-- The moves told. -/
def movR (l : List IC) : List Int := if movE l = 0 then movL l else []
theorem movE_pos {l : List IC} (h : l ≠ []) : movE l = firstE (movAt l) l.length := by unfold movE; rw [if_neg h]
theorem bes_in (p c : IC) : -1 ≤ besI p c ∧ besI p c ≤ 3 := by
  unfold besI dirI
  split
  · omega
  · split
    · omega
    · split
      · omega
      · split <;> omega
theorem movAt_succ (l : List IC) (k : Nat) : movAt l (k + 1) = if plB (cK l (k + 1)) = true then (if besI (cK l k) (cK l (k + 1)) = -1 then 11 else 0) else 10 := rfl
theorem movAt_zero (l : List IC) : movAt l 0 = if plB (cK l 0) = true then 0 else 10 := rfl
theorem movAt_pl {l : List IC} {k : Nat} (h : movAt l k = 0) : plB (cK l k) = true := by
  cases k with
  | zero => rw [movAt_zero] at h
            split at h
            · assumption
            · cases h
  | succ k => rw [movAt_succ] at h
              split at h
              · assumption
              · cases h
theorem mov_ways {l : List IC} {k : Nat} (hp : plB (cK l k) = true) : (dirX (cK l k) (cK l (k + 1)) = 10 ∧ movAt l (k + 1) = 10) ∨ (dirX (cK l k) (cK l (k + 1)) = 1 ∧ movAt l (k + 1) = 11) ∨
    (dirX (cK l k) (cK l (k + 1)) = 0 ∧ movAt l (k + 1) = 0 ∧ dirV (cK l k) (cK l (k + 1)) = besI (cK l k) (cK l (k + 1)) ∧ 0 ≤ besI (cK l k) (cK l (k + 1)) ∧ besI (cK l k) (cK l (k + 1)) ≤ 3) := by
  have hb := bes_in (cK l k) (cK l (k + 1))
  rw [movAt_succ]
  unfold dirV dirX
  rw [hp]
  cases hc : plB (cK l (k + 1))
  · left; simp
  · by_cases h1 : besI (cK l k) (cK l (k + 1)) = -1
    · simp [h1]
    · simp [h1]
      omega

/-- What the loop holds: what went wrong, in a box; the moves so far, in another one. -/
def MovJ (w5 : World) (m g cp : Nat) (f : Int) (bs : List Int) (W : World) : Prop :=
  Below w5.heap.size w5 W ∧ Boxed W w5.heap.size 30 (.int .i64 f) ∧ Boxed W m 38 (.slice (some ⟨g, 0, none⟩) bs.length cp) ∧ W.ownsRow g 5 1 (.slice (some ⟨g, 0, none⟩) bs.length cp) bs.length (cellsB bs)
section
variable {w5 : World} {m g cp : Nat} {f : Int} {bs : List Int}
theorem MovJ.gcells {W : World} (h : MovJ w5 m g cp f bs W) : ∃ cur, W.heap[g]? = some (.cells cur 5 (0, 0)) := by
  rcases h.2.2.2.2 with ⟨e, _⟩ | ⟨g', cap, cur, e, _, hg, _⟩
  · cases e
  · cases e; exact ⟨cur, hg⟩
theorem MovJ.grown {A B : World} {row : Option Nat} (h : MovJ w5 m g cp f bs A) (hg : A.grownBy B row) (hr : ∀ r, row = some r → w5.heap.size < r ∧ r ≠ m ∧ r ≠ g) : MovJ w5 m g cp f bs B := by
  refine ⟨h.1.grown hg h.1.size (fun r e => by have := (hr r e).1; omega), h.2.1.kept hg (fun e => by have := (hr _ e.symm).1; omega), h.2.2.1.kept hg (fun e => (hr m e.symm).2.1 rfl), h.2.2.2.kept hg (.inr fun e => ?_)⟩
  exact (hr g (by simpa [Value.ownBlock] using e.symm)).2.2 rfl
theorem MovJ.own {n₁ : Nat} (hn : w5.heap.size < n₁) {β : Type} : OwnFrom n₁ (fun (_ : β) W => MovJ w5 m g cp f bs W) := fun s C D row hs hg hr =>
  MovJ.grown hs hg (fun r e => by
    obtain ⟨h1, o, ho, hc⟩ := hr r e
    refine ⟨by omega, fun e1 => ?_, fun e1 => ?_⟩
    · rw [e1, show C.heap[m]? = _ from hs.2.2.1] at ho; cases ho; cases hc
    · obtain ⟨cur, hcur⟩ := hs.gcells
      rw [e1, hcur] at ho; cases ho; cases hc)
theorem MovJ.abp {p c : Nat} (hp : w5.heap.size < p) (hm : m < p) (hg : g < p) {β : Type} : AbP p c (fun (_ : β) W => MovJ w5 m g cp f bs W) := fun s C D row hs hgr hr =>
  MovJ.grown hs hgr (fun r e => ⟨by have := (hr r e).1; omega, by have := (hr r e).1; omega, by have := (hr r e).1; omega⟩)
/-- The box of what went wrong is written. -/
theorem MovJ.fault {A : World} (h : MovJ w5 m g cp f bs A) (hm : w5.heap.size < m) (hg : w5.heap.size < g) (f2 : Int) : MovJ w5 m g cp f2 bs (A.setCell ⟨w5.heap.size, 0, none⟩ (.int .i64 f2)) := by
  have hgr := Gr.set A w5.heap.size 0 (.int .i64 f2)
  refine ⟨Gr.base h.1 hgr (Nat.le_refl _) h.1.size, h.2.1.set _, h.2.2.1.kept hgr (fun e => by cases e; omega), h.2.2.2.kept hgr (.inr fun e => ?_)⟩
  simp [Value.ownBlock] at e
  omega
end

def besP (x : IC × IC) : Int := besI x.1 x.2
theorem kp_appended {p c m g : Nat} {W w1 : World} {tmp : Obj} {u : Value} (hgrow : (W.alloc tmp).grownBy w1 (some g)) (hm : m < p) (hg : g < p) (hp : p + c ≤ W.heap.size) : KP p c W (w1.setCell ⟨m, 0, none⟩ u) := by
  have hz := hgrow.size
  rw [World.size_alloc] at hz
  refine ⟨by simp; omega, fun k h1 h2 => ?_⟩
  refine (Below.heap_setCell _ _ _ k (show k ≠ m by omega)).trans ((hgrow.block k (by rw [World.size_alloc]; omega) (fun e => by cases e; omega)).trans (Below.heap_alloc _ _ _ (by omega)))
theorem cell_one_new (w : World) (a : Value) (t : TypeId) : ∀ j u, [a][j]? = some u → (w.alloc (.cells #[a] t)).cell? ((⟨w.heap.size, 0, none⟩ : Addr).add j) = some u := by
  intro j u hu
  cases j with
  | zero => simp at hu; subst hu; simp [go_sem]
  | succ j => simp at hu

set_option maxRecDepth 100000 in
set_option maxHeartbeats 4000000 in
theorem moves_path (b : Option Addr) (cap2 : Nat) (l : List IC) (w : World) (hrc : RowC w b l) (hs : Stp w) (hl : l.length ≤ 1048576) :
    Calls Tryd.prog 14 #[.slice b l.length cap2] w fun e w' => ∃ v, e = .returned (.tuple #[v, .int .i64 (movE l)]) ∧ w'.ownsRow w.heap.size 5 1 v (movR l).length (cellsB (movR l)) ∧ Below w.heap.size w w' := by
  have hA := bl0 w
  by_cases hl0 : l = []
  · have h1 : movE l = 11 := by unfold movE; rw [if_pos hl0]
    have h2 : movR l = [] := by unfold movR; rw [if_neg (by rw [h1]; decide)]
    rw [h1, h2]
    subst hl0
    clear h1 h2
    go_enter Tryd.func14, Tryd.ntmps14
    go_wp2
    go_step3
    go_wp2
    rw [Exit.noGoto_ret]
    go_ret2
    exact ⟨_, rfl, World.ownsRow_nil _ _ _ _, hA⟩
  · have hme := movE_pos hl0
    have hp0 := List.length_pos_iff.2 hl0
    have hL0 : ((l.length : Int) == 0) = false := by rw [beq_eq_false_iff_ne]; omega
    have hL1 : (0 : Int) < (l.length : Int) := by omega
    have hL2 : 0 < l.length := by omega
    have hL3 : (1 : Int) ≤ (l.length : Int) := by omega
    have hAt0 : movAt l 0 = if plB (cK l 0) = true then 0 else 10 := rfl
    obtain ⟨gb, go, hbb, q0, q1⟩ := hrc.two (k := 0) (by omega)
    subst hbb
    simp only [Nat.zero_mul, Nat.add_zero] at q0 q1
    have hcell := fun W => walk_self (cK l 0) W
    rw [← hAt0] at hcell
    generalize hc0 : cK l 0 = c0 at *
    generalize he0 : movAt l 0 = e0 at *
    have HC0 := Lib.hid hc0; have HE0 := Lib.hid he0; have HAT := Lib.hid hAt0; have HME := Lib.hid hme
    clear hc0 he0 hAt0 hme
    refine (callsIn_wide (n := 11)).1 (callsIn_of_wp_marks Tryd.func14 rfl trivial ?_ rfl)
    simp only [Tryd.ntmps14, List.size_toArray, List.length_cons, List.length_nil, Nat.reduceAdd, Nat.reduceSub, Array.replicate_succ, Array.replicate_zero, List.push_toArray, List.append_toArray, List.nil_append, List.cons_append]
    refine wpIn_wide.2 ?_
    go_wp2
    go_step3
    go_upto_region 3 with fail
    have hB := bl_dr (bl0 w)
    have HSS := Lib.hid (show ∀ W', Below w.heap.size w W' → W'.cell? ⟨gb, go, none⟩ = some (.int .i64 c0.1) ∧ W'.cell? ⟨gb, go + 1, none⟩ = some (.int .i64 c0.2) from fun W' h => ⟨cell_later h q0, cell_later h q1⟩)
    go_cut [4, 5] from 13 to 22 (fun s t wx => s = .int .i64 0 ∧ ∃ w5 : World, t = .pointer (some ⟨w5.heap.size, 0, none⟩) ∧ Below w.heap.size w w5 ∧ Boxed wx w5.heap.size 30 (.int .i64 e0) ∧ Below w5.heap.size w5 wx)
    case first =>
      go_region_held3 (fun w' => w'.cell? ⟨gb, go, none⟩ = some (.int .i64 c0.1) ∧ w'.cell? ⟨gb, go + 1, none⟩ = some (.int .i64 c0.2))
        (first | exact HSS.out _ hB | exact HSS.out _ (bl_al hB _) | exact HSS.out _ (bl_dr (bl_al (bl0 w) _)) | exact HSS.out _ (bl_st hB (Nat.le_refl _) _) | exact HSS.out _ (bl_st (bl_al hB _) (by have := hB.size; omega) _))
        ((go_at_call 29; (with_reducible refine (hcell _).mono ?_); rintro e w9 ⟨rfl, hb9⟩; (first | replace hB := bl_tr hB hb9 | (replace hB := bl_tr (bl_dr (bl_al (bl0 w) _)) hb9; have k0 := cell_later hb9 (v := .int .i64 0) (a := ⟨w.heap.size, 0, none⟩) (by simp [go_sem]); have k1 : w9.frozen? ⟨w.heap.size, 0, none⟩ = false := (hb9.frozen (p := ⟨w.heap.size, 0, none⟩) (by simp)).trans (by simp [go_sem]); have k2 := blk_lt k0))))
      all_goals
        go_wp2_with fail
        go_meet
        first
          | exact ⟨rfl, w9, rfl, hB, Boxed.new w9 _ _, bl_al (bl0 _) _⟩
          | exact ⟨rfl, w, rfl, bl0 w, ((show Boxed ((w.alloc (.cells #[.int .i64 0] 30)).drew) w.heap.size 30 (.int .i64 0) from Boxed.new w _ _).kept (grown_of_below hb9) (fun e => by cases e)).set _, bl_st hB (Nat.le_refl _) _⟩
    case rest =>
      obtain ⟨rfl, w5, rfl, hA5, hbx, hB6⟩ := hcut
      clear hB hcell q0 q1 HSS
      by_cases hz : e0 = 0
      case neg =>
        have hme2 : movE l = e0 := by rw [HME.out, firstE_at (k := 0) rfl hL2 (by rw [HE0.out]; exact hz), HE0.out]
        have hmr : movR l = [] := by unfold movR; rw [if_neg (by rw [hme2]; exact hz)]
        have h1 : (e0 != 0) = true := by rw [bne_iff_ne]; exact hz
        have cb := hbx.cell
        have hfin := hA5.trans (hB6.mono hA5.size)
        have HM := Lib.hid hme2; have HR := Lib.hid hmr
        clear hme2 hmr hz HME HE0 HAT
        go_wp2_with fail
        go_region_held3 (fun w' => w'.cell? ⟨w5.heap.size, 0, none⟩ = some (.int .i64 e0)) (exact cb) (fail)
        all_goals
          go_wp2
          rw [Exit.noGoto_ret]
          exact ⟨.tuple #[.slice none 0 0, .int .i64 e0], by simp [results, Tryd.results14, go_sem], _, by rw [HM.out], by rw [HR.out]; exact World.ownsRow_nil _ _ _ _, bl_tr hfin (bl_dr (bl0 _))⟩
      case pos =>
        subst hz
        have cb := hbx.cell
        have lb := hbx.lt
        have e1 : IntKind.i64.wrap ((l.length : Int) - 1) = ((l.length - 1 : Nat) : Int) := by
          rw [show ((l.length - 1 : Nat) : Int) = (l.length : Int) - 1 by omega]
          exact IntWalk.i64_in _ (by omega)
        obtain ⟨i0, hi, hz0, hz1, hz2⟩ := info_parts Tryd.infoU8
        go_wp2_with (at_make; refine wpList_make_own _ rfl _ _ 38 rfl wc.heap.size 5 i0 (.int .u8 0) 1 Tryd.underlying38 hi hz0 hz1 .i64 .i64 _ (l.length - 1) rfl rfl (by simp) ?b2 ?b3 ?b4 ?_)
        case b2 => rw [hz2]; omega
        case b3 => unfold maxLen; omega
        case b4 => exact Nat.le_refl _
        intro w6 hown hgrow
        have hb6 : Below wc.heap.size wc w6 := (bl0 wc).grown hgrow (Nat.le_refl _) (fun j hj => by cases hj)
        have hg6 := (hown.lt wc.heap.size rfl).2
        have hbx6 := hbx.kept hgrow (fun e => by cases e)
        obtain ⟨W3, hW3⟩ : ∃ W3, w6.alloc (.cells #[.slice (some ⟨wc.heap.size, 0, none⟩) 0 (l.length - 1)] 38) = W3 := ⟨_, rfl⟩
        have hz3 : W3.heap.size = w6.heap.size + 1 := by rw [← hW3]; simp
        have hb3 : Below w6.heap.size w6 W3 := by rw [← hW3]; exact bl_al (bl0 _) _
        have hbm : Boxed W3 w6.heap.size 38 (.slice (some ⟨wc.heap.size, 0, none⟩) 0 (l.length - 1)) := by rw [← hW3]; exact Boxed.new w6 _ _
        have HW := Lib.hid hW3
        clear hW3 cb hgrow
        go_wp2
        rw [HW.out]
        go_step3
        go_wp2_with fail
        refine (pairs_mk _ _ _ _).mono ?_
        rintro e W4 ⟨rfl, hP, hz4, hb4⟩
        rw [hz3] at hP hz4
        have hJ0 : MovJ w5 w6.heap.size wc.heap.size (l.length - 1) 0 [] W4 := by
          have h1 : Below w5.heap.size w5 W4 := bl_tr (bl_tr (bl_tr hB6 hb6) hb3) hb4
          exact ⟨h1, (hbx6.kept (grown_of_below hb3) (fun e => by cases e)).kept (grown_of_below hb4) (fun e => by cases e), hbm.kept (grown_of_below hb4) (fun e => by cases e), own_later (own_later hown hb3) hb4⟩
        have hrow : ∀ f bs W, MovJ w5 w6.heap.size wc.heap.size (l.length - 1) f bs W → RowC W (some ⟨gb, go, none⟩) l := fun f bs W h => hrc.below (hA5.trans (h.1.mono hA5.size))
        have HF1 := Lib.hid (show firstE (movAt l) 1 = 0 from HE0.out)
        clear hbx hbx6 hbm hown hb3 hb4 hb6 hB6 HE0 HAT
        go_wp2_with fail
        refine wpIn_wide.1 (range_r (w6.heap.size + 1) 1 36 #[.pointer (some ⟨w6.heap.size + 1, 0, none⟩)] (pairsF l) (fun W => RowC W (some ⟨gb, go, none⟩) l) (iter_pairs (w6.heap.size + 1) _ cap2 l hl W4 hP) rfl (fun _ => rfl) (by omega) (enters_of Tryd.func36 (by kernel_rfl) rfl)
          (fun pre W => MovJ w5 w6.heap.size wc.heap.size (l.length - 1) 0 (pre.map besP) W ∧ W4.heap.size ≤ W.heap.size ∧ firstE (movAt l) (pre.length + 1) = 0)
          (fun cc pre W => ∃ e bs, MovJ w5 w6.heap.size wc.heap.size (l.length - 1) e bs W ∧ cc = .exit 0 ∧ e ≠ 0 ∧ firstE (movAt l) l.length = e)
          (fun s C D row hs hg hr => ⟨MovJ.own (β := Unit) (by omega) () C D row hs.1 hg hr, Nat.le_trans hs.2.1 hg.size, hs.2.2⟩) (fun cc s C D row ⟨e, bs, hs⟩ hg hr => ⟨e, bs, MovJ.own (β := Unit) (by omega) () C D row hs.1 hg hr, hs.2⟩)
          (fun s C D row hs hg hr => ⟨MovJ.abp (β := Unit) (by omega) (by omega) (by omega) () C D row hs.1 hg hr, Nat.le_trans hs.2.1 hg.size, hs.2.2⟩) (fun cc s C D row ⟨e, bs, hs⟩ hg hr => ⟨e, bs, MovJ.abp (β := Unit) (by omega) (by omega) (by omega) () C D row hs.1 hg hr, hs.2⟩)
          (fun pre W h => hrow _ _ W h.1) (fun cc pre W ⟨e, bs, h⟩ => hrow _ _ W h.1)
          ⟨hJ0, Nat.le_refl _, HF1.out⟩
          (fun x a' W => ∃ B1 B2, W4.heap.size ≤ B1 ∧ W4.heap.size ≤ B2 ∧ W.cell? ⟨B1, 0, none⟩ = some (.int .i64 x.1.1) ∧ W.cell? ⟨B1, 1, none⟩ = some (.int .i64 x.1.2) ∧ W.cell? ⟨B2, 0, none⟩ = some (.int .i64 x.2.1) ∧ W.cell? ⟨B2, 1, none⟩ = some (.int .i64 x.2.2) ∧ a' = { tmps := #[.slice (some ⟨gb, go, none⟩) l.length cap2, undef, .slice none 0 0, .int .i64 0, .int .i64 0, .pointer (some ⟨w5.heap.size, 0, none⟩), .pointer (some ⟨w6.heap.size, 0, none⟩), .pointer (some ⟨B1, 0, none⟩), .pointer (some ⟨B2, 0, none⟩), undef, .slice (some ⟨gb, go, none⟩) l.length cap2, .int .i64 l.length, .bool false, u13, u14, u15, u16, u17, u18, u19, u20, u21, u22, .int .i64 0, .bool false, undef, .slice (some ⟨gb, go, none⟩) l.length cap2, .int .i64 l.length, .int .i64 ((l.length - 1 : Nat) : Int), .slice (some ⟨wc.heap.size, 0, none⟩) 0 (l.length - 1), .slice (some ⟨gb, go, none⟩) l.length cap2, .func (.func 36) #[] #[.pointer (some ⟨w6.heap.size + 1, 0, none⟩)], .agg #[.int .i64 x.1.1, .int .i64 x.1.2], .agg #[.int .i64 x.2.1, .int .i64 x.2.2], undef, undef, undef, undef, undef, undef, undef, undef, undef, undef, undef, undef, undef, undef, undef, undef, undef, undef, undef, undef], defers := [] })
          ?ax ?assign ?body ?done ?stop)
        case ax =>
          rintro c a' _ C D row ⟨Bx, By, h1, h2, h3, h4, h5, h6, h7⟩ hg' hr
          exact ⟨Bx, By, h1, h2, cell_kept h3 hg' (fun r e => (hr r e).2), cell_kept h4 hg' (fun r e => (hr r e).2), cell_kept h5 hg' (fun r e => (hr r e).2), cell_kept h6 hg' (fun r e => (hr r e).2), h7⟩
        case assign =>
          rintro lp pre x W K ⟨hi', hWz, hfr⟩ hK
          have hbW := bl_al (bl_al (bl0 W) (.cells #[.int .i64 x.1.1, .int .i64 x.1.2] 37)) (.cells #[.int .i64 x.2.1, .int .i64 x.2.2] 37)
          have hK' := hK _ _ ((Gr.below (q := 0) hbW).keeps (by omega)) (KP.of_below hbW (by omega)) ⟨MovJ.own (β := Unit) (n₁ := W4.heap.size) (by omega) () W _ none hi' (grown_of_below hbW) (fun r e => by cases e), Nat.le_trans hWz hbW.size, hfr⟩ ⟨W.heap.size, W.heap.size + 1, hWz, by omega, by simp [go_sem], by simp [go_sem], by simp [go_sem], by simp [go_sem], rfl⟩
          clear hK
          simp [encPP]
          gi_wp2
          exact hK'
        case body =>
          rintro lp pre x a' W hWl _ ⟨hJ, hWz, hfe⟩ ⟨B1, B2, h1, h2, x0, x1, y0, y1, rfl⟩ hlt
          obtain ⟨hk, rfl, hpre⟩ := pairsF_next hlt
          have hways := mov_ways (movAt_pl (firstE_zero.1 hfe pre.length (by omega)))
          have hnx : firstE (movAt l) (pre.length + 1 + 1) = movAt l (pre.length + 1) := firstE_next hfe
          have hst : movAt l (pre.length + 1) ≠ 0 → firstE (movAt l) l.length = movAt l (pre.length + 1) := fun h => firstE_at hfe hk h
          dsimp only at x0 x1 y0 y1
          have hbl : (pre.map besP).length = pre.length := List.length_map _
          have hsn : (pre ++ [(cK l pre.length, cK l (pre.length + 1))]).map besP = pre.map besP ++ [besI (cK l pre.length) (cK l (pre.length + 1))] := by rw [List.map_append]; rfl
          generalize cK l pre.length = p at *
          generalize cK l (pre.length + 1) = c at *
          generalize hbs : pre.map besP = bs at *
          generalize movAt l (pre.length + 1) = E at *
          have HNX := Lib.hid (show E = 0 → firstE (movAt l) ((pre ++ [(p, c)]).length + 1) = 0 from fun h => by rw [List.length_append]; exact hnx.trans h)
          have HST := Lib.hid hst
          have HSN := Lib.hid hsn
          have HBS := Lib.hid hbs
          have hlen : bs.length + 1 ≤ l.length - 1 := by omega
          clear hnx hst hpre hlt hfe hsn hbs hbl
          have hs1 : Stp W := hs.below (hA5.trans (hJ.1.mono hA5.size))
          have zy := blk_lt y0
          clear hP hJ0
          gi_wp2_with fail
          refine ⟨trivial, (CallsIn.inRound lp (callsIn_wide.2 (dir_any p c _ hs1))).mono ?_⟩
          rintro e W1 ⟨rfl, hb1⟩
          have hzW1 := hb1.size
          have hJ1 := hJ.grown (grown_of_below hb1) (fun r e => by cases e)
          have hG : Gr w5.heap.size W W1 := Gr.below hb1
          have hend : ∀ (v : Int), MovJ w5 w6.heap.size wc.heap.size (l.length - 1) v bs (W1.setCell ⟨w5.heap.size, 0, none⟩ (.int .i64 v)) ∧ KeepsFrom W4.heap.size W (W1.setCell ⟨w5.heap.size, 0, none⟩ (.int .i64 v)) ∧ KP (w6.heap.size + 1) 1 W (W1.setCell ⟨w5.heap.size, 0, none⟩ (.int .i64 v)) := fun v => by
            have hg := hG.trans (Gr.set W1 w5.heap.size 0 (.int .i64 v))
            exact ⟨hJ1.fault (by omega) (by omega) v, hg.keeps (by omega), hg.kp (by omega) (.inl (by omega))⟩
          have hend2 : ∀ (u v : Int), MovJ w5 w6.heap.size wc.heap.size (l.length - 1) v bs ((W1.setCell ⟨w5.heap.size, 0, none⟩ (.int .i64 u)).setCell ⟨w5.heap.size, 0, none⟩ (.int .i64 v)) ∧ KeepsFrom W4.heap.size W ((W1.setCell ⟨w5.heap.size, 0, none⟩ (.int .i64 u)).setCell ⟨w5.heap.size, 0, none⟩ (.int .i64 v)) ∧ KP (w6.heap.size + 1) 1 W ((W1.setCell ⟨w5.heap.size, 0, none⟩ (.int .i64 u)).setCell ⟨w5.heap.size, 0, none⟩ (.int .i64 v)) := fun u v => by
            have hg := (hG.trans (Gr.set W1 w5.heap.size 0 (.int .i64 u))).trans (Gr.set _ w5.heap.size 0 (.int .i64 v))
            exact ⟨(hJ1.fault (by omega) (by omega) u).fault (by omega) (by omega) v, hg.keeps (by omega), hg.kp (by omega) (.inl (by omega))⟩
          have HEND := Lib.hid hend
          have HEND2 := Lib.hid hend2
          have cb := hJ1.2.1.cell
          have fb := hJ1.2.1.frozen
          have lb2 := hJ1.2.1.lt
          clear hend hend2 hG hJ hb1 hs1 zy x0 x1 y0 y1
          rcases hways with ⟨e1, e2⟩ | ⟨e1, e2⟩ | ⟨e1, e2, e3, e4, e5⟩
          · rw [e1]
            have h3 := HST.out
            rw [e2] at h3
            have H3 := Lib.hid (h3 (by decide))
            clear e1 e2 h3 hJ1
            gi_wp2
            exact ⟨(HEND.out 10).2.1, (HEND.out 10).2.2, 10, bs, (HEND.out 10).1, rfl, by decide, H3.out⟩
          · rw [e1]
            have h3 := HST.out
            rw [e2] at h3
            have H3 := Lib.hid (h3 (by decide))
            clear e1 e2 h3 hJ1
            gi_wp2
            exact ⟨(HEND2.out 1 11).2.1, (HEND2.out 1 11).2.2, 11, bs, (HEND2.out 1 11).1, rfl, by decide, H3.out⟩
          · rw [e1, e3]
            have H3 := Lib.hid (HNX.out e2)
            generalize besI p c = d at *
            have e6 : IntKind.u8.wrap d = d := by rw [IntKind.wrap_u8]; omega
            obtain ⟨hJ2, hK2, hP2⟩ := HEND.out 0
            have cm := hJ1.2.2.1.cell
            have fm := hJ1.2.2.1.frozen
            have lm := hJ1.2.2.1.lt
            have ne1 : ¬ w6.heap.size = w5.heap.size := by omega
            have ne2 : ¬ w5.heap.size = w6.heap.size := by omega
            have hbm := hJ2.2.2.1
            have hrow := hJ2.2.2.2
            clear e1 e2 e3 hJ1 HEND HEND2
            gi_wp2_with (gi_at_builtin; refine wpListIn_append_fits _ rfl _ _ 38 rfl wc.heap.size 5 i0 1 Tryd.underlying38 hi hz1 wc.heap.size bs.length (l.length - 1) (cellsB bs) rfl (hrow.alloc _) ⟨_, 0, none⟩ 1 1 [.int .u8 d] rfl rfl ?c1 ?c2 ?c3 ?_)
            case c1 =>
              have h := cell_one_new (W1.setCell ⟨w5.heap.size, 0, none⟩ (.int .i64 0)) (.int .u8 d) 5
              rw [show (W1.setCell ⟨w5.heap.size, 0, none⟩ (.int .i64 0)).heap.size = W1.heap.size by simp] at h
              exact h
            case c2 => intro u hu; simp at hu; rcases hu with rfl; rfl
            case c3 => omega
            intro w7 hown' hgrow
            have hzz : (W1.setCell ⟨w5.heap.size, 0, none⟩ (.int .i64 0)).heap.size = W1.heap.size := by simp
            obtain ⟨q1, q2, q3, q4, q5⟩ := Boxed.appended hbm (by decide) hrow (by omega) (by omega) hown' hgrow
            have c5 := q1.cell
            have f5 := q1.frozen
            have hKP : KP (w6.heap.size + 1) 1 (W1.setCell ⟨w5.heap.size, 0, none⟩ (.int .i64 0)) _ := kp_appended (u := .slice (some ⟨wc.heap.size, 0, none⟩) (bs.length + 1) (l.length - 1)) hgrow (m := w6.heap.size) (by omega) (by omega) (by omega)
            have hJ9 : MovJ w5 w6.heap.size wc.heap.size (l.length - 1) 0 (bs ++ [d]) _ := ⟨hJ2.1.trans (q5.mono (by omega)), (q5.block _ (by omega)).trans hJ2.2.1, by rw [List.length_append]; exact q2, by rw [cellsB_snoc, List.length_append]; exact q3⟩
            have HJ := Lib.hid hJ9
            have HK := Lib.hid (hK2.trans (q4.from W4.heap.size))
            have HP := Lib.hid (hP2.trans hKP)
            have HW := Lib.hid (show W4.heap.size ≤ _ from Nat.le_trans (Nat.le_trans hWz hP2.1) hKP.1)
            clear hJ9 hKP hown' hgrow q1 q2 q3 q4 q5 hbm hrow cm fm hJ2 hK2 hP2
            gi_wp2
            exact ⟨HK.out, HP.out, by rw [HSN.out]; exact HJ.out, HW.out, H3.out⟩
        case done =>
          rintro D W hD ⟨hJ, hWz, hfe⟩ hK
          have cb := hJ.2.1.cell
          have cm := hJ.2.2.1.cell
          have hall : movE l = 0 := by
            rw [HME.out]
            rw [pairsF_len] at hfe
            rw [show l.length = l.length - 1 + 1 by omega]
            exact hfe
          have hmr : movR l = (pairsF l).map besP := by unfold movR; rw [if_pos hall]; rfl
          have hg2 := hJ.2.2.2
          have hown := ownsRow_putObj hg2 (.deferred none) hK rfl
          have HA := Lib.hid hall; have HR := Lib.hid hmr
          have hfin : Below w.heap.size w (W.putObj D (.deferred none)) := hA5.trans ((hJ.1.grown (grownBy_putObj' W D _) hJ.1.size (fun r e => by cases e; omega)).mono hA5.size)
          have ho2 := own_base hown (show w.heap.size ≤ wc.heap.size by have := hA5.size; omega)
          have HO := Lib.hid ho2
          clear hall hfe hJ hmr hg2 hown ho2
          go_wp2
          rw [Exit.noGoto_ret]
          refine ⟨by simp, .inl ⟨_, _, rfl, run_takeDeferred hK, ?_⟩⟩
          exact ⟨.tuple #[.slice (some ⟨wc.heap.size, 0, none⟩) ((pairsF l).map besP).length (l.length - 1), .int .i64 0], by simp [results, Tryd.results14, go_sem], _, by rw [HA.out], by rw [HR.out]; exact HO.out, hfin⟩
        case stop =>
          rintro D cc q W hD hq ⟨e, bs, hJ, rfl, hne, hfe⟩ hK
          have cb := hJ.2.1.cell
          have hall : movE l = e := HME.out.trans hfe
          have hmr : movR l = [] := by unfold movR; rw [if_neg (by rw [hall]; exact hne)]
          have h1 : (e != 0) = true := by rw [bne_iff_ne]; exact hne
          have HA := Lib.hid hall; have HR := Lib.hid hmr
          have hfin : ∀ V, Below W.heap.size W V → Below w.heap.size w (V.putObj D (.deferred none)) := fun V hV => hA5.trans (((bl_tr hJ.1 hV).grown (grownBy_putObj' V D _) (bl_tr hJ.1 hV).size (fun r e => by cases e; omega)).mono hA5.size)
          have HF := Lib.hid hfin
          clear hfe hJ hall hmr hne hfin
          refine wpIn_wide.2 ?_
          go_wp2_with fail
          go_region_held3 (fun w' => w'.cell? ⟨w5.heap.size, 0, none⟩ = some (.int .i64 e)) (exact cb) (fail)
          all_goals
            go_wp2
            rw [Exit.noGoto_ret]
            refine ⟨by simp, .inl ⟨_, _, rfl, run_takeDeferred hK, ?_⟩⟩
            exact ⟨.tuple #[.slice none 0 0, .int .i64 e], by simp [results, Tryd.results14, go_sem], _, by rw [HA.out], by rw [HR.out]; exact World.ownsRow_nil _ _ _ _, HF.out _ (bl_dr (bl0 _))⟩
end Go.Proofs.YtlmloedjakpogabDoor
