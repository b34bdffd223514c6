/- Paths: the program's Check. -/
import Derived.Test.YtldpajfendkhbaaDoorAd
import Derived.Test.YtldpajfendkhbaaDoorOw
import Derived.WalkMore
import Derived.Scope
import Derived.Deep.CutRange
import Derived.LoopTactic
namespace Go.Proofs.YtldpajfendkhbaaDoor
open Go.RowKit Go.Shelf
attribute [local go_sem] Oper.semAt_some

section
variable {q n p c : Nat} {A B C w : World}
theorem Gr.keeps (x : Gr q A B) (h : q < n) : KeepsFrom n A B := ⟨x.size, fun k _ h1 h2 _ => (x.block k (Array.getElem?_eq_some_iff.1 h2).1 (fun e => by cases e; omega)).trans h2⟩
theorem Gr.kp (x : Gr q A B) (h1 : p + c ≤ A.heap.size) (h2 : q < p ∨ p + c ≤ q) : KP p c A B := ⟨x.size, fun k h3 h4 => x.block k (by omega) (fun e => by cases e; omega)⟩
end
theorem RowC.base {w W : World} {a : Option Addr} {zs : List IC} {n : Nat} (h : RowC w a zs) (hn : w.heap.size ≤ n) (hb : Below n w W) : RowC W a zs := h.below (hb.mono hn)
theorem RowH.base {w W : World} {a : Option Addr} {zs : List Int} {n : Nat} (h : RowH w a zs) (hn : w.heap.size ≤ n) (hb : Below n w W) : RowH W a zs := h.below (hb.mono hn)
theorem Stp.base {w W : World} {n : Nat} (h : Stp w) (hn : w.heap.size ≤ n) (hb : Below n w W) : Stp W := h.below (hb.mono hn)

/-- What the loop holds: what it is told so far, in a box. -/
def ChkI (w5 : World) (t : TypeId) (v : Value) (n : Nat) (W : World) : Prop := Below w5.heap.size w5 W ∧ Boxed W w5.heap.size t v ∧ n ≤ W.heap.size
theorem ChkI.own {w5 : World} {t : TypeId} {v : Value} {n n₁ : Nat} (h : w5.heap.size < n₁) {β : Type} : OwnFrom n₁ (fun (_ : β) W => ChkI w5 t v n W) := fun _ C D row hs hg hr =>
  ⟨hs.1.grown hg hs.1.size (fun r e => by have := (hr r e).1; omega), hs.2.1.kept hg (fun e => by have := (hr _ e.symm).1; omega), Nat.le_trans hs.2.2 hg.size⟩
theorem ChkI.abp {w5 : World} {t : TypeId} {v : Value} {n p c : Nat} (h : w5.heap.size < p) {β : Type} : AbP p c (fun (_ : β) W => ChkI w5 t v n W) := fun _ C D row hs hg hr =>
  ⟨hs.1.grown hg hs.1.size (fun r e => by have := (hr r e).1; omega), hs.2.1.kept hg (fun e => by have := (hr _ e.symm).1; omega), Nat.le_trans hs.2.2 hg.size⟩

theorem chk_area {A B : Int} {n : Int} (h : chkF A B n = 0) : n = A * B := by
  unfold chkF at h
  split at h
  · split at h
    · assumption
    · cases h
  · cases h
theorem pathE_at {A B : Int} {zs : List Int} {l : List IC} {chk : Int} (h : chk = 0) (hl : l ≠ []) : pathE A B zs l chk = firstE (pathAt A B zs l) l.length := by
  unfold pathE; rw [if_neg (fun e => e h), if_neg hl]
theorem on_plain {A B : Int} {c : IC} (h : onB A B c = true) : plB c = true := by
  obtain ⟨h1, h2, h3, h4, h5, h6, h7, h8⟩ := inB_iff.1 h
  exact plainB_iff.2 ⟨by omega, by omega, by omega, by omega⟩
theorem errC_on {A B : Int} {zs : List Int} {c : IC} (h : errC A B zs c = 0) : onB A B c = true := by
  unfold errC at h; split at h
  · assumption
  · cases h
theorem errP_on {A B : Int} {zs : List Int} {p c : IC} (h : errP A B zs p c = 0) : onB A B c = true := by
  unfold errP at h; split at h
  · assumption
  · cases h
theorem pathAt_on {A B : Int} {zs : List Int} {l : List IC} {k : Nat} (h : pathAt A B zs l k = 0) : onB A B (cK l k) = true := by
  cases k with
  | zero => exact errC_on h
  | succ k => exact errP_on h
/-- What the three questions of a round come to. -/
theorem errP_ways {A B : Int} {zs : List Int} {p c : IC} (hp : onB A B p = true) :
    (errC A B zs c = 10 ∧ errP A B zs p c = 10) ∨ (errC A B zs c ≠ 10 ∧ dirX p c = 1 ∧ errP A B zs p c = 11) ∨ (errC A B zs c = 21 ∧ dirX p c = 0 ∧ errP A B zs p c = 21) ∨ (errC A B zs c = 0 ∧ dirX p c = 0 ∧ errP A B zs p c = 0) := by
  unfold errC errP dirX
  cases hc : onB A B c
  · left; simp
  · rw [show (plB p && plB c) = true by rw [on_plain hp, on_plain hc]; rfl]
    by_cases h1 : besI p c = -1 <;> by_cases h2 : costAt A zs c = 0 <;> simp [h1, h2]

set_option maxRecDepth 100000 in
set_option maxHeartbeats 4000000 in
theorem check_path (A B : Int) (a b : Option Addr) (cap cap2 : Nat) (zs : List Int) (l : List IC) (w : World) (hr : RowH w a zs) (hrc : RowC w b l) (hs : Stp w) (hl : l.length ≤ 1048576) :
    Calls Tryd.prog 18 #[.agg #[.int .i64 A, .int .i64 B, .slice a zs.length cap], .slice b l.length cap2] w fun e w' => e = .returned (.int .i64 (pathE A B zs l (chkF A B zs.length))) ∧ Below w.heap.size w w' := by
  obtain ⟨chk, hchk⟩ : ∃ chk, chkF A B zs.length = chk := ⟨_, rfl⟩
  have hA := bl0 w
  by_cases h0 : chk = 0
  case neg =>
    have hpe : pathE A B zs l chk = chk := by unfold pathE; rw [if_pos h0]
    have h1 : (chk != 0) = true := by rw [bne_iff_ne]; exact h0
    rw [hchk, hpe]
    clear hpe h0
    have HC := Lib.hid hchk
    clear hchk
    go_enter Tryd.func18, Tryd.ntmps18
    go_wp2
    go_step3
    go_wp2_with fail
    refine (check_any _ _ _ _ _ _).mono ?_
    rintro e w1 ⟨rfl, hb⟩
    have hk : Below w.heap.size w w1 := by first | exact hb | exact bl_tr (bl_al (bl0 _) _) hb | exact bl_tr (bl_dr (bl_al (bl0 _) _)) hb | exact bl_tr (bl_al (bl_al (bl0 _) _) _) hb | exact bl_tr (bl_dr (bl_al (bl_al (bl0 _) _) _)) hb | exact bl_tr (bl_al (bl_al (bl_al (bl0 _) _) _) _) hb | exact bl_tr (bl_dr (bl_al (bl_al (bl_al (bl0 _) _) _) _)) hb | exact bl_tr (bl_al (bl_al (bl_al (bl_al (bl0 _) _) _) _) _) hb | exact bl_tr (bl_dr (bl_al (bl_al (bl_al (bl_al (bl0 _) _) _) _) _)) hb | exact bl_tr (bl_al (bl_al (bl_al (bl_al (bl_al (bl0 _) _) _) _) _) _) hb | exact bl_tr (bl_dr (bl_al (bl_al (bl_al (bl_al (bl_al (bl0 _) _) _) _) _) _)) hb | exact bl_tr (bl_al (bl_al (bl_al (bl_al (bl_al (bl_al (bl0 _) _) _) _) _) _) _) hb | exact bl_tr (bl_dr (bl_al (bl_al (bl_al (bl_al (bl_al (bl_al (bl0 _) _) _) _) _) _) _)) hb | exact bl_tr (bl_dr (bl0 _)) hb
    replace hA := bl_tr hA hk
    clear hb hk
    rw [HC.out]
    go_wp2
    rw [Exit.noGoto_ret]
    go_ret
    exact ⟨rfl, hA⟩
  case pos =>
    subst h0
    have HC := Lib.hid hchk
    by_cases hl0 : l = []
    · have hpe : pathE A B zs l 0 = 11 := by unfold pathE; rw [if_neg (fun e => e rfl), if_pos hl0]
      rw [hchk, hpe]
      clear hpe hchk
      subst hl0
      go_enter Tryd.func18, Tryd.ntmps18
      go_wp2
      go_step3
      go_wp2_with fail
      refine (check_any _ _ _ _ _ _).mono ?_
      rintro e w1 ⟨rfl, hb⟩
      have hk : Below w.heap.size w w1 := by first | exact hb | exact bl_tr (bl_al (bl0 _) _) hb | exact bl_tr (bl_dr (bl_al (bl0 _) _)) hb | exact bl_tr (bl_al (bl_al (bl0 _) _) _) hb | exact bl_tr (bl_dr (bl_al (bl_al (bl0 _) _) _)) hb | exact bl_tr (bl_al (bl_al (bl_al (bl0 _) _) _) _) hb | exact bl_tr (bl_dr (bl_al (bl_al (bl_al (bl0 _) _) _) _)) hb | exact bl_tr (bl_al (bl_al (bl_al (bl_al (bl0 _) _) _) _) _) hb | exact bl_tr (bl_dr (bl_al (bl_al (bl_al (bl_al (bl0 _) _) _) _) _)) hb | exact bl_tr (bl_al (bl_al (bl_al (bl_al (bl_al (bl0 _) _) _) _) _) _) hb | exact bl_tr (bl_dr (bl_al (bl_al (bl_al (bl_al (bl_al (bl0 _) _) _) _) _) _)) hb | exact bl_tr (bl_al (bl_al (bl_al (bl_al (bl_al (bl_al (bl0 _) _) _) _) _) _) _) hb | exact bl_tr (bl_dr (bl_al (bl_al (bl_al (bl_al (bl_al (bl_al (bl0 _) _) _) _) _) _) _)) hb | exact bl_tr (bl_dr (bl0 _)) hb
      replace hA := bl_tr hA hk
      clear hb hk
      rw [HC.out]
      go_wp2
      rw [Exit.noGoto_ret]
      go_ret
      exact ⟨rfl, hA⟩
    · rw [hchk, pathE_at rfl hl0]
      have hzn := chk_area hchk
      obtain ⟨L, hL⟩ : ∃ L, l.length = L + 1 := ⟨l.length - 1, by have := List.length_pos_iff.2 hl0; omega⟩
      have hL0 : ((l.length : Int) == 0) = false := by rw [beq_eq_false_iff_ne]; omega
      have hL1 : (0 : Int) < (l.length : Int) := by omega
      have hL2 : 0 < l.length := by omega
      have hL3 : (1 : Int) ≤ (l.length : Int) := by omega
      have HL := Lib.hid hL
      clear hL
      have hAt0 : pathAt A B zs l 0 = errC A B zs (cK l 0) := rfl
      clear hchk
      refine (callsIn_wide (n := 11)).1 (callsIn_of_wp_marks Tryd.func18 rfl trivial ?_ rfl)
      simp only [Tryd.ntmps18, List.size_toArray, List.length_cons, List.length_nil, Nat.reduceAdd, Nat.reduceSub, Array.replicate_succ, Array.replicate_zero, List.push_toArray, List.append_toArray, List.nil_append, List.cons_append]
      refine wpIn_wide.2 ?_
      go_wp2
      go_step3
      go_wp2_with fail
      refine (check_any _ _ _ _ _ _).mono ?_
      rintro e w1 ⟨rfl, hb⟩
      have hk : Below w.heap.size w w1 := by first | exact hb | exact bl_tr (bl_al (bl0 _) _) hb | exact bl_tr (bl_dr (bl_al (bl0 _) _)) hb | exact bl_tr (bl_al (bl_al (bl0 _) _) _) hb | exact bl_tr (bl_dr (bl_al (bl_al (bl0 _) _) _)) hb | exact bl_tr (bl_al (bl_al (bl_al (bl0 _) _) _) _) hb | exact bl_tr (bl_dr (bl_al (bl_al (bl_al (bl0 _) _) _) _)) hb | exact bl_tr (bl_al (bl_al (bl_al (bl_al (bl0 _) _) _) _) _) hb | exact bl_tr (bl_dr (bl_al (bl_al (bl_al (bl_al (bl0 _) _) _) _) _)) hb | exact bl_tr (bl_al (bl_al (bl_al (bl_al (bl_al (bl0 _) _) _) _) _) _) hb | exact bl_tr (bl_dr (bl_al (bl_al (bl_al (bl_al (bl_al (bl0 _) _) _) _) _) _)) hb | exact bl_tr (bl_al (bl_al (bl_al (bl_al (bl_al (bl_al (bl0 _) _) _) _) _) _) _) hb | exact bl_tr (bl_dr (bl_al (bl_al (bl_al (bl_al (bl_al (bl_al (bl0 _) _) _) _) _) _) _)) hb | exact bl_tr (bl_dr (bl0 _)) hb
      replace hA := bl_tr hA hk
      have f0 := cell_later hb (v := .int .i64 A) (a := ⟨w.heap.size, 0, none⟩) (by simp [go_sem])
      have f1 := cell_later hb (v := .int .i64 B) (a := ⟨w.heap.size, 1, none⟩) (by simp [go_sem])
      have f2 := cell_later hb (v := .slice a zs.length cap) (a := ⟨w.heap.size, 2, none⟩) (by simp [go_sem])
      clear hb hk
      have zf0 := blk_lt f0
      have zf1 := blk_lt f1
      have zf2 := blk_lt f2
      rw [HC.out]
      obtain ⟨gb, go, hbb, q0, q1⟩ := (hrc.below hA).two (k := 0) (by omega)
      subst hbb
      simp only [Nat.zero_mul, Nat.add_zero] at q0 q1
      have hr1 := hr.below hA
      obtain ⟨c0, hc0⟩ : ∃ c0, cK l 0 = c0 := ⟨_, rfl⟩
      rw [hc0] at q0 q1 hAt0
      have HC0 := Lib.hid hc0
      clear hc0
      have hB := bl_dr (bl0 w1)
      have hcell := fun W (h : RowH W a zs) => rcost_any A B a cap zs c0 W h hzn
      go_upto_region 6 with fail
      go_cut [6, 7] from 20 to 28 (fun s t wx => s = .int .u16 (valC A B zs c0) ∧ ∃ w5 : World, t = .pointer (some ⟨w5.heap.size, 0, none⟩) ∧ Below w1.heap.size w1 w5 ∧ Boxed wx w5.heap.size 37 (.int .i64 (errC A B zs c0)) ∧ Below w5.heap.size w5 wx)
      case first =>
        go_region_held3 (fun w' => w'.cell? ⟨w.heap.size, 0, none⟩ = some (.int .i64 A) ∧ w'.cell? ⟨w.heap.size, 1, none⟩ = some (.int .i64 B) ∧ w'.cell? ⟨w.heap.size, 2, none⟩ = some (.slice a zs.length cap) ∧ w'.cell? ⟨gb, go, none⟩ = some (.int .i64 c0.1) ∧ w'.cell? ⟨gb, go + 1, none⟩ = some (.int .i64 c0.2))
          (first | exact ⟨cell_later hB f0, cell_later hB f1, cell_later hB f2, cell_later hB q0, cell_later hB q1⟩ | exact ⟨cell_later (bl_al hB _) f0, cell_later (bl_al hB _) f1, cell_later (bl_al hB _) f2, cell_later (bl_al hB _) q0, cell_later (bl_al hB _) q1⟩ | exact ⟨cell_later (bl_dr (bl_al (bl0 w1) _)) f0, cell_later (bl_dr (bl_al (bl0 w1) _)) f1, cell_later (bl_dr (bl_al (bl0 w1) _)) f2, cell_later (bl_dr (bl_al (bl0 w1) _)) q0, cell_later (bl_dr (bl_al (bl0 w1) _)) q1⟩ | exact ⟨cell_later (bl_st hB (Nat.le_refl _) _) f0, cell_later (bl_st hB (Nat.le_refl _) _) f1, cell_later (bl_st hB (Nat.le_refl _) _) f2, cell_later (bl_st hB (Nat.le_refl _) _) q0, cell_later (bl_st hB (Nat.le_refl _) _) q1⟩ | exact ⟨cell_later (bl_st (bl_al hB _) (by have := hB.size; omega) _) f0, cell_later (bl_st (bl_al hB _) (by have := hB.size; omega) _) f1, cell_later (bl_st (bl_al hB _) (by have := hB.size; omega) _) f2, cell_later (bl_st (bl_al hB _) (by have := hB.size; omega) _) q0, cell_later (bl_st (bl_al hB _) (by have := hB.size; omega) _) q1⟩ | exact ⟨cell_later (bl_st hB (by have := hB.size; omega) _) f0, cell_later (bl_st hB (by have := hB.size; omega) _) f1, cell_later (bl_st hB (by have := hB.size; omega) _) f2, cell_later (bl_st hB (by have := hB.size; omega) _) q0, cell_later (bl_st hB (by have := hB.size; omega) _) q1⟩)
          ((go_at_call 30; (first | with_reducible refine (hcell _ (hr1.below hB)).mono ?_ | with_reducible refine (hcell _ (hr1.below (bl_dr (bl_al (bl0 w1) _)))).mono ?_); rintro e w9 ⟨rfl, hb9⟩; (first | replace hB := bl_tr hB hb9 | (replace hB := bl_tr (bl_dr (bl_al (bl0 w1) _)) hb9; have k0 := cell_later hb9 (v := .int .i64 0) (a := ⟨w1.heap.size, 0, none⟩) (by simp [go_sem]); have k1 : w9.frozen? ⟨w1.heap.size, 0, none⟩ = false := (hb9.frozen (p := ⟨w1.heap.size, 0, none⟩) (by simp)).trans (by simp [go_sem]); have k2 := blk_lt k0))))
        all_goals
          go_wp2_with fail
          go_meet
          first
            | exact ⟨rfl, w9, rfl, hB, Boxed.new w9 _ _, bl_al (bl0 _) _⟩
            | exact ⟨rfl, w1, rfl, bl0 w1, ((show Boxed ((w1.alloc (.cells #[.int .i64 0] 37)).drew) w1.heap.size 37 (.int .i64 0) from Boxed.new w1 _ _).kept (grown_of_below hb9) (fun e => by cases e)).set _, bl_st hB (Nat.le_refl _) _⟩
      case rest =>
        obtain ⟨rfl, w5, rfl, hB5, hbx, hB6⟩ := hcut
        have hA5 := bl_tr hA hB5
        have g0 := cell_later hB5 f0
        have g1 := cell_later hB5 f1
        have g2 := cell_later hB5 f2
        replace f0 := cell_later hB6 (cell_later hB5 f0)
        replace f1 := cell_later hB6 (cell_later hB5 f1)
        replace f2 := cell_later hB6 (cell_later hB5 f2)
        have zf0' := blk_lt f0
        clear zf0 zf1 zf2 q0 q1 hr1 hB hcell
        by_cases he0 : errC A B zs c0 = 0
        case neg =>
          have hfe : firstE (pathAt A B zs l) l.length = errC A B zs c0 := by rw [firstE_at (k := 0) rfl hL2 (by rw [hAt0]; exact he0), hAt0]
          have h1 : (errC A B zs c0 != 0) = true := by rw [bne_iff_ne]; exact he0
          have cb := hbx.cell
          have hfin := hA5.trans (hB6.mono hA5.size)
          generalize errC A B zs c0 = e0 at *
          have HFE := Lib.hid hfe
          clear hfe he0 hAt0
          go_wp2
          rw [Exit.noGoto_ret]
          exact ⟨.int .i64 e0, by simp [results, Tryd.results18, go_sem], by rw [HFE.out], hfin⟩
        case pos =>
          rw [he0] at hbx hAt0
          have cb := hbx.cell
          have lb := hbx.lt
          go_wp2
          go_step3
          go_wp2_with fail
          refine (pairs_mk _ _ _ _).mono ?_
          rintro e W4 ⟨rfl, hP, hz4, hb4⟩
          go_wp2_with fail
          have hJ0 : ChkI w5 37 (.int .i64 0) W4.heap.size W4 := ⟨hB6.grown (grown_of_below hb4) hB6.size (fun r e => by cases e), hbx.kept (grown_of_below hb4) (fun e => by cases e), Nat.le_refl _⟩
          have hrow : ∀ v W, ChkI w5 37 v W4.heap.size W → RowC W (some ⟨gb, go, none⟩) l := fun v W h => hrc.below ((hA5.trans (h.1.mono hA5.size)))
          replace f0 := cell_later hb4 f0
          replace f1 := cell_later hb4 f1
          replace f2 := cell_later hb4 f2
          have HF1 := Lib.hid (show firstE (pathAt A B zs l) 1 = 0 from hAt0)
          clear cb hbx hb4 HC he0 hAt0
          refine wpIn_wide.1 (range_r wc.heap.size 1 47 #[.pointer (some ⟨wc.heap.size, 0, none⟩)] (pairsF l) (fun W => RowC W (some ⟨gb, go, none⟩) l) (iter_pairs wc.heap.size _ cap2 l hl W4 hP) rfl (fun _ => rfl) (by omega) (enters_of Tryd.func47 (by kernel_rfl) rfl)
            (fun pre W => ChkI w5 37 (.int .i64 0) W4.heap.size W ∧ firstE (pathAt A B zs l) (pre.length + 1) = 0)
            (fun cc pre W => ∃ e, ChkI w5 37 (.int .i64 e) W4.heap.size W ∧ cc = .exit 0 ∧ firstE (pathAt A B zs l) l.length = e)
            (fun s C D row hs hg hr => ⟨ChkI.own (β := Unit) (by omega) () C D row hs.1 hg hr, hs.2⟩) (fun cc s C D row ⟨e, hs⟩ hg hr => ⟨e, ChkI.own (β := Unit) (by omega) () C D row hs.1 hg hr, hs.2⟩)
            (fun s C D row hs hg hr => ⟨ChkI.abp (β := Unit) (by omega) () C D row hs.1 hg hr, hs.2⟩) (fun cc s C D row ⟨e, hs⟩ hg hr => ⟨e, ChkI.abp (β := Unit) (by omega) () C D row hs.1 hg hr, hs.2⟩)
            (fun pre W h => hrow _ W h.1) (fun cc pre W ⟨e, h⟩ => hrow _ W h.1)
            ⟨hJ0, HF1.out⟩
            (fun x a' W => ∃ B1 B2, W4.heap.size ≤ B1 ∧ W4.heap.size ≤ B2 ∧ W.cell? ⟨B1, 0, none⟩ = some (.int .i64 x.1.1) ∧ W.cell? ⟨B1, 1, none⟩ = some (.int .i64 x.1.2) ∧ W.cell? ⟨B2, 0, none⟩ = some (.int .i64 x.2.1) ∧ W.cell? ⟨B2, 1, none⟩ = some (.int .i64 x.2.2) ∧ a' = { tmps := #[.agg #[.int .i64 A, .int .i64 B, .slice a zs.length cap], .slice (some ⟨gb, go, none⟩) l.length cap2, .pointer (some ⟨w.heap.size, 0, none⟩), undef, .int .i64 0, .int .i64 0, .int .u16 (valC A B zs c0), .pointer (some ⟨w5.heap.size, 0, none⟩), .pointer (some ⟨B1, 0, none⟩), .pointer (some ⟨B2, 0, none⟩), undef, undef, .agg #[.int .i64 A, .int .i64 B, .slice a zs.length cap], .int .i64 0, .int .i64 0, .bool false, undef, .slice (some ⟨gb, go, none⟩) l.length cap2, .int .i64 l.length, .bool false, u20, u21, u22, u23, u24, u25, u26, u27, .int .i64 0, .bool false, undef, .slice (some ⟨gb, go, none⟩) l.length cap2, .func (.func 47) #[] #[.pointer (some ⟨wc.heap.size, 0, none⟩)], .agg #[.int .i64 x.1.1, .int .i64 x.1.2], .agg #[.int .i64 x.2.1, .int .i64 x.2.2], undef, undef, undef, undef, undef, undef, undef, undef, undef, undef, undef, undef, undef, undef, undef, undef, undef, undef, undef, undef, undef, undef], defers := [] })
            ?ax ?assign ?body ?done ?stop)
          case ax =>
            rintro c a' _ C D row ⟨Bx, By, h1, h2, h3, h4, h5, h6, h7⟩ hg' hr
            exact ⟨Bx, By, h1, h2, cell_kept h3 hg' (fun r e => (hr r e).2), cell_kept h4 hg' (fun r e => (hr r e).2), cell_kept h5 hg' (fun r e => (hr r e).2), cell_kept h6 hg' (fun r e => (hr r e).2), h7⟩
          case assign =>
            rintro lp pre x W K ⟨hi', hfr⟩ hK
            have hWz := hi'.2.2
            have hbW := bl_al (bl_al (bl0 W) (.cells #[.int .i64 x.1.1, .int .i64 x.1.2] 28)) (.cells #[.int .i64 x.2.1, .int .i64 x.2.2] 28)
            have hK' := hK _ _ ((Gr.below (q := 0) hbW).keeps (by omega)) (KP.of_below hbW (by omega)) ⟨ChkI.own (β := Unit) (n₁ := W4.heap.size) (by omega) () W _ none hi' (grown_of_below hbW) (fun r e => by cases e), hfr⟩ ⟨W.heap.size, W.heap.size + 1, hWz, by omega, by simp [go_sem], by simp [go_sem], by simp [go_sem], by simp [go_sem], rfl⟩
            clear hK
            simp [encPP]
            gi_wp2
            exact hK'
          case body =>
            rintro lp pre x a' W hWl _ ⟨hJ, hfe⟩ ⟨B1, B2, h1, h2, x0, x1, y0, y1, rfl⟩ hlt
            obtain ⟨hk, rfl, hpre⟩ := pairsF_next hlt
            have hon := pathAt_on (firstE_zero.1 hfe pre.length (by omega))
            have hPE : pathAt A B zs l (pre.length + 1) = errP A B zs (cK l pre.length) (cK l (pre.length + 1)) := rfl
            have hways := errP_ways (zs := zs) (c := cK l (pre.length + 1)) hon
            have hnx : firstE (pathAt A B zs l) (pre.length + 1 + 1) = pathAt A B zs l (pre.length + 1) := firstE_next hfe
            have hst : pathAt A B zs l (pre.length + 1) ≠ 0 → firstE (pathAt A B zs l) l.length = pathAt A B zs l (pre.length + 1) := fun h => firstE_at hfe hk h
            rw [hPE] at hnx hst
            dsimp only at x0 x1 y0 y1
            generalize cK l pre.length = p at *
            generalize cK l (pre.length + 1) = c at *
            have HNX := Lib.hid (show errP A B zs p c = 0 → firstE (pathAt A B zs l) ((pre ++ [(p, c)]).length + 1) = 0 from fun h => by rw [List.length_append]; exact hnx.trans h)
            have HST := Lib.hid hst
            clear hnx hst hPE hpre hlt hk hfe hon
            have hs1 : Stp W := hs.below (hA5.trans (hJ.1.mono hA5.size))
            have hr1 : RowH W a zs := hr.below (hA5.trans (hJ.1.mono hA5.size))
            replace g0 := cell_later hJ.1 g0
            replace g1 := cell_later hJ.1 g1
            replace g2 := cell_later hJ.1 g2
            have zy := blk_lt y0
            have hWz := hJ.2.2
            clear f0 f1 f2 zf0' hP hJ0
            gi_wp2_with fail
            refine ⟨trivial, (CallsIn.inRound lp (callsIn_wide.2 (dir_any p c _ hs1))).mono ?_⟩
            rintro e W1 ⟨rfl, hb1⟩
            replace g0 := cell_later hb1 g0; replace g1 := cell_later hb1 g1; replace g2 := cell_later hb1 g2; replace y0 := cell_later hb1 y0; replace y1 := cell_later hb1 y1
            have hz1 := hb1.size
            gi_wp2_with fail
            refine ⟨trivial, (CallsIn.inRound lp (callsIn_wide.2 (rcost_any A B a cap zs c _ (hr1.below hb1) hzn))).mono ?_⟩
            rintro e W2 ⟨rfl, hb2⟩
            have hz2 := hb2.size
            have hbx2 := (hJ.2.1.kept (grown_of_below hb1) (fun e => by cases e)).kept (grown_of_below hb2) (fun e => by cases e)
            have hG : Gr w5.heap.size W W2 := (Gr.below hb1).trans (Gr.below hb2)
            have hend : ∀ (v : Int), ChkI w5 37 (.int .i64 v) W4.heap.size (W2.setCell ⟨w5.heap.size, 0, none⟩ (.int .i64 v)) ∧ KeepsFrom W4.heap.size W (W2.setCell ⟨w5.heap.size, 0, none⟩ (.int .i64 v)) ∧ KP wc.heap.size 1 W (W2.setCell ⟨w5.heap.size, 0, none⟩ (.int .i64 v)) := fun v => by
              have hg := hG.trans (Gr.set W2 w5.heap.size 0 (.int .i64 v))
              exact ⟨⟨Gr.base hJ.1 hg (Nat.le_refl _) hJ.1.size, hbx2.set _, by simp; omega⟩, hg.keeps (by omega), hg.kp (by omega) (.inl (by omega))⟩
            have hend2 : ∀ (u v : Int), ChkI w5 37 (.int .i64 v) W4.heap.size ((W2.setCell ⟨w5.heap.size, 0, none⟩ (.int .i64 u)).setCell ⟨w5.heap.size, 0, none⟩ (.int .i64 v)) ∧ KeepsFrom W4.heap.size W ((W2.setCell ⟨w5.heap.size, 0, none⟩ (.int .i64 u)).setCell ⟨w5.heap.size, 0, none⟩ (.int .i64 v)) ∧ KP wc.heap.size 1 W ((W2.setCell ⟨w5.heap.size, 0, none⟩ (.int .i64 u)).setCell ⟨w5.heap.size, 0, none⟩ (.int .i64 v)) := fun u v => by
              have hg := (hG.trans (Gr.set W2 w5.heap.size 0 (.int .i64 u))).trans (Gr.set _ w5.heap.size 0 (.int .i64 v))
              exact ⟨⟨Gr.base hJ.1 hg (Nat.le_refl _) hJ.1.size, (hbx2.set _).set _, by simp; omega⟩, hg.keeps (by omega), hg.kp (by omega) (.inl (by omega))⟩
            have HEND := Lib.hid hend
            have HEND2 := Lib.hid hend2
            have cb := hbx2.cell
            have fb := hbx2.frozen
            have lb2 := hbx2.lt
            clear hend hend2 hG hbx2 hJ hb1 hb2 hs1 hr1 g0 g1 g2 hWz zy hz1 hz2 x0 x1 y0 y1
            rcases hways with ⟨e1, e2⟩ | ⟨e1, e2, e3⟩ | ⟨e1, e2, e3⟩ | ⟨e1, e2, e3⟩
            · rw [e2] at HST HNX
              rw [e1]
              clear e1 e2
              gi_wp2
              exact ⟨(HEND.out 10).2.1, (HEND.out 10).2.2, 10, (HEND.out 10).1, rfl, HST.out (by decide)⟩
            · rw [e3] at HST HNX
              rw [e2]
              have k1 : (errC A B zs c == 10) = false := by rw [beq_eq_false_iff_ne]; exact e1
              generalize errC A B zs c = E at *
              clear e1 e2 e3
              gi_wp2
              exact ⟨(HEND2.out E 11).2.1, (HEND2.out E 11).2.2, 11, (HEND2.out E 11).1, rfl, HST.out (by decide)⟩
            · rw [e3] at HST HNX
              rw [e1, e2]
              clear e1 e2 e3
              gi_wp2
              exact ⟨(HEND.out 21).2.1, (HEND.out 21).2.2, 21, (HEND.out 21).1, rfl, HST.out (by decide)⟩
            · rw [e3] at HST HNX
              rw [e1, e2]
              clear e1 e2 e3
              gi_wp2
              exact ⟨(HEND.out 0).2.1, (HEND.out 0).2.2, (HEND.out 0).1, HNX.out trivial⟩
          case done =>
            rintro D W hD ⟨hJ, hfe⟩ hK
            have cb := hJ.2.1.cell
            have hall : firstE (pathAt A B zs l) l.length = 0 := by
              rw [pairsF_len] at hfe
              rw [show l.length = l.length - 1 + 1 by omega]
              exact hfe
            have HA := Lib.hid hall
            have hfin : Below w.heap.size w (W.putObj D (.deferred none)) := hA5.trans ((hJ.1.grown (grownBy_putObj' W D _) hJ.1.size (fun r e => by cases e; omega)).mono hA5.size)
            clear hall hfe hJ
            go_wp2
            rw [Exit.noGoto_ret]
            refine ⟨by simp, .inl ⟨_, _, rfl, run_takeDeferred hK, ?_⟩⟩
            exact ⟨.int .i64 0, by simp [results, Tryd.results18, go_sem], by rw [HA.out], hfin⟩
          case stop =>
            rintro D cc q W hD hq ⟨e, hJ, rfl, hfe⟩ hK
            have cb := hJ.2.1.cell
            have HA := Lib.hid hfe
            have hfin : Below w.heap.size w (W.putObj D (.deferred none)) := hA5.trans ((hJ.1.grown (grownBy_putObj' W D _) hJ.1.size (fun r e => by cases e; omega)).mono hA5.size)
            clear hfe hJ
            refine wpIn_wide.2 ?_
            go_wp2
            rw [Exit.noGoto_ret]
            refine ⟨by simp, .inl ⟨_, _, rfl, run_takeDeferred hK, ?_⟩⟩
            exact ⟨.int .i64 e, by simp [results, Tryd.results18, go_sem], by rw [HA.out], hfin⟩
end Go.Proofs.YtldpajfendkhbaaDoor
