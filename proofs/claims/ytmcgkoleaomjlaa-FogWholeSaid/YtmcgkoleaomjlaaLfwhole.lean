/- FogWhole: the law's walk. -/
import Derived.Test.YtmcgkoleaomjlaaR1
namespace Go.Proofs.Ytmcgkoleaomjlaa
open Go.RowKit Go.Shelf
attribute [local go_sem] Oper.semAt_some

def allV (A B : Int) (bs : List Nat) (zs : List (Int × Int)) : List Nat := zs.foldl (fun bs c => setV A B bs c true) bs
theorem allV_snoc (A B : Int) (bs : List Nat) (zs : List (Int × Int)) (c : Int × Int) : allV A B bs (zs ++ [c]) = setV A B (allV A B bs zs) c true := by simp [allV, List.foldl_append]
theorem allV_good {A B : Int} : ∀ (zs : List (Int × Int)) {bs : List Nat}, Good A B bs → Good A B (allV A B bs zs)
  | [], _, g => g
  | z :: zs, _, g => allV_good zs (g.setV z true)
theorem allV_put {A B : Int} : ∀ (zs : List (Int × Int)) (bs : List Nat), (∀ z ∈ zs, inB A B z.1 z.2 = true) → allV A B bs zs = putAll A bs zs
  | [], _, _ => rfl
  | z :: zs, bs, h => by
    have e1 : allV A B bs (z :: zs) = allV A B (setV A B bs z true) zs := rfl
    have e2 : putAll A bs (z :: zs) = putAll A (setB bs (z.2 * A + z.1).toNat true) zs := rfl
    have e3 : setV A B bs z true = setB bs (z.2 * A + z.1).toNat true := by unfold setV; rw [if_pos (h z (by simp))]; rfl
    rw [e1, e2, e3]
    exact allV_put zs _ (fun y hy => h y (by simp [hy]))
theorem allV_box {A B : Int} (hm : mayB A B = true) (bs : List Nat) : allV A B bs (boxCells 0 0 A B) = putAll A bs (boxCells 0 0 A B) := by
  obtain ⟨h1, h2, h3, h4⟩ := mayB_iff.1 hm
  refine allV_put _ _ fun z hz => ?_
  have h := hasB_iff.1 (mem_boxCells.1 hz)
  rw [inB_iff]
  omega
def delV (A B : Int) (bs : List Nat) (zs : List (Int × Int)) : List Nat := zs.foldl (fun bs c => setV A B bs c false) bs
theorem delV_snoc (A B : Int) (bs : List Nat) (zs : List (Int × Int)) (c : Int × Int) : delV A B bs (zs ++ [c]) = setV A B (delV A B bs zs) c false := by simp [delV, List.foldl_append]
theorem delV_good {A B : Int} : ∀ (zs : List (Int × Int)) {bs : List Nat}, Good A B bs → Good A B (delV A B bs zs)
  | [], _, g => g
  | z :: zs, _, g => delV_good zs (g.setV z false)
/-- What a range over a function leaves to be done. -/
def DefAt (W : World) (D : Nat) : Prop := W.heap[D]? = some (.deferred (some []))
theorem DefAt.lt {W : World} {D : Nat} (h : DefAt W D) : D < W.heap.size := (Array.getElem?_eq_some_iff.1 h).1
theorem DefAt.below {W W' : World} {D : Nat} (h : DefAt W D) (hb : Below W.heap.size W W') : DefAt W' D := (hb.block D h.lt).trans h
theorem DefAt.keptT {W W' : World} {D g k : Nat} (h : DefAt W D) (x : KeptT g k W W') (h1 : D ≠ g) (h2 : D ≠ k) : DefAt W' D := (x.2 D h.lt h1 h2).trans h
theorem DefAt.kept {W W' : World} {D : Nat} {r : Option Nat} (h : DefAt W D) (x : W.grownBy W' r) (h1 : some D ≠ r) : DefAt W' D := (x.block D h.lt h1).trans h
/-- What the law carries from call to call. -/
def HeldW (w : World) (mb gg hg pg gh hh bm hm D : Nat) (A B : Int) (a : Option Addr) (n c : Nat) (mg : List (Option Int)) (vg : Int) (N : Nat) (mh : List (Option Int)) (vh : Int) (ba : List Nat) (W : World) : Prop :=
  W.cell? ⟨w.heap.size, 0, none⟩ = some (.int .i64 A) ∧ W.cell? ⟨w.heap.size, 1, none⟩ = some (.int .i64 B) ∧ W.cell? ⟨w.heap.size, 2, none⟩ = some (.slice a n c) ∧ W.cell? ⟨mb, 0, none⟩ = some (.pointer (some ⟨bm, 0, none⟩)) ∧
  MaskAt W bm hm A B ba ∧ FogAt W w.heap.size gg hg pg A B mg vg ∧ FogAt W w.heap.size gh hh N A B mh vh ∧ DefAt W D ∧ Below w.heap.size w W
section
variable {w W W' : World} {mb gg hg pg gh hh bm hm D : Nat} {A B : Int} {a : Option Addr} {n c : Nat} {mg : List (Option Int)} {vg : Int} {N : Nat} {mh : List (Option Int)} {vh : Int} {ba : List Nat} (h : HeldW w mb gg hg pg gh hh bm hm D A B a n c mg vg N mh vh ba W)
include h
theorem HeldW.below (hb : Below W.heap.size W W') : HeldW w mb gg hg pg gh hh bm hm D A B a n c mg vg N mh vh ba W' := by
  obtain ⟨h0, h1, h2, h3, h4, h5, h6, h7, h8⟩ := h
  exact ⟨cell_later hb h0, cell_later hb h1, cell_later hb h2, cell_later hb h3, h4.below hb, h5.below hb, h6.below hb, h7.below hb, bl_tr h8 hb⟩
theorem HeldW.four : W.cell? ⟨w.heap.size, 0, none⟩ = some (.int .i64 A) ∧ W.cell? ⟨w.heap.size, 1, none⟩ = some (.int .i64 B) ∧ W.cell? ⟨w.heap.size, 2, none⟩ = some (.slice a n c) ∧ W.cell? ⟨mb, 0, none⟩ = some (.pointer (some ⟨bm, 0, none⟩)) := ⟨h.1, h.2.1, h.2.2.1, h.2.2.2.1⟩
theorem HeldW.mk : MaskAt W bm hm A B ba := h.2.2.2.2.1
theorem HeldW.fg : FogAt W w.heap.size gg hg pg A B mg vg := h.2.2.2.2.2.1
theorem HeldW.fh : FogAt W w.heap.size gh hh N A B mh vh := h.2.2.2.2.2.2.1
theorem HeldW.df : DefAt W D := h.2.2.2.2.2.2.2.1
theorem HeldW.bel : Below w.heap.size w W := h.2.2.2.2.2.2.2.2
theorem HeldW.set {ba' : List Nat} (m : MaskAt W' bm hm A B ba') (hg' : W.grownBy W' (some hm)) (l : w.heap.size < hm ∧ mb ≠ hm ∧ gg < hm ∧ hg < hm ∧ gh < hm ∧ hh < hm ∧ hm < D) : HeldW w mb gg hg pg gh hh bm hm D A B a n c mg vg N mh vh ba' W' := by
  obtain ⟨h0, h1, h2, h3, _, h5, h6, h7, h8⟩ := h
  exact ⟨hg'.cell h0 (by simp; omega), hg'.cell h1 (by simp; omega), hg'.cell h2 (by simp; omega), hg'.cell h3 (by simp; omega), m, h5.kept hg' (by simp; omega) (by simp; omega), h6.kept hg' (by simp; omega) (by simp; omega), h7.kept hg' (by simp; omega), h8.grown hg' h8.size (fun j e => by cases e; omega)⟩
theorem HeldW.merged {mh' : List (Option Int)} {vh' : Int} (f : FogAt W' w.heap.size gh hh N A B mh' vh') (x : KeptT gh hh W W') (l : w.heap.size < gh ∧ w.heap.size < hh ∧ mb ≠ gh ∧ mb ≠ hh ∧ bm ≠ gh ∧ bm ≠ hh ∧ hm ≠ gh ∧ hm ≠ hh ∧ gg < gh ∧ hg < gh ∧ gg < hh ∧ hg < hh ∧ D ≠ gh ∧ D ≠ hh) : HeldW w mb gg hg pg gh hh bm hm D A B a n c mg vg N mh' vh' ba W' := by
  obtain ⟨h0, h1, h2, h3, h4, h5, _, h7, h8⟩ := h
  exact ⟨x.cell h0 (by omega) (by omega), x.cell h1 (by omega) (by omega), x.cell h2 (by omega) (by omega), x.cell h3 (by omega) (by omega), x.mask h4 (by omega) (by omega) (by omega) (by omega), h5.keptT x (by omega) (by omega) (by omega) (by omega), f, h7.keptT x (by omega) (by omega), KeptT.below h8 (Nat.le_refl _) x (by omega) (by omega)⟩
end
theorem key_of {mh mg : List (Option Int)} {bb : List Nat} {m n : Nat} (h : mh = mg ↔ ∀ k, k < m → bitAt bb k = true) (h2 : ones bb = m ↔ ∀ k, k < m → bitAt bb k = true) (hm : m = n) :
    (Hid (decide (mh = mg) = true) ∧ Hid (((ones bb : Int) == (n : Int)) = true)) ∨ (Hid (decide (mh = mg) = false) ∧ Hid (((ones bb : Int) == (n : Int)) = false)) := by
  subst hm
  by_cases e : ones bb = m
  · exact .inl ⟨Lib.hid (decide_eq_true (h.2 (h2.1 e))), Lib.hid (by rw [e]; simp)⟩
  · exact .inr ⟨Lib.hid (decide_eq_false (fun x => e (h2.2 (h.1 x)))), Lib.hid (by rw [beq_eq_false_iff_ne]; exact fun x => e (Int.ofNat.inj x))⟩
theorem msame_eq (b h b2 h2 : Nat) (X Y : Int) (cs : List Nat) (w : World) (hm : MaskAt w b h X Y cs) (hm2 : MaskAt w b2 h2 X Y cs) (hc : IsBytes cs) :
    Calls Try.prog 39 #[.pointer (some ⟨b, 0, none⟩), .pointer (some ⟨b2, 0, none⟩)] w fun e w' => e = .returned (.bool true) ∧ Below w.heap.size w w' :=
  (msame_any b h b2 h2 X Y cs cs w hm hm2 hc hc).mono fun e w' ⟨he, hb⟩ => ⟨by rw [he, decide_eq_true rfl], hb⟩
/-- What the loop over all cells holds. -/
def AllI (W0 : World) (bm hm : Nat) (A B : Int) (z : List Nat) (pre : List (Int × Int)) (W : World) : Prop := MaskAt W bm hm A B (allV A B z pre) ∧ W0.grownBy W (some hm)
theorem grown_two {A B C : World} {h n : Nat} {r : Option Nat} (x : A.grownBy B (some h)) (y : B.grownBy C r) (hn : A.heap.size ≤ n) (hr : ∀ j, r = some j → n ≤ j) : A.grownBy C (some h) :=
  ⟨y.os.trans x.os, y.tape.trans x.tape, y.output.trans x.output, Nat.le_trans x.size y.size, fun k hk hkh => (y.block k (Nat.lt_of_lt_of_le hk x.size) (fun e => by have := hr k e.symm; omega)).trans (x.block k hk hkh)⟩


set_option maxRecDepth 100000 in
set_option maxHeartbeats 4000000 in
theorem fwhole_out (A B q : Int) (a a1 a2 : Option Addr) (c cap c2 n : Nat) (ls : List LookD) (zs : List (Int × Int)) (w : World) (hr : RowL w a1 ls) (HQ : Hid (chkF A B n = q))
    (key : Hid (fewB A B ls = false) ∨ (Hid (fewB A B ls = true) ∧ Hid (smallB A B n = false)) ∨ (Hid (fewB A B ls = true) ∧ Hid (smallB A B n = true) ∧ (100 : Int) < (zs.length : Int)) ∨
      (Hid (fewB A B ls = true) ∧ Hid (smallB A B n = true) ∧ (zs.length : Int) ≤ 100 ∧ (q != 0) = true)) :
    Calls Try.prog 6 #[.agg #[.int .i64 A, .int .i64 B, .slice a n c], .slice a1 ls.length cap, .slice a2 zs.length c2] w fun e w' => e = .returned (.bool true) ∧ Below w.heap.size w w' := by
  have hA := bl0 w
  go_enter Try.func6, Try.ntmps6
  go_wp2_with fail
  refine (few_any _ _ _ _ _ _ (hr.below (by first | exact hA | exact (bl_al hA _) | exact (bl_dr (bl_al hA _)) | exact (bl_al (bl_al hA _) _) | exact (bl_dr (bl_al (bl_al hA _) _)) | exact (bl_al (bl_al (bl_al hA _) _) _) | exact (bl_dr (bl_al (bl_al (bl_al hA _) _) _)) | exact (bl_al (bl_al (bl_al (bl_al hA _) _) _) _) | exact (bl_dr (bl_al (bl_al (bl_al (bl_al hA _) _) _) _)) | exact (bl_al (bl_al (bl_al (bl_al (bl_al hA _) _) _) _) _) | exact (bl_dr (bl_al (bl_al (bl_al (bl_al (bl_al hA _) _) _) _) _)) | exact (bl_al (bl_al (bl_al (bl_al (bl_al (bl_al hA _) _) _) _) _) _) | exact (bl_dr (bl_al (bl_al (bl_al (bl_al (bl_al (bl_al hA _) _) _) _) _) _)) | exact (bl_dr hA)))).mono ?_
  rintro e w1 ⟨rfl, hb⟩
  have hk : Below w.heap.size w w1 := by first | exact hb | exact bl_tr (bl_al (bl0 _) _) hb | exact bl_tr (bl_dr (bl_al (bl0 _) _)) hb | exact bl_tr (bl_al (bl_al (bl0 _) _) _) hb | exact bl_tr (bl_dr (bl_al (bl_al (bl0 _) _) _)) hb | exact bl_tr (bl_al (bl_al (bl_al (bl0 _) _) _) _) hb | exact bl_tr (bl_dr (bl_al (bl_al (bl_al (bl0 _) _) _) _)) hb | exact bl_tr (bl_al (bl_al (bl_al (bl_al (bl0 _) _) _) _) _) hb | exact bl_tr (bl_dr (bl_al (bl_al (bl_al (bl_al (bl0 _) _) _) _) _)) hb | exact bl_tr (bl_al (bl_al (bl_al (bl_al (bl_al (bl0 _) _) _) _) _) _) hb | exact bl_tr (bl_dr (bl_al (bl_al (bl_al (bl_al (bl_al (bl0 _) _) _) _) _) _)) hb | exact bl_tr (bl_al (bl_al (bl_al (bl_al (bl_al (bl_al (bl0 _) _) _) _) _) _) _) hb | exact bl_tr (bl_dr (bl_al (bl_al (bl_al (bl_al (bl_al (bl_al (bl0 _) _) _) _) _) _) _)) hb | exact bl_tr (bl_dr (bl0 _)) hb
  replace hA := bl_tr hA hk
  have f0 := cell_later hb (v := .int .i64 A) (a := ⟨w.heap.size, 0, none⟩) (by simp [go_sem])
  have f1 := cell_later hb (v := .int .i64 B) (a := ⟨w.heap.size, 1, none⟩) (by simp [go_sem])
  have f2 := cell_later hb (v := .slice a n c) (a := ⟨w.heap.size, 2, none⟩) (by simp [go_sem])
  clear hb hk
  have zf0 := blk_lt f0
  have zf1 := blk_lt f1
  have zf2 := blk_lt f2
  rcases key with H1 | ⟨H1, H2⟩ | ⟨H1, H2, h3⟩ | ⟨H1, H2, h3, h4⟩
  · rw [H1.out]
    go_wp2_with fail
    refine (fawake _).mono ?_
    rintro e w9 ⟨rfl, hb9⟩
    have hA9 := bl_tr hA hb9
    clear hA hb9
    go_wp2
    go_ret
    exact ⟨rfl, hA9⟩
  · rw [H1.out]
    go_wp2_with fail
    refine (small_any _ _ _ _ _ _).mono ?_
    rintro e w2 ⟨rfl, hb⟩
    have hk : Below w1.heap.size w1 w2 := by first | exact hb | exact bl_tr (bl_al (bl0 _) _) hb | exact bl_tr (bl_dr (bl_al (bl0 _) _)) hb | exact bl_tr (bl_al (bl_al (bl0 _) _) _) hb | exact bl_tr (bl_dr (bl_al (bl_al (bl0 _) _) _)) hb | exact bl_tr (bl_al (bl_al (bl_al (bl0 _) _) _) _) hb | exact bl_tr (bl_dr (bl_al (bl_al (bl_al (bl0 _) _) _) _)) hb | exact bl_tr (bl_al (bl_al (bl_al (bl_al (bl0 _) _) _) _) _) hb | exact bl_tr (bl_dr (bl_al (bl_al (bl_al (bl_al (bl0 _) _) _) _) _)) hb | exact bl_tr (bl_al (bl_al (bl_al (bl_al (bl_al (bl0 _) _) _) _) _) _) hb | exact bl_tr (bl_dr (bl_al (bl_al (bl_al (bl_al (bl_al (bl0 _) _) _) _) _) _)) hb | exact bl_tr (bl_al (bl_al (bl_al (bl_al (bl_al (bl_al (bl0 _) _) _) _) _) _) _) hb | exact bl_tr (bl_dr (bl_al (bl_al (bl_al (bl_al (bl_al (bl_al (bl0 _) _) _) _) _) _) _)) hb | exact bl_tr (bl_dr (bl0 _)) hb
    replace hA := bl_tr hA hk
    replace f0 := cell_later hk f0
    replace f1 := cell_later hk f1
    replace f2 := cell_later hk f2
    clear hb hk
    have zf0 := blk_lt f0
    have zf1 := blk_lt f1
    have zf2 := blk_lt f2
    rw [H2.out]
    go_wp2_with fail
    refine (fawake _).mono ?_
    rintro e w9 ⟨rfl, hb9⟩
    have hA9 := bl_tr hA hb9
    clear hA hb9
    go_wp2
    go_ret
    exact ⟨rfl, hA9⟩
  · rw [H1.out]
    go_wp2_with fail
    refine (small_any _ _ _ _ _ _).mono ?_
    rintro e w2 ⟨rfl, hb⟩
    have hk : Below w1.heap.size w1 w2 := by first | exact hb | exact bl_tr (bl_al (bl0 _) _) hb | exact bl_tr (bl_dr (bl_al (bl0 _) _)) hb | exact bl_tr (bl_al (bl_al (bl0 _) _) _) hb | exact bl_tr (bl_dr (bl_al (bl_al (bl0 _) _) _)) hb | exact bl_tr (bl_al (bl_al (bl_al (bl0 _) _) _) _) hb | exact bl_tr (bl_dr (bl_al (bl_al (bl_al (bl0 _) _) _) _)) hb | exact bl_tr (bl_al (bl_al (bl_al (bl_al (bl0 _) _) _) _) _) hb | exact bl_tr (bl_dr (bl_al (bl_al (bl_al (bl_al (bl0 _) _) _) _) _)) hb | exact bl_tr (bl_al (bl_al (bl_al (bl_al (bl_al (bl0 _) _) _) _) _) _) hb | exact bl_tr (bl_dr (bl_al (bl_al (bl_al (bl_al (bl_al (bl0 _) _) _) _) _) _)) hb | exact bl_tr (bl_al (bl_al (bl_al (bl_al (bl_al (bl_al (bl0 _) _) _) _) _) _) _) hb | exact bl_tr (bl_dr (bl_al (bl_al (bl_al (bl_al (bl_al (bl_al (bl0 _) _) _) _) _) _) _)) hb | exact bl_tr (bl_dr (bl0 _)) hb
    replace hA := bl_tr hA hk
    replace f0 := cell_later hk f0
    replace f1 := cell_later hk f1
    replace f2 := cell_later hk f2
    clear hb hk
    have zf0 := blk_lt f0
    have zf1 := blk_lt f1
    have zf2 := blk_lt f2
    rw [H2.out]
    go_wp2_with fail
    refine (fawake _).mono ?_
    rintro e w9 ⟨rfl, hb9⟩
    have hA9 := bl_tr hA hb9
    clear hA hb9
    go_wp2
    go_ret
    exact ⟨rfl, hA9⟩
  · rw [H1.out]
    go_wp2_with fail
    refine (small_any _ _ _ _ _ _).mono ?_
    rintro e w2 ⟨rfl, hb⟩
    have hk : Below w1.heap.size w1 w2 := by first | exact hb | exact bl_tr (bl_al (bl0 _) _) hb | exact bl_tr (bl_dr (bl_al (bl0 _) _)) hb | exact bl_tr (bl_al (bl_al (bl0 _) _) _) hb | exact bl_tr (bl_dr (bl_al (bl_al (bl0 _) _) _)) hb | exact bl_tr (bl_al (bl_al (bl_al (bl0 _) _) _) _) hb | exact bl_tr (bl_dr (bl_al (bl_al (bl_al (bl0 _) _) _) _)) hb | exact bl_tr (bl_al (bl_al (bl_al (bl_al (bl0 _) _) _) _) _) hb | exact bl_tr (bl_dr (bl_al (bl_al (bl_al (bl_al (bl0 _) _) _) _) _)) hb | exact bl_tr (bl_al (bl_al (bl_al (bl_al (bl_al (bl0 _) _) _) _) _) _) hb | exact bl_tr (bl_dr (bl_al (bl_al (bl_al (bl_al (bl_al (bl0 _) _) _) _) _) _)) hb | exact bl_tr (bl_al (bl_al (bl_al (bl_al (bl_al (bl_al (bl0 _) _) _) _) _) _) _) hb | exact bl_tr (bl_dr (bl_al (bl_al (bl_al (bl_al (bl_al (bl_al (bl0 _) _) _) _) _) _) _)) hb | exact bl_tr (bl_dr (bl0 _)) hb
    replace hA := bl_tr hA hk
    replace f0 := cell_later hk f0
    replace f1 := cell_later hk f1
    replace f2 := cell_later hk f2
    clear hb hk
    have zf0 := blk_lt f0
    have zf1 := blk_lt f1
    have zf2 := blk_lt f2
    rw [H2.out]
    go_wp2_with fail
    refine (check_any _ _ _ _ _ _).mono ?_
    rintro e w3 ⟨rfl, hb⟩
    have hk : Below w2.heap.size w2 w3 := by first | exact hb | exact bl_tr (bl_al (bl0 _) _) hb | exact bl_tr (bl_dr (bl_al (bl0 _) _)) hb | exact bl_tr (bl_al (bl_al (bl0 _) _) _) hb | exact bl_tr (bl_dr (bl_al (bl_al (bl0 _) _) _)) hb | exact bl_tr (bl_al (bl_al (bl_al (bl0 _) _) _) _) hb | exact bl_tr (bl_dr (bl_al (bl_al (bl_al (bl0 _) _) _) _)) hb | exact bl_tr (bl_al (bl_al (bl_al (bl_al (bl0 _) _) _) _) _) hb | exact bl_tr (bl_dr (bl_al (bl_al (bl_al (bl_al (bl0 _) _) _) _) _)) hb | exact bl_tr (bl_al (bl_al (bl_al (bl_al (bl_al (bl0 _) _) _) _) _) _) hb | exact bl_tr (bl_dr (bl_al (bl_al (bl_al (bl_al (bl_al (bl0 _) _) _) _) _) _)) hb | exact bl_tr (bl_al (bl_al (bl_al (bl_al (bl_al (bl_al (bl0 _) _) _) _) _) _) _) hb | exact bl_tr (bl_dr (bl_al (bl_al (bl_al (bl_al (bl_al (bl_al (bl0 _) _) _) _) _) _) _)) hb | exact bl_tr (bl_dr (bl0 _)) hb
    replace hA := bl_tr hA hk
    replace f0 := cell_later hk f0
    replace f1 := cell_later hk f1
    replace f2 := cell_later hk f2
    clear hb hk
    have zf0 := blk_lt f0
    have zf1 := blk_lt f1
    have zf2 := blk_lt f2
    rw [HQ.out]
    go_wp2_with fail
    refine (fawake _).mono ?_
    rintro e w9 ⟨rfl, hb9⟩
    have hA9 := bl_tr hA hb9
    clear hA hb9
    go_wp2
    go_ret
    exact ⟨rfl, hA9⟩

set_option maxRecDepth 100000 in
set_option maxHeartbeats 4000000 in
theorem fwhole_yes (A B : Int) (a a1 a2 : Option Addr) (c cap c2 : Nat) (fs : List Int) (ls : List LookD) (zs : List (Int × Int)) (w : World) (hrf : RowH w a fs) (hr : RowL w a1 ls) (hz : RowC w a2 zs)
    (H1 : Hid (fewB A B ls = true)) (H2 : Hid (smallB A B fs.length = true)) (h3 : (zs.length : Int) ≤ 100) (HQ : Hid (chkF A B fs.length = 0)) :
    Calls Try.prog 6 #[.agg #[.int .i64 A, .int .i64 B, .slice a fs.length c], .slice a1 ls.length cap, .slice a2 zs.length c2] w fun e w' => e = .returned (.bool true) ∧ Below w.heap.size w w' := by
  have hA := bl0 w
  have h3' : decide ((100 : Int) < (zs.length : Int)) = false := by rw [decide_eq_false_iff_not]; omega
  obtain ⟨n, hn⟩ : ∃ n, fs.length = n := ⟨_, rfl⟩
  have HN := Lib.hid hn
  rw [hn] at H2 HQ ⊢
  clear hn
  refine (callsIn_wide (n := 11)).1 (callsIn_of_wp_marks Try.func6 rfl trivial ?_ rfl)
  simp only [Try.ntmps6, List.size_toArray, List.length_cons, List.length_nil, Nat.reduceAdd, Nat.reduceSub, Array.replicate_succ, Array.replicate_zero, List.push_toArray, List.append_toArray, List.nil_append, List.cons_append]
  refine wpIn_wide.2 ?_
  go_wp2_with fail
  refine (few_any _ _ _ _ _ _ (hr.below (by first | exact hA | exact (bl_al hA _) | exact (bl_dr (bl_al hA _)) | exact (bl_al (bl_al hA _) _) | exact (bl_dr (bl_al (bl_al hA _) _)) | exact (bl_al (bl_al (bl_al hA _) _) _) | exact (bl_dr (bl_al (bl_al (bl_al hA _) _) _)) | exact (bl_al (bl_al (bl_al (bl_al hA _) _) _) _) | exact (bl_dr (bl_al (bl_al (bl_al (bl_al hA _) _) _) _)) | exact (bl_al (bl_al (bl_al (bl_al (bl_al hA _) _) _) _) _) | exact (bl_dr (bl_al (bl_al (bl_al (bl_al (bl_al hA _) _) _) _) _)) | exact (bl_al (bl_al (bl_al (bl_al (bl_al (bl_al hA _) _) _) _) _) _) | exact (bl_dr (bl_al (bl_al (bl_al (bl_al (bl_al (bl_al hA _) _) _) _) _) _)) | exact (bl_dr hA)))).mono ?_
  rintro e w1 ⟨rfl, hb⟩
  have hk : Below w.heap.size w w1 := by first | exact hb | exact bl_tr (bl_al (bl0 _) _) hb | exact bl_tr (bl_dr (bl_al (bl0 _) _)) hb | exact bl_tr (bl_al (bl_al (bl0 _) _) _) hb | exact bl_tr (bl_dr (bl_al (bl_al (bl0 _) _) _)) hb | exact bl_tr (bl_al (bl_al (bl_al (bl0 _) _) _) _) hb | exact bl_tr (bl_dr (bl_al (bl_al (bl_al (bl0 _) _) _) _)) hb | exact bl_tr (bl_al (bl_al (bl_al (bl_al (bl0 _) _) _) _) _) hb | exact bl_tr (bl_dr (bl_al (bl_al (bl_al (bl_al (bl0 _) _) _) _) _)) hb | exact bl_tr (bl_al (bl_al (bl_al (bl_al (bl_al (bl0 _) _) _) _) _) _) hb | exact bl_tr (bl_dr (bl_al (bl_al (bl_al (bl_al (bl_al (bl0 _) _) _) _) _) _)) hb | exact bl_tr (bl_al (bl_al (bl_al (bl_al (bl_al (bl_al (bl0 _) _) _) _) _) _) _) hb | exact bl_tr (bl_dr (bl_al (bl_al (bl_al (bl_al (bl_al (bl_al (bl0 _) _) _) _) _) _) _)) hb | exact bl_tr (bl_dr (bl0 _)) hb
  replace hA := bl_tr hA hk
  have f0 := cell_later hb (v := .int .i64 A) (a := ⟨w.heap.size, 0, none⟩) (by simp [go_sem])
  have f1 := cell_later hb (v := .int .i64 B) (a := ⟨w.heap.size, 1, none⟩) (by simp [go_sem])
  have f2 := cell_later hb (v := .slice a n c) (a := ⟨w.heap.size, 2, none⟩) (by simp [go_sem])
  clear hb hk
  have zf0 := blk_lt f0
  have zf1 := blk_lt f1
  have zf2 := blk_lt f2
  rw [H1.out]
  go_wp2_with fail
  refine (small_any _ _ _ _ _ _).mono ?_
  rintro e w2 ⟨rfl, hb⟩
  have hk : Below w1.heap.size w1 w2 := by first | exact hb | exact bl_tr (bl_al (bl0 _) _) hb | exact bl_tr (bl_dr (bl_al (bl0 _) _)) hb | exact bl_tr (bl_al (bl_al (bl0 _) _) _) hb | exact bl_tr (bl_dr (bl_al (bl_al (bl0 _) _) _)) hb | exact bl_tr (bl_al (bl_al (bl_al (bl0 _) _) _) _) hb | exact bl_tr (bl_dr (bl_al (bl_al (bl_al (bl0 _) _) _) _)) hb | exact bl_tr (bl_al (bl_al (bl_al (bl_al (bl0 _) _) _) _) _) hb | exact bl_tr (bl_dr (bl_al (bl_al (bl_al (bl_al (bl0 _) _) _) _) _)) hb | exact bl_tr (bl_al (bl_al (bl_al (bl_al (bl_al (bl0 _) _) _) _) _) _) hb | exact bl_tr (bl_dr (bl_al (bl_al (bl_al (bl_al (bl_al (bl0 _) _) _) _) _) _)) hb | exact bl_tr (bl_al (bl_al (bl_al (bl_al (bl_al (bl_al (bl0 _) _) _) _) _) _) _) hb | exact bl_tr (bl_dr (bl_al (bl_al (bl_al (bl_al (bl_al (bl_al (bl0 _) _) _) _) _) _) _)) hb | exact bl_tr (bl_dr (bl0 _)) hb
  replace hA := bl_tr hA hk
  replace f0 := cell_later hk f0
  replace f1 := cell_later hk f1
  replace f2 := cell_later hk f2
  clear hb hk
  have zf0 := blk_lt f0
  have zf1 := blk_lt f1
  have zf2 := blk_lt f2
  rw [H2.out]
  go_wp2_with fail
  refine (check_any _ _ _ _ _ _).mono ?_
  rintro e w3 ⟨rfl, hb⟩
  have hk : Below w2.heap.size w2 w3 := by first | exact hb | exact bl_tr (bl_al (bl0 _) _) hb | exact bl_tr (bl_dr (bl_al (bl0 _) _)) hb | exact bl_tr (bl_al (bl_al (bl0 _) _) _) hb | exact bl_tr (bl_dr (bl_al (bl_al (bl0 _) _) _)) hb | exact bl_tr (bl_al (bl_al (bl_al (bl0 _) _) _) _) hb | exact bl_tr (bl_dr (bl_al (bl_al (bl_al (bl0 _) _) _) _)) hb | exact bl_tr (bl_al (bl_al (bl_al (bl_al (bl0 _) _) _) _) _) hb | exact bl_tr (bl_dr (bl_al (bl_al (bl_al (bl_al (bl0 _) _) _) _) _)) hb | exact bl_tr (bl_al (bl_al (bl_al (bl_al (bl_al (bl0 _) _) _) _) _) _) hb | exact bl_tr (bl_dr (bl_al (bl_al (bl_al (bl_al (bl_al (bl0 _) _) _) _) _) _)) hb | exact bl_tr (bl_al (bl_al (bl_al (bl_al (bl_al (bl_al (bl0 _) _) _) _) _) _) _) hb | exact bl_tr (bl_dr (bl_al (bl_al (bl_al (bl_al (bl_al (bl_al (bl0 _) _) _) _) _) _) _)) hb | exact bl_tr (bl_dr (bl0 _)) hb
  replace hA := bl_tr hA hk
  replace f0 := cell_later hk f0
  replace f1 := cell_later hk f1
  replace f2 := cell_later hk f2
  clear hb hk
  have zf0 := blk_lt f0
  have zf1 := blk_lt f1
  have zf2 := blk_lt f2
  rw [HQ.out]
  have hchk : chkF A B fs.length = 0 := by rw [HN.out]; exact HQ.out
  obtain ⟨hmay, hlen⟩ := chkF_len hchk
  obtain ⟨hms0, hl20, hok⟩ := few_iff H1.out
  have hab := area_bd hmay
  have HE := Lib.hid (show lookE A B A B fs.length = 0 by unfold lookE; rw [if_neg (by rw [hmay]; decide), if_pos hchk, if_pos ⟨rfl, rfl⟩])
  have HMAY := Lib.hid hmay
  have HLEN := Lib.hid hlen
  have HOK := Lib.hid (show ∀ l ∈ ls, l.zs.length ≤ 1000 from fun l hl => Nat.le_trans (okL_iff (hok l hl)).2 (by decide))
  have hNl : fs.length ≤ 65536 := by omega
  have hN1 : 1 ≤ fs.length := by omega
  have HNEW := Lib.hid (fun w => fnew_yes A B w hmay fs.length hlen)
  clear hms0 hchk hmay hlen hok hab
  go_wp2_with fail
  refine (looks_any A B a1 cap ls _ HMAY.out (hr.below hA) (by omega) HOK.out).mono ?_
  rintro e w4 ⟨gg, hg, pg, rfl, Fg, hb⟩
  have z3 := hA.size
  have lFg := Fg.lt
  have lgg := Fg.1
  replace f0 := cell_later hb f0
  replace f1 := cell_later hb f1
  replace f2 := cell_later hb f2
  replace Fg := fog_same Fg z3
  have hA4 := bl_tr hA hb
  have VG := Lib.hid (looksL_ver A B ls)
  have LG := Lib.hid (looksL_len A B ls HMAY.out)
  obtain ⟨s, hs⟩ : ∃ s, looksL A B ls = s := ⟨_, rfl⟩
  rw [hs] at Fg VG LG
  clear hb hA hs
  go_wp2_with fail
  refine (HNEW.out _).mono ?_
  rintro e w5 ⟨gh, hh, rfl, Fh, hb⟩
  have z4 := hA4.size
  have lFh := Fh.lt
  have lgh := Fh.1
  replace f0 := cell_later hb f0
  replace f1 := cell_later hb f1
  replace f2 := cell_later hb f2
  replace Fg := Fg.below hb
  replace Fh := fog_same Fh z4
  have hA5 := bl_tr hA4 hb
  clear hb hA4
  go_wp2_with fail
  refine (new_yes A B _ HMAY.out).mono ?_
  rintro e w6 ⟨bm, hm, rfl, hmk, hbm, hhm, hne, hb⟩
  have z5 := hA5.size
  have lmk := hmk.lt
  replace f0 := cell_later hb f0
  replace f1 := cell_later hb f1
  replace f2 := cell_later hb f2
  replace Fg := Fg.below hb
  replace Fh := Fh.below hb
  have hA6 := bl_tr hA5 hb
  have hgz := good_zero0 HMAY.out
  obtain ⟨z, hzz⟩ : ∃ z, List.replicate ((A * B + 7) / 8).toNat 0 = z := ⟨_, rfl⟩
  have HZ := Lib.hid hzz
  rw [hzz] at hmk hgz
  have HGZ := Lib.hid hgz
  have z6 := hb.size
  have zf := blk_lt f0
  clear hb hA5 hzz hgz
  go_wp2_with fail
  refine ((callsIn_wide (n := 11)).1 (gcells_in _ _ _ _ _ _)).mono ?_
  rintro e w7 ⟨rfl, rfl⟩
  go_wp2_with fail
  obtain ⟨W0, hW0⟩ : ∃ W0, (w6.alloc (.cells #[.pointer (some ⟨bm, 0, none⟩)] 41)).alloc (.cells #[.int .i64 0, .int .i64 0, .int .i64 A, .int .i64 B] 78) = W0 := ⟨_, rfl⟩
  rw [hW0]
  have hb0 : Below w6.heap.size w6 W0 := by rw [← hW0]; exact bl_al (bl_al (bl0 _) _) _
  have hz0 : w6.heap.size + 1 < W0.heap.size := by rw [← hW0]; simp
  have m0 : W0.cell? ⟨w6.heap.size, 0, none⟩ = some (.pointer (some ⟨bm, 0, none⟩)) := by rw [← hW0]; simp [go_sem]
  have hBx : BoxAt W0 (w6.heap.size + 1) 0 0 A B := by rw [← hW0]; refine ⟨?_, ?_, ?_, ?_⟩ <;> simp [go_sem]
  have F0 := Lib.hid (cell_later hb0 f0)
  have F1 := Lib.hid (cell_later hb0 f1)
  have F2 := Lib.hid (cell_later hb0 f2)
  have FG := Lib.hid (Fg.below hb0)
  have FH := Lib.hid (Fh.below hb0)
  have HA := Lib.hid (bl_tr hA6 hb0)
  have hInv : AllI W0 bm hm A B z [] W0 := ⟨hmk.below hb0, World.grownBy.refl _ _⟩
  clear hW0 hb0 f0 f1 f2 Fg Fh hA6 hmk
  refine wpIn_wide.1 (range_cells_box (w6.heap.size + 1) 0 0 A B _ rfl 12 rfl rfl hBx (AllI W0 bm hm A B z) (fun _ _ => False) ?oI (fun _ _ _ _ h _ _ => h) hInv (fun _ _ h => h.2.size) ?assign ?body ?done (fun _ _ _ _ _ h _ => h.elim))
  case oI =>
    rintro pre C D row ⟨h1, h2⟩ hg hr
    exact ⟨h1.kept hg (fun e => by have := (hr bm e.symm).1; omega) (fun e => by have := (hr hm e.symm).1; omega), grown_two h2 hg (Nat.le_refl _) (fun j e => (hr j e).1)⟩
  case assign =>
    intro l p W K hK
    simp [roundTmps] at hK
    simp only [roundTmps]
    gi_wp2
    exact hK
  case body =>
    rintro l pre p Bx W ⟨hmk, hgr⟩ hBl d0 d1 hlen
    simp only [roundTmps]
    have m1 := hgr.cell m0 (by simp; omega)
    have hgd := allV_good (A := A) (B := B) pre HGZ.out
    have HS := Lib.hid (allV_snoc A B z pre p)
    have zm := blk_lt m1
    obtain ⟨bs, hbs⟩ : ∃ bs, allV A B z pre = bs := ⟨_, rfl⟩
    rw [hbs] at hmk hgd HS
    clear hbs hBx
    simp
    gi_wp2_with fail
    refine ⟨trivial, (CallsIn.inRound l (callsIn_wide.2 (set_v bm hm A B p.1 p.2 bs true _ hmk hgd hne))).mono ?_⟩
    rintro e W2 ⟨⟨q, rfl⟩, hm2, hg2⟩
    have HI := Lib.hid (show AllI W0 bm hm A B z (pre ++ [p]) W2 from ⟨by rw [HS.out]; exact hm2, hgr.trans hg2⟩)
    have HK := Lib.hid (show KeptB (w6.heap.size + 1) W0.heap.size W W2 from ⟨hg2.size, fun k hk hl => hg2.block k hl (by simp; omega)⟩)
    clear hm2 hg2 hgr hmk m1
    gi_wp2
    exact ⟨HK.out, HI.out⟩
  case done =>
    rintro D W hD ⟨hmk, hgr⟩ hdf
    rw [show cellsOf 0 A.toNat (upto (fun j => 0 + (j : Int)) (rowsOf 0 0 A B)) = boxCells 0 0 A B from rfl, allV_box HMAY.out, ← HZ.out] at hmk
    have hba := all_good HMAY.out
    have hbb : ∀ k, k < fs.length → bitAt (putAll A (List.replicate ((A * B + 7) / 8).toNat 0) (boxCells 0 0 A B)) k = true := fun k hk => all_bits HMAY.out (by have := HLEN.out; omega)
    obtain ⟨ba, hbae⟩ : ∃ ba, putAll A (List.replicate ((A * B + 7) / 8).toNat 0) (boxCells 0 0 A B) = ba := ⟨_, rfl⟩
    rw [hbae] at hmk hba hbb
    have HBA := Lib.hid hba
    have HBY := Lib.hid hba.2.2.1
    have HBB := Lib.hid hbb
    have f0 := hgr.cell F0.out (by simp; omega)
    have f1 := hgr.cell F1.out (by simp; omega)
    have f2 := hgr.cell F2.out (by simp; omega)
    have m1 := hgr.cell m0 (by simp; omega)
    have Fg := FG.out.kept hgr (by simp; omega) (by simp; omega)
    have Fh := FH.out.kept hgr (by simp; omega) (by simp; omega)
    have hAW := HA.out.grown hgr HA.out.size (fun j e => by cases e; omega)
    have hdf' : DefAt W D := hdf
    have zW := hgr.size
    have y1 : gg < w5.heap.size ∧ hg < w5.heap.size ∧ gh < w5.heap.size ∧ hh < w5.heap.size := ⟨by omega, by omega, by omega, by omega⟩
    have y2 : w.heap.size < gg ∧ w.heap.size < hg ∧ w.heap.size < gh ∧ w.heap.size < hh := ⟨by omega, by omega, by omega, by omega⟩
    have y3 : gg < gh ∧ hg < gh ∧ gg < hh ∧ hg < hh := ⟨by omega, by omega, by omega, by omega⟩
    have y4 : w5.heap.size ≤ w6.heap.size ∧ w5.heap.size ≤ D := ⟨by omega, by omega⟩
    have hah : ∀ (x : Nat), w.heap.size < x → ∀ gb o, fs ≠ [] → a = some ⟨gb, o, none⟩ → gb ≠ x := by
      rintro x hx gb o hne' e rfl
      rcases hrf with h0 | ⟨b', o', e', h'⟩
      · exact hne' h0
      · rw [e] at e'
        cases e'
        have hp := List.length_pos_iff.2 hne'
        have := blk_lt (h' 0 _ (List.getElem?_eq_getElem hp))
        omega
    have HAH := Lib.hid hah
    have hsl : s.1.length = fs.length := by have := LG.out; have := HLEN.out; omega
    have HKG := Lib.hid (look_knows (ms := s.1) HE.out hba hsl (.inl hbb))
    have hcall := merge_any _ gg hg pg A B s.2 s.1 A B a c fs ba (some ⟨bm, 0, none⟩) w5.heap.size W (hrf.below hAW) (HAH.out hg y2.2.1) Fg LG.out (.inr ⟨HMAY.out, hba, bm, hm, rfl, hmk, by omega, by omega, hne⟩) y1.2.1 (by have := VG.out; omega) VG.out.1
    unfold MergeR at hcall
    rw [HE.out, HN.out] at hcall
    obtain ⟨mg, hmg⟩ : ∃ mg, (lookS A B A B fs ba s.1).1 = mg := ⟨_, rfl⟩
    rw [hmg] at hcall HKG
    have HC := Lib.hid hcall
    have hvw := knows_all HKG.out hbb
    have HVW := Lib.hid hvw
    have HXP := Lib.hid (knows_expl HKG.out hba HLEN.out)
    have HMGL := Lib.hid (show mg.length = n by rw [HKG.out.1, HN.out])
    clear hcall hba hbb hbae hah hsl hgr F0 F1 F2 FG FH HA hdf hmg hvw m0 hBx Fg hInv
    go_wp2_with fail
    refine HC.out.mono ?_
    rintro e w7 ⟨a7, c7, rfl, _, _, Fg7, hk7⟩
    have hA7 := KeptT.below hAW (Nat.le_refl _) hk7 (by omega) (by omega)
    replace f0 := hk7.cell f0 (by omega) (by omega)
    replace f1 := hk7.cell f1 (by omega) (by omega)
    replace f2 := hk7.cell f2 (by omega) (by omega)
    replace m1 := hk7.cell m1 (by omega) (by omega)
    replace hmk := hk7.mask hmk (by omega) (by omega) (by omega) (by omega)
    replace Fh := Fh.keptT hk7 (by omega) (by omega) (by omega) (by omega)
    have hd7 := hdf'.keptT hk7 (by omega) (by omega)
    obtain ⟨vg, hvg⟩ : ∃ v, (s.2 + if (lookS A B A B fs ba s.1).2 = [] then 0 else 1) = v := ⟨_, rfl⟩
    rw [hvg] at Fg7
    clear hk7 hAW hdf' hvg HC
    have H := Lib.hid (show HeldW w w6.heap.size gg hg pg gh hh bm hm D A B a n c mg vg fs.length (List.replicate fs.length none) 0 ba w7 from ⟨f0, f1, f2, m1, hmk, Fg7, Fh, hd7, hA7⟩)
    clear f0 f1 f2 m1 hmk Fg7 Fh hd7 hA7
    have HCS := Lib.hid (fun (h : Nat) (W : World) (hr8 : RowH W (some ⟨h, 0, none⟩) fs) (hb : Below w.heap.size w W) => by
      have hcall := gsame_eq A B (some ⟨h, 0, none⟩) a n c fs W hr8 (hrf.below hb) (by omega)
      rw [HN.out] at hcall
      exact hcall)
    have HVC := Lib.hid (fun (W : World) (F : FogAt W w.heap.size gg hg pg A B mg vg) => by
      have hcall := view_any _ gg hg pg A B mg vg W F (by rw [HMGL.out, ← HN.out]; omega)
      rw [HMGL.out, HVW.out] at hcall
      exact hcall)
    have HXC := Lib.hid (fun (W : World) (F : FogAt W w.heap.size gg hg pg A B mg vg) => by
      have hcall := expl_any _ gg hg pg A B mg vg W F HMAY.out (by rw [HMGL.out, ← HN.out]; exact HLEN.out)
      rw [HXP.out] at hcall
      exact hcall)
    go_wp2
    have hb := bl_dr (bl0 w7)
    replace H := Lib.hid (H.out.below hb)
    clear hb
    go_region_held3 (fun w' : World => w'.cell? ⟨w.heap.size, 0, none⟩ = some (.int .i64 A) ∧ w'.cell? ⟨w.heap.size, 1, none⟩ = some (.int .i64 B) ∧ w'.cell? ⟨w.heap.size, 2, none⟩ = some (.slice a n c) ∧ w'.cell? ⟨w6.heap.size, 0, none⟩ = some (.pointer (some ⟨bm, 0, none⟩)))
      (exact H.out.four)
      (first
        | (go_at_call 25; (with_reducible refine (HVC.out _ H.out.fg).mono ?_); rintro e W1 ⟨h8, rfl, hq8, _, hb⟩; have HR := Lib.hid (rowH_heap hq8); replace H := Lib.hid (H.out.below hb); clear hb hq8)
        | (go_at_call 32; (with_reducible refine (HCS.out _ _ HR.out H.out.bel).mono ?_); rintro e W2 ⟨rfl, hb⟩; replace H := Lib.hid (H.out.below hb); clear hb)
        | (go_at_call 21; (with_reducible refine (HXC.out _ H.out.fg).mono ?_); rintro e W3 ⟨b10, q10, rfl, hm10, _, _, _, hb⟩; have HM := Lib.hid hm10; replace H := Lib.hid (H.out.below hb); clear hb hm10)
        | (go_at_call 39; (with_reducible refine (msame_eq b10 q10 bm hm A B ba _ HM.out H.out.mk HBY.out).mono ?_); rintro e W4 ⟨rfl, hb⟩; replace H := Lib.hid (H.out.below hb); clear hb))
    clear HM HR
    have y5 : w.heap.size < hm ∧ w6.heap.size ≠ hm ∧ gg < hm ∧ hg < hm ∧ gh < hm ∧ hh < hm ∧ hm < D := ⟨by omega, by omega, by omega, by omega, by omega, by omega, by omega⟩
    have hd0 : delV A B ba (zs.take 0) = ba := rfl
    have HD0 := Lib.hid (show HeldW w w6.heap.size gg hg pg gh hh bm hm D A B a n c mg vg fs.length (List.replicate fs.length none) 0 (delV A B ba (zs.take 0)) W4 by rw [hd0]; exact H.out)
    clear hd0 H HVC HXC HCS
    go_wp2
    go_loopw [13] (fun i wr => ∃ k : Nat, k ≤ zs.length ∧ i = .int .i64 k ∧ HeldW w w6.heap.size gg hg pg gh hh bm hm D A B a n c mg vg fs.length (List.replicate fs.length none) 0 (delV A B ba (zs.take k)) wr) (fun i _ => zs.length - (intOf i).toNat)
    case atStart => exact ⟨0, Nat.zero_le _, rfl, HD0.out⟩
    case round =>
      obtain ⟨k, hk, rfl, hW⟩ := hrel
      clear HD0
      by_cases hlt : k < zs.length
      · have hlt2 : (k : Int) < (zs.length : Int) := by omega
        have hk0 : (0 : Int) ≤ (k : Int) := by omega
        obtain ⟨gz, oz, rfl, q0, q1⟩ := hz.cell hlt
        have QW0 := Lib.hid q0
        have QW1 := Lib.hid q1
        have hgd := delV_good (A := A) (B := B) (zs.take k) HBA.out
        have HS := Lib.hid (show delV A B ba (zs.take (k + 1)) = setV A B (delV A B ba (zs.take k)) (zs[k].1, zs[k].2) false by rw [List.take_succ_eq_append_getElem hlt, delV_snoc])
        obtain ⟨bs, hbs⟩ : ∃ bs, delV A B ba (zs.take k) = bs := ⟨_, rfl⟩
        rw [hbs] at hW hgd HS
        obtain ⟨zx, hzx⟩ : ∃ x, zs[k].1 = x := ⟨_, rfl⟩
        obtain ⟨zy, hzy⟩ : ∃ x, zs[k].2 = x := ⟨_, rfl⟩
        rw [hzx] at QW0 HS
        rw [hzy] at QW1 HS
        have H := Lib.hid (hW.below (bl_dr (bl0 wr)))
        have HSV := Lib.hid (fun (W : World) (m : MaskAt W bm hm A B bs) => set_v bm hm A B zx zy bs false W m hgd hne)
        have zqz := blk_lt q0
        replace q0 := cell_later hW.bel QW0.out
        replace q1 := cell_later hW.bel QW1.out
        have m2 := hW.four.2.2.2
        clear hW hbs hgd hzx hzy
        go_wp2
        clear q0 q1 m2
        go_region_held3 (fun w' : World => w'.cell? ⟨gz, oz + k * 2, none⟩ = some (.int .i64 zx) ∧ w'.cell? ⟨gz, oz + k * 2 + 1, none⟩ = some (.int .i64 zy) ∧ w'.cell? ⟨w6.heap.size, 0, none⟩ = some (.pointer (some ⟨bm, 0, none⟩)))
          (first | exact ⟨cell_later H.out.bel QW0.out, cell_later H.out.bel QW1.out, H.out.four.2.2.2⟩ | exact ⟨cell_later H5.out.bel QW0.out, cell_later H5.out.bel QW1.out, H5.out.four.2.2.2⟩)
          ((go_at_call 38; (with_reducible refine (HSV.out _ H.out.mk).mono ?_); rintro e W5 ⟨⟨q, rfl⟩, hm5, hg5⟩; have H5 := Lib.hid (show HeldW w w6.heap.size gg hg pg gh hh bm hm D A B a n c mg vg fs.length (List.replicate fs.length none) 0 (delV A B ba (zs.take (k + 1))) W5 by rw [HS.out]; exact H.out.set hm5 hg5 y5); clear hm5 hg5 H))
        go_wp2
        go_roundw
        case rel => exact ⟨k + 1, by omega, by go_num, H5.out⟩
        case measure => simp [intOf]; omega
      · have hge : (zs.length : Int) ≤ (k : Int) := by omega
        rw [List.take_of_length_le (by omega)] at hW
        have hgd := delV_good (A := A) (B := B) zs HBA.out
        obtain ⟨bb, hbb⟩ : ∃ bb, delV A B ba zs = bb := ⟨_, rfl⟩
        rw [hbb] at hW hgd
        have HKH := Lib.hid (look_knows (ms := List.replicate fs.length none) HE.out hgd (by simp) (.inr rfl))
        obtain ⟨f0, f1, f2, m2⟩ := hW.four
        have hcall := merge_any _ gh hh fs.length A B 0 (List.replicate fs.length none) A B a c fs bb (some ⟨bm, 0, none⟩) w5.heap.size wr (hrf.below hW.bel) (HAH.out hh y2.2.2.2) hW.fh (by simp; exact HLEN.out) (.inr ⟨HMAY.out, hgd, bm, hm, rfl, hW.mk, by omega, by omega, hne⟩) y1.2.2.2 (by omega) (Int.le_refl 0)
        unfold MergeR at hcall
        rw [HE.out, HN.out] at hcall
        obtain ⟨mh, hmh⟩ : ∃ mh, (lookS A B A B fs bb (List.replicate n none)).1 = mh := ⟨_, rfl⟩
        rw [HN.out, hmh] at HKH
        rw [hmh] at hcall
        have HC := Lib.hid hcall
        have HXP2 := Lib.hid (knows_expl HKH.out hgd HLEN.out)
        have HMHL := Lib.hid (show mh.length = n by rw [HKH.out.1, HN.out])
        have HGD := Lib.hid hgd
        have HBY2 := Lib.hid hgd.2.2.1
        have HW := Lib.hid hW
        clear hcall hmh hgd hbb
        go_wp2_with fail
        refine HC.out.mono ?_
        rintro e w7 ⟨a7, c7, rfl, _, _, Fh7, hk7⟩
        obtain ⟨vh, hvh⟩ : ∃ v, ((0 : Int) + if (lookS A B A B fs bb (List.replicate n none)).2 = [] then 0 else 1) = v := ⟨_, rfl⟩
        rw [hvh] at Fh7
        have lmk := HW.out.mk.lt
        have H := Lib.hid (show HeldW w w6.heap.size gg hg pg gh hh bm hm D A B a n c mg vg n mh vh bb w7 from by
          have hh0 := HW.out
          rw [HN.out] at hh0
          exact hh0.merged Fh7 hk7 ⟨by omega, by omega, by omega, by omega, by omega, by omega, by omega, by omega, by omega, by omega, by omega, by omega, by omega, by omega⟩)
        clear hk7 hvh Fh7 HC hW HW f0 f1 f2 m2
        go_wp2_with fail
        have hcv := view_any _ gh hh n A B mh vh w7 H.out.fh (by rw [HMHL.out, ← HN.out]; omega)
        rw [HMHL.out] at hcv
        refine hcv.mono ?_
        clear hcv
        rintro e w8 ⟨h8, rfl, hq8, _, hb⟩
        replace H := Lib.hid (H.out.below hb)
        have hrv := rowH_heap hq8
        clear hb hq8
        have key := key_of (knows_same HKH.out HKG.out HBB.out) (ones_all HGD.out HLEN.out) HN.out
        obtain ⟨on, hon⟩ : ∃ on, ones bb = on := ⟨_, rfl⟩
        rw [hon] at key
        have HON := Lib.hid hon
        clear hon
        have HML := Lib.hid (show mh.length ≤ 1048576 by rw [HMHL.out, ← HN.out]; exact Nat.le_trans hNl (by decide))
        have zw8 := H.out.bel.size
        go_wp2
        obtain ⟨w9, hw9⟩ : ∃ w9, w8.alloc (.cells #[.int .i64 A, .int .i64 B, .slice (some ⟨h8, 0, none⟩) n n] 37) = w9 := ⟨_, rfl⟩
        rw [hw9]
        have hb9 : Below w8.heap.size w8 w9 := by rw [← hw9]; exact bl_al (bl0 _) _
        have V2 := Lib.hid (show w9.cell? ⟨w8.heap.size, 2, none⟩ = some (.slice (some ⟨h8, 0, none⟩) n n) by rw [← hw9]; simp [go_sem])
        have HRV := Lib.hid (hrv.below hb9)
        replace H := Lib.hid (H.out.below hb9)
        have hzv := blk_lt V2.out
        have HB := Lib.hid (bl_dr (bl0 w9))
        replace H := Lib.hid (H.out.below (bl_dr (bl0 w9)))
        clear hw9 hb9 hrv
        rcases key with ⟨D1, HE1⟩ | ⟨D1, HE1⟩
        · have E1 := HE1.out
          go_region_held3 (fun w' : World => w'.cell? ⟨w8.heap.size, 2, none⟩ = some (.slice (some ⟨h8, 0, none⟩) n n) ∧ w'.cell? ⟨w.heap.size, 2, none⟩ = some (.slice a n c) ∧ w'.cell? ⟨w6.heap.size, 0, none⟩ = some (.pointer (some ⟨bm, 0, none⟩)))
            (exact ⟨cell_later HB.out V2.out, H.out.four.2.2.1, H.out.four.2.2.2⟩)
            (first
              | (go_at_call 21; (with_reducible refine (expl_eq _ gh hh n A B mh vh bb fs _ H.out.fh HKH.out HGD.out HLEN.out).mono ?_); rintro e W3 ⟨b10, q10, rfl, hm10, hb⟩; have HM := Lib.hid hm10; replace H := Lib.hid (H.out.below hb); replace HB := Lib.hid (bl_tr HB.out hb); clear hb hm10)
              | (go_at_call 39; (with_reducible refine (msame_eq b10 q10 bm hm A B bb _ HM.out H.out.mk HBY2.out).mono ?_); rintro e W4 ⟨rfl, hb⟩; replace H := Lib.hid (H.out.below hb); replace HB := Lib.hid (bl_tr HB.out hb); clear hb)
              | (go_at_call 31; (with_reducible refine (fsame_any _ gh hh n _ gg hg pg A B mh mg vh vg _ H.out.fh H.out.fg HML.out).mono ?_); rintro e W5 ⟨rfl, hb⟩; rw [D1.out]; replace H := Lib.hid (H.out.below hb); replace HB := Lib.hid (bl_tr HB.out hb); clear hb)
              | (go_at_call 22; (with_reducible refine (count_eq bm hm A B bb on _ H.out.mk HGD.out HON.out).mono ?_); rintro e W6 ⟨rfl, rfl⟩))
          clear HM E1 HE1 D1
          go_wp2
          go_loopw [15] (fun i wr => ∃ k : Nat, k ≤ n ∧ i = .int .i64 k ∧ Below W5.heap.size W5 wr) (fun i _ => n - (intOf i).toNat)
          case atStart => exact ⟨0, Nat.zero_le _, rfl, bl0 _⟩
          case round =>
            obtain ⟨k, hk, rfl, hbk⟩ := hrel
            have HK := Lib.hid (H.out.below hbk)
            have HBk := Lib.hid (bl_tr HB.out hbk)
            have HB5 := Lib.hid hbk
            clear hbk
            have v2 := cell_later HBk.out V2.out
            obtain ⟨f0, f1, f2, m2⟩ := HK.out.four
            have zv := blk_lt v2
            have zf := blk_lt f0
            have zm := blk_lt m2
            by_cases hlt : k < n
            · have hlt2 : (k : Int) < (n : Int) := by omega
              have hk0 : (0 : Int) ≤ (k : Int) := by omega
              have hkl : k < fs.length := by rw [HN.out]; exact hlt
              obtain ⟨p1, p2, hat⟩ := atC_num (i := k) HMAY.out (by rw [← HLEN.out, HN.out]; exact hlt2)
              have hin : inM A B bb (atC A k) = bitAt bb k := by unfold inM; rw [p1, p2, Bool.true_and]
              have HIN := Lib.hid (show inM A B bb ((k : Int) % A, (k : Int) / A) = bitAt bb k from hin)
              obtain ⟨gf, gof, rfl, qf⟩ := hrf.cell hkl
              have hvl : k < (viewL mh).length := by rw [viewL_len, HMHL.out]; exact hlt
              obtain ⟨h9, o9, e9, qv⟩ := HRV.out.cell hvl
              cases e9
              have hvk : (viewL mh)[k] = if bitAt bb k = true then fs[k] else 1 := by
                have h := knows_view HKH.out hkl
                rw [List.getElem?_eq_getElem hvl] at h
                rw [Option.some.inj h]
                simp [List.getD, hkl]
              rw [hvk, Nat.zero_add] at qv
              replace qf := cell_later HK.out.bel qf
              replace qv := cell_later HBk.out qv
              obtain ⟨z, hz⟩ : ∃ z, fs[k] = z := ⟨_, rfl⟩
              rw [hz] at qf qv
              have hzz : (z != z) = false := by simp
              have zqf := blk_lt qf
              have zqv := blk_lt qv
              clear hin p1 p2 hvk hz hvl
              cases hbit : bitAt bb k
              all_goals
                rw [hbit] at qv HIN
                simp only [if_true, if_false, Bool.false_eq_true] at qv
                go_wp2_with fail
                refine (at_yes A B k _ hat).mono ?_
                rintro e W6 ⟨rfl, hb⟩
                replace v2 := cell_later hb v2
                replace f0 := cell_later hb f0
                replace f2 := cell_later hb f2
                replace m2 := cell_later hb m2
                replace qf := cell_later hb qf
                replace qv := cell_later hb qv
                have HK6 := Lib.hid (HK.out.below hb)
                have HB6 := Lib.hid (bl_tr HB5.out hb)
                have zv := blk_lt v2
                have zf := blk_lt f0
                have zm := blk_lt m2
                have zqf := blk_lt qf
                have zqv := blk_lt qv
                clear hb f1 hbit
                go_wp2_with fail
                refine (has_all bm hm A B _ _ bb _ (HK6.out.mk.below (bl_al (bl0 _) _)) HGD.out).mono ?_
                rintro e W7 ⟨rfl, hb⟩
                rw [HIN.out]
                have hb7 := bl_tr (bl_al (bl0 W6) _) hb
                replace v2 := cell_later hb7 v2
                replace f2 := cell_later hb7 f2
                replace qf := cell_later hb7 qf
                replace qv := cell_later hb7 qv
                have HB7 := Lib.hid (bl_tr HB6.out hb7)
                clear hb hb7 f0 m2
                go_wp2
                go_roundw
                case rel => exact ⟨k + 1, by omega, by go_num, HB7.out⟩
                case measure => simp [intOf]; omega
            · have hge : (n : Int) ≤ (k : Int) := by omega
              clear f0 f1 f2 m2
              go_wp2_with fail
              refine (fawake _).mono ?_
              rintro e W8 ⟨rfl, hb⟩
              have HDF := Lib.hid (HK.out.df.below hb)
              have HA8 := Lib.hid (bl_tr HK.out.bel hb)
              clear hb v2
              go_wp2
              refine ⟨by simp, .inl ⟨_, _, rfl, run_takeDeferred (show W8.heap[D]? = some (.deferred (some [])) from HDF.out), ?_⟩⟩
              have hgp := grownBy_putObj' W8 D (.deferred none)
              refine ⟨_, by simp [results, Try.results6, go_sem]; rfl, ?_⟩
              exact ⟨rfl, HA8.out.grown hgp HA8.out.size (fun j e => by cases e; omega)⟩
        · have E1 := HE1.out
          go_region_held3 (fun w' : World => w'.cell? ⟨w8.heap.size, 2, none⟩ = some (.slice (some ⟨h8, 0, none⟩) n n) ∧ w'.cell? ⟨w.heap.size, 2, none⟩ = some (.slice a n c) ∧ w'.cell? ⟨w6.heap.size, 0, none⟩ = some (.pointer (some ⟨bm, 0, none⟩)))
            (exact ⟨cell_later HB.out V2.out, H.out.four.2.2.1, H.out.four.2.2.2⟩)
            (first
              | (go_at_call 21; (with_reducible refine (expl_eq _ gh hh n A B mh vh bb fs _ H.out.fh HKH.out HGD.out HLEN.out).mono ?_); rintro e W3 ⟨b10, q10, rfl, hm10, hb⟩; have HM := Lib.hid hm10; replace H := Lib.hid (H.out.below hb); replace HB := Lib.hid (bl_tr HB.out hb); clear hb hm10)
              | (go_at_call 39; (with_reducible refine (msame_eq b10 q10 bm hm A B bb _ HM.out H.out.mk HBY2.out).mono ?_); rintro e W4 ⟨rfl, hb⟩; replace H := Lib.hid (H.out.below hb); replace HB := Lib.hid (bl_tr HB.out hb); clear hb)
              | (go_at_call 31; (with_reducible refine (fsame_any _ gh hh n _ gg hg pg A B mh mg vh vg _ H.out.fh H.out.fg HML.out).mono ?_); rintro e W5 ⟨rfl, hb⟩; rw [D1.out]; replace H := Lib.hid (H.out.below hb); replace HB := Lib.hid (bl_tr HB.out hb); clear hb)
              | (go_at_call 22; (with_reducible refine (count_eq bm hm A B bb on _ H.out.mk HGD.out HON.out).mono ?_); rintro e W6 ⟨rfl, rfl⟩))
          clear HM E1 HE1 D1
          go_wp2
          go_loopw [15] (fun i wr => ∃ k : Nat, k ≤ n ∧ i = .int .i64 k ∧ Below W5.heap.size W5 wr) (fun i _ => n - (intOf i).toNat)
          case atStart => exact ⟨0, Nat.zero_le _, rfl, bl0 _⟩
          case round =>
            obtain ⟨k, hk, rfl, hbk⟩ := hrel
            have HK := Lib.hid (H.out.below hbk)
            have HBk := Lib.hid (bl_tr HB.out hbk)
            have HB5 := Lib.hid hbk
            clear hbk
            have v2 := cell_later HBk.out V2.out
            obtain ⟨f0, f1, f2, m2⟩ := HK.out.four
            have zv := blk_lt v2
            have zf := blk_lt f0
            have zm := blk_lt m2
            by_cases hlt : k < n
            · have hlt2 : (k : Int) < (n : Int) := by omega
              have hk0 : (0 : Int) ≤ (k : Int) := by omega
              have hkl : k < fs.length := by rw [HN.out]; exact hlt
              obtain ⟨p1, p2, hat⟩ := atC_num (i := k) HMAY.out (by rw [← HLEN.out, HN.out]; exact hlt2)
              have hin : inM A B bb (atC A k) = bitAt bb k := by unfold inM; rw [p1, p2, Bool.true_and]
              have HIN := Lib.hid (show inM A B bb ((k : Int) % A, (k : Int) / A) = bitAt bb k from hin)
              obtain ⟨gf, gof, rfl, qf⟩ := hrf.cell hkl
              have hvl : k < (viewL mh).length := by rw [viewL_len, HMHL.out]; exact hlt
              obtain ⟨h9, o9, e9, qv⟩ := HRV.out.cell hvl
              cases e9
              have hvk : (viewL mh)[k] = if bitAt bb k = true then fs[k] else 1 := by
                have h := knows_view HKH.out hkl
                rw [List.getElem?_eq_getElem hvl] at h
                rw [Option.some.inj h]
                simp [List.getD, hkl]
              rw [hvk, Nat.zero_add] at qv
              replace qf := cell_later HK.out.bel qf
              replace qv := cell_later HBk.out qv
              obtain ⟨z, hz⟩ : ∃ z, fs[k] = z := ⟨_, rfl⟩
              rw [hz] at qf qv
              have hzz : (z != z) = false := by simp
              have zqf := blk_lt qf
              have zqv := blk_lt qv
              clear hin p1 p2 hvk hz hvl
              cases hbit : bitAt bb k
              all_goals
                rw [hbit] at qv HIN
                simp only [if_true, if_false, Bool.false_eq_true] at qv
                go_wp2_with fail
                refine (at_yes A B k _ hat).mono ?_
                rintro e W6 ⟨rfl, hb⟩
                replace v2 := cell_later hb v2
                replace f0 := cell_later hb f0
                replace f2 := cell_later hb f2
                replace m2 := cell_later hb m2
                replace qf := cell_later hb qf
                replace qv := cell_later hb qv
                have HK6 := Lib.hid (HK.out.below hb)
                have HB6 := Lib.hid (bl_tr HB5.out hb)
                have zv := blk_lt v2
                have zf := blk_lt f0
                have zm := blk_lt m2
                have zqf := blk_lt qf
                have zqv := blk_lt qv
                clear hb f1 hbit
                go_wp2_with fail
                refine (has_all bm hm A B _ _ bb _ (HK6.out.mk.below (bl_al (bl0 _) _)) HGD.out).mono ?_
                rintro e W7 ⟨rfl, hb⟩
                rw [HIN.out]
                have hb7 := bl_tr (bl_al (bl0 W6) _) hb
                replace v2 := cell_later hb7 v2
                replace f2 := cell_later hb7 f2
                replace qf := cell_later hb7 qf
                replace qv := cell_later hb7 qv
                have HB7 := Lib.hid (bl_tr HB6.out hb7)
                clear hb hb7 f0 m2
                go_wp2
                go_roundw
                case rel => exact ⟨k + 1, by omega, by go_num, HB7.out⟩
                case measure => simp [intOf]; omega
            · have hge : (n : Int) ≤ (k : Int) := by omega
              clear f0 f1 f2 m2
              go_wp2_with fail
              refine (fawake _).mono ?_
              rintro e W8 ⟨rfl, hb⟩
              have HDF := Lib.hid (HK.out.df.below hb)
              have HA8 := Lib.hid (bl_tr HK.out.bel hb)
              clear hb v2
              go_wp2
              refine ⟨by simp, .inl ⟨_, _, rfl, run_takeDeferred (show W8.heap[D]? = some (.deferred (some [])) from HDF.out), ?_⟩⟩
              have hgp := grownBy_putObj' W8 D (.deferred none)
              refine ⟨_, by simp [results, Try.results6, go_sem]; rfl, ?_⟩
              exact ⟨rfl, HA8.out.grown hgp HA8.out.size (fun j e => by cases e; omega)⟩
theorem fwhole_walk (A B : Int) (a a1 a2 : Option Addr) (c cap c2 : Nat) (fs : List Int) (ls : List LookD) (zs : List (Int × Int)) (w : World) (hrf : RowH w a fs) (hr : RowL w a1 ls) (hz : RowC w a2 zs) :
    Calls Try.prog 6 #[.agg #[.int .i64 A, .int .i64 B, .slice a fs.length c], .slice a1 ls.length cap, .slice a2 zs.length c2] w fun e w' => e = .returned (.bool true) ∧ Below w.heap.size w w' := by
  cases h1 : fewB A B ls with
  | false => exact fwhole_out A B _ a a1 a2 c cap c2 _ ls zs w hr (Lib.hid rfl) (.inl (Lib.hid h1))
  | true =>
    cases h2 : smallB A B fs.length with
    | false => exact fwhole_out A B _ a a1 a2 c cap c2 _ ls zs w hr (Lib.hid rfl) (.inr (.inl ⟨Lib.hid h1, Lib.hid h2⟩))
    | true =>
      by_cases h3 : (zs.length : Int) ≤ 100
      · by_cases h4 : chkF A B fs.length = 0
        · exact fwhole_yes A B a a1 a2 c cap c2 fs ls zs w hrf hr hz (Lib.hid h1) (Lib.hid h2) h3 (Lib.hid h4)
        · exact fwhole_out A B _ a a1 a2 c cap c2 _ ls zs w hr (Lib.hid rfl) (.inr (.inr (.inr ⟨Lib.hid h1, Lib.hid h2, h3, by rw [bne_iff_ne]; exact h4⟩)))
      · exact fwhole_out A B _ a a1 a2 c cap c2 _ ls zs w hr (Lib.hid rfl) (.inr (.inr (.inl ⟨Lib.hid h1, Lib.hid h2, by omega⟩)))
end Go.Proofs.Ytmcgkoleaomjlaa
