/- FogMerges: the reference's Merge: what it comes to; where nothing is remembered. -/
import Derived.Test.YtccokdfkmppohaaBd
import Derived.Test.YtccokdfkmppohaaQ2
namespace Go.Proofs.Ytccokdfkmppohaa
open Go.RowKit Go.Shelf

/-- One cell of the reference's Merge, by its number. -/
def stepN (X : Int) (fs : List Int) (bs : List Bool) (s : List Int × List (Int × Int)) (i : Nat) : List Int × List (Int × Int) :=
  if bs.getD i false && s.1.getD i 0 != fs.getD i 0 then (s.1.set i (fs.getD i 0), s.2 ++ [((i : Int) % X, (i : Int) / X)]) else s
/-- The first n cells of the reference's Merge. -/
def mergeN (X : Int) (fs : List Int) (bs : List Bool) (rs : List Int) (n : Nat) : List Int × List (Int × Int) := (List.range n).foldl (stepN X fs bs) (rs, [])
theorem mergeN_zero (X : Int) (fs : List Int) (bs : List Bool) (rs : List Int) : mergeN X fs bs rs 0 = (rs, []) := rfl
theorem mergeN_next (X : Int) (fs : List Int) (bs : List Bool) (rs : List Int) (n : Nat) : mergeN X fs bs rs (n + 1) = stepN X fs bs (mergeN X fs bs rs n) n := by
  simp [mergeN, List.range_succ, List.foldl_append]
theorem stepN_len (X : Int) (fs : List Int) (bs : List Bool) (s : List Int × List (Int × Int)) (i : Nat) : (stepN X fs bs s i).1.length = s.1.length ∧ (stepN X fs bs s i).2.length ≤ s.2.length + 1 := by
  unfold stepN; split <;> simp
theorem mergeN_len (X : Int) (fs : List Int) (bs : List Bool) (rs : List Int) : ∀ n : Nat, (mergeN X fs bs rs n).1.length = rs.length ∧ (mergeN X fs bs rs n).2.length ≤ n
  | 0 => by simp [mergeN_zero]
  | n + 1 => by
    obtain ⟨h1, h2⟩ := mergeN_len X fs bs rs n
    obtain ⟨h3, h4⟩ := stepN_len X fs bs (mergeN X fs bs rs n) n
    rw [mergeN_next]
    exact ⟨h3.trans h1, by omega⟩

set_option maxHeartbeats 1600000 in
theorem rmerge_chk (g : Nat) (A B U V : Int) (a q : Option Addr) (n c l d : Nat) (w : World) (hc : chkF A B n ≠ 0) :
    Calls Try.prog 10 #[.pointer (some ⟨g, 0, none⟩), .agg #[.int .i64 A, .int .i64 B, .slice a n c], .agg #[.int .i64 U, .int .i64 V], .slice q l d] w fun e w' => e = .returned (.tuple #[.slice none 0 0, .int .i64 (chkF A B n)]) ∧ Below w.heap.size w w' := by
  have hc2 : (chkF A B n != 0) = true := by rw [bne_iff_ne]; exact hc
  have hA := bl0 w
  generalize hq : chkF A B n = z at *
  have HQ := Lib.hid hq
  clear hq
  go_enter Try.func10, Try.ntmps10
  go_wp2_with fail
  refine (rcheck_any _ _ _ _ _ _).mono ?_
  rintro e w1 ⟨rfl, hb⟩
  have hk : Below w.heap.size w w1 := by first | exact hb | exact bl_tr (bl_al (bl0 _) _) hb | exact bl_tr (bl_dr (bl_al (bl0 _) _)) hb | exact bl_tr (bl_al (bl_al (bl0 _) _) _) hb | exact bl_tr (bl_dr (bl_al (bl_al (bl0 _) _) _)) hb | exact bl_tr (bl_al (bl_al (bl_al (bl0 _) _) _) _) hb | exact bl_tr (bl_dr (bl_al (bl_al (bl_al (bl0 _) _) _) _)) hb | exact bl_tr (bl_al (bl_al (bl_al (bl_al (bl0 _) _) _) _) _) hb | exact bl_tr (bl_dr (bl_al (bl_al (bl_al (bl_al (bl0 _) _) _) _) _)) hb | exact bl_tr (bl_al (bl_al (bl_al (bl_al (bl_al (bl0 _) _) _) _) _) _) hb | exact bl_tr (bl_dr (bl_al (bl_al (bl_al (bl_al (bl_al (bl0 _) _) _) _) _) _)) hb | exact bl_tr (bl_al (bl_al (bl_al (bl_al (bl_al (bl_al (bl0 _) _) _) _) _) _) _) hb | exact bl_tr (bl_dr (bl_al (bl_al (bl_al (bl_al (bl_al (bl_al (bl0 _) _) _) _) _) _) _)) hb | exact bl_tr (bl_dr (bl0 _)) hb
  replace hA := bl_tr hA hk
  clear hb hk
  rw [HQ.out]
  go_wp2
  go_ret2
  exact ⟨rfl, hA⟩

set_option maxRecDepth 100000 in
set_option maxHeartbeats 3200000 in
theorem rmerge_arg (C g : Nat) (X Y A B : Int) (v : Value) (rs : List Int) (k : Int) (a q : Option Addr) (n c l d : Nat) (w : World) (hc : chkF A B n = 0) (hne : ¬ (A = X ∧ B = Y)) (hf : RFogAt w C g X Y v rs k) :
    Calls Try.prog 10 #[.pointer (some ⟨g, 0, none⟩), .agg #[.int .i64 A, .int .i64 B, .slice a n c], .agg #[.int .i64 A, .int .i64 B], .slice q l d] w fun e w' => e = .returned (.tuple #[.slice none 0 0, .int .i64 1]) ∧ Below w.heap.size w w' := by
  have HQ := Lib.hid hc
  have hA := bl0 w
  have G0 := hf.c0
  have G1 := hf.c1
  clear hc
  go_enter Try.func10, Try.ntmps10
  go_wp2_with fail
  refine (rcheck_any _ _ _ _ _ _).mono ?_
  rintro e w1 ⟨rfl, hb⟩
  have hk : Below w.heap.size w w1 := by first | exact hb | exact bl_tr (bl_al (bl0 _) _) hb | exact bl_tr (bl_dr (bl_al (bl0 _) _)) hb | exact bl_tr (bl_al (bl_al (bl0 _) _) _) hb | exact bl_tr (bl_dr (bl_al (bl_al (bl0 _) _) _)) hb | exact bl_tr (bl_al (bl_al (bl_al (bl0 _) _) _) _) hb | exact bl_tr (bl_dr (bl_al (bl_al (bl_al (bl0 _) _) _) _)) hb | exact bl_tr (bl_al (bl_al (bl_al (bl_al (bl0 _) _) _) _) _) hb | exact bl_tr (bl_dr (bl_al (bl_al (bl_al (bl_al (bl0 _) _) _) _) _)) hb | exact bl_tr (bl_al (bl_al (bl_al (bl_al (bl_al (bl0 _) _) _) _) _) _) hb | exact bl_tr (bl_dr (bl_al (bl_al (bl_al (bl_al (bl_al (bl0 _) _) _) _) _) _)) hb | exact bl_tr (bl_al (bl_al (bl_al (bl_al (bl_al (bl_al (bl0 _) _) _) _) _) _) _) hb | exact bl_tr (bl_dr (bl_al (bl_al (bl_al (bl_al (bl_al (bl_al (bl0 _) _) _) _) _) _) _)) hb | exact bl_tr (bl_dr (bl0 _)) hb
  replace hA := bl_tr hA hk
  replace G0 := cell_later hk G0
  replace G1 := cell_later hk G1
  have f0 := cell_later hb (v := .int .i64 A) (a := ⟨w.heap.size, 0, none⟩) (by simp [go_sem])
  have f1 := cell_later hb (v := .int .i64 B) (a := ⟨w.heap.size, 1, none⟩) (by simp [go_sem])
  have f2 := cell_later hb (v := .slice a n c) (a := ⟨w.heap.size, 2, none⟩) (by simp [go_sem])
  have s0 := cell_later hb (v := .int .i64 A) (a := ⟨w.heap.size + 1, 0, none⟩) (by simp [go_sem])
  have s1 := cell_later hb (v := .int .i64 B) (a := ⟨w.heap.size + 1, 1, none⟩) (by simp [go_sem])
  clear hb hk
  have zG0 := blk_lt G0
  have zG1 := blk_lt G1
  have zf0 := blk_lt f0
  have zf1 := blk_lt f1
  have zf2 := blk_lt f2
  have zs0 := blk_lt s0
  have zs1 := blk_lt s1
  rw [HQ.out]
  go_upto_region 4 with fail
  by_cases h1 : A = X
  · have h2 : (B == Y) = false := by rw [beq_eq_false_iff_ne]; exact fun e => hne ⟨h1, e⟩
    subst h1
    have h3 := beq_self_eq_true A
    clear hne
    go_quiet (fail)
    have HB := Lib.hid hA
    go_wp2
    go_ret2
    exact ⟨rfl, bl_tr HB.out (bl_drn _ _)⟩
  · have h2 : (A == X) = false := by rw [beq_eq_false_iff_ne]; exact h1
    clear hne h1
    go_quiet (fail)
    have HB := Lib.hid hA
    go_wp2
    go_ret2
    exact ⟨rfl, bl_tr HB.out (bl_drn _ _)⟩
end Go.Proofs.Ytccokdfkmppohaa
