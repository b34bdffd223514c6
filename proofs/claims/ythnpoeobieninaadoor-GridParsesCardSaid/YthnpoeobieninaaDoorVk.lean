/- Which cells' costs are not the same in two fields: Turned. -/
import Derived.Test.YthnpoeobieninaaDoorVj
namespace Go.Proofs.YthnpoeobieninaaDoor
open Go.RowKit

/-- A row of cells in memory. -/
def RowC (W : World) (a : Option Addr) (zs : List (Int × Int)) : Prop :=
  zs = [] ∨ ∃ b o, a = some ⟨b, o, none⟩ ∧ ∀ i z, zs[i]? = some z → W.cell? ⟨b, o + i * 2, none⟩ = some (.int .i64 z.1) ∧ W.cell? ⟨b, o + i * 2 + 1, none⟩ = some (.int .i64 z.2)
theorem RowC.below {W W' : World} {a : Option Addr} {zs : List (Int × Int)} (h : RowC W a zs) (hb : Below W.heap.size W W') : RowC W' a zs := by
  rcases h with h | ⟨b, o, h1, h2⟩
  · exact .inl h
  · exact .inr ⟨b, o, h1, fun i z hz => ⟨cell_later hb (h2 i z hz).1, cell_later hb (h2 i z hz).2⟩⟩
theorem RowC.cell {W : World} {a : Option Addr} {zs : List (Int × Int)} (h : RowC W a zs) {k : Nat} (hk : k < zs.length) : ∃ b o, a = some ⟨b, o, none⟩ ∧ W.cell? ⟨b, o + k * 2, none⟩ = some (.int .i64 zs[k].1) ∧ W.cell? ⟨b, o + k * 2 + 1, none⟩ = some (.int .i64 zs[k].2) := by
  rcases h with rfl | ⟨b, o, h1, h2⟩
  · simp at hk
  · exact ⟨b, o, h1, (h2 k _ (List.getElem?_eq_getElem hk)).1, (h2 k _ (List.getElem?_eq_getElem hk)).2⟩
def flatC (zs : List (Int × Int)) : List Value := zs.flatMap (fun z => [.int .i64 z.1, .int .i64 z.2])
theorem flatC_snoc (zs : List (Int × Int)) (z : Int × Int) : flatC (zs ++ [z]) = flatC zs ++ [.int .i64 z.1, .int .i64 z.2] := by simp [flatC, List.flatMap_append]
theorem flatC_at : ∀ (zs : List (Int × Int)) (i : Nat) (z : Int × Int), zs[i]? = some z → (flatC zs)[i * 2]? = some (.int .i64 z.1) ∧ (flatC zs)[i * 2 + 1]? = some (.int .i64 z.2)
  | [], i, z, h => by simp at h
  | y :: zs, 0, z, h => by simp at h; subst h; simp [flatC]
  | y :: zs, i + 1, z, h => by
    have := flatC_at zs i z (by simpa using h)
    have e : flatC (y :: zs) = .int .i64 y.1 :: .int .i64 y.2 :: flatC zs := rfl
    rw [e, show (i + 1) * 2 = i * 2 + 1 + 1 by omega]
    simpa using this
theorem rowC_of_own {w : World} {base : Nat} {v : Value} {zs : List (Int × Int)} (h : w.ownsRow base 29 2 v zs.length (flatC zs)) : ∃ a cap, v = .slice a zs.length cap ∧ RowC w a zs := by
  have hown := h
  rcases h.2 with ⟨rfl, h0⟩ | ⟨g, cap, cur, rfl, hb, hg, _⟩
  · refine ⟨none, 0, by rw [h0], .inl (List.eq_nil_of_length_eq_zero h0)⟩
  · refine ⟨_, cap, rfl, .inr ⟨g, 0, rfl, fun i z hz => ?_⟩⟩
    obtain ⟨e0, e1⟩ := flatC_at zs i z hz
    have a0 := hown.cells (g := g) rfl _ _ e0
    have a1 := hown.cells (g := g) rfl _ _ e1
    rw [addr_add] at a0 a1
    rw [Nat.zero_add] at a0 a1 ⊢
    exact ⟨a0, a1⟩
theorem Tryd.infoCell : (Tryd.prog.info? 29).map (fun i => (i.zero, i.size, i.bytes)) = some (some (.agg #[.int .i64 0, .int .i64 0]), 2, 16) := by kernel_rfl

/-- The cells, up to number k, whose costs are not the same. -/
def turnTo (X : Int) (xs ys : List Int) : Nat → List (Int × Int)
  | 0 => []
  | k + 1 => turnTo X xs ys k ++ (if xs[k]? = ys[k]? then [] else [((k : Int) % X, (k : Int) / X)])
def turnF (X : Int) (xs ys : List Int) : List (Int × Int) := turnTo X xs ys xs.length
theorem turnTo_len (X : Int) (xs ys : List Int) : ∀ k, (turnTo X xs ys k).length ≤ k
  | 0 => by simp [turnTo]
  | k + 1 => by
    have := turnTo_len X xs ys k
    simp only [turnTo, List.length_append]
    split <;> simp <;> omega
theorem turnTo_same {X : Int} {xs ys : List Int} {k : Nat} (h1 : k < xs.length) (h2 : k < ys.length) (e : xs[k] = ys[k]) : turnTo X xs ys (k + 1) = turnTo X xs ys k := by
  rw [turnTo, if_pos (by rw [List.getElem?_eq_getElem h1, List.getElem?_eq_getElem h2, e]), List.append_nil]
theorem turnTo_other {X : Int} {xs ys : List Int} {k : Nat} (h1 : k < xs.length) (h2 : k < ys.length) (e : xs[k] ≠ ys[k]) : turnTo X xs ys (k + 1) = turnTo X xs ys k ++ [((k : Int) % X, (k : Int) / X)] := by
  rw [turnTo, if_neg (by rw [List.getElem?_eq_getElem h1, List.getElem?_eq_getElem h2]; simpa using e)]

/-- What is wrong with two fields. -/
def errT (X Y n U V m : Int) : Int := if chkF X Y n ≠ 0 then chkF X Y n else if chkF U V m ≠ 0 then chkF U V m else if X = U ∧ Y = V then 0 else 1

set_option maxHeartbeats 1600000 in
theorem turned_no (X Y U V : Int) (a b : Option Addr) (n m c d : Nat) (w : World) (he : errT X Y n U V m ≠ 0) :
    Calls Tryd.prog 24 #[.agg #[.int .i64 X, .int .i64 Y, .slice a n c], .agg #[.int .i64 U, .int .i64 V, .slice b m d]] w fun e w' => e = .returned (.tuple #[.slice none 0 0, .int .i64 (errT X Y n U V m)]) ∧ Below w.heap.size w w' := by
  by_cases h1 : chkF X Y n = 0
  · by_cases h2 : chkF U V m = 0
    · have h4 : ¬ (X = U ∧ Y = V) := by
        intro h
        unfold errT at he
        rw [if_neg (fun e => e h1), if_neg (fun e => e h2), if_pos h] at he
        exact he rfl
      have h3 : errT X Y n U V m = 1 := by
        unfold errT
        rw [if_neg (fun e => e h1), if_neg (fun e => e h2), if_neg h4]
      by_cases hu : X = U
      · have h5 : (Y == V) = false := by rw [beq_eq_false_iff_ne]; exact fun e => h4 ⟨hu, e⟩
        subst hu
        rw [h3]
        have HX := Lib.hid h1
        have HY := Lib.hid h2
        clear he h3 h1 h2 h4
        have hA := bl0 w
        go_enter Tryd.func24, Tryd.ntmps24
        go_wp2_with fail
        refine (check_any _ _ _ _ _ _).mono ?_
        rintro e w1 ⟨rfl, hb⟩
        have hk : Below w.heap.size w w1 := by first | exact hb | exact bl_tr (bl_al (bl0 _) _) hb | exact bl_tr (bl_dr (bl_al (bl0 _) _)) hb | exact bl_tr (bl_al (bl_al (bl0 _) _) _) hb | exact bl_tr (bl_dr (bl_al (bl_al (bl0 _) _) _)) hb | exact bl_tr (bl_al (bl_al (bl_al (bl0 _) _) _) _) hb | exact bl_tr (bl_dr (bl_al (bl_al (bl_al (bl0 _) _) _) _)) hb | exact bl_tr (bl_al (bl_al (bl_al (bl_al (bl0 _) _) _) _) _) hb | exact bl_tr (bl_dr (bl_al (bl_al (bl_al (bl_al (bl0 _) _) _) _) _)) hb | exact bl_tr (bl_al (bl_al (bl_al (bl_al (bl_al (bl0 _) _) _) _) _) _) hb | exact bl_tr (bl_dr (bl_al (bl_al (bl_al (bl_al (bl_al (bl0 _) _) _) _) _) _)) hb | exact bl_tr (bl_al (bl_al (bl_al (bl_al (bl_al (bl_al (bl0 _) _) _) _) _) _) _) hb | exact bl_tr (bl_dr (bl_al (bl_al (bl_al (bl_al (bl_al (bl_al (bl0 _) _) _) _) _) _) _)) hb | exact bl_tr (bl_dr (bl0 _)) hb
        replace hA := bl_tr hA hk
        have a0 := cell_later hb (v := .int .i64 X) (a := ⟨w.heap.size, 0, none⟩) (by simp [go_sem])
        have a1 := cell_later hb (v := .int .i64 Y) (a := ⟨w.heap.size, 1, none⟩) (by simp [go_sem])
        have a2 := cell_later hb (v := .slice a n c) (a := ⟨w.heap.size, 2, none⟩) (by simp [go_sem])
        have b0 := cell_later hb (v := .int .i64 X) (a := ⟨w.heap.size + 1, 0, none⟩) (by simp [go_sem])
        have b1 := cell_later hb (v := .int .i64 V) (a := ⟨w.heap.size + 1, 1, none⟩) (by simp [go_sem])
        have b2 := cell_later hb (v := .slice b m d) (a := ⟨w.heap.size + 1, 2, none⟩) (by simp [go_sem])
        clear hb hk
        have za0 := blk_lt a0
        have za1 := blk_lt a1
        have za2 := blk_lt a2
        have zb0 := blk_lt b0
        have zb1 := blk_lt b1
        have zb2 := blk_lt b2
        rw [HX.out]
        go_wp2_with fail
        refine (check_any _ _ _ _ _ _).mono ?_
        rintro e w2 ⟨rfl, hb⟩
        have hk : Below w1.heap.size w1 w2 := by first | exact hb | exact bl_tr (bl_al (bl0 _) _) hb | exact bl_tr (bl_dr (bl_al (bl0 _) _)) hb | exact bl_tr (bl_al (bl_al (bl0 _) _) _) hb | exact bl_tr (bl_dr (bl_al (bl_al (bl0 _) _) _)) hb | exact bl_tr (bl_al (bl_al (bl_al (bl0 _) _) _) _) hb | exact bl_tr (bl_dr (bl_al (bl_al (bl_al (bl0 _) _) _) _)) hb | exact bl_tr (bl_al (bl_al (bl_al (bl_al (bl0 _) _) _) _) _) hb | exact bl_tr (bl_dr (bl_al (bl_al (bl_al (bl_al (bl0 _) _) _) _) _)) hb | exact bl_tr (bl_al (bl_al (bl_al (bl_al (bl_al (bl0 _) _) _) _) _) _) hb | exact bl_tr (bl_dr (bl_al (bl_al (bl_al (bl_al (bl_al (bl0 _) _) _) _) _) _)) hb | exact bl_tr (bl_al (bl_al (bl_al (bl_al (bl_al (bl_al (bl0 _) _) _) _) _) _) _) hb | exact bl_tr (bl_dr (bl_al (bl_al (bl_al (bl_al (bl_al (bl_al (bl0 _) _) _) _) _) _) _)) hb | exact bl_tr (bl_dr (bl0 _)) hb
        replace hA := bl_tr hA hk
        replace a0 := cell_later hk a0
        replace a1 := cell_later hk a1
        replace a2 := cell_later hk a2
        replace b0 := cell_later hk b0
        replace b1 := cell_later hk b1
        replace b2 := cell_later hk b2
        clear hb hk
        have za0 := blk_lt a0
        have za1 := blk_lt a1
        have za2 := blk_lt a2
        have zb0 := blk_lt b0
        have zb1 := blk_lt b1
        have zb2 := blk_lt b2
        rw [HY.out]
        go_wp2
        go_ret2
        exact ⟨rfl, hA⟩
      · have h5 : (X == U) = false := by rw [beq_eq_false_iff_ne]; exact hu
        rw [h3]
        have HX := Lib.hid h1
        have HY := Lib.hid h2
        clear he h3 h1 h2 h4 hu
        have hA := bl0 w
        go_enter Tryd.func24, Tryd.ntmps24
        go_wp2_with fail
        refine (check_any _ _ _ _ _ _).mono ?_
        rintro e w1 ⟨rfl, hb⟩
        have hk : Below w.heap.size w w1 := by first | exact hb | exact bl_tr (bl_al (bl0 _) _) hb | exact bl_tr (bl_dr (bl_al (bl0 _) _)) hb | exact bl_tr (bl_al (bl_al (bl0 _) _) _) hb | exact bl_tr (bl_dr (bl_al (bl_al (bl0 _) _) _)) hb | exact bl_tr (bl_al (bl_al (bl_al (bl0 _) _) _) _) hb | exact bl_tr (bl_dr (bl_al (bl_al (bl_al (bl0 _) _) _) _)) hb | exact bl_tr (bl_al (bl_al (bl_al (bl_al (bl0 _) _) _) _) _) hb | exact bl_tr (bl_dr (bl_al (bl_al (bl_al (bl_al (bl0 _) _) _) _) _)) hb | exact bl_tr (bl_al (bl_al (bl_al (bl_al (bl_al (bl0 _) _) _) _) _) _) hb | exact bl_tr (bl_dr (bl_al (bl_al (bl_al (bl_al (bl_al (bl0 _) _) _) _) _) _)) hb | exact bl_tr (bl_al (bl_al (bl_al (bl_al (bl_al (bl_al (bl0 _) _) _) _) _) _) _) hb | exact bl_tr (bl_dr (bl_al (bl_al (bl_al (bl_al (bl_al (bl_al (bl0 _) _) _) _) _) _) _)) hb | exact bl_tr (bl_dr (bl0 _)) hb
        replace hA := bl_tr hA hk
        have a0 := cell_later hb (v := .int .i64 X) (a := ⟨w.heap.size, 0, none⟩) (by simp [go_sem])
        have a1 := cell_later hb (v := .int .i64 Y) (a := ⟨w.heap.size, 1, none⟩) (by simp [go_sem])
        have a2 := cell_later hb (v := .slice a n c) (a := ⟨w.heap.size, 2, none⟩) (by simp [go_sem])
        have b0 := cell_later hb (v := .int .i64 U) (a := ⟨w.heap.size + 1, 0, none⟩) (by simp [go_sem])
        have b1 := cell_later hb (v := .int .i64 V) (a := ⟨w.heap.size + 1, 1, none⟩) (by simp [go_sem])
        have b2 := cell_later hb (v := .slice b m d) (a := ⟨w.heap.size + 1, 2, none⟩) (by simp [go_sem])
        clear hb hk
        have za0 := blk_lt a0
        have za1 := blk_lt a1
        have za2 := blk_lt a2
        have zb0 := blk_lt b0
        have zb1 := blk_lt b1
        have zb2 := blk_lt b2
        rw [HX.out]
        go_wp2_with fail
        refine (check_any _ _ _ _ _ _).mono ?_
        rintro e w2 ⟨rfl, hb⟩
        have hk : Below w1.heap.size w1 w2 := by first | exact hb | exact bl_tr (bl_al (bl0 _) _) hb | exact bl_tr (bl_dr (bl_al (bl0 _) _)) hb | exact bl_tr (bl_al (bl_al (bl0 _) _) _) hb | exact bl_tr (bl_dr (bl_al (bl_al (bl0 _) _) _)) hb | exact bl_tr (bl_al (bl_al (bl_al (bl0 _) _) _) _) hb | exact bl_tr (bl_dr (bl_al (bl_al (bl_al (bl0 _) _) _) _)) hb | exact bl_tr (bl_al (bl_al (bl_al (bl_al (bl0 _) _) _) _) _) hb | exact bl_tr (bl_dr (bl_al (bl_al (bl_al (bl_al (bl0 _) _) _) _) _)) hb | exact bl_tr (bl_al (bl_al (bl_al (bl_al (bl_al (bl0 _) _) _) _) _) _) hb | exact bl_tr (bl_dr (bl_al (bl_al (bl_al (bl_al (bl_al (bl0 _) _) _) _) _) _)) hb | exact bl_tr (bl_al (bl_al (bl_al (bl_al (bl_al (bl_al (bl0 _) _) _) _) _) _) _) hb | exact bl_tr (bl_dr (bl_al (bl_al (bl_al (bl_al (bl_al (bl_al (bl0 _) _) _) _) _) _) _)) hb | exact bl_tr (bl_dr (bl0 _)) hb
        replace hA := bl_tr hA hk
        replace a0 := cell_later hk a0
        replace a1 := cell_later hk a1
        replace a2 := cell_later hk a2
        replace b0 := cell_later hk b0
        replace b1 := cell_later hk b1
        replace b2 := cell_later hk b2
        clear hb hk
        have za0 := blk_lt a0
        have za1 := blk_lt a1
        have za2 := blk_lt a2
        have zb0 := blk_lt b0
        have zb1 := blk_lt b1
        have zb2 := blk_lt b2
        rw [HY.out]
        go_wp2
        go_ret2
        exact ⟨rfl, hA⟩
    · have h3 : errT X Y n U V m = chkF U V m := by
        unfold errT
        rw [if_neg (fun h => h h1), if_pos h2]
      rw [h3]
      have h5 : (chkF U V m != 0) = true := by rw [bne_iff_ne]; exact h2
      have HX := Lib.hid h1
      clear he h3 h1 h2
      generalize hq : chkF U V m = q at *
      have HY := Lib.hid hq
      clear hq
      have hA := bl0 w
      go_enter Tryd.func24, Tryd.ntmps24
      go_wp2_with fail
      refine (check_any _ _ _ _ _ _).mono ?_
      rintro e w1 ⟨rfl, hb⟩
      have hk : Below w.heap.size w w1 := by first | exact hb | exact bl_tr (bl_al (bl0 _) _) hb | exact bl_tr (bl_dr (bl_al (bl0 _) _)) hb | exact bl_tr (bl_al (bl_al (bl0 _) _) _) hb | exact bl_tr (bl_dr (bl_al (bl_al (bl0 _) _) _)) hb | exact bl_tr (bl_al (bl_al (bl_al (bl0 _) _) _) _) hb | exact bl_tr (bl_dr (bl_al (bl_al (bl_al (bl0 _) _) _) _)) hb | exact bl_tr (bl_al (bl_al (bl_al (bl_al (bl0 _) _) _) _) _) hb | exact bl_tr (bl_dr (bl_al (bl_al (bl_al (bl_al (bl0 _) _) _) _) _)) hb | exact bl_tr (bl_al (bl_al (bl_al (bl_al (bl_al (bl0 _) _) _) _) _) _) hb | exact bl_tr (bl_dr (bl_al (bl_al (bl_al (bl_al (bl_al (bl0 _) _) _) _) _) _)) hb | exact bl_tr (bl_al (bl_al (bl_al (bl_al (bl_al (bl_al (bl0 _) _) _) _) _) _) _) hb | exact bl_tr (bl_dr (bl_al (bl_al (bl_al (bl_al (bl_al (bl_al (bl0 _) _) _) _) _) _) _)) hb | exact bl_tr (bl_dr (bl0 _)) hb
      replace hA := bl_tr hA hk
      have a0 := cell_later hb (v := .int .i64 X) (a := ⟨w.heap.size, 0, none⟩) (by simp [go_sem])
      have a1 := cell_later hb (v := .int .i64 Y) (a := ⟨w.heap.size, 1, none⟩) (by simp [go_sem])
      have a2 := cell_later hb (v := .slice a n c) (a := ⟨w.heap.size, 2, none⟩) (by simp [go_sem])
      have b0 := cell_later hb (v := .int .i64 U) (a := ⟨w.heap.size + 1, 0, none⟩) (by simp [go_sem])
      have b1 := cell_later hb (v := .int .i64 V) (a := ⟨w.heap.size + 1, 1, none⟩) (by simp [go_sem])
      have b2 := cell_later hb (v := .slice b m d) (a := ⟨w.heap.size + 1, 2, none⟩) (by simp [go_sem])
      clear hb hk
      have za0 := blk_lt a0
      have za1 := blk_lt a1
      have za2 := blk_lt a2
      have zb0 := blk_lt b0
      have zb1 := blk_lt b1
      have zb2 := blk_lt b2
      rw [HX.out]
      go_wp2_with fail
      refine (check_any _ _ _ _ _ _).mono ?_
      rintro e w2 ⟨rfl, hb⟩
      have hk : Below w1.heap.size w1 w2 := by first | exact hb | exact bl_tr (bl_al (bl0 _) _) hb | exact bl_tr (bl_dr (bl_al (bl0 _) _)) hb | exact bl_tr (bl_al (bl_al (bl0 _) _) _) hb | exact bl_tr (bl_dr (bl_al (bl_al (bl0 _) _) _)) hb | exact bl_tr (bl_al (bl_al (bl_al (bl0 _) _) _) _) hb | exact bl_tr (bl_dr (bl_al (bl_al (bl_al (bl0 _) _) _) _)) hb | exact bl_tr (bl_al (bl_al (bl_al (bl_al (bl0 _) _) _) _) _) hb | exact bl_tr (bl_dr (bl_al (bl_al (bl_al (bl_al (bl0 _) _) _) _) _)) hb | exact bl_tr (bl_al (bl_al (bl_al (bl_al (bl_al (bl0 _) _) _) _) _) _) hb | exact bl_tr (bl_dr (bl_al (bl_al (bl_al (bl_al (bl_al (bl0 _) _) _) _) _) _)) hb | exact bl_tr (bl_al (bl_al (bl_al (bl_al (bl_al (bl_al (bl0 _) _) _) _) _) _) _) hb | exact bl_tr (bl_dr (bl_al (bl_al (bl_al (bl_al (bl_al (bl_al (bl0 _) _) _) _) _) _) _)) hb | exact bl_tr (bl_dr (bl0 _)) hb
      replace hA := bl_tr hA hk
      replace a0 := cell_later hk a0
      replace a1 := cell_later hk a1
      replace a2 := cell_later hk a2
      replace b0 := cell_later hk b0
      replace b1 := cell_later hk b1
      replace b2 := cell_later hk b2
      clear hb hk
      have za0 := blk_lt a0
      have za1 := blk_lt a1
      have za2 := blk_lt a2
      have zb0 := blk_lt b0
      have zb1 := blk_lt b1
      have zb2 := blk_lt b2
      rw [HY.out]
      go_wp2
      go_ret2
      exact ⟨rfl, hA⟩
  · have h3 : errT X Y n U V m = chkF X Y n := by
      unfold errT
      rw [if_pos h1]
    rw [h3]
    have h5 : (chkF X Y n != 0) = true := by rw [bne_iff_ne]; exact h1
    clear he h3 h1
    generalize hq : chkF X Y n = q at *
    have HX := Lib.hid hq
    clear hq
    have hA := bl0 w
    go_enter Tryd.func24, Tryd.ntmps24
    go_wp2_with fail
    refine (check_any _ _ _ _ _ _).mono ?_
    rintro e w1 ⟨rfl, hb⟩
    have hk : Below w.heap.size w w1 := by first | exact hb | exact bl_tr (bl_al (bl0 _) _) hb | exact bl_tr (bl_dr (bl_al (bl0 _) _)) hb | exact bl_tr (bl_al (bl_al (bl0 _) _) _) hb | exact bl_tr (bl_dr (bl_al (bl_al (bl0 _) _) _)) hb | exact bl_tr (bl_al (bl_al (bl_al (bl0 _) _) _) _) hb | exact bl_tr (bl_dr (bl_al (bl_al (bl_al (bl0 _) _) _) _)) hb | exact bl_tr (bl_al (bl_al (bl_al (bl_al (bl0 _) _) _) _) _) hb | exact bl_tr (bl_dr (bl_al (bl_al (bl_al (bl_al (bl0 _) _) _) _) _)) hb | exact bl_tr (bl_al (bl_al (bl_al (bl_al (bl_al (bl0 _) _) _) _) _) _) hb | exact bl_tr (bl_dr (bl_al (bl_al (bl_al (bl_al (bl_al (bl0 _) _) _) _) _) _)) hb | exact bl_tr (bl_al (bl_al (bl_al (bl_al (bl_al (bl_al (bl0 _) _) _) _) _) _) _) hb | exact bl_tr (bl_dr (bl_al (bl_al (bl_al (bl_al (bl_al (bl_al (bl0 _) _) _) _) _) _) _)) hb | exact bl_tr (bl_dr (bl0 _)) hb
    replace hA := bl_tr hA hk
    clear hb hk
    rw [HX.out]
    go_wp2
    go_ret2
    exact ⟨rfl, hA⟩

set_option maxHeartbeats 3200000 in
theorem turned_yes (X Y : Int) (a b : Option Addr) (c d : Nat) (xs ys : List Int) (w : World) (hr : RowH w a xs) (hr2 : RowH w b ys) (hx : chkF X Y xs.length = 0) (hy : chkF X Y ys.length = 0) :
    Calls Tryd.prog 24 #[.agg #[.int .i64 X, .int .i64 Y, .slice a xs.length c], .agg #[.int .i64 X, .int .i64 Y, .slice b ys.length d]] w fun e w' => ∃ v cap, e = .returned (.tuple #[.slice v (turnF X xs ys).length cap, .int .i64 0]) ∧ RowC w' v (turnF X xs ys) ∧ Below w.heap.size w w' := by
  obtain ⟨i0, hi, hz0, hz1, hz2⟩ := info_parts Tryd.infoCell
  obtain ⟨hm, hn, hn1, hn2⟩ := chk_ok hx
  obtain ⟨_, hn3, _, _⟩ := chk_ok hy
  have hlen : xs.length = ys.length := by omega
  have HX := Lib.hid hx
  have HY := Lib.hid hy
  have HL := Lib.hid hlen
  have HM := Lib.hid hm
  have HN := Lib.hid hn
  clear hx hy hn hn3 hlen hm
  have hA := bl0 w
  go_enter Tryd.func24, Tryd.ntmps24
  go_wp2_with fail
  refine (check_any _ _ _ _ _ _).mono ?_
  rintro e w1 ⟨rfl, hb⟩
  have hk : Below w.heap.size w w1 := by first | exact hb | exact bl_tr (bl_al (bl0 _) _) hb | exact bl_tr (bl_dr (bl_al (bl0 _) _)) hb | exact bl_tr (bl_al (bl_al (bl0 _) _) _) hb | exact bl_tr (bl_dr (bl_al (bl_al (bl0 _) _) _)) hb | exact bl_tr (bl_al (bl_al (bl_al (bl0 _) _) _) _) hb | exact bl_tr (bl_dr (bl_al (bl_al (bl_al (bl0 _) _) _) _)) hb | exact bl_tr (bl_al (bl_al (bl_al (bl_al (bl0 _) _) _) _) _) hb | exact bl_tr (bl_dr (bl_al (bl_al (bl_al (bl_al (bl0 _) _) _) _) _)) hb | exact bl_tr (bl_al (bl_al (bl_al (bl_al (bl_al (bl0 _) _) _) _) _) _) hb | exact bl_tr (bl_dr (bl_al (bl_al (bl_al (bl_al (bl_al (bl0 _) _) _) _) _) _)) hb | exact bl_tr (bl_al (bl_al (bl_al (bl_al (bl_al (bl_al (bl0 _) _) _) _) _) _) _) hb | exact bl_tr (bl_dr (bl_al (bl_al (bl_al (bl_al (bl_al (bl_al (bl0 _) _) _) _) _) _) _)) hb | exact bl_tr (bl_dr (bl0 _)) hb
  replace hA := bl_tr hA hk
  have a0 := cell_later hb (v := .int .i64 X) (a := ⟨w.heap.size, 0, none⟩) (by simp [go_sem])
  have a1 := cell_later hb (v := .int .i64 Y) (a := ⟨w.heap.size, 1, none⟩) (by simp [go_sem])
  have a2 := cell_later hb (v := .slice a xs.length c) (a := ⟨w.heap.size, 2, none⟩) (by simp [go_sem])
  have b0 := cell_later hb (v := .int .i64 X) (a := ⟨w.heap.size + 1, 0, none⟩) (by simp [go_sem])
  have b1 := cell_later hb (v := .int .i64 Y) (a := ⟨w.heap.size + 1, 1, none⟩) (by simp [go_sem])
  have b2 := cell_later hb (v := .slice b ys.length d) (a := ⟨w.heap.size + 1, 2, none⟩) (by simp [go_sem])
  clear hb hk
  have za0 := blk_lt a0
  have za1 := blk_lt a1
  have za2 := blk_lt a2
  have zb0 := blk_lt b0
  have zb1 := blk_lt b1
  have zb2 := blk_lt b2
  rw [HX.out]
  go_wp2_with fail
  refine (check_any _ _ _ _ _ _).mono ?_
  rintro e w2 ⟨rfl, hb⟩
  have hk : Below w1.heap.size w1 w2 := by first | exact hb | exact bl_tr (bl_al (bl0 _) _) hb | exact bl_tr (bl_dr (bl_al (bl0 _) _)) hb | exact bl_tr (bl_al (bl_al (bl0 _) _) _) hb | exact bl_tr (bl_dr (bl_al (bl_al (bl0 _) _) _)) hb | exact bl_tr (bl_al (bl_al (bl_al (bl0 _) _) _) _) hb | exact bl_tr (bl_dr (bl_al (bl_al (bl_al (bl0 _) _) _) _)) hb | exact bl_tr (bl_al (bl_al (bl_al (bl_al (bl0 _) _) _) _) _) hb | exact bl_tr (bl_dr (bl_al (bl_al (bl_al (bl_al (bl0 _) _) _) _) _)) hb | exact bl_tr (bl_al (bl_al (bl_al (bl_al (bl_al (bl0 _) _) _) _) _) _) hb | exact bl_tr (bl_dr (bl_al (bl_al (bl_al (bl_al (bl_al (bl0 _) _) _) _) _) _)) hb | exact bl_tr (bl_al (bl_al (bl_al (bl_al (bl_al (bl_al (bl0 _) _) _) _) _) _) _) hb | exact bl_tr (bl_dr (bl_al (bl_al (bl_al (bl_al (bl_al (bl_al (bl0 _) _) _) _) _) _) _)) hb | exact bl_tr (bl_dr (bl0 _)) hb
  replace hA := bl_tr hA hk
  replace a0 := cell_later hk a0
  replace a1 := cell_later hk a1
  replace a2 := cell_later hk a2
  replace b0 := cell_later hk b0
  replace b1 := cell_later hk b1
  replace b2 := cell_later hk b2
  clear hb hk
  have za0 := blk_lt a0
  have za1 := blk_lt a1
  have za2 := blk_lt a2
  have zb0 := blk_lt b0
  have zb1 := blk_lt b1
  have zb2 := blk_lt b2
  rw [HY.out]
  replace hr := hr.below hA
  replace hr2 := hr2.below hA
  have hsz : w.heap.size + 2 ≤ w2.heap.size := by have := blk_lt b0; omega
  go_wp2
  go_loopw [8, 9, 10, 11, 12, 31] (fun v _ _ _ _ i wr => ∃ k : Nat, k ≤ xs.length ∧ i = .int .i64 k ∧ wr.ownsRow w2.heap.size 29 2 v (turnTo X xs ys k).length (flatC (turnTo X xs ys k)) ∧ Below w2.heap.size w2 wr) (fun _ _ _ _ _ i _ => xs.length - (intOf i).toNat)
  case atStart => exact ⟨0, Nat.zero_le _, rfl, World.ownsRow_nil _ _ _ _, bl0 _⟩
  case round =>
    obtain ⟨k, hk, rfl, hown, hB⟩ := hrel
    by_cases hlt : k < xs.length
    · have hlt2 : (k : Int) < (xs.length : Int) := by omega
      have hk0 : (0 : Int) ≤ (k : Int) := by omega
      have hlty : k < ys.length := by rw [← HL.out]; exact hlt
      have hlty2 : (k : Int) < (ys.length : Int) := by omega
      obtain ⟨gb, go, rfl, q⟩ := hr.cell hlt
      obtain ⟨gb2, go2, rfl, q2⟩ := hr2.cell hlty
      replace q := cell_later hB q
      replace q2 := cell_later hB q2
      replace a0 := cell_later hB a0
      replace a1 := cell_later hB a1
      replace b2 := cell_later hB b2
      have hbd := turnTo_len X xs ys k
      clear hr hr2 a2 b0 b1
      by_cases he : xs[k] = ys[k]
      · have HS := Lib.hid (turnTo_same (X := X) hlt hlty he)
        have he2 : (xs[k] != ys[k]) = false := by rw [bne_eq_false_iff_eq]; exact he
        clear he
        generalize xs[k] = x at *
        generalize ys[k] = y at *
        go_wp2
        go_roundw
        case rel => exact ⟨k + 1, by omega, by go_num, by rw [HS.out]; exact hown, hB⟩
        case measure => simp [intOf]; omega
      · have HS := Lib.hid (turnTo_other (X := X) hlt hlty he)
        have he2 : (xs[k] != ys[k]) = true := by rw [bne_iff_ne]; exact he
        have hat : atB X Y k = true := by
          obtain ⟨p1, p2, p3, p4⟩ := mayB_iff.1 HM.out
          have := HN.out
          exact atB_iff.2 ⟨p1, p2, p3, p4, by omega, by omega⟩
        clear he
        generalize xs[k] = x at *
        generalize ys[k] = y at *
        go_wp2_with fail
        refine (at_yes X Y k _ hat).mono ?_
        rintro e w3 ⟨rfl, hb3⟩
        replace hown := own_later hown hb3
        replace hB := bl_tr hB hb3
        clear a0 a1 b2 q q2 hb3 hat he2
        generalize (k : Int) % X = cx at *
        generalize (k : Int) / X = cy at *
        go_wp2_with (at_builtin; refine wpList_append_own _ rfl _ _ 56 rfl w2.heap.size 29 i0 (.agg #[.int .i64 0, .int .i64 0]) 2 16 Tryd.underlying56 hi hz0 hz1 hz2 rfl (by decide) _ _ _ rfl ((hown.alloc _).alloc _) ⟨w3.heap.size + 1, 0, none⟩ 1 1 [.int .i64 cx, .int .i64 cy] rfl rfl ?c1 ?c2 ?c3 ?c4 ?c5 ?_)
        case c1 => (have h := cell_two_new (w3.alloc (.cells #[.int .i64 cx, .int .i64 cy] 29)) (.int .i64 cx) (.int .i64 cy) 29; rw [World.size_alloc] at h; exact h)
        case c2 => intro u hu; simp at hu; rcases hu with rfl | rfl <;> rfl
        case c3 => unfold maxLen; omega
        case c4 => omega
        case c5 => (have := hB.size; first | (simp; omega) | omega)
        intro v' w4 hown' hgrow _
        have hB1 : Below w2.heap.size w2 w4 := (bl_al (bl_al hB _) _).grown hgrow (by have := hB.size; simp; omega) (fun j hj => by have := (hown.lt j hj).1; omega)
        rw [← flatC_snoc (turnTo X xs ys k) (cx, cy)] at hown'
        have hlen : (turnTo X xs ys k).length + 1 = (turnTo X xs ys (k + 1)).length := by rw [HS.out]; simp
        rw [← HS.out, hlen] at hown'
        clear hgrow hown hB hlen HS
        go_wp2
        go_roundw
        case rel => exact ⟨k + 1, by omega, by go_num, hown', hB1⟩
        case measure => simp [intOf]; omega
    · obtain rfl : k = xs.length := by omega
      have hge : (xs.length : Int) ≤ (xs.length : Int) := Int.le_refl _
      obtain ⟨av, cap, rfl, hrow⟩ := rowC_of_own hown
      have HR := Lib.hid hrow
      clear hown hrow
      go_wp2
      go_ret2
      exact ⟨av, cap, rfl, HR.out, bl_tr hA hB⟩
end Go.Proofs.YthnpoeobieninaaDoor
