/- Texts of fields: what is printed is parsed as it was: the mathematics. -/
import Derived.Test.YthnpoeobieninaaDoorYb
import Derived.Test.YthnpoeobieninaaDoorVn
namespace Go.Proofs.YthnpoeobieninaaDoor
open Go.RowKit

theorem linesF_row : ∀ (r t : List UInt8), (10 : UInt8) ∉ r → linesF (r ++ 10 :: t) = (r ++ [10]) :: linesF t
  | [], t, _ => by simp [linesF]
  | b :: r, t, h => by
    have hb : b ≠ 10 := fun e => h (by simp [e])
    have hr : (10 : UInt8) ∉ r := fun e => h (by simp [e])
    rw [List.cons_append, linesF, if_neg hb, linesF_row r t hr]
    rfl
theorem linesF_flat (g : Nat → List UInt8) (hg : ∀ i, (10 : UInt8) ∉ g i) : ∀ L : List Nat, linesF (L.flatMap (fun i => g i ++ [10])) = L.map (fun i => g i ++ [10])
  | [] => rfl
  | i :: L => by
    rw [List.flatMap_cons, List.append_assoc, List.singleton_append, linesF_row _ _ (hg i), linesF_flat g hg L]
    rfl
theorem linesF_join : ∀ l : List UInt8, (linesF l).flatten = l
  | [] => rfl
  | b :: r => by
    have ih := linesF_join r
    rw [linesF]
    split
    · rename_i hb
      rw [List.flatten_cons, ih, hb]
      rfl
    · cases hr : linesF r with
      | nil => rw [hr] at ih; simp at ih; simp [ih]
      | cons x xs => rw [hr] at ih; simp at ih; simp [ih]
theorem piecesF_cut : ∀ (a t : List UInt8), (32 : UInt8) ∉ a → piecesF (a ++ 32 :: t) = a :: piecesF t
  | [], t, _ => by simp [piecesF]
  | b :: a, t, h => by
    have hb : b ≠ 32 := fun e => h (by simp [e])
    have hr : (32 : UInt8) ∉ a := fun e => h (by simp [e])
    rw [List.cons_append, piecesF, if_neg hb, piecesF_cut a t hr]
theorem piecesF_one : ∀ (a : List UInt8), (32 : UInt8) ∉ a → piecesF a = [a]
  | [], _ => rfl
  | b :: a, h => by
    have hb : b ≠ 32 := fun e => h (by simp [e])
    have hr : (32 : UInt8) ∉ a := fun e => h (by simp [e])
    rw [piecesF, if_neg hb, piecesF_one a hr]
/-- Pieces, with a blank between two. -/
def joinT : List (List UInt8) → List UInt8
  | [] => []
  | a :: L => a ++ L.flatMap (fun p => 32 :: p)
theorem joinT_cons2 (a b : List UInt8) (L : List (List UInt8)) : joinT (a :: b :: L) = a ++ 32 :: joinT (b :: L) := by simp [joinT]
theorem joinT_snoc (L : List (List UInt8)) (p : List UInt8) : joinT (L ++ [p]) = joinT L ++ ((if L.length = 0 then [] else [32]) ++ p) := by
  cases L with
  | nil => simp [joinT]
  | cons a L => simp [joinT, List.flatMap_append]
theorem piecesF_joinT : ∀ (L : List (List UInt8)), L ≠ [] → (∀ p ∈ L, (32 : UInt8) ∉ p) → piecesF (joinT L) = L
  | [], h, _ => absurd rfl h
  | [a], _, h => by
    have := piecesF_one a (h a (by simp))
    simpa [joinT] using this
  | a :: b :: L, _, h => by
    rw [joinT_cons2, piecesF_cut _ _ (h a (by simp)), piecesF_joinT (b :: L) (by simp) (fun p hp => h p (by simp at hp ⊢; right; exact hp))]
theorem joinT_pieces : ∀ l : List UInt8, joinT (piecesF l) = l
  | [] => rfl
  | b :: r => by
    have ih := joinT_pieces r
    have hne := piecesF_ne r
    rw [piecesF]
    split
    · rename_i hb
      cases hr : piecesF r with
      | nil => exact absurd hr hne
      | cons x xs =>
        rw [hr] at ih
        rw [joinT_cons2, ih, hb]
        rfl
    · cases hr : piecesF r with
      | nil => exact absurd hr hne
      | cons x xs =>
        rw [hr] at ih
        show (b :: x) ++ _ = _
        rw [List.cons_append]
        exact congrArg (b :: ·) ih

theorem digit_byte {m : Nat} (h : m < 10) : UInt8.ofNat (48 + m) ≠ 32 ∧ UInt8.ofNat (48 + m) ≠ 10 := by
  obtain rfl | rfl | rfl | rfl | rfl | rfl | rfl | rfl | rfl | rfl : m = 0 ∨ m = 1 ∨ m = 2 ∨ m = 3 ∨ m = 4 ∨ m = 5 ∨ m = 6 ∨ m = 7 ∨ m = 8 ∨ m = 9 := by omega
  all_goals decide
theorem digits_no : ∀ (f n : Nat), n < f → ∀ c ∈ Lib.decDigits n, c ≠ 32 ∧ c ≠ 10 := by
  intro f
  induction f with
  | zero => intro n h; omega
  | succ f ih =>
    intro n h c hc
    by_cases hn : n < 10
    · rw [Lib.decDigits_one hn] at hc
      rw [List.mem_singleton] at hc
      rw [hc]
      exact digit_byte hn
    · rw [Lib.decDigits, dif_neg hn] at hc
      rcases List.mem_append.1 hc with hc | hc
      · exact ih _ (by omega) c hc
      · rw [List.mem_singleton] at hc
        rw [hc]
        exact digit_byte (by omega)
def digT (z : Int) : List UInt8 := Lib.decDigits z.toNat
theorem digT_no (z : Int) : (32 : UInt8) ∉ digT z ∧ (10 : UInt8) ∉ digT z :=
  ⟨fun h => (digits_no (z.toNat + 1) z.toNat (by omega) _ h).1 rfl, fun h => (digits_no (z.toNat + 1) z.toNat (by omega) _ h).2 rfl⟩
/-- The costs of row number j. -/
def rowV (k : Nat) (zs : List Int) (j : Nat) : List Int := (List.range k).map (fun i => zs.getD (j * k + i) 0)
theorem rowTo_join (k : Nat) (zs : List Int) (j : Nat) : ∀ x, rowTo k zs j x = joinT ((List.range x).map (fun i => digT (zs.getD (j * k + i) 0)))
  | 0 => rfl
  | x + 1 => by
    rw [rowTo_succ, rowTo_join k zs j x, List.range_succ, List.map_append, List.map_singleton, joinT_snoc]
    simp [costT, digT]
theorem rowTo_V (k : Nat) (zs : List Int) (j : Nat) : rowTo k zs j k = joinT ((rowV k zs j).map digT) := by
  rw [rowTo_join, rowV, List.map_map]
  rfl
theorem joinT_no {L : List (List UInt8)} (h : ∀ p ∈ L, (10 : UInt8) ∉ p) : (10 : UInt8) ∉ joinT L := by
  cases L with
  | nil => simp [joinT]
  | cons a L =>
    intro hc
    rcases List.mem_append.1 hc with hc | hc
    · exact h a (by simp) hc
    · obtain ⟨p, hp, hq⟩ := List.mem_flatMap.1 hc
      rcases List.mem_cons.1 hq with e | hq
      · exact absurd e (by decide)
      · exact h p (by simp [hp]) hq
theorem rowTo_no (k : Nat) (zs : List Int) (j : Nat) : (10 : UInt8) ∉ rowTo k zs j k := by
  rw [rowTo_V]
  exact joinT_no (fun p hp => by
    obtain ⟨z, _, rfl⟩ := List.mem_map.1 hp
    exact (digT_no z).2)
theorem lines_text (k : Nat) (zs : List Int) (m : Nat) : linesF (textTo k zs m) = (List.range m).map (fun i => rowTo k zs i k ++ [10]) :=
  linesF_flat (fun i => rowTo k zs i k) (fun i => rowTo_no k zs i) (List.range m)
theorem pieces_row {k : Nat} (hk : 1 ≤ k) (zs : List Int) (j : Nat) : piecesF (rowTo k zs j k) = (rowV k zs j).map digT := by
  rw [rowTo_V]
  refine piecesF_joinT _ ?_ (fun p hp => by
    obtain ⟨z, _, rfl⟩ := List.mem_map.1 hp
    exact (digT_no z).1)
  intro e
  have := congrArg List.length e
  simp [rowV] at this
  omega
theorem readF_digits {z : Int} (h : inH z) : readF (digT z) = (z, 0) := by
  obtain ⟨h1, h2⟩ := h
  unfold readF digT
  rw [valF_digits (digits_lt 4 z.toNat (by omega))]
  simp only
  rw [if_neg (by omega)]
  exact Prod.ext (by show ((z.toNat : Nat) : Int) = z; omega) rfl
theorem readF_inv {p : List UInt8} (h : (readF p).2 = 0) : inH (readF p).1 ∧ digT (readF p).1 = p := by
  unfold readF at h ⊢
  cases hv : valF p with
  | none => rw [hv] at h; cases h
  | some n =>
    rw [hv] at h
    simp only at h ⊢
    by_cases hn : 65535 < n
    · rw [if_pos hn] at h; cases h
    · rw [if_neg hn]
      refine ⟨⟨by show (0 : Int) ≤ (n : Int); omega, by show (n : Int) ≤ 65535; omega⟩, ?_⟩
      show Lib.decDigits (Int.toNat (n : Int)) = p
      rw [Int.toNat_natCast]
      exact (valF_some hv).2.2.2
theorem runP_digits (cs us : List Int) (h : AllH us) : runP cs (us.map digT) = (cs ++ us, 0) := by
  induction us using snoc_ind with
  | h0 => simp [runP]
  | h1 us z ih =>
    have h1 := ih (fun x hx => h x (by simp [hx]))
    have h2 := readF_digits (h z (by simp))
    rw [List.map_append, List.map_singleton, runP_snoc, h1]
    unfold stepP
    rw [if_neg (by simp), h2, if_neg (by simp), List.append_assoc]
theorem runP_inv (cs : List Int) (ps : List (List UInt8)) (h : (runP cs ps).2 = 0) : ∃ us, (runP cs ps).1 = cs ++ us ∧ AllH us ∧ us.map digT = ps := by
  induction ps using snoc_ind with
  | h0 => exact ⟨[], by simp [runP], fun x hx => by simp at hx, rfl⟩
  | h1 ps p ih =>
    rw [runP_snoc] at h ⊢
    unfold stepP at h ⊢
    by_cases h0 : (runP cs ps).2 = 0
    · rw [if_neg (fun e => e h0)] at h ⊢
      obtain ⟨us, e1, e2, e3⟩ := ih h0
      by_cases h1 : (readF p).2 = 0
      · rw [if_neg (fun e => e h1)] at h ⊢
        obtain ⟨r1, r2⟩ := readF_inv h1
        refine ⟨us ++ [(readF p).1], by rw [e1, List.append_assoc], fun x hx => ?_, by rw [List.map_append, e3, List.map_singleton, r2]⟩
        rcases List.mem_append.1 hx with hx | hx
        · exact e2 x hx
        · simp at hx; rw [hx]; exact r1
      · rw [if_pos h1] at h
        exact absurd h h1
    · rw [if_pos h0] at h
      exact absurd h h0
theorem suffix_row (r : List UInt8) : Lib.hasSuffix (r ++ [10]) [10] = true := by
  unfold Lib.hasSuffix
  rw [List.isSuffixOf_iff_suffix]
  exact List.suffix_append _ _
theorem trim_row (r : List UInt8) : Lib.trimSuffix (r ++ [10]) [10] = r := by
  unfold Lib.trimSuffix
  rw [if_pos (suffix_row r)]
  simp
theorem suffix_inv {l : List UInt8} (h : Lib.hasSuffix l [10] = true) : l = Lib.trimSuffix l [10] ++ [10] := by
  have h2 := h
  unfold Lib.hasSuffix at h2
  rw [List.isSuffixOf_iff_suffix] at h2
  obtain ⟨t, rfl⟩ := h2
  rw [trim_row]
theorem row_take {k j : Nat} {zs : List Int} (h : (j + 1) * k ≤ zs.length) : zs.take ((j + 1) * k) = zs.take (j * k) ++ rowV k zs j := by
  apply List.ext_getElem?
  intro i
  rw [Nat.add_mul, Nat.one_mul] at h ⊢
  rw [List.getElem?_append, List.length_take, List.getElem?_take, List.getElem?_take]
  rw [Nat.min_eq_left (by omega)]
  by_cases h1 : i < j * k
  · rw [if_pos h1, if_pos (by omega), if_pos h1]
  · rw [if_neg h1]
    by_cases h2 : i < j * k + k
    · rw [if_pos h2]
      simp only [rowV, List.getElem?_map]
      rw [List.getElem?_range (by omega)]
      simp only [Option.map_some]
      rw [show j * k + (i - j * k) = i by omega, List.getElem?_eq_getElem (by omega)]
      rw [List.getD_eq_getElem?_getD, List.getElem?_eq_getElem (by omega)]
      rfl
    · rw [if_neg h2]
      symm
      rw [List.getElem?_eq_none_iff]
      simp [rowV]
      omega
theorem rowV_in {k j : Nat} {zs : List Int} (h : AllH zs) : AllH (rowV k zs j) := fun z hz => by
  obtain ⟨i, _, rfl⟩ := List.mem_map.1 hz
  exact getD_in h _
theorem rowV_len (k j : Nat) (zs : List Int) : (rowV k zs j).length = k := by simp [rowV]
theorem runL_rows {k m : Nat} {zs : List Int} (hk : 1 ≤ k) (hk2 : k ≤ 256) (hm : m ≤ 256) (hl : zs.length = m * k) (hin : AllH zs) : ∀ j, j ≤ m → runL ((List.range j).map (fun i => rowTo k zs i k ++ [10])) = ⟨if j = 0 then 0 else (k : Int), j, zs.take (j * k), 0⟩
  | 0, _ => by simp [runL, ps0]
  | j + 1, hj => by
    have ih := runL_rows hk hk2 hm hl hin j (by omega)
    have hjk : (j + 1) * k ≤ zs.length := by rw [hl]; exact Nat.mul_le_mul_right k hj
    rw [List.range_succ, List.map_append, List.map_singleton, runL_snoc, ih]
    have hp := runP_digits (zs.take (j * k)) (rowV k zs j) (rowV_in hin)
    have hpc := pieces_row hk zs j
    rw [stepL_row (s := ⟨if j = 0 then 0 else (k : Int), j, zs.take (j * k), 0⟩) rfl (suffix_row _) (by rw [trim_row, hpc, hp])]
    rw [trim_row, hpc, hp, List.length_map, rowV_len, ← row_take hjk]
    have hW : (if ((j : Int) + 1 = 1) then (k : Int) else if j = 0 then 0 else (k : Int)) = k := by
      by_cases h0 : j = 0
      · rw [if_pos (by omega)]
      · rw [if_neg (by omega), if_neg h0]
    simp only [hW]
    have hf : fitsF (k : Int) ((j : Int) + 1) (k : Int) = 0 := by
      unfold fitsF
      rw [if_neg (by omega), if_neg (fun e => e rfl), if_neg (by omega)]
    rw [hf, if_neg (by omega)]
    simp
theorem parF_text {k m : Nat} {zs : List Int} (hk : 1 ≤ k) (hk2 : k ≤ 256) (hm1 : 1 ≤ m) (hm : m ≤ 256) (hl : zs.length = m * k) (hin : AllH zs) (hlen : (textTo k zs m).length ≤ 131072) :
    parF (textTo k zs m) = (⟨k, m, zs, 0⟩, 0) := by
  have h := runL_rows hk hk2 hm hl hin m (Nat.le_refl _)
  rw [if_neg (by omega), ← hl, List.take_length] at h
  have hne : textTo k zs m ≠ [] := by
    obtain ⟨m', rfl⟩ : ∃ m', m = m' + 1 := ⟨m - 1, by omega⟩
    rw [textTo_succ]
    simp
  unfold parF
  rw [if_neg (by omega), if_neg hne, lines_text, h, if_neg (fun e => e rfl)]

theorem getD_app {cs us : List Int} {i : Nat} (h : i < cs.length) : (cs ++ us).getD i 0 = cs.getD i 0 := by
  rw [List.getD_eq_getElem?_getD, List.getD_eq_getElem?_getD, List.getElem?_append_left h]
theorem textTo_app {k m : Nat} {cs us : List Int} (h : m * k ≤ cs.length) : ∀ j, j ≤ m → textTo k (cs ++ us) j = textTo k cs j
  | 0, _ => rfl
  | j + 1, hj => by
    have h2 : (j + 1) * k ≤ m * k := Nat.mul_le_mul_right k hj
    rw [Nat.add_mul, Nat.one_mul] at h2
    rw [textTo_succ, textTo_succ, textTo_app h j (by omega), rowTo_V, rowTo_V]
    have e : rowV k (cs ++ us) j = rowV k cs j := by
      unfold rowV
      apply List.map_congr_left
      intro i hi
      rw [List.mem_range] at hi
      exact getD_app (by omega)
    rw [e]
theorem rowV_last {k m : Nat} {cs us : List Int} (h : cs.length = m * k) (hu : us.length = k) : rowV k (cs ++ us) m = us := by
  apply List.ext_getElem?
  intro i
  unfold rowV
  rw [List.getElem?_map]
  by_cases hi : i < k
  · rw [List.getElem?_range hi]
    simp only [Option.map_some]
    rw [List.getD_eq_getElem?_getD, List.getElem?_append_right (by omega), show m * k + i - cs.length = i by omega, List.getElem?_eq_getElem (by omega)]
    rfl
  · rw [List.getElem?_eq_none (by rw [List.length_range]; omega)]
    simp
    omega
/-- What was parsed so far prints as it was written. -/
theorem runL_inv (ls : List (List UInt8)) (h : (runL ls).e = 0) : ∃ (k m : Nat) (cs : List Int), runL ls = ⟨k, m, cs, 0⟩ ∧ m = ls.length ∧ cs.length = m * k ∧ AllH cs ∧ textTo k cs m = ls.flatten ∧ (m ≠ 0 → 1 ≤ k ∧ k ≤ 256) ∧ m ≤ 256 := by
  induction ls using snoc_ind with
  | h0 => exact ⟨0, 0, [], rfl, rfl, by simp, (fun x hx => by simp at hx), rfl, (fun h => absurd rfl h), by omega⟩
  | h1 ls l ih =>
    rw [runL_snoc] at h ⊢
    by_cases h0 : (runL ls).e = 0
    · obtain ⟨k, m, cs, e1, e2, e3, e4, e5, e6, e7⟩ := ih h0
      cases hs : Lib.hasSuffix l [10] with
      | false =>
        have := (stepL_form h0 hs).1
        rw [this] at h
        cases h
      | true =>
        by_cases hp : (runP (runL ls).cs (piecesF (Lib.trimSuffix l [10]))).2 = 0
        · have hst := stepL_row h0 hs hp
          rw [hst] at h ⊢
          rw [e1] at h hp ⊢
          simp only at h hp ⊢
          obtain ⟨us, u1, u2, u3⟩ := runP_inv cs _ hp
          have hj := joinT_pieces (Lib.trimSuffix l [10])
          have hpl : (piecesF (Lib.trimSuffix l [10])).length = us.length := by rw [← u3, List.length_map]
          have hp1 : 1 ≤ us.length := by
            rw [← hpl]
            exact List.length_pos_iff.2 (piecesF_ne _)
          rw [hpl] at h ⊢
          obtain ⟨f1, f2, f3⟩ := fits_ok h
          have hW : (if (m : Int) + 1 = 1 then ((us.length : Nat) : Int) else (k : Int)) = ((us.length : Nat) : Int) := f2.symm
          have hcs : cs.length = m * us.length := by
            by_cases hm0 : m = 0
            · subst hm0
              simpa using e3
            · rw [if_neg (by omega)] at hW
              have : k = us.length := by omega
              rw [← this]
              exact e3
          have htx : textTo us.length cs m = ls.flatten := by
            by_cases hm0 : m = 0
            · subst hm0
              rw [← e5]
              rfl
            · rw [if_neg (by omega)] at hW
              have : k = us.length := by omega
              rw [← this]
              exact e5
          refine ⟨us.length, m + 1, cs ++ us, ?_, by rw [List.length_append, ← e2]; rfl, ?_, ?_, ?_, fun _ => ⟨hp1, by omega⟩, by omega⟩
          · rw [u1, h, hW]
            simp
          · rw [List.length_append, hcs, Nat.add_mul, Nat.one_mul]
          · intro x hx
            rcases List.mem_append.1 hx with hx | hx
            · exact e4 x hx
            · exact u2 x hx
          · rw [textTo_succ, textTo_app (m := m) (by omega) m (Nat.le_refl _), htx, rowTo_V, rowV_last hcs rfl, u3, hj, ← suffix_inv hs]
            simp
        · have := (stepL_cost h0 hs hp).1
          rw [this] at h
          exact absurd h hp
    · unfold stepL at h
      rw [if_pos h0] at h
      exact absurd h h0
/-- A text that is right prints as it was written. -/
theorem parF_back {s : List UInt8} (h : (parF s).1.e = 0) : ∃ (k m : Nat) (cs : List Int), parF s = (⟨k, m, cs, 0⟩, 0) ∧ 1 ≤ k ∧ k ≤ 256 ∧ 1 ≤ m ∧ m ≤ 256 ∧ cs.length = m * k ∧ AllH cs ∧ textTo k cs m = s := by
  unfold parF at h ⊢
  by_cases h1 : 131072 < s.length
  · rw [if_pos h1] at h; cases h
  · rw [if_neg h1] at h ⊢
    by_cases h2 : s = []
    · rw [if_pos h2] at h; cases h
    · rw [if_neg h2] at h ⊢
      by_cases h3 : (runL (linesF s)).e = 0
      · rw [if_neg (fun e => e h3)]
        obtain ⟨k, m, cs, e1, e2, e3, e4, e5, e6, e7⟩ := runL_inv _ h3
        rw [linesF_join] at e5
        have hm : m ≠ 0 := by
          intro e
          subst e
          exact h2 e5.symm
        exact ⟨k, m, cs, by rw [e1], (e6 hm).1, (e6 hm).2, by omega, e7, e3, e4, e5⟩
      · rw [if_pos h3] at h
        exact absurd h h3
theorem runL_H (ls : List (List UInt8)) : 0 ≤ (runL ls).H ∧ ((runL ls).e ≠ 0 → 1 ≤ (runL ls).H) := by
  induction ls using snoc_ind with
  | h0 => exact ⟨Int.le_refl _, fun h => absurd rfl h⟩
  | h1 ls l ih =>
    rw [runL_snoc]
    by_cases h0 : (runL ls).e = 0
    · have key : (stepL (runL ls) l).H = (runL ls).H + 1 := by
        cases hs : Lib.hasSuffix l [10] with
        | false => exact (stepL_form h0 hs).2
        | true =>
          by_cases hp : (runP (runL ls).cs (piecesF (Lib.trimSuffix l [10]))).2 = 0
          · rw [stepL_row h0 hs hp]
          · exact (stepL_cost h0 hs hp).2
      rw [key]
      exact ⟨by omega, fun _ => by omega⟩
    · unfold stepL
      rw [if_pos h0]
      exact ih
/-- A text that is wrong, and not too long: the row is told, and nothing else. -/
theorem parF_wrong {s : List UInt8} (hs : s.length ≤ 131072) (h : (parF s).1.e ≠ 0) : 1 ≤ (parF s).2 ∧ (parF s).1.cs = [] := by
  unfold parF at h ⊢
  rw [if_neg (by omega)] at h ⊢
  by_cases h2 : s = []
  · rw [if_pos h2]
    exact ⟨by show (1 : Int) ≤ 1; omega, rfl⟩
  · rw [if_neg h2] at h ⊢
    by_cases h3 : (runL (linesF s)).e = 0
    · rw [if_neg (fun e => e h3)] at h
      exact absurd h3 h
    · rw [if_pos h3]
      refine ⟨?_, rfl⟩
      exact (runL_H _).2 h3
end Go.Proofs.YthnpoeobieninaaDoor
