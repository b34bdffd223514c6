/- The document's answer for texts: Cut. -/
import Derived.Test.YthnpoeobieninaaDoorYg
import Derived.Test.YthnpoeobieninaaDoorYd
namespace Go.Proofs.YthnpoeobieninaaDoor
open Go.RowKit

/-- What stands between a sign. -/
def cutB (c : UInt8) : List UInt8 → List (List UInt8)
  | [] => [[]]
  | b :: r => if b = c then [] :: cutB c r else match cutB c r with
    | [] => [[b]]
    | x :: xs => (b :: x) :: xs
theorem cutB_pieces : ∀ l : List UInt8, cutB 32 l = piecesF l
  | [] => rfl
  | b :: r => by rw [cutB, piecesF, cutB_pieces r]; rfl
theorem cutB_ne (c : UInt8) : ∀ l : List UInt8, cutB c l ≠ []
  | [] => by simp [cutB]
  | b :: r => by
    rw [cutB]
    split
    · simp
    · split <;> simp
theorem cutB_sep (c : UInt8) : ∀ l : List UInt8, cutB c (l ++ [c]) = cutB c l ++ [[]]
  | [] => by simp [cutB]
  | b :: r => by
    have ih := cutB_sep c r
    have hne := cutB_ne c r
    rw [List.cons_append, cutB, cutB, ih]
    by_cases hb : b = c
    · rw [if_pos hb, if_pos hb]; rfl
    · rw [if_neg hb, if_neg hb]
      cases hr : cutB c r with
      | nil => exact absurd hr hne
      | cons x xs => rfl
theorem cutB_more (c b : UInt8) (hb : b ≠ c) : ∀ (l : List UInt8) (ps : List (List UInt8)) (p : List UInt8), cutB c l = ps ++ [p] → cutB c (l ++ [b]) = ps ++ [p ++ [b]]
  | [], ps, p, h => by
    have h2 : ps = [] ∧ p = [] := by
      cases ps with
      | nil => simpa [cutB] using h
      | cons x xs =>
        have := congrArg List.length h
        simp [cutB] at this
    obtain ⟨rfl, rfl⟩ := h2
    simp [cutB, hb]
  | a :: r, ps, p, h => by
    have hne := cutB_ne c r
    rw [cutB] at h
    rw [List.cons_append, cutB]
    by_cases ha : a = c
    · rw [if_pos ha] at h ⊢
      cases ps with
      | nil =>
        simp at h
        exact absurd h.2 hne
      | cons x xs =>
        simp at h
        obtain ⟨rfl, h⟩ := h
        rw [cutB_more c b hb r xs p h]
        rfl
    · rw [if_neg ha] at h ⊢
      cases hr : cutB c r with
      | nil => exact absurd hr hne
      | cons y ys =>
        rw [hr] at h
        simp only at h
        cases ps with
        | nil =>
          simp at h
          obtain ⟨rfl, rfl⟩ := h
          rw [cutB_more c b hb r [] y (by rw [hr]; rfl)]
          rfl
        | cons x xs =>
          simp at h
          obtain ⟨rfl, rfl⟩ := h
          rw [cutB_more c b hb r (y :: xs) p (by rw [hr]; rfl)]
          rfl

/-- Strings in a row of one's own. -/
def cellsS (ps : List (List UInt8)) : List Value := ps.map (fun p => Value.string ⟨p.toArray⟩)
theorem cellsS_len (ps : List (List UInt8)) : (cellsS ps).length = ps.length := by simp [cellsS]
theorem cellsS_snoc (ps : List (List UInt8)) (p : List UInt8) : cellsS (ps ++ [p]) = cellsS ps ++ [.string ⟨p.toArray⟩] := by simp [cellsS]
theorem Tryd.infoStr : (Tryd.prog.info? 9).map (fun i => (i.zero, i.size, i.bytes)) = some (some (.string ⟨#[]⟩), 1, 16) := by kernel_rfl
theorem cut_str (l : List UInt8) (a b : Nat) : (⟨l.toArray⟩ : ByteArray).extract a b = ⟨((l.take b).drop a).toArray⟩ := by
  apply ByteArray.ext
  simp [ByteArray.data_extract, List.extract_eq_take_drop, List.drop_take]

set_option maxRecDepth 100000 in
set_option maxHeartbeats 4000000 in
theorem rcut_any (l : List UInt8) (c : UInt8) (w : World) (hl : l.length ≤ 140000) :
    Calls Tryd.prog 39 #[.string ⟨l.toArray⟩, .int .u8 (c.toNat : Int)] w fun e w' => ∃ a cap, e = .returned (.slice a (cutB c l).length cap) ∧ w'.ownsRow w.heap.size 9 1 (.slice a (cutB c l).length cap) (cutB c l).length (cellsS (cutB c l)) ∧ Below w.heap.size w w' := by
  obtain ⟨i0, hi, hz0, hz1, hz2⟩ := info_parts Tryd.infoStr
  have hA := bl0 w
  have hl2 : (l.length : Int) ≤ 140000 := by omega
  go_enter Tryd.func39, Tryd.ntmps39
  go_wp2
  go_loopw [5, 6, 7] (fun out from_ i wr => ∃ (k f : Nat) (ps : List (List UInt8)), k ≤ l.length ∧ i = .int .i64 k ∧ f ≤ k ∧ from_ = .int .i64 f ∧ ps.length ≤ k ∧ cutB c (l.take k) = ps ++ [(l.take k).drop f] ∧ wr.ownsRow w.heap.size 9 1 out ps.length (cellsS ps) ∧ Below w.heap.size w wr) (fun _ _ i _ => l.length - (intOf i).toNat)
  case atStart => exact ⟨0, 0, [], Nat.zero_le _, rfl, Nat.le_refl _, rfl, Nat.le_refl _, by simp [cutB], World.ownsRow_nil _ _ _ _, hA⟩
  case round =>
    obtain ⟨k, f, ps, hk, rfl, hf, rfl, hps, hcut, hown, hB⟩ := hrel
    have HC := Lib.hid hcut
    clear hcut hA
    by_cases hlt : k < l.length
    · have hlt2 : (k : Int) < (l.length : Int) := by omega
      have hk0 : (0 : Int) ≤ (k : Int) := by omega
      have hf0 : (0 : Int) ≤ (f : Int) := by omega
      have hfk : (f : Int) ≤ (k : Int) := by omega
      have hkl : (k : Int) ≤ (l.length : Int) := by omega
      have hsn : l.take (k + 1) = l.take k ++ [l[k]] := List.take_succ_eq_append_getElem hlt
      obtain ⟨b, hb⟩ : ∃ b, l[k] = b := ⟨_, rfl⟩
      have hget : ∀ h, ((⟨l.toArray⟩ : ByteArray)[k]'h) = b := fun h => by rw [← hb]; rfl
      rw [hb] at hsn
      by_cases hbc : b = c
      · subst hbc
        have heq : ((b.toNat : Int) == (b.toNat : Int)) = true := by simp
        go_wp2_with (at_builtin; refine wpList_append_own _ rfl _ _ 82 rfl w.heap.size 9 i0 (.string ⟨#[]⟩) 1 16 Tryd.underlying82 hi hz0 hz1 hz2 rfl (by decide) _ _ _ rfl (hown.alloc _) ⟨wr.heap.size, 0, none⟩ 1 1 [.string ⟨((l.take k).drop f).toArray⟩] rfl rfl ?c1 ?c2 ?c3 ?c4 ?c5 ?_)
        case c1 =>
          intro j u hj
          rw [cut_str]
          cases j with
          | succ j => simp at hj
          | zero =>
            simp only [List.getElem?_cons_zero, Option.some.injEq] at hj
            subst hj
            simp [go_sem, addr_add]
        case c2 => intro u hu; simp at hu; subst hu; rfl
        case c3 => unfold maxLen; omega
        case c4 => omega
        case c5 => have := hB.size; simp; omega
        intro v' w1 hown' hgrow _
        have hB1 : Below w.heap.size w w1 := (bl_al hB _).grown hgrow (by simp; have := hB.size; omega) (fun j hj => (hown.lt j hj).1)
        rw [← cellsS_snoc] at hown'
        go_wp2
        refine ⟨⟨k + 1, k + 1, ps ++ [(l.take k).drop f], hlt, rfl, Nat.le_refl _, rfl, by simp; omega, ?_, by simpa using hown', hB1⟩, by simp [intOf]; omega⟩
        have hz : (l.take k ++ [b]).drop (k + 1) = [] := List.drop_eq_nil_of_le (by rw [List.length_append, List.length_take]; simp; omega)
        rw [hsn, hz, cutB_sep, HC.out]
      · have hne : ((b.toNat : Int) == (c.toNat : Int)) = false := by
          simp only [beq_eq_false_iff_ne, ne_eq]
          intro h
          exact hbc (UInt8.toNat_inj.1 (by omega))
        go_wp2
        refine ⟨⟨k + 1, f, ps, hlt, rfl, by omega, rfl, by omega, ?_, hown, hB⟩, by simp [intOf]; omega⟩
        rw [hsn, cutB_more c b hbc _ _ _ HC.out, List.drop_append_of_le_length (by rw [List.length_take]; omega)]
    · obtain rfl : k = l.length := by omega
      have hlt2 : ¬ ((l.length : Int) < (l.length : Int)) := by omega
      have hf0 : (0 : Int) ≤ (f : Int) := by omega
      have hfk : (f : Int) ≤ (l.length : Int) := by omega
      have hcl : cutB c l = ps ++ [l.drop f] := by have h := HC.out; rw [List.take_length] at h; exact h
      have HL := Lib.hid hcl
      clear hcl
      go_wp2_with (at_builtin; refine wpList_append_own _ rfl _ _ 82 rfl w.heap.size 9 i0 (.string ⟨#[]⟩) 1 16 Tryd.underlying82 hi hz0 hz1 hz2 rfl (by decide) _ _ _ rfl (hown.alloc _) ⟨wr.heap.size, 0, none⟩ 1 1 [.string ⟨(l.drop f).toArray⟩] rfl rfl ?c1 ?c2 ?c3 ?c4 ?c5 ?_)
      case c1 =>
        intro j u hj
        rw [cut_str]
        cases j with
        | succ j => simp at hj
        | zero =>
          simp only [List.getElem?_cons_zero, Option.some.injEq] at hj
          subst hj
          simp [go_sem]
      case c2 => rfl
      case c3 => unfold maxLen; omega
      case c4 => omega
      case c5 => have := hB.size; simp; omega
      intro v' w1 hown' hgrow _
      have hB1 : Below w.heap.size w w1 := (bl_al hB _).grown hgrow (by simp; have := hB.size; omega) (fun j hj => (hown.lt j hj).1)
      rw [← cellsS_snoc, ← HL.out] at hown'
      have hn : (cutB c l).length = ps.length + 1 := by
        have := congrArg List.length HL.out
        simpa using this
      obtain ⟨a, cap, rfl⟩ : ∃ a cap, v' = .slice a (cutB c l).length cap := by
        rcases hown'.2 with ⟨rfl, h0⟩ | ⟨g, cap, cur, rfl, _⟩
        · omega
        · exact ⟨_, cap, by rw [hn]⟩
      go_wp2
      go_ret
      exact ⟨a, cap, rfl, by rw [hn] at hown' ⊢; exact hown', hB1⟩
end Go.Proofs.YthnpoeobieninaaDoor
