/- Cache: the reference: Drop, Keys. -/
import Derived.Test.YtbmpgafndpdnbaaEzd
namespace Go.Proofs.Ytbmpgafndpdnbaa
open Go.RowKit Go.Maps

theorem drop_step {q : Int → Bool} {m : List IT} {j : Nat} {y : IT} (hy : m[j]? = some y) : dropM q (m.take (j + 1)) = dropM q (m.take j) ++ (if q y.1 then [] else [y]) := by
  obtain ⟨h1, e1⟩ := List.getElem?_eq_some_iff.1 hy
  unfold dropM
  rw [List.take_succ_eq_append_getElem h1, List.filter_append, e1]
  cases e : q y.1 <;> simp [e]
theorem item_row {W : World} (x : IT) : RowT (W.alloc (.cells #[.int .i64 x.1, .int .i64 x.2] 39)) (some ⟨W.heap.size, 0, none⟩) [x] := by
  refine .inr ⟨W.heap.size, rfl, fun t z hz => ?_⟩
  match t, hz with
  | 0, hz => (simp at hz; subst hz; simp [go_sem])
  | t + 1, hz => simp at hz
set_option maxRecDepth 100000 in
set_option maxHeartbeats 8000000 in
theorem rdrop_any {B q : Nat} {r : Int} {v : Value} {m : List IT} {l : List Own} (n lf : Int) (w : World) (h : Sep w B (RC q r v m l)) (hm : m.length ≤ 800) (hn1 : 1 ≤ n) (hn2 : n ≤ 5) :
    Calls Try.prog 19 #[.pointer (some ⟨q, 0, none⟩), .int .i64 n, .int .i64 lf] w fun e w' => e = .returned (.int .i64 ((m.length : Int) - ((dropM (goes n lf) m).length : Int))) ∧ (∃ v', Sep w' B (RC q r v' (dropM (goes n lf) m) l)) ∧ Below B w w' := by
  have HS0 := Lib.hid (show Sep w B (RC q r v m l ++ [TO (.slice none 0 0) []]) from TO.nil h)
  have HB0 := Lib.hid ((bl0 w).mono h.base)
  have hn0 : ¬ n = 0 := by omega
  obtain ⟨N, hN⟩ : ∃ N, m.length = N := ⟨_, rfl⟩
  rw [hN] at hm ⊢
  have HN := Lib.hid hN
  clear h hN
  go_enter Try.func19, Try.ntmps19
  go_wp2_with fail
  go_loopw [7, 8, 9] (fun s c i wr => ∃ (j : Nat) (out : List IT), j ≤ N ∧ i = .int .i64 j ∧ c = .int .i64 ((j : Int) - (out.length : Int)) ∧ Hid (out = dropM (goes n lf) (m.take j)) ∧ Hid (Sep wr B (RC q r v m l ++ [TO s out])) ∧ Hid (Below B w wr)) (fun _ _ i _ => N - (intOf i).toNat)
  case atStart => exact ⟨0, [], Nat.zero_le _, rfl, rfl, Lib.hid (by simp [dropM]), HS0, HB0⟩
  case round =>
    obtain ⟨j, out, hj, rfl, rfl, HO, HS, HB⟩ := hrel
    have hj0 : (0 : Int) ≤ (j : Int) := by omega
    have hol : out.length ≤ j := by
      have := HO.out
      rw [this]
      exact Nat.le_trans (dropM_le _ _) (by rw [List.length_take]; omega)
    obtain ⟨oa, oc, rfl, hoc, _⟩ := TO.row (l1 := RC q r v m l) (l2 := []) HS.out
    obtain ⟨a, cap, rfl, _, hrow⟩ := RC.row (l := l ++ [TO (.slice oa out.length oc) out]) HS.out
    obtain ⟨q0, q1, q2, q3⟩ := RC.cells (l := l ++ [TO (.slice oa out.length oc) out]) HS.out
    rw [HN.out] at q1
    have zq := blk_lt q0
    by_cases hlt : j < N
    · have hlt2 : (j : Int) < (N : Int) := by omega
      obtain ⟨y, hy⟩ : ∃ y, m[j]? = some y := ⟨_, List.getElem?_eq_getElem (by rw [HN.out]; exact hlt)⟩
      obtain ⟨g, rfl, d0, d1⟩ := hrow.at hy
      have hst := drop_step (q := goes n lf) hy
      rw [← HO.out] at hst
      have HST := Lib.hid hst
      have zd := blk_lt d0
      have k1 := tmod_lt (x := y.1) hn1
      have k3 := tmod_lt (x := y.1.tmod n + n) hn1
      have v1 : IntKind.i64.wrap (y.1.tmod n) = y.1.tmod n := IntWalk.i64_in _ (by omega)
      have v2 : IntKind.i64.wrap (y.1.tmod n + n) = y.1.tmod n + n := IntWalk.i64_in _ (by omega)
      have v3 : IntKind.i64.wrap ((y.1.tmod n + n).tmod n) = (y.1.tmod n + n).tmod n := IntWalk.i64_in _ (by omega)
      have hgn : ((y.1.tmod n + n).tmod n == lf) = goes n lf y.1 := rfl
      clear hy hst k1 k3 hrow q0 q2
      cases hg : goes n lf y.1
      · rw [hg] at hgn
        have HE : Hid (out ++ [y] = dropM (goes n lf) (m.take (j + 1))) := Lib.hid (by rw [HST.out, hg]; rfl)
        have hbn := bl_al (bl0 wr) (.cells #[.int .i64 y.1, .int .i64 y.2] 39)
        have hS := HS.out.below hbn
        have HBN := Lib.hid (hbn.mono HS.out.base)
        clear hg HST hbn
        go_wp2_with (at_builtin; refine append_its (W := wr.alloc (.cells #[.int .i64 y.1, .int .i64 y.2] 39)) rfl _ _ rfl (l1 := RC q r (.slice (some ⟨g, 0, none⟩) m.length cap) m l) (l2 := []) (m := out) (n := [y]) (B := B) hS (by omega) (by simp) (by rfl) ⟨wr.heap.size, 0, none⟩ 1 (by rfl) (item_row y) ?_)
        intro v' W3 h3 hb3
        have H3 := Lib.hid h3
        have HB3 := Lib.hid ((HB.out.trans HBN.out).trans hb3)
        clear h3 hb3 hS d0 d1 q1 zd zq
        go_wp2
        go_roundw
        case rel => exact ⟨j + 1, out ++ [y], by omega, by go_num, by congr 1; rw [List.length_append, List.length_singleton]; omega, HE, H3, HB3⟩
        case measure => simp [intOf]; omega
      · rw [hg] at hgn
        have HE : Hid (out = dropM (goes n lf) (m.take (j + 1))) := Lib.hid (by rw [HST.out, hg]; simp)
        have hw1 : IntKind.i64.wrap ((j : Int) - (out.length : Int) + 1) = (j : Int) - (out.length : Int) + 1 := IntWalk.i64_in _ (by omega)
        clear hg HST
        go_wp2
        go_roundw
        case rel => exact ⟨j + 1, out, by omega, by go_num, by congr 1; omega, HE, HS, HB⟩
        case measure => simp [intOf]; omega
    · obtain rfl : j = N := by omega
      have hge : ¬ (j : Int) < (j : Int) := by omega
      have heq : out = dropM (goes n lf) m := by rw [HO.out, ← HN.out, List.take_length]
      have HT := Lib.hid (RC.put HS.out)
      have HBE := Lib.hid (HB.out.setCell (p := ⟨q, 1, none⟩) q3 (.slice oa out.length oc))
      have HEQ := Lib.hid heq
      clear hrow heq HS HO
      go_wp2
      go_ret
      exact ⟨by rw [← HEQ.out]; rfl, ⟨_, by rw [← HEQ.out]; exact HT.out⟩, HBE.out⟩
set_option maxRecDepth 100000 in
set_option maxHeartbeats 4000000 in
theorem rkeys_any {B q : Nat} {r : Int} {v : Value} {m : List IT} {l : List Own} (w : World) (h : Sep w B (RC q r v m l)) (hm : m.length ≤ 800) :
    Calls Try.prog 24 #[.pointer (some ⟨q, 0, none⟩)] w fun e w' => ∃ v', e = .returned v' ∧ Turned (fun _ => False) w w' (RowO 3 1 v' m.length (cellsI (m.map Prod.fst))) := by
  obtain ⟨a, cap, rfl, _, hrow⟩ := RC.row h
  obtain ⟨q0, q1, q2, q3⟩ := RC.cells h
  obtain ⟨N, hN⟩ : ∃ N, m.length = N := ⟨_, rfl⟩
  rw [hN] at hm q1 ⊢
  have HN := Lib.hid hN
  have HR := Lib.hid hrow
  have HQ := Lib.hid q1
  have HS0 := Lib.hid (Sep.nilrow (show Sep w w.heap.size [] from Sep.nil (Nat.le_refl _)))
  have HB0 := Lib.hid (bl0 w)
  clear h hN hrow q0 q1 q2
  go_enter Try.func24, Try.ntmps24
  go_wp2_with fail
  go_loopw [3, 4] (fun s i wr => ∃ (j : Nat) (out : List Int), j ≤ N ∧ i = .int .i64 j ∧ out.length = j ∧ Hid (out = (m.map Prod.fst).take j) ∧ Hid (Sep wr w.heap.size ([] ++ [RowO 3 1 s out.length (cellsI out)])) ∧ Hid (Below w.heap.size w wr)) (fun _ i _ => N - (intOf i).toNat)
  case atStart => exact ⟨0, [], Nat.zero_le _, rfl, rfl, Lib.hid (by simp), HS0, HB0⟩
  case round =>
    obtain ⟨j, out, hj, rfl, hol, HO, HS, HB⟩ := hrel
    subst hol
    have hj0 : (0 : Int) ≤ (out.length : Int) := by omega
    obtain ⟨oa, oc, rfl, _, hoc, _⟩ := Sep.rowv (l1 := []) HS.out
    have c1 := cell_later HB.out HQ.out
    have zc := blk_lt c1
    by_cases hlt : out.length < N
    · have hlt2 : (out.length : Int) < (N : Int) := by omega
      obtain ⟨y, hy⟩ : ∃ y, m[out.length]? = some y := ⟨_, List.getElem?_eq_getElem (by rw [HN.out]; exact hlt)⟩
      obtain ⟨g, rfl, d0, d1⟩ := (HR.out.below HB.out).at hy
      have zd := blk_lt d0
      have HE : Hid (out ++ [y.1] = (m.map Prod.fst).take (out.length + 1)) := Lib.hid (by
        obtain ⟨i1, i2⟩ := List.getElem?_eq_some_iff.1 hy
        rw [List.take_succ_eq_append_getElem (by rw [List.length_map]; exact i1), List.getElem_map, i2, ← HO.out])
      have hS := HS.out
      clear hy
      go_wp2_with (at_builtin; refine wpList_append_intv (W := wr) rfl _ _ rfl y.1 (by rfl) (l1 := []) (l2 := []) (n := out.length) (is := out) (B := w.heap.size) hS (by omega) (by rfl) wr.heap.size (by rfl) (by rfl) ?_)
      intro v' W3 h3 hb3
      have H3 := Lib.hid (show Sep W3 w.heap.size ([] ++ [RowO 3 1 v' (out ++ [y.1]).length (cellsI (out ++ [y.1]))]) by rw [List.length_append]; exact h3)
      have HB3 := Lib.hid (HB.out.trans hb3)
      clear h3 hb3 hS d0 d1 zd c1 zc
      go_wp2
      go_roundw
      case rel => exact ⟨out.length + 1, out ++ [y.1], by omega, by go_num, by rw [List.length_append]; rfl, HE, H3, HB3⟩
      case measure => simp [intOf]; omega
    · obtain rfl : out.length = N := by omega
      have hge : ¬ (out.length : Int) < (out.length : Int) := by omega
      have HF : Hid (Turned (fun _ => False) w wr (RowO 3 1 (.slice oa out.length oc) out.length (cellsI (m.map Prod.fst)))) := Lib.hid (by
        have e : out = m.map Prod.fst := by rw [HO.out, List.take_of_length_le (by rw [List.length_map, HN.out]; exact Nat.le_refl _)]
        have := turned_of_one HS.out HB.out
        rw [← e]
        exact this)
      go_wp2
      go_ret
      exact ⟨_, rfl, HF.out⟩
end Go.Proofs.Ytbmpgafndpdnbaa
