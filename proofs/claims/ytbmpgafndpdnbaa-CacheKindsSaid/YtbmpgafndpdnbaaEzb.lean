/- Cache: the reference in memory; Find, without, first. -/
import Derived.Test.YtbmpgafndpdnbaaEza
namespace Go.Proofs.Ytbmpgafndpdnbaa
open Go.RowKit Go.Maps

def flatI (m : List IT) : List Value := m.flatMap (fun x => [.int .i64 x.1, .int .i64 x.2])
theorem flatI_cons (x : IT) (m : List IT) : flatI (x :: m) = .int .i64 x.1 :: .int .i64 x.2 :: flatI m := rfl
theorem flatI_len : ∀ m : List IT, (flatI m).length = m.length * 2
  | [] => rfl
  | x :: m => by
    have := flatI_len m
    rw [flatI_cons, List.length_cons, List.length_cons, List.length_cons]
    omega
theorem flatI_append (m n : List IT) : flatI (m ++ n) = flatI m ++ flatI n := by simp [flatI]
theorem flatI_at : ∀ (m : List IT) (i : Nat) (x : IT), m[i]? = some x → (flatI m)[i * 2]? = some (.int .i64 x.1) ∧ (flatI m)[i * 2 + 1]? = some (.int .i64 x.2)
  | [], i, x, h => by simp at h
  | y :: m, 0, x, h => by simp at h; subst h; simp [flatI_cons]
  | y :: m, i + 1, x, h => by
    have := flatI_at m i x (by simpa using h)
    rw [flatI_cons, show (i + 1) * 2 = i * 2 + 1 + 1 by omega]
    simpa using this
theorem flatI_one {m : List IT} : ∀ u ∈ flatI m, u.oneCell' = true := by
  intro u hu
  obtain ⟨x, _, h⟩ := List.mem_flatMap.1 hu
  simp at h
  rcases h with rfl | rfl <;> rfl
/-- A row of items. -/
def RowT (W : World) (a : Option Addr) (m : List IT) : Prop :=
  m = [] ∨ ∃ g, a = some ⟨g, 0, none⟩ ∧ ∀ (i : Nat) x, m[i]? = some x → W.cell? ⟨g, i * 2, none⟩ = some (.int .i64 x.1) ∧ W.cell? ⟨g, i * 2 + 1, none⟩ = some (.int .i64 x.2)
theorem RowT.below {W W' : World} {a : Option Addr} {m : List IT} (h : RowT W a m) (hb : Below W.heap.size W W') : RowT W' a m := by
  rcases h with h | ⟨g, e, h⟩
  · exact .inl h
  · exact .inr ⟨g, e, fun i x hx => ⟨cell_later hb (h i x hx).1, cell_later hb (h i x hx).2⟩⟩
theorem RowT.at {W : World} {a : Option Addr} {m : List IT} (h : RowT W a m) {i : Nat} {x : IT} (hx : m[i]? = some x) : ∃ g, a = some ⟨g, 0, none⟩ ∧ W.cell? ⟨g, i * 2, none⟩ = some (.int .i64 x.1) ∧ W.cell? ⟨g, i * 2 + 1, none⟩ = some (.int .i64 x.2) := by
  rcases h with rfl | ⟨g, e, h⟩
  · simp at hx
  · exact ⟨g, e, h i x hx⟩
abbrev TO (v : Value) (m : List IT) : Own := RowO 39 2 v m.length (flatI m)
abbrev RO (q : Nat) (r : Int) (v : Value) : Own := CellsO q #[.int .i64 r, v] 32
theorem TO.row {W : World} {B : Nat} {l1 l2 : List Own} {v : Value} {m : List IT} (h : Sep W B (l1 ++ TO v m :: l2)) : ∃ a cap, v = .slice a m.length cap ∧ m.length ≤ cap ∧ RowT W a m := by
  have ho := h.own
  rcases ho.2 with ⟨e, h0⟩ | ⟨g, cap, cur, e, _, _, h2, _⟩
  · exact ⟨none, 0, by rw [e, h0], by omega, .inl (List.eq_nil_of_length_eq_zero h0)⟩
  · refine ⟨_, cap, e, h2, .inr ⟨g, rfl, fun i x hx => ?_⟩⟩
    obtain ⟨e1, e2⟩ := flatI_at m i x hx
    have c1 := ho.cells (g := g) (by rw [e]; rfl) _ _ e1
    have c2 := ho.cells (g := g) (by rw [e]; rfl) _ _ e2
    rw [hadd] at c1 c2
    exact ⟨c1, c2⟩
theorem TO.nil {W : World} {B : Nat} {l : List Own} (h : Sep W B l) : Sep W B (l ++ [TO (.slice none 0 0) []]) :=
  h.new (S := fun _ => False) (bl0 W) ⟨World.ownsRow_nil _ _ _ _, fun k => by simp [Value.ownBlock]⟩ (fun _ h => h.elim)
theorem Try.infoIt : (Try.prog.info? 39).map (fun i => (i.zero, i.size, i.bytes)) = some (some (.agg #[.int .i64 0, .int .i64 0]), 2, 16) := by kernel_rfl
/-- Items more, to a row that may be nil. -/
theorem append_its {W : World} {ops : Array Oper} {rest : List Oper} {o : Oper} {a : Act} {Q : Exit → Act → World → Prop} (hgd : o.guard = none) (s x : Operand)
    (ho : o.op = .call { callee := .builtin .append, args := #[s, x], argTypes := #[30, 30] })
    {B : Nat} {l1 l2 : List Own} {v : Value} {m n : List IT} (h : Sep W B (l1 ++ TO v m :: l2)) (hm : m.length ≤ 1000) (hn : n.length ≤ 1000)
    (hs : a.eval s = v) (ad : Addr) (cap : Nat) (hx : a.eval x = .slice (some ad) n.length cap) (hr : RowT W (some ad) n)
    (hQ : ∀ v' w', Sep w' B (l1 ++ TO v' (m ++ n) :: l2) → Below B W w' → wpList Try.prog ops Q rest (a.put o.dst v') w') : wpList Try.prog ops Q (o :: rest) a W := by
  obtain ⟨i0, hi, hz0, hz1, hz2⟩ := info_parts Try.infoIt
  refine wpList_append_own_at _ hgd s x 30 ho 0 39 i0 (.agg #[.int .i64 0, .int .i64 0]) 2 16 Try.underlying30 hi hz0 hz1 hz2 rfl (by decide) _ m.length (flatI m) hs h.own ad n.length cap (flatI n) hx (flatI_len n) ?_ flatI_one (by unfold maxLen; omega) (by omega) (Nat.zero_le _) (fun v' w' h3 h4 _ h6 => ?_)
  · intro j u hj
    have hjl := (List.getElem?_eq_some_iff.1 hj).1
    rw [flatI_len] at hjl
    obtain ⟨y, hy⟩ : ∃ y, n[j / 2]? = some y := ⟨_, List.getElem?_eq_getElem (by omega)⟩
    obtain ⟨f0, f1⟩ := flatI_at n _ y hy
    obtain ⟨g, eg, c0, c1⟩ := hr.at hy
    injection eg with eg
    subst eg
    rw [hadd]
    rcases Nat.mod_two_eq_zero_or_one j with q | q
    · have e : j = j / 2 * 2 := by omega
      rw [e, f0] at hj
      cases hj
      rw [e]; exact c0
    · have e : j = j / 2 * 2 + 1 := by omega
      rw [e, f1] at hj
      cases hj
      rw [e]; exact c1
  · rw [← flatI_append] at h3
    obtain ⟨q1, q2⟩ := h.grew h3 h4 h6
    rw [← List.length_append] at q1
    exact hQ v' w' q1 q2
set_option maxRecDepth 100000 in
set_option maxHeartbeats 4000000 in
theorem rfind_any (k : Int) (q : Nat) (a : Option Addr) (cap : Nat) (m : List IT) (w : World) (hm : m.length ≤ 1000) (hq : w.cell? ⟨q, 1, none⟩ = some (.slice a m.length cap)) (hr : RowT w a m) :
    Calls Try.prog 15 #[.pointer (some ⟨q, 0, none⟩), .int .i64 k] w fun e w' => e = .returned (.int .i64 (idxV (findI k m))) ∧ w = w' := by
  obtain ⟨n, hn⟩ : ∃ n, m.length = n := ⟨_, rfl⟩
  rw [hn] at hm hq
  have HN := Lib.hid hn
  have HR := Lib.hid hr
  have zq := blk_lt hq
  clear hr hn
  go_enter Try.func15, Try.ntmps15
  go_wp2_with fail
  go_loopw [5] (fun i wr => ∃ j : Nat, j ≤ n ∧ i = .int .i64 j ∧ Hid (∀ z ∈ m.take j, (fun x : IT => decide (x.1 = k)) z = false) ∧ w = wr) (fun i _ => n - (intOf i).toNat)
  case atStart => exact ⟨0, Nat.zero_le _, rfl, (fun z hz => by simp at hz), rfl⟩
  case round =>
    obtain ⟨j, hj, rfl, hall, rfl⟩ := hrel
    have hj0 : (0 : Int) ≤ (j : Int) := by omega
    by_cases hlt : j < n
    · have hlt2 : (j : Int) < (n : Int) := by omega
      obtain ⟨y, hy⟩ : ∃ y, m[j]? = some y := ⟨_, List.getElem?_eq_getElem (by rw [HN.out]; exact hlt)⟩
      obtain ⟨g, rfl, c0, _⟩ := HR.out.at hy
      have HY := Lib.hid hy
      have zc := blk_lt c0
      clear hy
      by_cases he : y.1 = k
      · have hb : (y.1 == k) = true := by simp [he]
        have HX := Lib.hid (show idxV (findI k m) = j by unfold findI; rw [findIdx_step hall.out HY.out (decide_eq_true he)]; rfl)
        clear he
        go_wp2
        go_ret
        exact ⟨ret_int HX.out.symm, rfl⟩
      · have hb : (y.1 == k) = false := by simp [he]
        have HE := Lib.hid (show ∀ z ∈ m.take (j + 1), (fun x : IT => decide (x.1 = k)) z = false from fun z hz => by
          have hkl := (List.getElem?_eq_some_iff.1 HY.out).1
          have h2 := (List.getElem?_eq_some_iff.1 HY.out).2
          rw [List.take_succ_eq_append_getElem hkl, h2, List.mem_append, List.mem_singleton] at hz
          rcases hz with hz | rfl
          · exact hall.out z hz
          · exact decide_eq_false he)
        clear he
        go_wp2
        go_roundw
        case rel => exact ⟨j + 1, by omega, by go_num, HE, trivial⟩
        case measure => simp [intOf]; omega
    · obtain rfl : j = n := by omega
      have hge : ¬ (j : Int) < (j : Int) := by omega
      have HX := Lib.hid (show idxV (findI k m) = -1 by unfold findI; rw [findIdx_end (fun z hz => hall.out z (by rw [← HN.out, List.take_length]; exact hz))]; rfl)
      go_wp2
      go_ret
      exact ⟨ret_int HX.out.symm, rfl⟩
theorem erase_step {m : List IT} {j i : Nat} {x : IT} (hx : m[j]? = some x) : (m.take (j + 1)).eraseIdx i = (m.take j).eraseIdx i ++ (if j = i then [] else [x]) := by
  obtain ⟨h1, e1⟩ := List.getElem?_eq_some_iff.1 hx
  have hl : (m.take j).length = j := by rw [List.length_take]; omega
  rw [List.take_succ_eq_append_getElem h1, e1]
  by_cases h : i < j
  · rw [List.eraseIdx_append_of_lt_length (by omega), if_neg (by omega)]
  · rw [List.eraseIdx_append_of_length_le (by omega), hl, List.eraseIdx_of_length_le (l := m.take j) (by omega)]
    by_cases e : j = i
    · rw [if_pos e, e, Nat.sub_self]; rfl
    · rw [if_neg e, List.eraseIdx_of_length_le (by simp; omega)]
set_option maxRecDepth 100000 in
set_option maxHeartbeats 4000000 in
theorem rwithout_any (i : Nat) (q : Nat) (a : Option Addr) (cap : Nat) (m : List IT) (w : World) (hm : m.length ≤ 1000) (hi : i < m.length) (hq : w.cell? ⟨q, 1, none⟩ = some (.slice a m.length cap)) (hr : RowT w a m) :
    Calls Try.prog 40 #[.pointer (some ⟨q, 0, none⟩), .int .i64 (i : Int)] w fun e w' => ∃ v, e = .returned v ∧ Turned (fun _ => False) w w' (TO v (m.eraseIdx i)) := by
  obtain ⟨n, hn⟩ : ∃ n, m.length = n := ⟨_, rfl⟩
  rw [hn] at hm hq hi
  have HN := Lib.hid hn
  have HR := Lib.hid hr
  have HQ := Lib.hid hq
  have HS0 := Lib.hid (TO.nil (show Sep w w.heap.size [] from Sep.nil (Nat.le_refl _)))
  have HB0 := Lib.hid (bl0 w)
  clear hr hn hq
  go_enter Try.func40, Try.ntmps40
  go_wp2_with fail
  go_loopw [5, 6] (fun s i' wr => ∃ (j : Nat) (out : List IT), j ≤ n ∧ i' = .int .i64 j ∧ Hid (out = (m.take j).eraseIdx i) ∧ Hid (Sep wr w.heap.size ([] ++ [TO s out])) ∧ Hid (Below w.heap.size w wr)) (fun _ i _ => n - (intOf i).toNat)
  case atStart => exact ⟨0, [], Nat.zero_le _, rfl, Lib.hid (by simp), HS0, HB0⟩
  case round =>
    obtain ⟨j, out, hj, rfl, HO, HS, HB⟩ := hrel
    have hj0 : (0 : Int) ≤ (j : Int) := by omega
    have hol : out.length ≤ j := by
      have := HO.out
      rw [this]
      exact Nat.le_trans (List.length_eraseIdx_le _ _) (by rw [List.length_take]; omega)
    obtain ⟨oa, oc, rfl, hoc, _⟩ := TO.row (l1 := []) HS.out
    have c1 := cell_later HB.out HQ.out
    have zc := blk_lt c1
    by_cases hlt : j < n
    · have hlt2 : (j : Int) < (n : Int) := by omega
      obtain ⟨y, hy⟩ : ∃ y, m[j]? = some y := ⟨_, List.getElem?_eq_getElem (by rw [HN.out]; exact hlt)⟩
      obtain ⟨g, rfl, d0, d1⟩ := (HR.out.below HB.out).at hy
      have hst := erase_step (i := i) hy
      rw [← HO.out] at hst
      have HST := Lib.hid hst
      have zd := blk_lt d0
      clear hy hst
      by_cases he : j = i
      · have hb : ((j : Int) != (i : Int)) = false := by simp [he]
        have hb2 : (j != i) = false := by simp [he]
        have HE : Hid (out = (m.take (j + 1)).eraseIdx i) := Lib.hid (by rw [HST.out, if_pos he, List.append_nil])
        clear he HST
        go_wp2
        go_roundw
        case rel => exact ⟨j + 1, out, by omega, by go_num, HE, HS, HB⟩
        case measure => simp [intOf]; omega
      · have hb : ((j : Int) != (i : Int)) = true := bne_iff_ne.2 (fun e => he (by omega))
        have hb2 : (j != i) = true := by simp [he]
        have HE : Hid (out ++ [y] = (m.take (j + 1)).eraseIdx i) := Lib.hid (by rw [HST.out, if_neg he])
        have hbn := bl_al (bl0 wr) (.cells #[.int .i64 y.1, .int .i64 y.2] 39)
        have hS := HS.out.below hbn
        have HBN := Lib.hid hbn
        clear he HST hbn
        go_wp2_with (at_builtin; refine append_its (W := wr.alloc (.cells #[.int .i64 y.1, .int .i64 y.2] 39)) rfl _ _ rfl (l1 := []) (l2 := []) (m := out) (n := [y]) (B := w.heap.size) hS (by omega) (by simp) (by rfl) ⟨wr.heap.size, 0, none⟩ 1 (by rfl) (.inr ⟨wr.heap.size, rfl, ?_⟩) ?_)
        · intro t z hz
          match t, hz with
          | 0, hz => (simp at hz; subst hz; simp [go_sem])
          | t + 1, hz => simp at hz
        · intro v' W3 h3 hb3
          have H3 := Lib.hid h3
          have HB3 := Lib.hid ((bl_tr HB.out HBN.out).trans hb3)
          clear h3 hb3 hS
          go_wp2
          go_roundw
          case rel => exact ⟨j + 1, out ++ [y], by omega, by go_num, HE, H3, HB3⟩
          case measure => simp [intOf]; omega
    · obtain rfl : j = n := by omega
      have hge : ¬ (j : Int) < (j : Int) := by omega
      have HF : Hid (Turned (fun _ => False) w wr (TO (.slice oa out.length oc) (m.eraseIdx i))) := Lib.hid (by
        have e : out = m.eraseIdx i := by rw [HO.out, ← HN.out, List.take_length]
        rw [← e]
        exact turned_of_one HS.out HB.out)
      go_wp2
      go_ret
      exact ⟨_, rfl, HF.out⟩
end Go.Proofs.Ytbmpgafndpdnbaa
