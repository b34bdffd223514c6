/- Cache: rows of pointers: a clone, one more, whether one is among them. -/
import Derived.Test.YtbmpgafndpdnbaaEl
import Derived.LaidEqlPtr
namespace Go.Proofs.Ytbmpgafndpdnbaa
open Go.RowKit Go.Maps

abbrev ptrs (L : List (Nat × IT)) : List Value := L.map (fun y => ptrV y.1)
theorem rowP_own {W : World} {B n cap : Nat} {a : Option Addr} {L : List (Nat × IT)} {e : TypeId} (h : W.ownsRow B e 1 (.slice a n cap) n (ptrs L)) (hn : L.length = n) : RowP W a L := by
  have h0 := h
  rcases h.2 with ⟨_, e⟩ | ⟨g, c, cur, e, _⟩
  · exact .inl (List.eq_nil_of_length_eq_zero (by omega))
  · cases e
    refine .inr ⟨g, rfl, fun i y hy => ?_⟩
    have := h0.cells (g := g) rfl i (ptrV y.1) (by rw [List.getElem?_map, hy]; rfl)
    rwa [hadd] at this
theorem rowP_slice {W : World} {B n : Nat} {v : Value} {L : List (Nat × IT)} {e : TypeId} (h : W.ownsRow B e 1 v n (ptrs L)) : ∃ a cap, v = .slice a n cap ∧ L.length = n ∧ n ≤ cap ∧ RowP W a L := by
  have hl : L.length = n := by have := h.1; rwa [List.length_map, Nat.mul_one] at this
  rcases h.2 with ⟨e, h0⟩ | ⟨g, cap, cur, e, _, _, h2, _⟩
  · subst h0
    exact ⟨none, 0, e, hl, Nat.le_refl _, .inl (List.eq_nil_of_length_eq_zero hl)⟩
  · subst e
    exact ⟨_, cap, rfl, hl, h2, rowP_own h hl⟩
/-- One pointer more, to a row that may be nil. -/
theorem append_ptr1 {w : World} {ops : Array Oper} {rest : List Oper} {o : Oper} {a : Act} {Q : Exit → Act → World → Prop} (hgd : o.guard = none) (s x : Operand)
    (ho : o.op = .call { callee := .builtin .append, args := #[s, x], argTypes := #[70, 70] })
    {W : World} (b : Nat) (hw : w = W.alloc (.cells #[ptrV b] 73)) {B : Nat} {l1 l2 : List Own} {v : Value} {n : Nat} {xs : List Value} (h : Sep W B (l1 ++ RowO 73 1 v n xs :: l2)) (hn : n ≤ 1000000)
    (hs : a.eval s = v) (H : Nat) (hH : W.heap.size = H) (hx : a.eval x = .slice (some ⟨H, 0, none⟩) 1 1)
    (hQ : ∀ v' w', Sep w' B (l1 ++ RowO 73 1 v' (n + 1) (xs ++ [ptrV b]) :: l2) → Below B W w' → wpList Try.prog ops Q rest (a.put o.dst v') w') : wpList Try.prog ops Q (o :: rest) a w := by
  obtain ⟨i0, hi, hz0, hz1, hz2⟩ := info_parts Try.infoP1
  subst hw
  subst hH
  have hb := bl_al (bl0 W) (.cells #[ptrV b] 73)
  have h2 := h.below hb
  refine wpList_append_own_at _ hgd s x 70 ho 0 73 i0 (.pointer none) 1 8 Try.underlying70 hi hz0 hz1 hz2 rfl (by decide) _ n xs hs h2.own ⟨W.heap.size, 0, none⟩ 1 1 [ptrV b] hx rfl (cell_one_new W _ _) ?_ (by unfold maxLen; omega) (by omega) (Nat.zero_le _) (fun v' w' h3 h4 _ h6 => ?_)
  · intro u hu
    rw [List.mem_singleton.1 hu]
    rfl
  · obtain ⟨q1, q2⟩ := h2.grew h3 h4 h6
    exact hQ v' w' q1 ((hb.mono h.base).trans q2)
theorem nilrowP {W : World} {B : Nat} {l : List Own} {e : TypeId} (h : Sep W B l) : Sep W B (l ++ [RowO e 1 (.slice none 0 0) 0 (ptrs [])]) :=
  h.new (S := fun _ => False) (bl0 W) ⟨World.ownsRow_nil _ _ _ _, fun k => by simp [Value.ownBlock]⟩ (fun _ h => h.elim)

theorem eql_nilL1 (a : Option Addr) (n c : Nat) (w : World) : (binOp .eql 70 (.slice a n c) (.slice none 0 0)).run Try.prog w = .ok (.bool a.isNone) w := by
  cases a with
  | none => kernel_rfl
  | some q => obtain ⟨b, o, x⟩ := q; kernel_rfl
theorem eql_sameP1 (b : Nat) (w : World) : (binOp .eql 73 (ptrV b) (ptrV b)).run Try.prog w = .ok (.bool true) w := by
  obtain ⟨j, hj, _⟩ : ∃ j, Try.prog.info? 76 = some j ∧ j.size = 2 := by
    have h : (Try.prog.info? 76).map (·.size) = some 2 := by kernel_rfl
    exact Option.map_eq_some_iff.1 h
  exact run_eql_ptr_same w ⟨b, 0, none⟩ Try.underlying73 hj
/-- A block of cells. -/
def IsBlk (W : World) (b : Nat) : Prop := ∃ cs t, W.heap[b]? = some (.cells cs t (0, 0))
theorem eql_otherP1 (b c : Nat) (w : World) (hb : IsBlk w b) (hc : IsBlk w c) (hne : b ≠ c) : (binOp .eql 73 (ptrV b) (ptrV c)).run Try.prog w = .ok (.bool false) w := by
  obtain ⟨j, hj, hs⟩ : ∃ j, Try.prog.info? 76 = some j ∧ j.size = 2 := by
    have h : (Try.prog.info? 76).map (·.size) = some 2 := by kernel_rfl
    exact Option.map_eq_some_iff.1 h
  obtain ⟨cb, tb, h1⟩ := hb
  obtain ⟨cc, tc, h2⟩ := hc
  exact run_eql_ptr_other w (a := ⟨b, 0, none⟩) (b := ⟨c, 0, none⟩) Try.underlying73 hj (by rw [hs]; decide) (fun e => hne (by injection e)) h1 h2
set_option maxRecDepth 100000 in
set_option maxHeartbeats 4000000 in
theorem sclone_1 (a : Option Addr) (cap : Nat) (L : List (Nat × IT)) (w : World) (hl : L.length ≤ 1000) (hn : a = none → L = [] ∧ cap = 0) (hr : RowP w a L) :
    Calls Try.prog 41 #[.slice a L.length cap] w fun e w' => ∃ v, e = .returned v ∧ Turned (fun _ => False) w w' (RowO 73 1 v L.length (ptrs L)) := by
  cases a with
  | none =>
    obtain ⟨rfl, rfl⟩ := hn rfl
    have HB := Lib.hid (show Turned (fun _ => False) w w (RowO 73 1 (.slice none 0 0) 0 (ptrs [])) from ⟨.of_below (bl0 w), fun _ => False, ⟨World.ownsRow_nil _ _ _ _, fun k => by simp [Value.ownBlock]⟩, fun _ h => h.elim⟩)
    have hnil := eql_nilL1 none 0 0 w
    clear hn hr
    go_enter Try.func41, Try.ntmps41
    go_wp2
    go_ret
    exact ⟨_, rfl, HB.out⟩
  | some q =>
    obtain ⟨i0, hi, hz0, hz1, hz2⟩ := info_parts Try.infoP1
    have hb := bl_al (bl0 w) (.cells #[] 73)
    have hr2 := hr.below hb
    have ho : (w.alloc (.cells #[] 73)).ownsRow 0 73 1 (.slice (some ⟨w.heap.size, 0, none⟩) 0 0) 0 [] := ⟨rfl, .inr ⟨w.heap.size, 0, #[], rfl, Nat.zero_le _, heap_alloc_new w _, Nat.le_refl _, Nat.zero_le _, rfl, rfl⟩⟩
    have hcells : ∀ j u, (ptrs L)[j]? = some u → (w.alloc (.cells #[] 73)).cell? (q.add j) = some u := by
      intro j u hj
      rcases hr2 with e | ⟨g, e, h⟩
      · rw [e] at hj; simp [ptrs] at hj
      · rw [List.getElem?_map] at hj
        obtain ⟨y, hy, rfl⟩ := Option.map_eq_some_iff.1 hj
        cases e
        rw [hadd]
        exact h j y hy
    have HC := Lib.hid hcells
    have HO := Lib.hid ho
    have HBB := Lib.hid hb
    have HL1 := Lib.hid (show (ptrs L).length = L.length * 1 by rw [List.length_map, Nat.mul_one])
    have HL2 := Lib.hid (show ∀ u ∈ ptrs L, u.oneCell' = true from ptrs_one)
    have hnil := eql_nilL1 (some q) L.length cap w
    clear hn hr hb hr2 hcells ho
    go_enter Try.func41, Try.ntmps41
    go_wp2_with (at_builtin; refine wpList_append_own_at _ rfl _ _ 70 rfl 0 73 i0 (.pointer none) 1 8 Try.underlying70 hi hz0 hz1 hz2 rfl (by decide) _ _ _ rfl HO.out q L.length cap (ptrs L) rfl HL1.out HC.out HL2.out ?c3 ?c4 ?c5 ?_)
    case c3 => unfold maxLen; omega
    case c4 => omega
    case c5 => exact Nat.zero_le _
    intro v' w' q1 q2 _ q4
    have HT : Hid (Turned (fun _ => False) w w' (RowO 73 1 v' L.length (ptrs L))) := Lib.hid (by
      refine ⟨⟨(HBB.out.mono (Nat.zero_le _)).trans (KeptS.of_grown (S := fun k => k = w.heap.size) q2 (fun k e _ => by cases e; rfl)).1, fun k hk _ => ?_⟩, fun k => v'.ownBlock = some k, ⟨q1, fun _ => Iff.rfl⟩, fun k hk => .inr ?_⟩
      · exact (q2.block k (by have := HBB.out.size; omega) (fun e => by simp only [Value.ownBlock, Option.some.injEq] at e; omega)).trans (HBB.out.block k hk)
      · rcases q4 with e | e
        · rw [e] at hk; simp only [Value.ownBlock, Option.some.injEq] at hk; omega
        · rw [e] at hk; simp at hk; omega)
    clear q1 q2 q4
    go_wp2
    go_ret
    exact ⟨_, rfl, HT.out⟩
set_option maxRecDepth 100000 in
set_option maxHeartbeats 4000000 in
theorem sindex_1 (b : Nat) (a : Option Addr) (cap : Nat) (L : List (Nat × IT)) (w : World) (hl : L.length ≤ 1000) (hr : RowP w a L) (hB : IsBlk w b) (hBL : ∀ y ∈ L, IsBlk w y.1) :
    Calls Try.prog 50 #[.slice a L.length cap, ptrV b] w fun e w' => e = .returned (.int .i64 (idxV (L.findIdx? (fun y => decide (b = y.1))))) ∧ w = w' := by
  obtain ⟨n, hn⟩ : ∃ n, L.length = n := ⟨_, rfl⟩
  rw [hn] at hl ⊢
  have HN := Lib.hid hn
  have HR := Lib.hid hr
  have HQ := Lib.hid (fun (y : Nat × IT) (hy : y ∈ L) (hne : b ≠ y.1) => eql_otherP1 b y.1 w hB (hBL y hy) hne)
  clear hr hn hB hBL
  go_enter Try.func50, Try.ntmps50
  go_wp2_with fail
  go_loopw [5, 8] (fun _ i wr => ∃ k : Nat, k ≤ n ∧ i = .int .i64 k ∧ Hid (∀ z ∈ L.take k, (fun y : Nat × IT => decide (b = y.1)) z = false) ∧ w = wr) (fun _ i _ => n - (intOf i).toNat)
  case atStart => exact ⟨0, Nat.zero_le _, rfl, (fun z hz => by simp at hz), rfl⟩
  case round =>
    obtain ⟨k, hk, rfl, hall, rfl⟩ := hrel
    have hk0 : (0 : Int) ≤ (k : Int) := by omega
    by_cases hlt : k < n
    · have hlt2 : (k : Int) < (n : Int) := by omega
      have hkl : k < L.length := by rw [HN.out]; exact hlt
      obtain ⟨y, hy⟩ : ∃ y, L[k]? = some y := ⟨_, List.getElem?_eq_getElem hkl⟩
      obtain ⟨g, rfl, c0⟩ : ∃ g, a = some ⟨g, 0, none⟩ ∧ w.cell? ⟨g, k, none⟩ = some (ptrV y.1) := by
        rcases HR.out with e | ⟨g, e, h⟩
        · rw [e] at hy; simp at hy
        · exact ⟨g, e, h k y hy⟩
      have HY := Lib.hid hy
      have zc := blk_lt c0
      clear hy hkl
      by_cases he : b = y.1
      · have HX := Lib.hid (show idxV (L.findIdx? (fun y => decide (b = y.1))) = k by rw [findIdx_step hall.out HY.out (decide_eq_true he)]; rfl)
        subst he
        have hq := eql_sameP1 y.1 w
        go_wp2
        go_ret
        exact ⟨ret_int HX.out.symm, rfl⟩
      · have HE := Lib.hid (show ∀ z ∈ L.take (k + 1), (fun y : Nat × IT => decide (b = y.1)) z = false from fun z hz => by
          have hkl := (List.getElem?_eq_some_iff.1 HY.out).1
          have h2 := (List.getElem?_eq_some_iff.1 HY.out).2
          rw [List.take_succ_eq_append_getElem hkl, h2, List.mem_append, List.mem_singleton] at hz
          rcases hz with hz | rfl
          · exact hall.out z hz
          · exact decide_eq_false he)
        have hq := HQ.out y (List.mem_of_getElem? HY.out) he
        go_wp2
        go_roundw
        case rel => exact ⟨k + 1, by omega, by go_num, HE, trivial⟩
        case measure => simp [intOf]; omega
    · obtain rfl : k = n := by omega
      have hge : ¬ (k : Int) < (k : Int) := by omega
      have HX := Lib.hid (show idxV (L.findIdx? (fun y => decide (b = y.1))) = -1 by rw [findIdx_end (fun z hz => hall.out z (by rw [← HN.out, List.take_length]; exact hz))]; rfl)
      go_wp2
      go_ret
      exact ⟨ret_int HX.out.symm, rfl⟩
set_option maxRecDepth 100000 in
set_option maxHeartbeats 4000000 in
theorem scontains_1 (b : Nat) (a : Option Addr) (cap : Nat) (L : List (Nat × IT)) (w : World) (hl : L.length ≤ 1000) (hr : RowP w a L) (hB : IsBlk w b) (hBL : ∀ y ∈ L, IsBlk w y.1) :
    Calls Try.prog 44 #[.slice a L.length cap, ptrV b] w fun e w' => e = .returned (.bool (L.findIdx? (fun y => decide (b = y.1))).isSome) ∧ w = w' := by
  have HI := Lib.hid (sindex_1 b a cap L w hl hr hB hBL)
  have hge := idxV_ge (L.findIdx? (fun y => decide (b = y.1)))
  clear hr hB hBL
  generalize L.findIdx? (fun y => decide (b = y.1)) = o at *
  generalize idxV o = z at *
  go_enter Try.func44, Try.ntmps44
  go_wp2_with fail
  refine HI.out.mono ?_
  rintro e w2 ⟨rfl, rfl⟩
  have HG := Lib.hid hge
  clear HI hge
  go_wp2
  go_ret
  exact ⟨by rw [← HG.out]; rfl, rfl⟩
set_option maxRecDepth 100000 in
set_option maxHeartbeats 4000000 in
/-- The closure that tells whether a thing is to go. -/
theorem drop1_1 (b G : Nat) (a : Option Addr) (cap : Nat) (L : List (Nat × IT)) (w : World) (hl : L.length ≤ 1000) (hG : w.cell? ⟨G, 0, none⟩ = some (.slice a L.length cap)) (hr : RowP w a L) (hB : IsBlk w b) (hBL : ∀ y ∈ L, IsBlk w y.1) :
    Calls Try.prog 43 #[ptrV b, .pointer (some ⟨G, 0, none⟩)] w fun e w' => e = .returned (.bool (L.findIdx? (fun y => decide (b = y.1))).isSome) ∧ w = w' := by
  have HC := Lib.hid (scontains_1 b a cap L w hl hr hB hBL)
  have zG := blk_lt hG
  clear hr hB hBL
  generalize (L.findIdx? (fun y => decide (b = y.1))).isSome = t at *
  go_enter Try.func43, Try.ntmps43
  go_wp2_with fail
  refine HC.out.mono ?_
  rintro e w2 ⟨rfl, rfl⟩
  clear HC
  go_wp2
  go_ret
  exact ⟨rfl, rfl⟩
end Go.Proofs.Ytbmpgafndpdnbaa
