/- Heap's laws: rows of numbers of one's own; order. -/
import Derived.Test.YtgcncimeedoplaaHw
import Derived.Test.YtgcncimeedoplaaHv
namespace Go.Proofs.Ytgcncimeedoplaa
open Go.RowKit Go.Maps

def cellsI (is : List Int) : List Value := is.map (Value.int .i64)
theorem cellsI_len (is : List Int) : (cellsI is).length = is.length := by simp [cellsI]
theorem cellsI_at {is : List Int} {i : Nat} (h : i < is.length) : (cellsI is)[i]? = some (.int .i64 (is.getD i 0)) := by
  simp [cellsI, List.getD_eq_getElem?_getD, h]
theorem cellsI_snoc (is : List Int) (x : Int) : cellsI is ++ [.int .i64 x] = cellsI (is ++ [x]) := by simp [cellsI]
theorem Sep.grew {W W' : World} {B : Nat} {l1 l2 : List Own} {e : TypeId} {size n n' : Nat} {v v' : Value} {xs xs' : List Value} (h : Sep W B (l1 ++ RowO e size v n xs :: l2)) (ho : W'.ownsRow 0 e size v' n' xs') (hg : W.grownBy W' v.ownBlock)
    (hl : v'.ownBlock = v.ownBlock ∨ v'.ownBlock = some W.heap.size) : Sep W' B (l1 ++ RowO e size v' n' xs' :: l2) ∧ Below B W W' := by
  obtain ⟨S, h1, h2, h3⟩ := h.turn
  refine h3 W' (fun k => v'.ownBlock = some k) (RowO e size v' n' xs') (.of_grown hg (fun k e _ => (h1.2 k).2 e)) ⟨ho, fun _ => Iff.rfl⟩ (fun k hk => ?_)
  rcases hl with q | q
  · exact .inl ((h1.2 k).2 (q ▸ hk))
  · rw [q] at hk
    cases hk
    exact .inr (Nat.le_refl _)
theorem Sep.own {W : World} {B : Nat} {l1 l2 : List Own} {e : TypeId} {size n : Nat} {v : Value} {xs : List Value} (h : Sep W B (l1 ++ RowO e size v n xs :: l2)) : W.ownsRow 0 e size v n xs := by
  obtain ⟨S, h1, _⟩ := h.at
  exact h1.1
theorem Try.infoI : (Try.prog.info? 3).map (fun i => (i.zero, i.size, i.bytes)) = some (some (.int .i64 0), 1, 8) := by kernel_rfl
theorem iown_empty (w : World) : (w.alloc (.cells #[] 3)).ownsRow 0 3 1 (.slice (some ⟨w.heap.size, 0, none⟩) 0 0) 0 (cellsI []) :=
  ⟨rfl, .inr ⟨w.heap.size, 0, #[], rfl, Nat.zero_le _, heap_alloc_new w _, Nat.le_refl _, Nat.zero_le _, rfl, rfl⟩⟩
/-- An empty row of numbers. -/
theorem Sep.ints {W : World} {B : Nat} {l : List Own} (h : Sep W B l) : Sep (W.alloc (.cells #[] 3)) B (l ++ [RowO 3 1 (.slice (some ⟨W.heap.size, 0, none⟩) 0 0) 0 (cellsI [])]) :=
  h.new (S := fun k => k = W.heap.size) (bl_al (bl0 W) _) ⟨iown_empty W, fun k => by simp only [Value.ownBlock, Option.some.injEq]; exact eq_comm⟩ (fun k e => by rw [e]; exact Nat.le_refl _)
/-- One number more. -/
theorem wpList_append_int {w : World} {ops : Array Oper} {rest : List Oper} {o : Oper} {a : Act} {Q : Exit → Act → World → Prop} (hgd : o.guard = none) (s x : Operand)
    (ho : o.op = .call { callee := .builtin .append, args := #[s, x], argTypes := #[36, 36] })
    {W : World} (z : Int) (hw : w = W.alloc (.cells #[.int .i64 z] 3)) {B : Nat} {l1 l2 : List Own} {g n cap : Nat} {is : List Int} (h : Sep W B (l1 ++ RowO 3 1 (.slice (some ⟨g, 0, none⟩) n cap) n (cellsI is) :: l2)) (hn : n ≤ 1000000)
    (hs : a.eval s = .slice (some ⟨g, 0, none⟩) n cap) (H : Nat) (hH : W.heap.size = H) (hx : a.eval x = .slice (some ⟨H, 0, none⟩) 1 1)
    (hQ : ∀ g' cap' w', Sep w' B (l1 ++ RowO 3 1 (.slice (some ⟨g', 0, none⟩) (n + 1) cap') (n + 1) (cellsI (is ++ [z])) :: l2) → Below B W w' → wpList Try.prog ops Q rest (a.put o.dst (.slice (some ⟨g', 0, none⟩) (n + 1) cap')) w') : wpList Try.prog ops Q (o :: rest) a w := by
  obtain ⟨i0, hi, hz0, hz1, hz2⟩ := info_parts Try.infoI
  subst hw
  subst hH
  have hb := bl_al (bl0 W) (.cells #[.int .i64 z] 3)
  have h2 := h.below hb
  refine wpList_append_own_at _ hgd s x 36 ho 0 3 i0 (.int .i64 0) 1 8 Try.underlying36 hi hz0 hz1 hz2 rfl (by decide) _ n (cellsI is) hs h2.own ⟨W.heap.size, 0, none⟩ 1 1 [.int .i64 z] hx rfl (cell_one_new W _ _) ?_ (by unfold maxLen; omega) (by omega) (Nat.zero_le _) (fun v' w' h3 h4 _ h6 => ?_)
  · intro u hu
    rw [List.mem_singleton.1 hu]
    rfl
  · obtain ⟨g', cap', rfl⟩ : ∃ g' cap', v' = .slice (some ⟨g', 0, none⟩) (n + 1) cap' := by
      rcases h3.2 with ⟨_, e⟩ | ⟨g', cap', cur, e, _⟩
      · omega
      · exact ⟨g', cap', e⟩
    rw [cellsI_snoc] at h3
    obtain ⟨q1, q2⟩ := h2.grew h3 h4 h6
    exact hQ g' cap' w' q1 ((hb.mono h.base).trans q2)

theorem outN_step {n : Nat} {m : List Th} (h : m.isEmpty = false) : outN (n + 1) m = firstT m :: outN n (popM m) := by rw [outN, if_neg (by rw [h]; decide)]
theorem outN_end {n : Nat} {m : List Th} (h : m.isEmpty = true) : outN n m = [] := by
  cases n with
  | zero => rfl
  | succ n => rw [outN, if_pos h]
theorem popM_end {m : List Th} (h : m.isEmpty = true) : popM m = [] := by
  cases m with
  | nil => rfl
  | cons a l => cases h

set_option maxRecDepth 100000 in
set_option maxHeartbeats 4000000 in
theorem order_sep {w : World} {B : Nat} {l1 l2 : List Own} {p : Nat} {m : List Th} {n : Nat} (h : Sep w B (l1 ++ HeapO p m :: l2)) (hm : m.length ≤ 1000) (hn : n ≤ 1000) :
    Calls Try.prog 25 #[.pointer (some ⟨p, 0, none⟩), .int .i64 (n : Int)] w fun e w' => ∃ g cap m', e = .returned (.slice (some ⟨g, 0, none⟩) ((outN n m).map Th.id).length cap) ∧
      Sep w' B (l1 ++ HeapO p m' :: (l2 ++ [RowO 3 1 (.slice (some ⟨g, 0, none⟩) ((outN n m).map Th.id).length cap) ((outN n m).map Th.id).length (cellsI ((outN n m).map Th.id))])) ∧ Below B w w' := by
  obtain ⟨X, hX⟩ : ∃ X, (outN n m).map Th.id = X := ⟨_, rfl⟩
  rw [hX]
  have h2 := h.ints
  have hA := (bl_al (bl0 w) (.cells #[] 3)).mono h.base
  rw [List.append_assoc, List.cons_append] at h2
  have HX := Lib.hid hX
  clear h hX
  go_enter Try.func25, Try.ntmps25
  go_wp2
  go_loopw [5, 6] (fun s i wr => ∃ (k : Nat) (m' : List Th) (is : List Int) (g cap : Nat), k ≤ n ∧ i = .int .i64 k ∧ s = .slice (some ⟨g, 0, none⟩) is.length cap ∧ Hid (is ++ (outN (n - k) m').map Th.id = X) ∧ m'.length ≤ 1000 ∧ is.length ≤ k ∧ Sep wr B (l1 ++ HeapO p m' :: (l2 ++ [RowO 3 1 (.slice (some ⟨g, 0, none⟩) is.length cap) is.length (cellsI is)])) ∧ Below B w wr) (fun _ i _ => n - (intOf i).toNat)
  case atStart => exact ⟨0, m, [], w.heap.size, 0, Nat.zero_le _, rfl, rfl, Lib.hid (by simpa using HX.out), hm, Nat.le_refl _, h2, hA⟩
  case round =>
    obtain ⟨k, m', is, g, cap, hk, rfl, rfl, HI, hml, hil, hS, hAr⟩ := hrel
    clear h2 hA
    by_cases hlt : k < n
    · have hlI : (k : Int) < (n : Int) := by omega
      have hk0 : (0 : Int) ≤ (k : Int) := by omega
      have hk1 : (k : Int) ≤ 1000 := by omega
      have hcall := pop_sep hS (by omega)
      have hpl := popM_len m'
      obtain ⟨d, hd⟩ : ∃ d, n - (k + 1) = d := ⟨_, rfl⟩
      have hnk : n - k = d + 1 := by omega
      have hI := HI.out
      rw [hnk] at hI
      have HD := Lib.hid hd
      clear hd hnk HI
      cases he : m'.isEmpty
      · rw [outN_step he, List.map_cons] at hI
        have HI2 : Hid ((is ++ [(firstT m').id]) ++ (outN d (popM m')).map Th.id = X) := Lib.hid (by rw [← hI]; simp)
        rw [he] at hcall
        generalize firstT m' = t at *
        generalize popM m' = m2 at *
        clear hI
        go_wp2_with fail
        refine hcall.mono ?_
        rintro e w4 ⟨rfl, h4, hb⟩
        have hA4 := hAr.trans hb
        have hB5 := bl_al (bl0 w4) (.cells #[.int .u64 t.F, .int .u64 t.H, .int .i64 t.Y, .int .i64 t.X] 24)
        have h5 := h4.below hB5
        have hA5 := hA4.trans (hB5.mono h4.base)
        clear hcall hb hS hAr hB5 h4 hA4
        go_wp2_with (at_builtin; refine wpList_append_int (W := w4.alloc (.cells #[.int .u64 t.F, .int .u64 t.H, .int .i64 t.Y, .int .i64 t.X] 24)) rfl _ _ rfl t.id (by rfl) (l1 := l1 ++ HeapO p m2 :: l2) (l2 := []) (g := g) (n := is.length) (cap := cap) (is := is) (B := B) (by rw [List.append_assoc, List.cons_append]; exact h5) (by omega) (by rfl) (w4.heap.size + 1) (by simp) (by rfl) ?_)
        intro g' cap' w6 h6 hb6
        have hA6 := hA5.trans hb6
        have H6 := Lib.hid h6
        have HA6 := Lib.hid hA6
        clear h5 hA5 h6 hb6 hA6
        go_wp2
        go_roundw
        case rel =>
          refine ⟨k + 1, m2, is ++ [t.id], g', cap', by omega, by go_num, by simp, by rw [HD.out]; exact HI2, by omega, by simp; omega, ?_, HA6.out⟩
          simpa using H6.out
        case measure => simp [intOf]; omega
      · rw [outN_end he] at hI
        rw [he, popM_end he] at hcall
        have HI2 : Hid (is ++ (outN d []).map Th.id = X) := Lib.hid (by rw [← hI, outN_end rfl])
        generalize firstT m' = t at *
        clear hI hpl
        go_wp2_with fail
        refine hcall.mono ?_
        rintro e w4 ⟨rfl, h4, hb⟩
        have hA4 := hAr.trans hb
        have hB5 := bl_al (bl0 w4) (.cells #[.int .u64 t.F, .int .u64 t.H, .int .i64 t.Y, .int .i64 t.X] 24)
        have h5 := h4.below hB5
        have hA5 := hA4.trans (hB5.mono h4.base)
        clear hcall hb hS hAr hB5 h4 hA4
        go_wp2
        go_roundw
        case rel => exact ⟨k + 1, [], is, g, cap, by omega, by go_num, rfl, by rw [HD.out]; exact HI2, by simp, by omega, h5, hA5⟩
        case measure => simp [intOf]; omega
    · have hge : (n : Int) ≤ (k : Int) := by omega
      have e : is = X := by
        have := HI.out
        rw [show n - k = 0 by omega] at this
        simpa [outN] using this
      subst e
      have HS := Lib.hid hS
      have HA := Lib.hid hAr
      clear hS hAr HI hlt hk
      go_wp2
      go_ret
      exact ⟨g, cap, m', rfl, HS.out, HA.out⟩
end Go.Proofs.Ytgcncimeedoplaa
