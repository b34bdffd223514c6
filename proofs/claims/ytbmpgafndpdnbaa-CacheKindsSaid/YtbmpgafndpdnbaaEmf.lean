/- Cache of names: Keys; the calls, of one cache among other things. -/
import Derived.Test.YtbmpgafndpdnbaaEme
namespace Go.Proofs.Ytbmpgafndpdnbaa
open Go.RowKit Go.Maps

abbrev NE := Int × ByteArray
def flatE (es : List NE) : List Value := es.flatMap (fun e => [.int .i64 e.1, .string e.2])
theorem flatE_cons (e : NE) (es : List NE) : flatE (e :: es) = .int .i64 e.1 :: .string e.2 :: flatE es := rfl
theorem flatE_len : ∀ es : List NE, (flatE es).length = es.length * 2
  | [] => rfl
  | e :: es => by
    have := flatE_len es
    rw [flatE_cons, List.length_cons, List.length_cons, List.length_cons]
    omega
theorem flatE_at : ∀ (es : List NE) (i : Nat) (e : NE), es[i]? = some e → (flatE es)[i * 2]? = some (.int .i64 e.1) ∧ (flatE es)[i * 2 + 1]? = some (.string e.2)
  | [], i, e, h => by simp at h
  | y :: es, 0, e, h => by simp at h; subst h; simp [flatE_cons]
  | y :: es, i + 1, e, h => by
    have := flatE_at es i e (by simpa using h)
    rw [flatE_cons, show (i + 1) * 2 = i * 2 + 1 + 1 by omega]
    simpa using this
theorem flatE_set : ∀ (es : List NE) (n : Nat) (e : NE), flatE (es.set n e) = ((flatE es).set (n * 2) (.int .i64 e.1)).set (n * 2 + 1) (.string e.2)
  | [], n, e => by simp [flatE]
  | y :: es, 0, e => by simp [flatE_cons]
  | y :: es, n + 1, e => by
    have ih := flatE_set es n e
    rw [List.set_cons_succ, flatE_cons, flatE_cons, ih, show (n + 1) * 2 = n * 2 + 1 + 1 by omega]
    simp only [List.set_cons_succ]
def zE : NE := (0, ⟨#[]⟩)
def partE (xs : List NE) (k : Nat) : List NE := xs.take k ++ List.replicate (xs.length - k) zE
theorem partE_zero (xs : List NE) : partE xs 0 = List.replicate xs.length zE := by simp [partE]
theorem partE_all (xs : List NE) : partE xs xs.length = xs := by simp [partE]
theorem partE_len {xs : List NE} {k : Nat} (h : k ≤ xs.length) : (partE xs k).length = xs.length := by simp [partE]; omega
theorem partE_set {xs : List NE} {k : Nat} {x : NE} (h : xs[k]? = some x) : (partE xs k).set k x = partE xs (k + 1) := by
  obtain ⟨hk, e⟩ := List.getElem?_eq_some_iff.1 h
  unfold partE
  rw [List.set_append_right _ _ (by rw [List.length_take]; exact Nat.min_le_left _ _), List.length_take, Nat.min_eq_left (by omega), Nat.sub_self, List.take_succ_eq_append_getElem hk, e, List.append_assoc]
  congr 1
  rw [show xs.length - k = (xs.length - (k + 1)) + 1 by omega, List.replicate_succ]
  rfl
theorem Try.infoNm : (Try.prog.info? 56).map (fun i => (i.zero, i.size, i.bytes)) = some (some (.agg #[.int .i64 0, .string ⟨#[]⟩]), 2, 24) := by kernel_rfl
theorem made_two (n : Nat) : madeCells #[Value.int .i64 0, .string ⟨#[]⟩] (n * 2) = (flatE (List.replicate n zE)).toArray := by
  apply Array.ext
  · simp [madeCells, flatE_len]
  · intro i h1 h2
    have hi : i < n * 2 := by simpa [madeCells] using h1
    have hz : (List.replicate n zE)[i / 2]? = some zE := by rw [List.getElem?_replicate, if_pos (by omega)]
    obtain ⟨f0, f1⟩ := flatE_at _ _ _ hz
    have hr : (flatE (List.replicate n zE)).toArray[i]? = some ((flatE (List.replicate n zE)).toArray[i]) := Array.getElem?_eq_getElem h2
    rw [List.getElem?_toArray] at hr
    rcases Nat.mod_two_eq_zero_or_one i with q | q
    · have e : i / 2 * 2 = i := by omega
      rw [e] at f0
      rw [f0] at hr
      have hr' := Option.some.inj hr
      rw [← hr']
      simp [madeCells, q, zE]
    · have e : i / 2 * 2 + 1 = i := by omega
      rw [e] at f1
      rw [f1] at hr
      have hr' := Option.some.inj hr
      rw [← hr']
      simp [madeCells, q, zE]
theorem make_nm (n : Nat) (hn : n ≤ 1048576) (w : World) : (Instr.makeSlice 63 (.int .i64 (n : Int)) (.int .i64 (n : Int))).run Try.prog w = .ok (.slice (some ⟨w.heap.size, 0, none⟩) n n) (w.alloc (.cells (flatE (List.replicate n zE)).toArray 56)) := by
  obtain ⟨i0, hi, hz0, hz1, hz2⟩ := info_parts Try.infoNm
  have hr := run_make (P := Try.prog) w 63 56 i0 (.agg #[.int .i64 0, .string ⟨#[]⟩]) Try.underlying63 hi hz0 .i64 .i64 n n (by omega) (Int.le_refl _) (by rw [hz2]; omega) (by omega)
  simp only [Int.toNat_natCast, hz1] at hr
  rw [← made_two]
  exact hr
theorem made_ownE (w : World) (n : Nat) (hn : n ≤ 1048576) : (w.alloc (.cells (flatE (List.replicate n zE)).toArray 56)).ownsRow w.heap.size 56 2 (.slice (some ⟨w.heap.size, 0, none⟩) n n) n (flatE (List.replicate n zE)) :=
  ⟨by rw [flatE_len, List.length_replicate], .inr ⟨w.heap.size, n, _, rfl, Nat.le_refl _, heap_alloc_new w _, Nat.le_refl _, by unfold maxLen; omega, by simp [flatE_len], by simp [List.take_of_length_le, flatE_len]⟩⟩
abbrev namesOf (m : List IT) : List NE := m.map (fun x => (x.1, keyT))
/-- The row of names that was told. -/
abbrev NO (g : Nat) (m : List IT) : Own := RowO 56 2 (.slice (some ⟨g, 0, none⟩) m.length m.length) m.length (flatE (namesOf m))
set_option maxRecDepth 100000 in
set_option maxHeartbeats 4000000 in
theorem keys_c2 (p : Nat) (r : Int) (m : List IT) (S : Nat → Prop) (w : World) (h : (CO Try.c2 p r m).P w S) (hm : m.length ≤ 1000) :
    Calls Try.prog 32 #[.pointer (some ⟨p, 0, none⟩)] w fun e w' => ∃ g, e = .returned (.slice (some ⟨g, 0, none⟩) m.length m.length) ∧ Turned (fun _ => False) w w' (NO g m) := by
  obtain ⟨v, L, h1, rfl, _⟩ := h
  have hl : (L.map Prod.snd).length = L.length := List.length_map _
  rw [hl] at hm ⊢
  obtain ⟨a, cap, rfl, hcap, _⟩ := h1.any
  have hmk := fun w => make_nm L.length (by omega) w
  have c1 := h1.c1
  have zc := blk_lt c1
  have HC := Lib.hid h1
  obtain ⟨X, hX⟩ : ∃ X, namesOf (L.map Prod.snd) = X := ⟨_, rfl⟩
  have hXl : X.length = L.length := by rw [← hX]; simp
  have HX := Lib.hid hX
  have HO0 := Lib.hid (made_ownE w L.length (by omega))
  have HXL := Lib.hid hXl
  have HB0 := Lib.hid (bl_al (bl0 w) (.cells (flatE (List.replicate L.length zE)).toArray 56))
  have HC1 := Lib.hid (cell_later HB0.out c1)
  clear h1 hl hX hXl
  go_enter Try.func32, Try.ntmps32
  go_upto_region 4 with fail
  obtain ⟨W, hW⟩ : ∃ W, w.alloc (.cells (flatE (List.replicate L.length zE)).toArray 56) = W := ⟨_, rfl⟩
  rw [hW] at HO0 HB0 HC1 ⊢
  have c2 := HC1.out
  have zc2 := blk_lt c2
  clear c1 zc hmk hW
  go_wp2_with fail
  go_loopw [4, 5, 19] (fun _ _ i wr => ∃ k : Nat, k ≤ L.length ∧ i = .int .i64 k ∧ Hid (wr.ownsRow w.heap.size 56 2 (.slice (some ⟨w.heap.size, 0, none⟩) L.length L.length) L.length (flatE (partE X k))) ∧ Hid (Below w.heap.size w wr)) (fun _ _ i _ => L.length - (intOf i).toNat)
  case atStart => exact ⟨0, Nat.zero_le _, rfl, by rw [partE_zero, HXL.out]; exact HO0, HB0⟩
  case round =>
    obtain ⟨k, hk, rfl, HO, HB⟩ := hrel
    have hk0 : (0 : Int) ≤ (k : Int) := by omega
    by_cases hlt : k < L.length
    · have hlt2 : (k : Int) < (L.length : Int) := by omega
      obtain ⟨y, hy⟩ : ∃ y, L[k]? = some y := ⟨_, List.getElem?_eq_getElem hlt⟩
      obtain ⟨g, cap2, hs, _⟩ := HC.out.slice (by omega)
      obtain ⟨rfl, rfl⟩ : a = some ⟨g, 0, none⟩ ∧ cap = cap2 := by injection hs with q1 q2 q3; exact ⟨q1, q3⟩
      have h4 := HC.out.below HB.out
      have d0 := h4.ptr rfl hy
      have d1 := h4.cell (List.mem_of_getElem? hy) (j := 0) rfl
      have d2 := h4.cell (List.mem_of_getElem? hy) (j := 1) rfl
      have hXk : X[k]? = some (y.2.1, keyT) := by rw [← HX.out, List.getElem?_map, List.getElem?_map, hy]; rfl
      have hfr := HO.out.frozenAt (k * 2)
      have hfr1 := HO.out.frozenAt (k * 2 + 1)
      have hpl : (partE X k)[k]? = some ((partE X k)[k]'(by rw [partE_len (by rw [HXL.out]; omega), HXL.out]; exact hlt)) := List.getElem?_eq_getElem _
      generalize (partE X k)[k]'(by rw [partE_len (by rw [HXL.out]; omega), HXL.out]; exact hlt) = old at hpl
      obtain ⟨e0, e1⟩ := flatE_at _ _ _ hpl
      have hu := HO.out.cells (g := w.heap.size) rfl _ _ e0
      have hu1 := HO.out.cells (g := w.heap.size) rfl _ _ e1
      rw [hadd] at hu hu1
      have zd := blk_lt d0
      have ze := blk_lt d1
      have zu := blk_lt hu
      have HO2 : Hid (((wr.setCell ⟨w.heap.size, k * 2, none⟩ (.int .i64 y.2.1)).setCell ⟨w.heap.size, k * 2 + 1, none⟩ (.string keyT)).ownsRow w.heap.size 56 2 (.slice (some ⟨w.heap.size, 0, none⟩) L.length L.length) L.length (flatE (partE X (k + 1)))) := Lib.hid (by
        have := ((HO.out.stored (k * 2) (.int .i64 y.2.1)).1.stored (k * 2 + 1) (.string keyT)).1
        rw [← flatE_set (e := (y.2.1, keyT)), partE_set hXk] at this
        exact this)
      have HB2 := Lib.hid (bl_st (bl_st HB.out (Nat.le_refl _) (o := k * 2) (.int .i64 y.2.1)) (Nat.le_refl _) (o := k * 2 + 1) (.string keyT))
      clear h4 hy hXk hpl e0 e1
      go_wp2
      go_roundw
      case rel => exact ⟨k + 1, by omega, by go_num, HO2, HB2⟩
      case measure => simp [intOf]; omega
    · obtain rfl : k = L.length := by omega
      have hge : ¬ (L.length : Int) < (L.length : Int) := by omega
      have HF : Hid (Turned (fun _ => False) w wr (RowO 56 2 (.slice (some ⟨w.heap.size, 0, none⟩) L.length L.length) L.length (flatE X))) := Lib.hid (by
        have ho := hown_base HO.out (Nat.zero_le _)
        rw [← HXL.out, partE_all] at ho
        rw [← HXL.out]
        refine ⟨.of_below HB.out, fun k => k = w.heap.size, ⟨ho, fun k => ?_⟩, fun k e => .inr (by rw [e]; exact Nat.le_refl _)⟩
        simp only [Value.ownBlock, Option.some.injEq]
        exact eq_comm)
      have HXX := Lib.hid HX.out
      go_wp2
      go_ret
      refine ⟨_, rfl, ?_⟩
      rw [show NO w.heap.size (L.map Prod.snd) = RowO 56 2 (.slice (some ⟨w.heap.size, 0, none⟩) L.length L.length) L.length (flatE X) by unfold NO; rw [List.length_map, HXX.out]]
      exact HF.out
end Go.Proofs.Ytbmpgafndpdnbaa
