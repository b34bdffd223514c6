/- Cache: Keys. -/
import Derived.Test.YtbmpgafndpdnbaaEj
import Derived.Deep.CutRange
import Derived.Deep.OwnRows
namespace Go.Proofs.Ytbmpgafndpdnbaa
open Go.RowKit Go.Maps

theorem made_eq (n : Nat) (v : Value) : madeCells #[v] n = Array.replicate n v := by
  apply Array.ext
  · simp [madeCells]
  · intro i h1 h2
    simp [madeCells, Nat.mod_one]
theorem make_intK (n : Nat) (hn : n ≤ 1048576) (w : World) : (Instr.makeSlice 47 (.int .i64 (n : Int)) (.int .i64 (n : Int))).run Try.prog w = .ok (.slice (some ⟨w.heap.size, 0, none⟩) n n) (w.alloc (.cells (Array.replicate n (Value.int .i64 0)) 3)) := by
  have := run_make_row' (P := Try.prog) 47 3 (.int .i64 0) 8 Try.underlying47 Try.infoI rfl .i64 .i64 n (by omega) (by omega) w
  rw [made_eq] at this
  exact this
theorem made_ownK (w : World) (n : Nat) (hn : n ≤ 1048576) : (w.alloc (.cells (Array.replicate n (Value.int .i64 0)) 3)).ownsRow w.heap.size 3 1 (.slice (some ⟨w.heap.size, 0, none⟩) n n) n (cellsI (List.replicate n 0)) := by
  have h := World.ownsRow_lit (base := w.heap.size) (e := 3) (size := 1) w (Array.replicate n (Value.int .i64 0)) n (Nat.le_refl _) (by unfold maxLen; omega) (by simp)
  simpa [cellsI] using h
theorem cellsI_set (is : List Int) (j : Nat) (x : Int) : cellsI (is.set j x) = (cellsI is).set j (.int .i64 x) := by simp [cellsI, List.map_set]
/-- A row that is filled from its beginning on. -/
def partF (xs : List Int) (k : Nat) : List Int := xs.take k ++ List.replicate (xs.length - k) 0
theorem partF_zero (xs : List Int) : partF xs 0 = List.replicate xs.length 0 := by simp [partF]
theorem partF_all (xs : List Int) : partF xs xs.length = xs := by simp [partF]
theorem partF_set {xs : List Int} {k : Nat} {x : Int} (h : xs[k]? = some x) : (partF xs k).set k x = partF xs (k + 1) := by
  obtain ⟨hk, e⟩ := List.getElem?_eq_some_iff.1 h
  unfold partF
  rw [List.set_append_right _ _ (by rw [List.length_take]; exact Nat.min_le_left _ _), List.length_take, Nat.min_eq_left (by omega), Nat.sub_self, List.take_succ_eq_append_getElem hk, e, List.append_assoc]
  congr 1
  rw [show xs.length - k = (xs.length - (k + 1)) + 1 by omega, List.replicate_succ]
  rfl
set_option maxRecDepth 100000 in
set_option maxHeartbeats 4000000 in
theorem keys_c1 (p : Nat) (r : Int) (m : List IT) (S : Nat → Prop) (w : World) (h : (CO Try.c1 p r m).P w S) (hm : m.length ≤ 1000) :
    Calls Try.prog 23 #[.pointer (some ⟨p, 0, none⟩)] w fun e w' => ∃ g, e = .returned (.slice (some ⟨g, 0, none⟩) m.length m.length) ∧ Turned (fun _ => False) w w' (RowO 3 1 (.slice (some ⟨g, 0, none⟩) m.length m.length) m.length (cellsI (m.map Prod.fst))) := by
  obtain ⟨v, L, h1, rfl, _⟩ := h
  have hl : (L.map Prod.snd).length = L.length := List.length_map _
  rw [hl] at hm ⊢
  obtain ⟨a, cap, rfl, hcap, _⟩ := h1.any
  have hmk := fun w => make_intK L.length (by omega) w
  have c1 := h1.c1
  have zc := blk_lt c1
  have HC := Lib.hid h1
  obtain ⟨X, hX⟩ : ∃ X, (L.map Prod.snd).map Prod.fst = X := ⟨_, rfl⟩
  have hXl : X.length = L.length := by rw [← hX]; simp
  have HX := Lib.hid hX
  rw [hX]
  have HO0 := Lib.hid (made_ownK w L.length (by omega))
  have HXL := Lib.hid hXl
  have HB0 := Lib.hid (bl_al (bl0 w) (.cells (Array.replicate L.length (Value.int .i64 0)) 3))
  have HC1 := Lib.hid (cell_later HB0.out c1)
  clear h1 hl hX hXl
  go_enter Try.func23, Try.ntmps23
  go_upto_region 4 with fail
  obtain ⟨W, hW⟩ : ∃ W, w.alloc (.cells (Array.replicate L.length (Value.int .i64 0)) 3) = W := ⟨_, rfl⟩
  rw [hW] at HO0 HB0 HC1 ⊢
  have c2 := HC1.out
  have zc2 := blk_lt c2
  clear c1 zc hmk hW
  go_wp2_with fail
  go_loopw [4, 5, 19] (fun _ _ i wr => ∃ k : Nat, k ≤ L.length ∧ i = .int .i64 k ∧ Hid (wr.ownsRow w.heap.size 3 1 (.slice (some ⟨w.heap.size, 0, none⟩) L.length L.length) L.length (cellsI (partF X k))) ∧ Hid (Below w.heap.size w wr)) (fun _ _ i _ => L.length - (intOf i).toNat)
  case atStart => exact ⟨0, Nat.zero_le _, rfl, by rw [partF_zero, HXL.out]; exact HO0, HB0⟩
  case round =>
    obtain ⟨k, hk, rfl, HO, HB⟩ := hrel
    have hk0 : (0 : Int) ≤ (k : Int) := by omega
    by_cases hlt : k < L.length
    · have hlt2 : (k : Int) < (L.length : Int) := by omega
      obtain ⟨y, hy⟩ : ∃ y, L[k]? = some y := ⟨_, List.getElem?_eq_getElem hlt⟩
      obtain ⟨g, cap2, hs, _⟩ := HC.out.slice (by omega)
      obtain ⟨rfl, rfl⟩ : a = some ⟨g, 0, none⟩ ∧ cap = cap2 := by injection hs with q1 q2 q3; exact ⟨q1, q3⟩
      have h4 := HC.out.below HB.out
      have d0 := h4.ptr rfl hy
      have d1 := h4.cell (List.mem_of_getElem? hy) (j := 0) rfl
      have hXk : X[k]? = some y.2.1 := by rw [← HX.out, List.getElem?_map, List.getElem?_map, hy]; rfl
      have hfr := HO.out.frozenAt k
      have hrc : ∃ u, wr.cell? ⟨w.heap.size, k, none⟩ = some u := by
        have hlen : (cellsI (partF X k)).length = L.length := by rw [HO.out.1, Nat.mul_one]
        have := HO.out.cells (g := w.heap.size) rfl k _ (List.getElem?_eq_getElem (by omega))
        rw [hadd] at this
        exact ⟨_, this⟩
      obtain ⟨u, hu⟩ := hrc
      have zd := blk_lt d0
      have ze := blk_lt d1
      have zu := blk_lt hu
      have HO2 : Hid ((wr.setCell ⟨w.heap.size, k, none⟩ (.int .i64 y.2.1)).ownsRow w.heap.size 3 1 (.slice (some ⟨w.heap.size, 0, none⟩) L.length L.length) L.length (cellsI (partF X (k + 1)))) := Lib.hid (by
        have := (HO.out.stored k (.int .i64 y.2.1)).1
        rw [← cellsI_set, partF_set hXk] at this
        exact this)
      have HB2 := Lib.hid (bl_st HB.out (Nat.le_refl _) (o := k) (.int .i64 y.2.1))
      clear h4 hy hXk
      go_wp2
      go_roundw
      case rel => exact ⟨k + 1, by omega, by go_num, HO2, HB2⟩
      case measure => simp [intOf]; omega
    · obtain rfl : k = L.length := by omega
      have hge : ¬ (L.length : Int) < (L.length : Int) := by omega
      have HF : Hid (Turned (fun _ => False) w wr (RowO 3 1 (.slice (some ⟨w.heap.size, 0, none⟩) L.length L.length) L.length (cellsI X))) := Lib.hid (by
        have ho := hown_base HO.out (Nat.zero_le _)
        rw [← HXL.out, partF_all] at ho
        rw [← HXL.out]
        refine ⟨.of_below HB.out, fun k => k = w.heap.size, ⟨ho, fun k => ?_⟩, fun k e => .inr (by rw [e]; exact Nat.le_refl _)⟩
        simp only [Value.ownBlock, Option.some.injEq]
        exact eq_comm)
      go_wp2
      go_ret
      exact ⟨_, rfl, HF.out⟩
end Go.Proofs.Ytbmpgafndpdnbaa
