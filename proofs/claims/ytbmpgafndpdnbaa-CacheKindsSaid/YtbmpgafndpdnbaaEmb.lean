/- Cache of names: Peek, Get. -/
import Derived.Test.YtbmpgafndpdnbaaEma
namespace Go.Proofs.Ytbmpgafndpdnbaa
open Go.RowKit Go.Maps

abbrev pairV (x : Int) : Value := .agg #[.int .i64 x, .int .i64 x]
/-- The world as the call begins: the key in a box, a pair of noughts in one. -/
structure Beg2 (w W : World) (k : Int) : Prop where
  b : Below w.heap.size w W
  k0 : W.cell? ⟨w.heap.size, 0, none⟩ = some (.int .i64 k)
  k1 : W.cell? ⟨w.heap.size, 1, none⟩ = some (.string keyT)
  r0 : W.cell? ⟨w.heap.size + 1, 0, none⟩ = some (.int .i64 0)
  r1 : W.cell? ⟨w.heap.size + 1, 1, none⟩ = some (.int .i64 0)
  f0 : W.frozen? ⟨w.heap.size + 1, 0, none⟩ = false
  f1 : W.frozen? ⟨w.heap.size + 1, 1, none⟩ = false
theorem beg2 (w : World) (k : Int) : Beg2 w ((w.alloc (.cells #[.int .i64 k, .string keyT] 56)).alloc (.cells #[.int .i64 0, .int .i64 0] 57)) k :=
  ⟨bl_al (bl_al (bl0 w) _) _, by simp [go_sem], by simp [go_sem], by simp [go_sem], by simp [go_sem], by simp [go_sem], by simp [go_sem]⟩
theorem Beg2.later {w W W2 : World} {k : Int} (h : Beg2 w W k) (hb : Below W.heap.size W W2) : Beg2 w W2 k :=
  ⟨bl_tr h.b hb, cell_later hb h.k0, cell_later hb h.k1, cell_later hb h.r0, cell_later hb h.r1, frozen_later hb h.r0 h.f0, frozen_later hb h.r1 h.f1⟩
/-- A cell of a block that is nobody's is turned. -/
theorem scratch {o : Own} {S S' : Nat → Prop} {w W : World} {q : Nat} (hk : KeptS S w W) (hP : o.P W S') (hq : w.heap.size ≤ q) (hnq : ¬ S' q) (j : Nat) (u : Value) : KeptS S w (W.setCell ⟨q, j, none⟩ u) ∧ o.P (W.setCell ⟨q, j, none⟩ u) S' := by
  have hg := hgrown_set W q j u
  have hoth : ∀ k, k ≠ q → (W.setCell ⟨q, j, none⟩ u).heap[k]? = W.heap[k]? := fun k hk => Below.heap_setCell _ _ _ k hk
  have hb : Below 0 W (W.setCell ⟨q, j, none⟩ u) := ⟨hg.os, hg.tape, hg.output, hg.size, fun k hk => absurd hk (Nat.not_lt_zero k)⟩
  refine ⟨⟨hk.1.trans hb, fun k h1 h2 => (hoth k (by omega)).trans (hk.2 k h1 h2)⟩, o.keep hP hb (fun k hk' => hoth k (fun e => hnq (e ▸ hk')))⟩
set_option maxRecDepth 100000 in
set_option maxHeartbeats 2000000 in
theorem peek_c2 (k : Int) (p : Nat) (r : Int) (m : List IT) (S : Nat → Prop) (w : World) (h : (CO Try.c2 p r m).P w S) (hm : m.length ≤ 1000) :
    Calls Try.prog 30 #[.pointer (some ⟨p, 0, none⟩), nmV k] w fun e w' => e = .returned (.tuple #[pairV (peekV k m), .bool (findI k m).isSome]) ∧ Below w.heap.size w w' := by
  obtain ⟨v, L, h1, rfl, _⟩ := h
  obtain ⟨W, hW⟩ : ∃ W, (w.alloc (.cells #[.int .i64 k, .string keyT] 56)).alloc (.cells #[.int .i64 0, .int .i64 0] 57) = W := ⟨_, rfl⟩
  have hB : Beg2 w W k := by rw [← hW]; exact beg2 w k
  have h1W := h1.below hB.b
  have HP := Lib.hid (place_c2 k p v L r W h1W (by simpa using hm))
  have hmr := hm
  rw [List.length_map] at hmr
  have k0 := hB.k0
  have k1 := hB.k1
  have zk := blk_lt k0
  have HBG := Lib.hid hB
  unfold peekV
  cases e : findI k (L.map Prod.snd) with
  | none =>
    rw [e] at HP
    clear e h1 h1W hm hB
    go_enter Try.func30, Try.ntmps30
    go_wp2_with fail
    refine HP.out.mono ?_
    rintro e w2 ⟨rfl, hb⟩
    have h2 := HBG.out.later hb
    have r0 := h2.r0
    have r1 := h2.r1
    have f0 := h2.f0
    have f1 := h2.f1
    have zr := blk_lt r0
    have HB := Lib.hid h2.b
    clear hb HP h2 k0 k1 zk
    go_wp2
    refine bodyPost_ret (v := .tuple #[pairV 0, .bool false]) (by simp [results, Try.results30, go_sem, r0, r1, zr]) rfl ⟨rfl, ?_⟩
    first
      | exact HB.out
      | exact bl_al HB.out _
      | exact bl_st (bl_st HB.out (Nat.le_succ _) _) (Nat.le_succ _) _
      | exact bl_al (bl_st (bl_st HB.out (Nat.le_succ _) _) (Nat.le_succ _) _) _
      | exact bl_st (bl_st (bl_al HB.out _) (Nat.le_succ _) _) (Nat.le_succ _) _
  | some i =>
    rw [e] at HP
    obtain ⟨hi, hk, _⟩ := findI_some e
    rw [List.length_map] at hi
    obtain ⟨y, hy⟩ : ∃ y, L[i]? = some y := ⟨_, List.getElem?_eq_getElem hi⟩
    have hya : atI (L.map Prod.snd) i = y.2 := atI_of (by rw [List.getElem?_map, hy]; rfl)
    dsimp only
    rw [hya]
    obtain ⟨g, cap, rfl, hcap⟩ := h1.slice (by omega)
    have HC := Lib.hid h1W
    have HY := Lib.hid hy
    have hi0 : (0 : Int) ≤ (i : Int) := by omega
    have hi1 : (i : Int) < (L.length : Int) := by omega
    clear e hm hk hya h1 h1W hy hB
    go_enter Try.func30, Try.ntmps30
    go_wp2_with fail
    refine HP.out.mono ?_
    rintro e w2 ⟨rfl, hb⟩
    have h2 := HC.out.below hb
    have c1 := h2.c1
    have d0 := h2.ptr rfl HY.out
    have d1 := h2.cell (List.mem_of_getElem? HY.out) (j := 2) rfl
    have d2 := h2.cell (List.mem_of_getElem? HY.out) (j := 3) rfl
    have zc := blk_lt c1
    have zd := blk_lt d0
    have ze := blk_lt d1
    have h3 := HBG.out.later hb
    have r0 := h3.r0
    have r1 := h3.r1
    have f0 := h3.f0
    have f1 := h3.f1
    have zr := blk_lt r0
    have HB := Lib.hid h3.b
    clear hb HP h2 h3 k0 k1 zk
    try dsimp only [idxV, Option.isSome] at *
    go_wp2
    refine bodyPost_ret (v := .tuple #[pairV y.2.2, .bool true]) (by simp [results, Try.results30, go_sem, r0, r1]) rfl ⟨rfl, ?_⟩
    first
      | exact HB.out
      | exact bl_al HB.out _
      | exact bl_st (bl_st HB.out (Nat.le_succ _) _) (Nat.le_succ _) _
      | exact bl_al (bl_st (bl_st HB.out (Nat.le_succ _) _) (Nat.le_succ _) _) _
      | exact bl_st (bl_st (bl_al HB.out _) (Nat.le_succ _) _) (Nat.le_succ _) _
set_option maxRecDepth 100000 in
set_option maxHeartbeats 2000000 in
theorem get_c2 (k : Int) (p : Nat) (r : Int) (m : List IT) (S : Nat → Prop) (w : World) (h : (CO Try.c2 p r m).P w S) (hm : m.length ≤ 1000) :
    Calls Try.prog 28 #[.pointer (some ⟨p, 0, none⟩), nmV k] w fun e w' => e = .returned (.tuple #[pairV (peekV k m), .bool (findI k m).isSome]) ∧ Turned S w w' (CO Try.c2 p r (getM k m)) := by
  have h' := h
  obtain ⟨v, L, h1, rfl, h3⟩ := h
  obtain ⟨W, hW⟩ : ∃ W, (w.alloc (.cells #[.int .i64 k, .string keyT] 56)).alloc (.cells #[.int .i64 0, .int .i64 0] 57) = W := ⟨_, rfl⟩
  have hB : Beg2 w W k := by rw [← hW]; exact beg2 w k
  have h1W := h1.below hB.b
  have HP := Lib.hid (place_c2 k p v L r W h1W (by simpa using hm))
  have hmr := hm
  rw [List.length_map] at hmr
  have k0 := hB.k0
  have k1 := hB.k1
  have zk := blk_lt k0
  have HBG := Lib.hid hB
  unfold peekV getM
  cases e : findI k (L.map Prod.snd) with
  | none =>
    rw [e] at HP
    have HT := Lib.hid (fun w' => co_there (w' := w') h')
    clear e h1 h1W hm hB h3 h'
    go_enter Try.func28, Try.ntmps28
    go_wp2_with fail
    refine HP.out.mono ?_
    rintro e w2 ⟨rfl, hb⟩
    have h2 := HBG.out.later hb
    have r0 := h2.r0
    have r1 := h2.r1
    have f0 := h2.f0
    have f1 := h2.f1
    have zr := blk_lt r0
    have HB := Lib.hid h2.b
    clear hb HP h2 k0 k1 zk
    go_wp2
    refine bodyPost_ret (v := .tuple #[pairV 0, .bool false]) (by simp [results, Try.results28, go_sem, r0, r1, zr]) rfl ⟨rfl, HT.out _ ?_⟩
    first
      | exact HB.out
      | exact bl_al HB.out _
      | exact bl_st (bl_st HB.out (Nat.le_succ _) _) (Nat.le_succ _) _
      | exact bl_al (bl_st (bl_st HB.out (Nat.le_succ _) _) (Nat.le_succ _) _) _
      | exact bl_st (bl_st (bl_al HB.out _) (Nat.le_succ _) _) (Nat.le_succ _) _
  | some i =>
    rw [e] at HP
    obtain ⟨hi, hk, _⟩ := findI_some e
    rw [List.length_map] at hi
    obtain ⟨y, hy⟩ : ∃ y, L[i]? = some y := ⟨_, List.getElem?_eq_getElem hi⟩
    have hya : atI (L.map Prod.snd) i = y.2 := atI_of (by rw [List.getElem?_map, hy]; rfl)
    dsimp only
    rw [hya]
    obtain ⟨g, cap, rfl, hcap⟩ := h1.slice (by omega)
    have HC := Lib.hid h1W
    have HY := Lib.hid hy
    have H3 := Lib.hid h3
    have HGL := Lib.hid (h1.rowlt (g := g) rfl)
    have HOL := Lib.hid (fun k (hk : S k) => h1.lt ((h3 k).1 hk))
    have hi0 : (0 : Int) ≤ (i : Int) := by omega
    have hi1 : (i : Int) < (L.length : Int) := by omega
    have HI := Lib.hid hi
    clear e hm hk hya h1 h1W hy hB h3 h' hi
    go_enter Try.func28, Try.ntmps28
    go_wp2_with fail
    refine HP.out.mono ?_
    rintro e w2 ⟨rfl, hb⟩
    have h2 := HC.out.below hb
    have c1 := h2.c1
    have d0 := h2.ptr rfl HY.out
    have zc := blk_lt c1
    have zd := blk_lt d0
    have hgp : g ≠ p := fun e => h2.gp (by rw [e]; rfl)
    have HL := Lib.hid (lead_c2 p g L.length cap i y.1 _ w2 c1 hgp h2.row HI.out (Nat.le_succ_of_le hmr) ptrs_one)
    have H2 := Lib.hid h2
    have HBG2 := Lib.hid (HBG.out.later hb)
    clear hb HP h2 hgp k0 k1 zk
    try dsimp only [idxV, Option.isSome] at *
    go_wp2_with fail
    refine HL.out.mono ?_
    rintro e w3 ⟨rfl, ho, hk⟩
    have h4 := co_leads H2.out HY.out ho hk
    have d1 := h4.cell (y := y) (by unfold leadL; exact List.mem_cons_self) (j := 2) rfl
    have d2 := h4.cell (y := y) (by unfold leadL; exact List.mem_cons_self) (j := 3) rfl
    have ze := blk_lt d1
    have hng : ¬ (w.heap.size + 1 = g) := by have := HGL.out; omega
    have h5 := HBG2.out
    have r0 := hk.cell h5.r0 hng
    have r1 := hk.cell h5.r1 hng
    have f0 := hk.frozen h5.r0 h5.f0 hng
    have f1 := hk.frozen h5.r1 h5.f1 hng
    have zr := blk_lt r0
    have HT : ∀ x u, Hid (Turned S w ((w3.setCell ⟨w.heap.size + 1, 0, none⟩ x).setCell ⟨w.heap.size + 1, 1, none⟩ u) (CO Try.c2 p r (leadL i y.2 (L.map Prod.snd)))) := by
      intro x u
      have hsub : ∀ k, CB p (.slice (some ⟨g, 0, none⟩) L.length cap) (leadL i y L) k → S k := by
        rintro k (q | q | ⟨z, hz, q⟩)
        · exact (H3.out k).2 (.inl q)
        · exact (H3.out k).2 (.inr (.inl q))
        · refine (H3.out k).2 (.inr (.inr ⟨z, ?_, q⟩))
          unfold leadL at hz
          rcases List.mem_cons.1 hz with rfl | hz
          · exact List.mem_of_getElem? HY.out
          · exact List.mem_of_mem_eraseIdx hz
      have hS : ∀ k, S k → k < w.heap.size := fun k hk => HOL.out k hk
      have hnq : ¬ CB p (.slice (some ⟨g, 0, none⟩) L.length cap) (leadL i y L) (w.heap.size + 1) := fun hc => by have := hS _ (hsub _ hc); omega
      have hK : KeptS S w w3 := (KeptS.of_below h5.b).trans hk (fun k _ e => (H3.out k).2 (.inr (.inl (by rw [e]; rfl))))
      have hP : (CO Try.c2 p r (leadL i y.2 (L.map Prod.snd))).P w3 (CB p (.slice (some ⟨g, 0, none⟩) L.length cap) (leadL i y L)) := ⟨_, _, h4, leadL_map Prod.snd i y L, fun _ => Iff.rfl⟩
      obtain ⟨a1, a2⟩ := scratch hK hP (Nat.le_succ _) hnq 0 x
      obtain ⟨b1, b2⟩ := scratch a1 a2 (Nat.le_succ _) hnq 1 u
      exact ⟨b1, _, b2, fun k hk => .inl (hsub k hk)⟩
    have HTT := Lib.hid HT
    clear ho hk h4 HL H2 c1 zc d0 zd h5 hng HT
    go_wp2
    refine bodyPost_ret (v := .tuple #[pairV y.2.2, .bool true]) (by simp [results, Try.results28, go_sem, r0, r1]) rfl ⟨rfl, ?_⟩
    exact (HTT.out _ _).out
end Go.Proofs.Ytbmpgafndpdnbaa
