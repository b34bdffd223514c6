/- Cache: New, Len, Peek, Get. -/
import Derived.Test.YtbmpgafndpdnbaaEe
namespace Go.Proofs.Ytbmpgafndpdnbaa
open Go.RowKit Go.Maps

theorem keptS_st {S : Nat → Prop} {w W : World} (h : KeptS S w W) {b o : Nat} (hb : S b) (u : Value) : KeptS S w (W.setCell ⟨b, o, none⟩ u) :=
  h.trans (T := S) (.of_grown (hgrown_set W b o u) (fun k e _ => by cases e; exact hb)) (fun _ _ h => h)
theorem co_new {c : CTy} (w : World) (r : Int) : Turned (fun _ => False) w (w.alloc (.cells #[.int .i64 r, .slice none 0 0] c.T)) (CO c w.heap.size r []) := by
  refine ⟨.of_below (bl_al (bl0 w) _), _, ⟨.slice none 0 0, [], ⟨heap_alloc_new w _, World.ownsRow_nil _ _ _ _, (fun y h => by cases h), List.nodup_nil, (fun y h => by cases h), (fun e => by cases e), (fun y h => by cases h)⟩, rfl, fun _ => Iff.rfl⟩, ?_⟩
  rintro k (rfl | e | ⟨y, h, _⟩)
  · exact .inr (Nat.le_refl _)
  · cases e
  · cases h
set_option maxRecDepth 100000 in
theorem new_c1 (r : Int) (hr : 1 ≤ r ∧ r ≤ 16) (w : World) :
    Calls Try.prog 9 #[.int .i64 r] w fun e w' => e = .returned (.tuple #[.pointer (some ⟨w.heap.size, 0, none⟩), .int .i64 0]) ∧ Turned (fun _ => False) w w' (CO Try.c1 w.heap.size r []) := by
  have HT := Lib.hid (co_new (c := Try.c1) w r)
  have h1 : ¬ r < 1 := by omega
  have h2 : ¬ r > 16 := by omega
  have h3 : (1 : Int) ≤ r := by omega
  have h4 : r ≤ (16 : Int) := by omega
  clear hr
  go_enter Try.func9, Try.ntmps9
  go_wp2
  go_ret2
  exact ⟨rfl, HT.out⟩
set_option maxRecDepth 100000 in
theorem new_n1 (r : Int) (hr : ¬ (1 ≤ r ∧ r ≤ 16)) (w : World) :
    Calls Try.prog 9 #[.int .i64 r] w fun e w' => e = .returned (.tuple #[.pointer none, .int .i64 10]) ∧ Below w.heap.size w w' := by
  have HB := Lib.hid (bl0 w)
  by_cases h1 : r < 1
  · go_enter Try.func9, Try.ntmps9
    go_wp2
    go_ret2
    exact ⟨rfl, HB.out⟩
  · have h2 : (16 : Int) < r := by omega
    have h3 : ¬ r < (1 : Int) := h1
    clear hr
    go_enter Try.func9, Try.ntmps9
    go_wp2
    go_ret2
    exact ⟨rfl, HB.out⟩

/-- What is under a key; the order behind a use. -/
def peekV (k : Int) (m : List IT) : Int := match findI k m with | some i => (atI m i).2 | none => 0
def getM (k : Int) (m : List IT) : List IT := match findI k m with | some i => leadL i (atI m i) m | none => m

set_option maxRecDepth 100000 in
theorem len_c1 (p : Nat) (r : Int) (m : List IT) (S : Nat → Prop) (w : World) (h : (CO Try.c1 p r m).P w S) :
    Calls Try.prog 11 #[.pointer (some ⟨p, 0, none⟩)] w fun e w' => e = .returned (.int .i64 (m.length : Nat)) ∧ w' = w := by
  obtain ⟨v, L, h1, rfl, _⟩ := h
  obtain ⟨a, cap, rfl, hc1, hc2⟩ := h1.any
  have c1 := h1.c1
  have zc := blk_lt c1
  have HL := Lib.hid (show (List.map Prod.snd L).length = L.length by simp)
  clear h1
  go_enter Try.func11, Try.ntmps11
  go_wp2
  go_ret
  exact ⟨by rw [HL.out]; rfl, rfl⟩
set_option maxRecDepth 100000 in
set_option maxHeartbeats 1000000 in
theorem peek_c1 (k : Int) (p : Nat) (r : Int) (m : List IT) (S : Nat → Prop) (w : World) (h : (CO Try.c1 p r m).P w S) (hm : m.length ≤ 1000) :
    Calls Try.prog 14 #[.pointer (some ⟨p, 0, none⟩), .int .i64 k] w fun e w' => e = .returned (.tuple #[.int .i64 (peekV k m), .bool (findI k m).isSome]) ∧ Below w.heap.size w w' := by
  obtain ⟨v, L, h1, rfl, _⟩ := h
  have HP := Lib.hid (place_c1 k p v L r w h1 (by simpa using hm))
  have hmr := hm
  rw [List.length_map] at hmr
  unfold peekV
  cases e : findI k (L.map Prod.snd) with
  | none =>
    rw [e] at HP
    clear e h1 hm
    go_enter Try.func14, Try.ntmps14
    go_wp2_with fail
    refine HP.out.mono ?_
    rintro e w2 ⟨rfl, hb⟩
    have HB := Lib.hid hb
    clear hb HP
    go_wp2
    go_ret2
    exact ⟨rfl, HB.out⟩
  | some i =>
    rw [e] at HP
    obtain ⟨hi, hk, _⟩ := findI_some e
    rw [List.length_map] at hi
    obtain ⟨y, hy⟩ : ∃ y, L[i]? = some y := ⟨_, List.getElem?_eq_getElem hi⟩
    have hya : atI (L.map Prod.snd) i = y.2 := atI_of (by rw [List.getElem?_map, hy]; rfl)
    dsimp only
    rw [hya]
    obtain ⟨g, cap, rfl, hcap⟩ := h1.slice (by omega)
    have HC := Lib.hid h1
    have HY := Lib.hid hy
    have hi0 : (0 : Int) ≤ (i : Int) := by omega
    have hi1 : (i : Int) < (L.length : Int) := by omega
    clear e hm hk hya h1 hy
    go_enter Try.func14, Try.ntmps14
    go_wp2_with fail
    refine HP.out.mono ?_
    rintro e w2 ⟨rfl, hb⟩
    have HB := Lib.hid hb
    have h2 := HC.out.below hb
    have c1 := h2.c1
    have d0 := h2.ptr rfl HY.out
    have d1 := h2.cell (List.mem_of_getElem? HY.out) (j := 1) rfl
    have zc := blk_lt c1
    have zd := blk_lt d0
    have ze := blk_lt d1
    clear hb HP h2
    try dsimp only [idxV, Option.isSome] at *
    go_wp2
    go_ret2
    exact ⟨rfl, HB.out⟩

/-- One of a cache's things leads. -/
theorem co_leads {c : CTy} {w W : World} {p g cap i : Nat} {L : List (Nat × IT)} {r : Int} {y : Nat × IT} (h : CAt c w p (.slice (some ⟨g, 0, none⟩) L.length cap) L r) (hy : L[i]? = some y)
    (ho : W.ownsRow 0 c.pT 1 (.slice (some ⟨g, 0, none⟩) L.length cap) L.length (leadL i (ptrV y.1) (L.map (fun y => ptrV y.1)))) (hk : KeptS (fun k => k = g) w W) :
    CAt c W p (.slice (some ⟨g, 0, none⟩) L.length cap) (leadL i y L) r := by
  have hi : i < L.length := (List.getElem?_eq_some_iff.1 hy).1
  have hlen : (leadL i y L).length = L.length := leadL_len hi
  have hpe : List.Perm (leadL i y L) L := by
    unfold leadL
    have e := (List.getElem?_eq_some_iff.1 hy).2
    have q : L = L.take i ++ y :: L.drop (i + 1) := by rw [← e, ← List.drop_eq_getElem_cons hi, List.take_append_drop]
    rw [List.eraseIdx_eq_take_drop_succ]
    exact (List.perm_middle.symm).trans (by rw [← q])
  have hgp : p ≠ g := fun e => h.gp (by rw [e]; rfl)
  refine ⟨?_, ?_, ?_, ?_, ?_, h.gp, ?_⟩
  · exact (hk.2 p (h.lt (.inl rfl)) hgp).trans h.hp
  · rw [hlen, leadL_map]; exact ho
  · intro z hz
    have hz' := hpe.mem_iff.1 hz
    exact (hk.2 z.1 (h.lt (.inr (.inr ⟨z, hz', rfl⟩))) (fun e => h.gb z hz' (by rw [e]; rfl))).trans (h.th z hz')
  · exact ((hpe.map Prod.fst).nodup_iff).2 h.nd
  · exact fun z hz => h.pb z (hpe.mem_iff.1 hz)
  · exact fun z hz => h.gb z (hpe.mem_iff.1 hz)
theorem ptrs_one {L : List (Nat × IT)} : ∀ u ∈ L.map (fun y => ptrV y.1), u.oneCell' = true := by
  intro u hu
  obtain ⟨y, _, rfl⟩ := List.mem_map.1 hu
  rfl
set_option maxRecDepth 100000 in
set_option maxHeartbeats 1000000 in
theorem get_c1 (k : Int) (p : Nat) (r : Int) (m : List IT) (S : Nat → Prop) (w : World) (h : (CO Try.c1 p r m).P w S) (hm : m.length ≤ 1000) :
    Calls Try.prog 12 #[.pointer (some ⟨p, 0, none⟩), .int .i64 k] w fun e w' => e = .returned (.tuple #[.int .i64 (peekV k m), .bool (findI k m).isSome]) ∧ Turned S w w' (CO Try.c1 p r (getM k m)) := by
  have h' := h
  obtain ⟨v, L, h1, rfl, h3⟩ := h
  have HP := Lib.hid (place_c1 k p v L r w h1 (by simpa using hm))
  have hmr := hm
  rw [List.length_map] at hmr
  unfold peekV getM
  cases e : findI k (L.map Prod.snd) with
  | none =>
    rw [e] at HP
    have HT := Lib.hid (fun w' => co_there (w' := w') h')
    clear e h1 hm h3 h'
    go_enter Try.func12, Try.ntmps12
    go_wp2_with fail
    refine HP.out.mono ?_
    rintro e w2 ⟨rfl, hb⟩
    have HB := Lib.hid hb
    clear hb HP
    go_wp2
    go_ret2
    exact ⟨rfl, HT.out _ HB.out⟩
  | some i =>
    rw [e] at HP
    obtain ⟨hi, hk, _⟩ := findI_some e
    rw [List.length_map] at hi
    obtain ⟨y, hy⟩ : ∃ y, L[i]? = some y := ⟨_, List.getElem?_eq_getElem hi⟩
    have hya : atI (L.map Prod.snd) i = y.2 := atI_of (by rw [List.getElem?_map, hy]; rfl)
    dsimp only
    rw [hya]
    obtain ⟨g, cap, rfl, hcap⟩ := h1.slice (by omega)
    have HC := Lib.hid h1
    have HY := Lib.hid hy
    have H3 := Lib.hid h3
    have hi0 : (0 : Int) ≤ (i : Int) := by omega
    have hi1 : (i : Int) < (L.length : Int) := by omega
    have HI := Lib.hid hi
    clear e hm hk hya h1 hy h3 h' hi
    go_enter Try.func12, Try.ntmps12
    go_wp2_with fail
    refine HP.out.mono ?_
    rintro e w2 ⟨rfl, hb⟩
    have HB := Lib.hid hb
    have h2 := HC.out.below hb
    have c1 := h2.c1
    have d0 := h2.ptr rfl HY.out
    have zc := blk_lt c1
    have zd := blk_lt d0
    have hgp : g ≠ p := fun e => h2.gp (by rw [e]; rfl)
    have HL := Lib.hid (lead_c1 p g L.length cap i y.1 _ w2 c1 hgp h2.row HI.out (Nat.le_succ_of_le hmr) ptrs_one)
    have H2 := Lib.hid h2
    clear hb HP h2 hgp
    try dsimp only [idxV, Option.isSome] at *
    go_wp2_with fail
    refine HL.out.mono ?_
    rintro e w3 ⟨rfl, ho, hk⟩
    have h4 := co_leads H2.out HY.out ho hk
    have d1 := h4.cell (y := y) (by unfold leadL; exact List.mem_cons_self) (j := 1) rfl
    have ze := blk_lt d1
    have HT : Hid (Turned S w w3 (CO Try.c1 p r (leadL i y.2 (L.map Prod.snd)))) := by
      have hsub : ∀ k, CB p (.slice (some ⟨g, 0, none⟩) L.length cap) (leadL i y L) k → S k := by
        rintro k (q | q | ⟨z, hz, q⟩)
        · exact (H3.out k).2 (.inl q)
        · exact (H3.out k).2 (.inr (.inl q))
        · refine (H3.out k).2 (.inr (.inr ⟨z, ?_, q⟩))
          unfold leadL at hz
          rcases List.mem_cons.1 hz with rfl | hz
          · exact List.mem_of_getElem? HY.out
          · exact List.mem_of_mem_eraseIdx hz
      exact ⟨(KeptS.of_below HB.out).trans hk (fun k _ e => (H3.out k).2 (.inr (.inl (by rw [e]; rfl)))), CB p (.slice (some ⟨g, 0, none⟩) L.length cap) (leadL i y L), ⟨_, _, h4, leadL_map Prod.snd i y L, fun _ => Iff.rfl⟩, fun k hk => .inl (hsub k hk)⟩
    clear ho hk h4 HL H2 c1 zc d0 zd
    go_wp2
    go_ret2
    exact ⟨rfl, HT.out⟩
end Go.Proofs.Ytbmpgafndpdnbaa
