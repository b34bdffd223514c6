/- Cache: Drop. -/
import Derived.Test.YtbmpgafndpdnbaaEw
import Derived.Test.YtbmpgafndpdnbaaEm
namespace Go.Proofs.Ytbmpgafndpdnbaa
open Go.RowKit Go.Maps

/-- Those of which nothing holds. -/
def dropM (q : Int → Bool) (m : List IT) : List IT := m.filter (fun x => !q x.1)
theorem dropM_le (q : Int → Bool) (m : List IT) : (dropM q m).length ≤ m.length := List.length_filter_le _ _
theorem Fit.drop {r : Int} {m : List IT} (h : Fit r m) (q : Int → Bool) : Fit r (dropM q m) :=
  ⟨h.nd.sublist (List.Sublist.map _ List.filter_sublist), by have := dropM_le q m; have := h.le; omega⟩
theorem CAt.nilv {c : CTy} {W : World} {p n cap : Nat} {a : Option Addr} {L : List (Nat × IT)} {r : Int} (h : CAt c W p (.slice a n cap) L r) (ha : a = none) : L = [] ∧ cap = 0 := by
  rcases h.row.2 with ⟨e, h0⟩ | ⟨g, cap', cur, e, _⟩
  · injection e with e1 e2 e3
    exact ⟨List.eq_nil_of_length_eq_zero h0, e3⟩
  · rw [ha] at e; cases e
theorem eql_func (f : FuncId) (a b : Array Value) (w : World) : (binOp .eql 43 (.func (.func f) a b) .nilFunc).run Try.prog w = .ok (.bool false) w := by kernel_rfl
theorem eql_nilF (w : World) : (binOp .eql 43 .nilFunc .nilFunc).run Try.prog w = .ok (.bool true) w := by kernel_rfl
theorem co_cut {c : CTy} {w W : World} {p : Nat} {v v' : Value} {L L' : List (Nat × IT)} {r : Int} {S : Nat → Prop} (h : CAt c w p v L r) (hs : ∀ k, S k ↔ CB p v L k) (hk : KeptS (fun k => v.ownBlock = some k) w W)
    (ho : W.ownsRow 0 c.pT 1 v' L'.length (L'.map (fun y => ptrV y.1))) (hv : v'.ownBlock = v.ownBlock) (hl : L'.Sublist L) :
    Turned S w (W.setCell ⟨p, 1, none⟩ v') (CO c p r (L'.map Prod.snd)) ∧ W.cell? ⟨p, 1, none⟩ = some v ∧ W.frozen? ⟨p, 1, none⟩ = false := by
  have hpw := h.lt (.inl rfl)
  have hp1 : W.heap[p]? = some (.cells #[.int .i64 r, v] c.T (0, 0)) := (hk.2 p hpw h.gp).trans h.hp
  have hsame := hset_same W p 1 #[.int .i64 r, v] c.T v' hp1
  have hmem : ∀ y ∈ L', y ∈ L := fun y hy => hl.subset hy
  have hlt : ∀ z ∈ L, z.1 < w.heap.size := fun z hz => h.lt (.inr (.inr ⟨z, hz, rfl⟩))
  have hC : CAt c (W.setCell ⟨p, 1, none⟩ v') p v' L' r := by
    refine ⟨by simpa using hsame, ⟨ho.1, ?_⟩, fun y hy => ?_, h.nd.sublist (hl.map _), fun y hy => h.pb y (hmem y hy), by rw [hv]; exact h.gp, fun y hy => by rw [hv]; exact h.gb y (hmem y hy)⟩
    · rcases ho.2 with e | ⟨g, cap, cur, e, hB, h3, h4⟩
      · exact .inl e
      · refine .inr ⟨g, cap, cur, e, hB, ?_, h4⟩
        have hgp' : g ≠ p := fun e2 => h.gp (by rw [← hv, e, ← e2]; rfl)
        exact (Below.heap_setCell _ _ _ g (show g ≠ p from hgp')).trans h3
    · have hy' := hmem y hy
      exact (Below.heap_setCell _ _ _ y.1 (show y.1 ≠ p from h.pb y hy')).trans ((hk.2 y.1 (hlt y hy') (h.gb y hy')).trans (h.th y hy'))
  refine ⟨⟨?_, CB p v' L', ⟨v', L', hC, rfl, fun _ => Iff.rfl⟩, ?_⟩, by simp [World.cell?, hp1], by simp [World.frozen?, hp1]⟩
  · exact keptS_st (hk.wide (fun k hk => (hs k).2 (.inr (.inl hk)))) ((hs p).2 (.inl rfl)) v'
  · rintro k (e | e | ⟨y, hy, e⟩)
    · exact .inl ((hs k).2 (.inl e))
    · exact .inl ((hs k).2 (.inr (.inl (by rw [← hv]; exact e))))
    · exact .inl ((hs k).2 (.inr (.inr ⟨y, hmem y hy, e⟩)))
set_option maxRecDepth 100000 in
set_option maxHeartbeats 4000000 in
theorem drop_n1 (p : Nat) (w : World) :
    Calls Try.prog 17 #[.pointer (some ⟨p, 0, none⟩), .nilFunc] w fun e w' => e = .returned (.int .i64 0) ∧ Below w.heap.size w w' := by
  have HB := Lib.hid (bl0 w)
  have hq := eql_nilF w
  go_enter Try.func17, Try.ntmps17
  go_wp2
  go_ret
  exact ⟨rfl, HB.out⟩
theorem mem_pick {L : List (Nat × IT)} (hn : (L.map Prod.fst).Nodup) (pr : (Nat × IT) → Bool) {y : Nat × IT} (hy : y ∈ L) : ((L.filter pr).findIdx? (fun z => decide (y.1 = z.1))).isSome = pr y := by
  cases e : (L.filter pr).findIdx? (fun z => decide (y.1 = z.1)) with
  | none =>
    have := List.findIdx?_eq_none_iff.1 e
    cases hp : pr y with
    | false => rfl
    | true =>
      have := this y (List.mem_filter.2 ⟨hy, hp⟩)
      simp at this
  | some i =>
    rw [List.findIdx?_eq_some_iff_getElem] at e
    obtain ⟨h1, h2, _⟩ := e
    have hm := List.mem_filter.1 (List.getElem_mem h1)
    have he : y.1 = ((L.filter pr)[i]).1 := of_decide_eq_true h2
    have hyz : y = (L.filter pr)[i] := by
      obtain ⟨a, ha, hay⟩ := List.mem_iff_getElem.1 hy
      obtain ⟨b, hb, hbz⟩ := List.mem_iff_getElem.1 hm.1
      have hp := List.pairwise_iff_getElem.1 hn
      have ea : (L.map Prod.fst)[a]'(by simpa using ha) = y.1 := by rw [List.getElem_map, hay]
      have eb : (L.map Prod.fst)[b]'(by simpa using hb) = y.1 := by rw [List.getElem_map, hbz, ← he]
      rcases Nat.lt_trichotomy a b with q | q | q
      · exact absurd (ea.trans eb.symm) (hp a b _ _ q)
      · subst q; rw [← hay, hbz]
      · exact absurd (eb.trans ea.symm) (hp b a _ _ q)
    rw [← hyz] at hm
    rw [hm.2]
    rfl
set_option maxRecDepth 100000 in
set_option maxHeartbeats 8000000 in
theorem drop_d1 (cv1 cv2 : Value) (q : Int → Bool) (p : Nat) (r : Int) (m : List IT) (S : Nat → Prop) (w : World) (h : (CO Try.c1 p r m).P w S) (hm : m.length ≤ 1000)
    (hQ : ∀ x W', Below w.heap.size w W' → Calls Try.prog 33 #[.int .i64 x, cv1, cv2] W' fun e w' => e = .returned (.bool (q x)) ∧ Below W'.heap.size W' w') :
    Calls Try.prog 17 #[.pointer (some ⟨p, 0, none⟩), .func (.func 33) #[] #[cv1, cv2]] w fun e w' => e = .returned (.int .i64 ((m.length : Int) - ((dropM q m).length : Int))) ∧ Turned S w w' (CO Try.c1 p r (dropM q m)) := by
  have hmf : ∀ (fn : Fn) (first cap : Array Value) (w : World), (Instr.makeFunc fn first cap).run Try.prog w = .ok (.func fn first cap) w := fun _ _ _ _ => rfl
  obtain ⟨v, L, h1, rfl, h3⟩ := h
  rw [List.length_map] at hm
  obtain ⟨a, cap, rfl, hcap, _⟩ := h1.any
  have HC := Lib.hid h1
  have H3 := Lib.hid h3
  have HQ := Lib.hid hQ
  obtain ⟨W0, hW0⟩ : ∃ W0, w.alloc (.cells #[.slice none 0 0] 70) = W0 := ⟨_, rfl⟩
  have HB0 := Lib.hid (show Below w.heap.size w W0 from by rw [← hW0]; exact bl_al (bl0 w) _)
  have hS0 : Sep W0 w.heap.size ([] ++ [CellsO w.heap.size #[.slice none 0 0] 70]) := by rw [← hW0]; exact (Sep.nil (Nat.le_refl _)).box _ _
  have h10 := h1.below HB0.out
  have hcl := sclone_1 a cap L W0 hm (fun e => h1.nilv e) h10.rowP
  have HS0 := Lib.hid hS0
  have HCL := Lib.hid hcl
  have c1 := h10.c1
  have zc := blk_lt c1
  have hfn := eql_func 33 #[] #[cv1, cv2] w
  clear h1 h3 hQ hS0 h10 hcl
  go_enter Try.func17, Try.ntmps17
  go_wp2_with fail
  refine HCL.out.mono ?_
  rintro e w1 ⟨v1, rfl, ht⟩
  obtain ⟨hs1, hb1⟩ := HS0.out.made ht
  have HB1 := Lib.hid (bl_tr HB0.out hb1)
  obtain ⟨ca, cc, rfl, _, _, _⟩ := rowP_slice (Sep.own (l1 := [CellsO w.heap.size #[.slice none 0 0] 70]) (l2 := []) (by simpa using hs1))
  have HS1 := Lib.hid (show Sep w1 w.heap.size (CellsO w.heap.size #[.slice none 0 0] 70 :: RowO 73 1 (.slice ca L.length cc) L.length (ptrs L) :: [RowO 73 1 (.slice none 0 0) 0 (ptrs [])]) from nilrowP hs1)
  clear hs1 hb1 ht HCL HS0 hW0 c1 zc
  go_wp2_with fail
  go_loopw [21] (fun i wr => ∃ (k : Nat) (gv : Value) (Gs : List (Nat × IT)), k ≤ L.length ∧ i = .int .i64 k ∧ Hid (Gs = (L.take k).filter (fun y => q y.2.1)) ∧ Hid (Sep wr w.heap.size (CellsO w.heap.size #[gv] 70 :: RowO 73 1 (.slice ca L.length cc) L.length (ptrs L) :: [RowO 73 1 gv Gs.length (ptrs Gs)])) ∧ Hid (Below w.heap.size w wr)) (fun i _ => L.length - (intOf i).toNat)
  case atStart => exact ⟨0, _, [], Nat.zero_le _, rfl, Lib.hid (by simp), HS1, HB1⟩
  case round =>
    obtain ⟨k, gv, Gs, hk, rfl, HG, HSr, HB⟩ := hrel
    have hk0 : (0 : Int) ≤ (k : Int) := by omega
    have hgl : Gs.length ≤ k := by
      have := HG.out
      rw [this]
      exact Nat.le_trans (List.length_filter_le _ _) (by rw [List.length_take]; omega)
    by_cases hlt : k < L.length
    · have hlt2 : (k : Int) < (L.length : Int) := by omega
      obtain ⟨y, hy⟩ : ∃ y, L[k]? = some y := ⟨_, List.getElem?_eq_getElem hlt⟩
      obtain ⟨g, rfl, d0⟩ : ∃ g, ca = some ⟨g, 0, none⟩ ∧ wr.cell? ⟨g, k, none⟩ = some (ptrV y.1) := by
        rcases rowP_own (Sep.own (l1 := [CellsO w.heap.size #[gv] 70]) (l2 := [RowO 73 1 gv Gs.length (ptrs Gs)]) HSr.out) rfl with e | ⟨g, e, h⟩
        · rw [e] at hy; simp at hy
        · exact ⟨g, e, h k y hy⟩
      have h2 := HC.out.below HB.out
      have hym := List.mem_of_getElem? hy
      have e0 := h2.cell hym (j := 0) rfl
      have zd := blk_lt d0
      have ze := blk_lt e0
      have hcall := HQ.out y.2.1 wr HB.out
      have HY := Lib.hid hy
      clear hy hym h2
      go_wp2_with fail
      refine hcall.mono ?_
      rintro e W2 ⟨rfl, hb2⟩
      have HS2 := Lib.hid (HSr.out.below hb2)
      have HB2 := Lib.hid (bl_tr HB.out hb2)
      have hst : (L.take (k + 1)).filter (fun y => q y.2.1) = Gs ++ (if q y.2.1 then [y] else []) := by
        obtain ⟨i1, i2⟩ := List.getElem?_eq_some_iff.1 HY.out
        rw [List.take_succ_eq_append_getElem i1, List.filter_append, i2, HG.out]
        cases e : q y.2.1 <;> simp [e]
      have HST := Lib.hid hst
      clear hb2 hcall hst d0 e0 zd ze
      cases hq : q y.2.1
      · have HG2 : Hid (Gs = (L.take (k + 1)).filter (fun y => q y.2.1)) := Lib.hid (by rw [HST.out, hq]; simp)
        clear hq HST
        go_wp2
        go_roundw
        case rel => exact ⟨k + 1, gv, Gs, by omega, by go_num, HG2, HS2, HB2⟩
        case measure => simp [intOf]; omega
      · have HG2 : Hid (Gs ++ [y] = (L.take (k + 1)).filter (fun y => q y.2.1)) := Lib.hid (by rw [HST.out, hq]; simp)
        obtain ⟨hcell, _⟩ := Sep.cells (l1 := []) HS2.out
        have f0 : W2.cell? ⟨w.heap.size, 0, none⟩ = some gv := by simp [World.cell?, hcell]
        have zf := blk_lt f0
        have hS := HS2.out
        clear hq HST hcell
        go_wp2_with (at_builtin; refine append_ptr1 rfl _ _ rfl y.1 (by rfl) (l1 := [CellsO w.heap.size #[gv] 70, RowO 73 1 (.slice (some ⟨g, 0, none⟩) L.length cc) L.length (ptrs L)]) (l2 := []) (v := gv) (n := Gs.length) (xs := ptrs Gs) (B := w.heap.size) hS (by omega) (by rfl) W2.heap.size (by rfl) (by rfl) ?_)
        intro v' W3 hs3 hb3
        obtain ⟨ga3, gc3, rfl, _, _, _⟩ := rowP_slice (L := Gs ++ [y]) (by rw [show ptrs (Gs ++ [y]) = ptrs Gs ++ [ptrV y.1] by simp [ptrs]]; exact Sep.own (l1 := [CellsO w.heap.size #[gv] 70, RowO 73 1 (.slice (some ⟨g, 0, none⟩) L.length cc) L.length (ptrs L)]) (l2 := []) hs3)
        obtain ⟨hcell3, hcB⟩ := Sep.cells (l1 := []) hs3
        have f3 : W3.cell? ⟨w.heap.size, 0, none⟩ = some gv := by simp [World.cell?, hcell3]
        have f4 : W3.frozen? ⟨w.heap.size, 0, none⟩ = false := by simp [World.frozen?, hcell3]
        have zf3 := blk_lt f3
        have HS4 : Hid (Sep (W3.setCell ⟨w.heap.size, 0, none⟩ (.slice ga3 (Gs.length + 1) gc3)) w.heap.size (CellsO w.heap.size #[.slice ga3 (Gs.length + 1) gc3] 70 :: RowO 73 1 (.slice (some ⟨g, 0, none⟩) L.length cc) L.length (ptrs L) :: [RowO 73 1 (.slice ga3 (Gs.length + 1) gc3) (Gs ++ [y]).length (ptrs (Gs ++ [y]))])) := Lib.hid (by
          have := Sep.set (l1 := []) hs3 0 (.slice ga3 (Gs.length + 1) gc3)
          rw [show ptrs (Gs ++ [y]) = ptrs Gs ++ [ptrV y.1] by simp [ptrs], List.length_append]
          exact this)
        have HB4 := Lib.hid (bl_st (HB2.out.trans hb3) hcB (o := 0) (.slice ga3 (Gs.length + 1) gc3))
        clear hs3 hb3 hcell3 hS f0 zf
        go_wp2
        go_roundw
        case rel => exact ⟨k + 1, .slice ga3 (Gs.length + 1) gc3, Gs ++ [y], by omega, by go_num, HG2, HS4, HB4⟩
        case measure => simp [intOf]; omega
    obtain rfl : k = L.length := by omega
    have hge : ¬ (L.length : Int) < (L.length : Int) := by omega
    have hG := HG.out
    rw [List.take_length] at hG
    have h2 := HC.out.below HB.out
    obtain ⟨hcell, hGB⟩ := Sep.cells (l1 := []) HSr.out
    have hgo := Sep.own (l1 := [CellsO w.heap.size #[gv] 70, RowO 73 1 (.slice ca L.length cc) L.length (ptrs L)]) (l2 := []) HSr.out
    obtain ⟨S9, hS9, hlo⟩ := Sep.at (l1 := [CellsO w.heap.size #[gv] 70, RowO 73 1 (.slice ca L.length cc) L.length (ptrs L)]) (l2 := []) HSr.out
    obtain ⟨ga, gc, rfl, _, _, hgr⟩ := rowP_slice hgo
    have hvb : ∀ x, (Value.slice a L.length cap).ownBlock = some x → x < w.heap.size := fun x hx => HC.out.rowlt hx
    have hgb : ∀ x, (Value.slice ga Gs.length gc).ownBlock = some x → w.heap.size ≤ x := fun x hx => (hlo x ((hS9.2 x).2 hx)).1
    have hF : ∀ y ∈ L, ∀ W', KeptS (fun x => (Value.slice a L.length cap).ownBlock = some x) wr W' → Calls Try.prog 43 #[ptrV y.1, .pointer (some ⟨w.heap.size, 0, none⟩)] W' fun e w' => e = .returned (.bool (Gs.findIdx? (fun z => decide (y.1 = z.1))).isSome) ∧ Below W'.heap.size W' w' := by
      intro y hy W' hk
      have hcG : W'.cell? ⟨w.heap.size, 0, none⟩ = some (.slice ga Gs.length gc) := hk.cell (by simp [World.cell?, hcell]) (fun e => by have := hvb _ e; omega)
      have hrG : RowP W' ga Gs := by
        rcases hgr with e | ⟨g9, e, hh⟩
        · exact .inl e
        · refine .inr ⟨g9, e, fun i z hz => hk.cell (hh i z hz) (fun e2 => ?_)⟩
          have b1 := hvb _ e2
          have b2 := hgb g9 (by rw [e]; rfl)
          omega
      have hblk : ∀ z ∈ L, IsBlk W' z.1 := fun z hz => ⟨_, _, (hk.2 z.1 (h2.lt (.inr (.inr ⟨z, hz, rfl⟩))) (h2.gb z hz)).trans (h2.th z hz)⟩
      exact (drop1_1 y.1 w.heap.size ga gc Gs W' (by omega) hcG hrG (hblk y hy) (fun z hz => hblk z (by rw [hG] at hz; exact (List.mem_filter.1 hz).1))).mono fun e w' ⟨he, hw⟩ => ⟨he, by rw [← hw]; exact bl0 _⟩
    have hdel := delete_1 (.pointer (some ⟨w.heap.size, 0, none⟩)) (fun y => (Gs.findIdx? (fun z => decide (y.1 = z.1))).isSome) a cap L wr hm h2.row hF
    have hfe : L.filter (fun y => !(Gs.findIdx? (fun z => decide (y.1 = z.1))).isSome) = L.filter (fun y => !q y.2.1) := List.filter_congr fun y hy => by rw [hG, mem_pick HC.out.nd _ hy]
    rw [hfe] at hdel
    have hmd : (L.filter (fun y => !q y.2.1)).map Prod.snd = dropM q (L.map Prod.snd) := by
      unfold dropM
      rw [List.filter_map]
      rfl
    obtain ⟨L', hL'⟩ : ∃ L', L.filter (fun y => !q y.2.1) = L' := ⟨_, rfl⟩
    have hsub : L'.Sublist L := by rw [← hL']; exact List.filter_sublist
    rw [hL'] at hdel hmd
    have hll : L'.length ≤ L.length := hsub.length_le
    have HMD := Lib.hid hmd
    have HSUB := Lib.hid hsub
    have HDEL := Lib.hid hdel
    have H2 := Lib.hid h2
    have c1 := h2.c1
    have zc := blk_lt c1
    have hwl : IntKind.i64.wrap ((L.length : Int) - (L'.length : Int)) = (L.length : Int) - (L'.length : Int) := IntWalk.i64_in _ (by omega)
    clear hG h2 hcell hGB hgo hS9 hlo hgr hvb hgb hF hdel hfe hmd hL' hsub HG HSr HS1 HB1
    go_wp2_with fail
    refine HDEL.out.mono ?_
    rintro e W3 ⟨rfl, ho, hkd⟩
    obtain ⟨hT, t1, t2⟩ := co_cut (S := S) H2.out (fun k => H3.out k) hkd ho (by cases a <;> rfl) HSUB.out
    have zt := blk_lt t1
    have HF : Hid (Turned S w (W3.setCell ⟨p, 1, none⟩ (.slice a L'.length cap)) (CO Try.c1 p r (dropM q (L.map Prod.snd)))) := Lib.hid (by
      rw [← HMD.out]
      obtain ⟨k1, S', k2, k3⟩ := hT
      exact ⟨(KeptS.of_below HB.out).trans k1 (fun _ _ h => h), S', k2, fun k hk => by
        rcases k3 k hk with e | e
        · exact .inl e
        · have := HB.out.size; exact .inr (by omega)⟩)
    have HLN : Hid ((dropM q (L.map Prod.snd)).length = L'.length) := Lib.hid (by rw [← HMD.out, List.length_map])
    have HLM : Hid ((L.map Prod.snd).length = L.length) := Lib.hid (List.length_map _)
    clear ho hkd hT HDEL H2 c1 zc
    go_wp2
    go_ret
    exact ⟨by rw [HLN.out, HLM.out]; rfl, HF.out⟩
set_option maxRecDepth 100000 in
set_option maxHeartbeats 8000000 in
theorem drop_p1 (cv1 cv2 : Value) (q : Int → Bool) (p : Nat) (r : Int) (m : List IT) (S : Nat → Prop) (w : World) (h : (CO Try.c1 p r m).P w S) (hm : m.length ≤ 1000)
    (hQ : ∀ x W', Below w.heap.size w W' → Calls Try.prog 18 #[.int .i64 x, cv1, cv2] W' fun e w' => e = .returned (.bool (q x)) ∧ Below W'.heap.size W' w') :
    Calls Try.prog 17 #[.pointer (some ⟨p, 0, none⟩), .func (.func 18) #[] #[cv1, cv2]] w fun e w' => e = .returned (.int .i64 ((m.length : Int) - ((dropM q m).length : Int))) ∧ Turned S w w' (CO Try.c1 p r (dropM q m)) := by
  have hmf : ∀ (fn : Fn) (first cap : Array Value) (w : World), (Instr.makeFunc fn first cap).run Try.prog w = .ok (.func fn first cap) w := fun _ _ _ _ => rfl
  obtain ⟨v, L, h1, rfl, h3⟩ := h
  rw [List.length_map] at hm
  obtain ⟨a, cap, rfl, hcap, _⟩ := h1.any
  have HC := Lib.hid h1
  have H3 := Lib.hid h3
  have HQ := Lib.hid hQ
  obtain ⟨W0, hW0⟩ : ∃ W0, w.alloc (.cells #[.slice none 0 0] 70) = W0 := ⟨_, rfl⟩
  have HB0 := Lib.hid (show Below w.heap.size w W0 from by rw [← hW0]; exact bl_al (bl0 w) _)
  have hS0 : Sep W0 w.heap.size ([] ++ [CellsO w.heap.size #[.slice none 0 0] 70]) := by rw [← hW0]; exact (Sep.nil (Nat.le_refl _)).box _ _
  have h10 := h1.below HB0.out
  have hcl := sclone_1 a cap L W0 hm (fun e => h1.nilv e) h10.rowP
  have HS0 := Lib.hid hS0
  have HCL := Lib.hid hcl
  have c1 := h10.c1
  have zc := blk_lt c1
  have hfn := eql_func 18 #[] #[cv1, cv2] w
  clear h1 h3 hQ hS0 h10 hcl
  go_enter Try.func17, Try.ntmps17
  go_wp2_with fail
  refine HCL.out.mono ?_
  rintro e w1 ⟨v1, rfl, ht⟩
  obtain ⟨hs1, hb1⟩ := HS0.out.made ht
  have HB1 := Lib.hid (bl_tr HB0.out hb1)
  obtain ⟨ca, cc, rfl, _, _, _⟩ := rowP_slice (Sep.own (l1 := [CellsO w.heap.size #[.slice none 0 0] 70]) (l2 := []) (by simpa using hs1))
  have HS1 := Lib.hid (show Sep w1 w.heap.size (CellsO w.heap.size #[.slice none 0 0] 70 :: RowO 73 1 (.slice ca L.length cc) L.length (ptrs L) :: [RowO 73 1 (.slice none 0 0) 0 (ptrs [])]) from nilrowP hs1)
  clear hs1 hb1 ht HCL HS0 hW0 c1 zc
  go_wp2_with fail
  go_loopw [21] (fun i wr => ∃ (k : Nat) (gv : Value) (Gs : List (Nat × IT)), k ≤ L.length ∧ i = .int .i64 k ∧ Hid (Gs = (L.take k).filter (fun y => q y.2.1)) ∧ Hid (Sep wr w.heap.size (CellsO w.heap.size #[gv] 70 :: RowO 73 1 (.slice ca L.length cc) L.length (ptrs L) :: [RowO 73 1 gv Gs.length (ptrs Gs)])) ∧ Hid (Below w.heap.size w wr)) (fun i _ => L.length - (intOf i).toNat)
  case atStart => exact ⟨0, _, [], Nat.zero_le _, rfl, Lib.hid (by simp), HS1, HB1⟩
  case round =>
    obtain ⟨k, gv, Gs, hk, rfl, HG, HSr, HB⟩ := hrel
    have hk0 : (0 : Int) ≤ (k : Int) := by omega
    have hgl : Gs.length ≤ k := by
      have := HG.out
      rw [this]
      exact Nat.le_trans (List.length_filter_le _ _) (by rw [List.length_take]; omega)
    by_cases hlt : k < L.length
    · have hlt2 : (k : Int) < (L.length : Int) := by omega
      obtain ⟨y, hy⟩ : ∃ y, L[k]? = some y := ⟨_, List.getElem?_eq_getElem hlt⟩
      obtain ⟨g, rfl, d0⟩ : ∃ g, ca = some ⟨g, 0, none⟩ ∧ wr.cell? ⟨g, k, none⟩ = some (ptrV y.1) := by
        rcases rowP_own (Sep.own (l1 := [CellsO w.heap.size #[gv] 70]) (l2 := [RowO 73 1 gv Gs.length (ptrs Gs)]) HSr.out) rfl with e | ⟨g, e, h⟩
        · rw [e] at hy; simp at hy
        · exact ⟨g, e, h k y hy⟩
      have h2 := HC.out.below HB.out
      have hym := List.mem_of_getElem? hy
      have e0 := h2.cell hym (j := 0) rfl
      have zd := blk_lt d0
      have ze := blk_lt e0
      have hcall := HQ.out y.2.1 wr HB.out
      have HY := Lib.hid hy
      clear hy hym h2
      go_wp2_with fail
      refine hcall.mono ?_
      rintro e W2 ⟨rfl, hb2⟩
      have HS2 := Lib.hid (HSr.out.below hb2)
      have HB2 := Lib.hid (bl_tr HB.out hb2)
      have hst : (L.take (k + 1)).filter (fun y => q y.2.1) = Gs ++ (if q y.2.1 then [y] else []) := by
        obtain ⟨i1, i2⟩ := List.getElem?_eq_some_iff.1 HY.out
        rw [List.take_succ_eq_append_getElem i1, List.filter_append, i2, HG.out]
        cases e : q y.2.1 <;> simp [e]
      have HST := Lib.hid hst
      clear hb2 hcall hst d0 e0 zd ze
      cases hq : q y.2.1
      · have HG2 : Hid (Gs = (L.take (k + 1)).filter (fun y => q y.2.1)) := Lib.hid (by rw [HST.out, hq]; simp)
        clear hq HST
        go_wp2
        go_roundw
        case rel => exact ⟨k + 1, gv, Gs, by omega, by go_num, HG2, HS2, HB2⟩
        case measure => simp [intOf]; omega
      · have HG2 : Hid (Gs ++ [y] = (L.take (k + 1)).filter (fun y => q y.2.1)) := Lib.hid (by rw [HST.out, hq]; simp)
        obtain ⟨hcell, _⟩ := Sep.cells (l1 := []) HS2.out
        have f0 : W2.cell? ⟨w.heap.size, 0, none⟩ = some gv := by simp [World.cell?, hcell]
        have zf := blk_lt f0
        have hS := HS2.out
        clear hq HST hcell
        go_wp2_with (at_builtin; refine append_ptr1 rfl _ _ rfl y.1 (by rfl) (l1 := [CellsO w.heap.size #[gv] 70, RowO 73 1 (.slice (some ⟨g, 0, none⟩) L.length cc) L.length (ptrs L)]) (l2 := []) (v := gv) (n := Gs.length) (xs := ptrs Gs) (B := w.heap.size) hS (by omega) (by rfl) W2.heap.size (by rfl) (by rfl) ?_)
        intro v' W3 hs3 hb3
        obtain ⟨ga3, gc3, rfl, _, _, _⟩ := rowP_slice (L := Gs ++ [y]) (by rw [show ptrs (Gs ++ [y]) = ptrs Gs ++ [ptrV y.1] by simp [ptrs]]; exact Sep.own (l1 := [CellsO w.heap.size #[gv] 70, RowO 73 1 (.slice (some ⟨g, 0, none⟩) L.length cc) L.length (ptrs L)]) (l2 := []) hs3)
        obtain ⟨hcell3, hcB⟩ := Sep.cells (l1 := []) hs3
        have f3 : W3.cell? ⟨w.heap.size, 0, none⟩ = some gv := by simp [World.cell?, hcell3]
        have f4 : W3.frozen? ⟨w.heap.size, 0, none⟩ = false := by simp [World.frozen?, hcell3]
        have zf3 := blk_lt f3
        have HS4 : Hid (Sep (W3.setCell ⟨w.heap.size, 0, none⟩ (.slice ga3 (Gs.length + 1) gc3)) w.heap.size (CellsO w.heap.size #[.slice ga3 (Gs.length + 1) gc3] 70 :: RowO 73 1 (.slice (some ⟨g, 0, none⟩) L.length cc) L.length (ptrs L) :: [RowO 73 1 (.slice ga3 (Gs.length + 1) gc3) (Gs ++ [y]).length (ptrs (Gs ++ [y]))])) := Lib.hid (by
          have := Sep.set (l1 := []) hs3 0 (.slice ga3 (Gs.length + 1) gc3)
          rw [show ptrs (Gs ++ [y]) = ptrs Gs ++ [ptrV y.1] by simp [ptrs], List.length_append]
          exact this)
        have HB4 := Lib.hid (bl_st (HB2.out.trans hb3) hcB (o := 0) (.slice ga3 (Gs.length + 1) gc3))
        clear hs3 hb3 hcell3 hS f0 zf
        go_wp2
        go_roundw
        case rel => exact ⟨k + 1, .slice ga3 (Gs.length + 1) gc3, Gs ++ [y], by omega, by go_num, HG2, HS4, HB4⟩
        case measure => simp [intOf]; omega
    obtain rfl : k = L.length := by omega
    have hge : ¬ (L.length : Int) < (L.length : Int) := by omega
    have hG := HG.out
    rw [List.take_length] at hG
    have h2 := HC.out.below HB.out
    obtain ⟨hcell, hGB⟩ := Sep.cells (l1 := []) HSr.out
    have hgo := Sep.own (l1 := [CellsO w.heap.size #[gv] 70, RowO 73 1 (.slice ca L.length cc) L.length (ptrs L)]) (l2 := []) HSr.out
    obtain ⟨S9, hS9, hlo⟩ := Sep.at (l1 := [CellsO w.heap.size #[gv] 70, RowO 73 1 (.slice ca L.length cc) L.length (ptrs L)]) (l2 := []) HSr.out
    obtain ⟨ga, gc, rfl, _, _, hgr⟩ := rowP_slice hgo
    have hvb : ∀ x, (Value.slice a L.length cap).ownBlock = some x → x < w.heap.size := fun x hx => HC.out.rowlt hx
    have hgb : ∀ x, (Value.slice ga Gs.length gc).ownBlock = some x → w.heap.size ≤ x := fun x hx => (hlo x ((hS9.2 x).2 hx)).1
    have hF : ∀ y ∈ L, ∀ W', KeptS (fun x => (Value.slice a L.length cap).ownBlock = some x) wr W' → Calls Try.prog 43 #[ptrV y.1, .pointer (some ⟨w.heap.size, 0, none⟩)] W' fun e w' => e = .returned (.bool (Gs.findIdx? (fun z => decide (y.1 = z.1))).isSome) ∧ Below W'.heap.size W' w' := by
      intro y hy W' hk
      have hcG : W'.cell? ⟨w.heap.size, 0, none⟩ = some (.slice ga Gs.length gc) := hk.cell (by simp [World.cell?, hcell]) (fun e => by have := hvb _ e; omega)
      have hrG : RowP W' ga Gs := by
        rcases hgr with e | ⟨g9, e, hh⟩
        · exact .inl e
        · refine .inr ⟨g9, e, fun i z hz => hk.cell (hh i z hz) (fun e2 => ?_)⟩
          have b1 := hvb _ e2
          have b2 := hgb g9 (by rw [e]; rfl)
          omega
      have hblk : ∀ z ∈ L, IsBlk W' z.1 := fun z hz => ⟨_, _, (hk.2 z.1 (h2.lt (.inr (.inr ⟨z, hz, rfl⟩))) (h2.gb z hz)).trans (h2.th z hz)⟩
      exact (drop1_1 y.1 w.heap.size ga gc Gs W' (by omega) hcG hrG (hblk y hy) (fun z hz => hblk z (by rw [hG] at hz; exact (List.mem_filter.1 hz).1))).mono fun e w' ⟨he, hw⟩ => ⟨he, by rw [← hw]; exact bl0 _⟩
    have hdel := delete_1 (.pointer (some ⟨w.heap.size, 0, none⟩)) (fun y => (Gs.findIdx? (fun z => decide (y.1 = z.1))).isSome) a cap L wr hm h2.row hF
    have hfe : L.filter (fun y => !(Gs.findIdx? (fun z => decide (y.1 = z.1))).isSome) = L.filter (fun y => !q y.2.1) := List.filter_congr fun y hy => by rw [hG, mem_pick HC.out.nd _ hy]
    rw [hfe] at hdel
    have hmd : (L.filter (fun y => !q y.2.1)).map Prod.snd = dropM q (L.map Prod.snd) := by
      unfold dropM
      rw [List.filter_map]
      rfl
    obtain ⟨L', hL'⟩ : ∃ L', L.filter (fun y => !q y.2.1) = L' := ⟨_, rfl⟩
    have hsub : L'.Sublist L := by rw [← hL']; exact List.filter_sublist
    rw [hL'] at hdel hmd
    have hll : L'.length ≤ L.length := hsub.length_le
    have HMD := Lib.hid hmd
    have HSUB := Lib.hid hsub
    have HDEL := Lib.hid hdel
    have H2 := Lib.hid h2
    have c1 := h2.c1
    have zc := blk_lt c1
    have hwl : IntKind.i64.wrap ((L.length : Int) - (L'.length : Int)) = (L.length : Int) - (L'.length : Int) := IntWalk.i64_in _ (by omega)
    clear hG h2 hcell hGB hgo hS9 hlo hgr hvb hgb hF hdel hfe hmd hL' hsub HG HSr HS1 HB1
    go_wp2_with fail
    refine HDEL.out.mono ?_
    rintro e W3 ⟨rfl, ho, hkd⟩
    obtain ⟨hT, t1, t2⟩ := co_cut (S := S) H2.out (fun k => H3.out k) hkd ho (by cases a <;> rfl) HSUB.out
    have zt := blk_lt t1
    have HF : Hid (Turned S w (W3.setCell ⟨p, 1, none⟩ (.slice a L'.length cap)) (CO Try.c1 p r (dropM q (L.map Prod.snd)))) := Lib.hid (by
      rw [← HMD.out]
      obtain ⟨k1, S', k2, k3⟩ := hT
      exact ⟨(KeptS.of_below HB.out).trans k1 (fun _ _ h => h), S', k2, fun k hk => by
        rcases k3 k hk with e | e
        · exact .inl e
        · have := HB.out.size; exact .inr (by omega)⟩)
    have HLN : Hid ((dropM q (L.map Prod.snd)).length = L'.length) := Lib.hid (by rw [← HMD.out, List.length_map])
    have HLM : Hid ((L.map Prod.snd).length = L.length) := Lib.hid (List.length_map _)
    clear ho hkd hT HDEL H2 c1 zc
    go_wp2
    go_ret
    exact ⟨by rw [HLN.out, HLM.out]; rfl, HF.out⟩
end Go.Proofs.Ytbmpgafndpdnbaa
