/- Texts joined: Qi, Qj, Qk, Ql, Qm, Qn, Qr, Qt, Qs, Qv, Qp, Qw, Qx, Qy, Qz, Rf, Rg. -/
import Derived.Test.YtbdfjdipjacamaaDoorShelf
import Derived.Test.YtbdfjdipjacamaaDoorQh
import Derived.Sort.OwnSorted
import Derived.Lib.QuietBelow
import Derived.Laws.EntriesVeiled
import Derived.Lib.SliceRun
import Derived.Lib.EndianMore
import Derived.Test.YtbdfjdipjacamaaDoorWr
import Derived.Test.YtbdfjdipjacamaaDoorQo
import Derived.Test.YtbdfjdipjacamaaDoorDg
import Derived.Test.YtbdfjdipjacamaaDoorQd
import Derived.Test.YtbdfjdipjacamaaDoorDr
/- A row of one's own, sorted by the library's SortFunc. -/
namespace Go.Proofs.YtbdfjdipjacamaaDoor
open Go.RowKit Go.Sort

theorem flatMap_at {α : Type} (enc : α → List Value) (k : Nat) (hk : ∀ x, (enc x).length = k) (k0 : 0 < k) : ∀ (zs : List α) (t : Nat), (zs.flatMap enc)[t]? = (zs[t / k]?).bind (fun x => (enc x)[t % k]?)
  | [], t => by simp
  | y :: zs, t => by
    rw [List.flatMap_cons]
    by_cases h : t < k
    · rw [List.getElem?_append_left (by rw [hk]; exact h), Nat.div_eq_of_lt h, Nat.mod_eq_of_lt h]
      rfl
    · obtain ⟨s, rfl⟩ : ∃ s, t = s + k := ⟨t - k, by omega⟩
      rw [List.getElem?_append_right (by rw [hk]; omega), hk, Nat.add_sub_cancel, flatMap_at enc k hk k0 zs s, Nat.add_div_right _ k0, Nat.add_mod_right]
      rfl
theorem flatMap_len {α : Type} (enc : α → List Value) (k : Nat) (hk : ∀ x, (enc x).length = k) : ∀ zs : List α, (zs.flatMap enc).length = zs.length * k
  | [] => by simp
  | y :: zs => by
    rw [List.flatMap_cons, List.length_append, hk, flatMap_len enc k hk zs, List.length_cons, Nat.add_mul, Nat.one_mul, Nat.add_comm]
theorem flatK_list {α : Type} [Inhabited α] (enc : α → List Value) (k : Nat) (hk : ∀ x, (enc x).length = k) (k0 : 0 < k) (zs : List α) : (Go.Sort.flatK enc k zs.toArray).toList = zs.flatMap enc := by
  refine List.ext_getElem? fun t => ?_
  rw [flatMap_at enc k hk k0]
  by_cases h : t < zs.length * k
  · have h2 : t / k < zs.length := Nat.div_lt_of_lt_mul (by rw [Nat.mul_comm]; exact h)
    have h3 : t % k < k := Nat.mod_lt _ k0
    have hs : t < (Go.Sort.flatK enc k zs.toArray).size := by rw [size_flatK]; simpa using h
    rw [Array.getElem?_toList, Array.getElem?_eq_getElem hs, ← getElem!_pos _ t hs, get_flatK enc k zs.toArray t (by simpa using h), List.getElem?_eq_getElem h2]
    simp only [Option.bind_some]
    rw [List.getElem?_eq_getElem (by rw [hk]; exact h3)]
    congr 1
    rw [getElem!_pos zs.toArray (t / k) (by simpa using h2)]
    simp only [List.getElem_toArray]
    rw [getElem!_pos _ _ (by rw [hk]; exact h3)]
  · rw [List.getElem?_eq_none (by simpa using h)]
    have h2 : zs.length ≤ t / k := by
      rw [Nat.le_div_iff_mul_le k0]; omega
    rw [List.getElem?_eq_none h2]
    rfl
theorem heap_sortK {w : World} {g n : Nat} {os : Array Obj} {cur : Array Value} {e : TypeId} {fr : Nat × Nat} (F : Array Value) (hb : w.heap[g]? = some (.cells cur e fr)) :
    (grow (putRow id (Sort.ahead w n) g 0 F) os).heap[g]? = some (.cells (putCells id 0 F cur) e fr) := by
  have hg : g < w.heap.size := (Array.getElem?_eq_some_iff.1 hb).1
  rw [heap_grow_old _ _ (by simpa using hg)]
  simp [putRow, mapBlock, Sort.ahead, Array.getElem?_modify, hb, onCells]
theorem grownBy_sortK {w : World} {g n : Nat} {os : Array Obj} (F : Array Value) : w.grownBy (grow (putRow id (Sort.ahead w n) g 0 F) os) (some g) := by
  refine ⟨rfl, rfl, rfl, by simp, fun k hk hne => ?_⟩
  rw [heap_grow_old _ _ (by simpa using hk)]
  have : g ≠ k := fun e => hne (by rw [e])
  simp [putRow, mapBlock, Sort.ahead, Array.getElem?_modify, this]
theorem take_putF (cur F : Array Value) (h : F.size ≤ cur.size) : (putCells id 0 F cur).toList.take F.size = F.toList := by
  apply List.ext_getElem?
  intro j
  by_cases hj : j < F.size
  · rw [List.getElem?_take_of_lt hj, Array.getElem?_toList, Array.getElem?_toList]
    simp [putCells, hj, show j < cur.size by omega]
  · rw [List.getElem?_take_eq_none (by omega), List.getElem?_eq_none (by simp; omega)]
theorem own_holdsK {α : Type} [Inhabited α] {enc : α → List Value} {k : Nat} (hk : ∀ x, (enc x).length = k) (k0 : 0 < k) {w : World} {base g cap : Nat} {T : TypeId} {zs : List α}
    (h : w.ownsRow base T k (.slice (some ⟨g, 0, none⟩) zs.length cap) zs.length (zs.flatMap enc)) : HoldsK enc k w g 0 zs.toArray := by
  intro j hj
  have hj2 : j < zs.length * k := by simpa using hj
  have hl := flatK_list enc k hk k0 zs
  have e : (zs.flatMap enc)[j]? = some (id ((Go.Sort.flatK enc k zs.toArray)[j]!)) := by
    rw [← hl, Array.getElem?_toList, Array.getElem?_eq_getElem hj, getElem!_pos _ j hj]
    rfl
  have hc := h.cells (g := g) rfl _ _ e
  rw [addr_add] at hc
  exact ⟨hc, h.frozenAt _⟩
theorem own_sortK {α : Type} [Inhabited α] {enc : α → List Value} {k : Nat} (hk : ∀ x, (enc x).length = k) (k0 : 0 < k) {w : World} {base g cap n : Nat} {os : Array Obj} {T : TypeId} {zs ys : List α} (hl : ys.length = zs.length)
    (h : w.ownsRow base T k (.slice (some ⟨g, 0, none⟩) zs.length cap) zs.length (zs.flatMap enc)) : (sortWorldK enc k w g 0 n ys.toArray os).ownsRow base T k (.slice (some ⟨g, 0, none⟩) zs.length cap) zs.length (ys.flatMap enc) := by
  obtain ⟨h1, h2⟩ := h
  rcases h2 with ⟨e, _⟩ | ⟨g', cap', cur, e, hb, hg, hn, hc, hs, ht⟩
  · cases e
  · cases e
    refine ⟨by rw [flatMap_len enc k hk, hl], .inr ⟨g, cap, _, rfl, hb, heap_sortK _ hg, hn, hc, by simp [putCells, hs], ?_⟩⟩
    have hz : (Go.Sort.flatK enc k ys.toArray).size = zs.length * k := by simp [hl]
    have := take_putF cur (Go.Sort.flatK enc k ys.toArray) (by rw [hz, hs]; exact Nat.mul_le_mul_right k hn)
    rw [hz, flatK_list enc k hk k0] at this
    exact this
theorem grown_sortK {α : Type} [Inhabited α] (enc : α → List Value) (k : Nat) (w : World) (g n : Nat) (os : Array Obj) (d : Array α) : w.grownBy (sortWorldK enc k w g 0 n d os) (some g) := grownBy_sortK _

/-- The row as the library sorts it. -/
def sortL {α : Type} [Inhabited α] (lt : α → α → Bool) (zs : List α) : List α := (pdq lt zs.toArray 0 zs.toArray.size (Lib.bitLen zs.toArray.size) true true).toList
theorem sortL_spec {α : Type} [Inhabited α] {lt : α → α → Bool} (hO : SWO lt) (zs : List α) : (sortL lt zs).length = zs.length ∧ (sortL lt zs).Perm zs ∧ ∀ i j (hi : i < j) (hj : j < (sortL lt zs).length), lt (sortL lt zs)[j] (sortL lt zs)[i] = false := by
  obtain ⟨⟨h1, _, h2⟩, h3⟩ := pdq_sorts lt hO zs.toArray 0 zs.toArray.size (Lib.bitLen zs.toArray.size) true true (Nat.zero_le _) (Nat.le_refl _) (Or.inl rfl)
  have hl : (sortL lt zs).length = zs.length := by unfold sortL; simpa using h1
  refine ⟨hl, ?_, fun i j hi hj => ?_⟩
  · unfold sortL
    generalize pdq lt zs.toArray 0 zs.toArray.size (Lib.bitLen zs.toArray.size) true true = Q at *
    have e1 : (Q.extract 0 zs.toArray.size).toList = Q.toList := by rw [← h1, Array.extract_size]
    rw [e1] at h2
    simpa using h2
  · have hs : (pdq lt zs.toArray 0 zs.toArray.size (Lib.bitLen zs.toArray.size) true true).size = zs.length := by simpa using h1
    have := h3 i j (Nat.zero_le _) hi (by simp; omega)
    rw [getElem!_pos _ j (by omega), getElem!_pos _ i (by omega)] at this
    unfold sortL
    simpa using this

/-- SortFunc of a row of one's own that is not nil. -/
theorem sort_own {α : Type} [Inhabited α] {ρ : Go.Shelf.Ren} (L : SlLaysF0.n6 Tryd.prog ρ) (k : Nat) (aE : ∀ w, (isAgg (ρ.t 24)).run Tryd.prog w = .ok true w) (zE : ∀ w, (Go.sizeOf (ρ.t 24)).run Tryd.prog w = .ok k w) (enc : α → List Value) (hk : ∀ x, (enc x).length = k) (k0 : 0 < k) (h1 : ∀ x, ∀ v ∈ enc x, v.oneCell' = true)
    (cf : α → α → Int) (hO : SWO (ltOf cf)) (f : Nat) (cb : Array Value) (eg : ∀ args w, (callFunc f args).run Tryd.prog w = .ok (.enter f args) w) (base g cap : Nat) (T : TypeId) (zs : List α) (w : World) (hl : zs.length ≤ 1048576)
    (hcmp : CmpLays Tryd.prog f cb enc k cf g 0 zs.length w) (h : w.ownsRow base T k (.slice (some ⟨g, 0, none⟩) zs.length cap) zs.length (zs.flatMap enc)) :
    Calls Tryd.prog (ρ.f 6) #[.slice (some ⟨g, 0, none⟩) zs.length cap, .func (.func f) #[] cb] w fun e w' => e = .returned (.tuple #[]) ∧ w'.ownsRow base T k (.slice (some ⟨g, 0, none⟩) zs.length cap) zs.length ((sortL (ltOf cf) zs).flatMap enc) ∧ w.grownBy w' (some g) := by
  have hg := (h.lt g rfl).2
  refine (AnyQ.slices_SortFunc_eq L k aE zE enc hk h1 cf hO f cb g 0 cap zs.toArray w eg hcmp (own_holdsK hk k0 h) hg (by simp; omega)).mono ?_
  rintro e w' ⟨rfl, n, os, rfl⟩
  have e1 : pdq (ltOf cf) zs.toArray 0 zs.toArray.size (Lib.bitLen zs.toArray.size) true true = (sortL (ltOf cf) zs).toArray := rfl
  refine ⟨rfl, ?_, grown_sortK _ _ _ _ _ _ _⟩
  rw [e1]
  exact own_sortK hk k0 (sortL_spec hO zs).1 h

/-- Blocks and draws alone, and no draw undone. -/
def GB (w w' : World) : Prop := Below w.heap.size w w' ∧ w.drawn ≤ w'.drawn
theorem GB.refl (w : World) : GB w w := ⟨bl0 w, Nat.le_refl _⟩
theorem GB.tr {a b c : World} (h : GB a b) (k : GB b c) : GB a c := ⟨bl_tr h.1 k.1, Nat.le_trans h.2 k.2⟩
theorem GB.al {a b : World} (h : GB a b) (o : Obj) : GB a (b.alloc o) := ⟨bl_al h.1 o, h.2⟩
theorem GB.dr {a b : World} (h : GB a b) : GB a b.drew := ⟨bl_dr h.1, Nat.le_trans h.2 (by show b.drawn ≤ b.drawn + 1; omega)⟩
theorem GB.drn {a b : World} (h : GB a b) (n : Nat) : GB a (b.drewN n) := ⟨bl_tr h.1 (bl_drn b n), Nat.le_trans h.2 (by show b.drawn ≤ b.drawn + n; omega)⟩
theorem GB.grown {w w' : World} (h : GB w w') : ∃ q os, w' = grow (w.drewN q) os := by
  obtain ⟨p, hp⟩ := regrown_of_below h.1
  refine ⟨w'.drawn - w.drawn, p.os, ?_⟩
  have h2 := h.2
  have e : w'.drawn = p.d := by rw [hp]; rfl
  rw [hp]
  unfold grow redrawn World.drewN
  congr 1
  show p.d = w.drawn + ((grow (redrawn w p.d) p.os).drawn - w.drawn)
  have : (grow (redrawn w p.d) p.os).drawn = p.d := rfl
  rw [this]
  omega
end Go.Proofs.YtbdfjdipjacamaaDoor

/- The functions that put gates in order: what they tell, with blocks and draws alone. -/
namespace Go.Proofs.YtbdfjdipjacamaaDoor
open Go.RowKit Go.Sort

set_option maxHeartbeats 400000 in
theorem mayG (W H : Int) (w : World) :
    Calls Tryd.prog 85 #[.agg #[.int .i64 W, .int .i64 H]] w fun e w' => e = .returned (.bool (mayB W H)) ∧ GB w w' := by
  go_enter Tryd.func85, Tryd.ntmps85
  go_wp2
  all_goals
    go_ret
    exact ⟨ret_bool (by rw [Bool.eq_iff_iff]; simp [mayB]; try omega), (GB.refl _).al _⟩
set_option maxHeartbeats 400000 in
theorem inG (W H X Y : Int) (w : World) :
    Calls Tryd.prog 87 #[.agg #[.int .i64 W, .int .i64 H], .agg #[.int .i64 X, .int .i64 Y]] w fun e w' => e = .returned (.bool (inB W H X Y)) ∧ GB w w' := by
  by_cases hm : mayB W H = true
  all_goals
    go_enter Tryd.func87, Tryd.ntmps87
    go_wp2_with (go_at_call 85; refine (mayG _ _ _).mono ?_; rintro e w' ⟨rfl, hb⟩; obtain ⟨hc, hf⟩ := bcell hb.1)
    all_goals
      go_ret
      refine ⟨ret_bool (by rw [Bool.eq_iff_iff]; have hm' := @mayB_iff W H; simp_all [inB] <;> omega), ?_⟩
      exact GB.tr (((GB.refl _).al _).al _) hb
set_option maxHeartbeats 400000 in
theorem indexG (W H X Y : Int) (w : World) (hi : inB W H X Y = true) :
    Calls Tryd.prog 94 #[.agg #[.int .i64 W, .int .i64 H], .agg #[.int .i64 X, .int .i64 Y]] w fun e w' => e = .returned (.tuple #[.int .i64 (Y * W + X), .int .i64 0]) ∧ GB w w' := by
  obtain ⟨h1, h2, h3, h4, h5, h6, h7, h8⟩ := inB_iff.1 hi
  obtain ⟨m1, m2⟩ := mul_bd h7 (by omega) h1 h2
  go_enter Tryd.func94, Tryd.ntmps94
  go_wp2_with (go_at_call 87; refine (inG _ _ _ _ _).mono ?_; rintro e w' ⟨rfl, hb⟩; obtain ⟨hc, hf⟩ := bcell hb.1)
  go_ret2
  exact ⟨rfl, GB.tr (((GB.refl _).al _).al _) hb⟩
set_option maxHeartbeats 400000 in
theorem rightG (W H S : Int) (w : World) (hr : rightP W H S = true) :
    Calls Tryd.prog 99 #[.agg #[.int .i64 W, .int .i64 H, .int .i64 S]] w fun e w' => e = .returned (.bool true) ∧ GB w w' := by
  have hA := GB.refl w
  have hm : mayB W H = true := by
    cases hm : mayB W H
    · unfold rightP at hr; rw [hm] at hr; cases hr
    · rfl
  obtain ⟨_, h2, h16⟩ := rightP_iff.1 hr
  go_enter Tryd.func99, Tryd.ntmps99
  go_wp2_with fail
  refine (mayG _ _ _).mono ?_
  rintro e w1 ⟨rfl, hb⟩
  have hk : GB w w1 := by first | exact hb | exact GB.tr (GB.refl _) hb | exact GB.tr (GB.dr (GB.refl _)) hb | exact GB.tr (GB.al (GB.refl _) _) hb | exact GB.tr (GB.dr (GB.al (GB.refl _) _)) hb | exact GB.tr (GB.al (GB.al (GB.refl _) _) _) hb | exact GB.tr (GB.dr (GB.al (GB.al (GB.refl _) _) _)) hb | exact GB.tr (GB.al (GB.al (GB.al (GB.refl _) _) _) _) hb | exact GB.tr (GB.dr (GB.al (GB.al (GB.al (GB.refl _) _) _) _)) hb | exact GB.tr (GB.al (GB.al (GB.al (GB.al (GB.refl _) _) _) _) _) hb | exact GB.tr (GB.dr (GB.al (GB.al (GB.al (GB.al (GB.refl _) _) _) _) _)) hb | exact GB.tr (GB.al (GB.al (GB.al (GB.al (GB.al (GB.refl _) _) _) _) _) _) hb | exact GB.tr (GB.dr (GB.al (GB.al (GB.al (GB.al (GB.al (GB.refl _) _) _) _) _) _)) hb | exact GB.tr (GB.al (GB.al (GB.al (GB.al (GB.al (GB.al (GB.refl _) _) _) _) _) _) _) hb | exact GB.tr (GB.dr (GB.al (GB.al (GB.al (GB.al (GB.al (GB.al (GB.refl _) _) _) _) _) _) _)) hb
  replace hA := GB.tr hA hk
  have f0 := cell_later hb.1 (v := .int .i64 W) (a := ⟨w.heap.size, 0, none⟩) (by simp [go_sem])
  have f1 := cell_later hb.1 (v := .int .i64 H) (a := ⟨w.heap.size, 1, none⟩) (by simp [go_sem])
  have f2 := cell_later hb.1 (v := .int .i64 S) (a := ⟨w.heap.size, 2, none⟩) (by simp [go_sem])
  clear hb hk
  have zf0 := blk_lt f0
  have zf1 := blk_lt f1
  have zf2 := blk_lt f2
  rw [hm]
  go_wp2
  go_ret
  exact ⟨rfl, hA⟩
set_option maxHeartbeats 1600000 in
theorem lieG (W H S : Int) (w : World) (hr : rightP W H S = true) :
    Calls Tryd.prog 100 #[.agg #[.int .i64 W, .int .i64 H, .int .i64 S]] w fun e w' => e = .returned (.agg #[.int .i64 (lieN W S), .int .i64 (lieN H S)]) ∧ GB w w' := by
  obtain ⟨⟨a1, a2, a3, a4⟩, a5, a6⟩ := rightP_iff.1 hr
  have hz : (S == 0) = false := by simp; omega
  have k1 : (W + S - 1).tdiv S = lieN W S := Int.tdiv_eq_ediv_of_nonneg (by omega)
  have k2 : (H + S - 1).tdiv S = lieN H S := Int.tdiv_eq_ediv_of_nonneg (by omega)
  obtain ⟨u, hu⟩ : ∃ u, lieN W S = u := ⟨_, rfl⟩
  obtain ⟨v, hv⟩ : ∃ v, lieN H S = v := ⟨_, rfl⟩
  obtain ⟨b1, b2, b3, b4⟩ := lie_bd a1 a2 a5 a6
  obtain ⟨c1, c2, c3, c4⟩ := lie_bd a3 a4 a5 a6
  have w1 : IntKind.i64.wrap (W + S) = W + S := IntWalk.i64_in _ (by omega)
  have w2 : IntKind.i64.wrap (W + S - 1) = W + S - 1 := IntWalk.i64_in _ (by omega)
  have w3 : IntKind.i64.wrap (H + S) = H + S := IntWalk.i64_in _ (by omega)
  have w4 : IntKind.i64.wrap (H + S - 1) = H + S - 1 := IntWalk.i64_in _ (by omega)
  rw [hu] at k1 b1 b2
  rw [hv] at k2 c1 c2
  rw [hu, hv]
  have w5 : IntKind.i64.wrap u = u := IntWalk.i64_in _ (by omega)
  have w6 : IntKind.i64.wrap v = v := IntWalk.i64_in _ (by omega)
  clear hu hv b3 b4 c3 c4 hr
  go_enter Tryd.func100, Tryd.ntmps100
  go_wp2
  go_region
  all_goals go_wp2
  refine bodyPost_ret (v := .agg #[.int .i64 u, .int .i64 v]) (by simp [results, Tryd.results100, go_sem]) rfl ⟨rfl, ?_⟩
  exact GB.dr (((GB.refl _).al _).al _)
set_option maxHeartbeats 1600000 in
theorem ofG (W H S : Int) (c : IC) (w : World) (hr : rightP W H S = true) :
    Calls Tryd.prog 69 #[.agg #[.int .i64 W, .int .i64 H, .int .i64 S], .agg #[.int .i64 c.1, .int .i64 c.2]] w fun e w' => e = .returned (.tuple #[.int .i64 (ofV W H S c), .int .i64 (ofX W H S c)]) ∧ GB w w' := by
  have hA := GB.refl w
  cases hc : onB W H c
  · have e1 : ofX W H S c = 10 := by unfold ofX; rw [if_pos hr, if_neg (by rw [hc]; decide)]
    have e2 : ofV W H S c = 0 := by unfold ofV; rw [if_neg (by rw [e1]; decide)]
    rw [e1, e2]
    clear e1 e2
    have HR := Lib.hid (fun w => rightG W H S w hr)
    have HC := Lib.hid (fun w => inG W H c.1 c.2 w)
    rw [show inB W H c.1 c.2 = false from hc] at HC
    clear hc
    go_enter Tryd.func69, Tryd.ntmps69
    go_wp2_with fail
    refine (HR.out _).mono ?_
    rintro e w1 ⟨rfl, hb⟩
    have hk : GB w w1 := by first | exact hb | exact GB.tr (GB.refl _) hb | exact GB.tr (GB.dr (GB.refl _)) hb | exact GB.tr (GB.al (GB.refl _) _) hb | exact GB.tr (GB.dr (GB.al (GB.refl _) _)) hb | exact GB.tr (GB.al (GB.al (GB.refl _) _) _) hb | exact GB.tr (GB.dr (GB.al (GB.al (GB.refl _) _) _)) hb | exact GB.tr (GB.al (GB.al (GB.al (GB.refl _) _) _) _) hb | exact GB.tr (GB.dr (GB.al (GB.al (GB.al (GB.refl _) _) _) _)) hb | exact GB.tr (GB.al (GB.al (GB.al (GB.al (GB.refl _) _) _) _) _) hb | exact GB.tr (GB.dr (GB.al (GB.al (GB.al (GB.al (GB.refl _) _) _) _) _)) hb | exact GB.tr (GB.al (GB.al (GB.al (GB.al (GB.al (GB.refl _) _) _) _) _) _) hb | exact GB.tr (GB.dr (GB.al (GB.al (GB.al (GB.al (GB.al (GB.refl _) _) _) _) _) _)) hb | exact GB.tr (GB.al (GB.al (GB.al (GB.al (GB.al (GB.al (GB.refl _) _) _) _) _) _) _) hb | exact GB.tr (GB.dr (GB.al (GB.al (GB.al (GB.al (GB.al (GB.al (GB.refl _) _) _) _) _) _) _)) hb
    replace hA := GB.tr hA hk
    have f0 := cell_later hb.1 (v := .int .i64 W) (a := ⟨w.heap.size, 0, none⟩) (by simp [go_sem])
    have f1 := cell_later hb.1 (v := .int .i64 H) (a := ⟨w.heap.size, 1, none⟩) (by simp [go_sem])
    have f2 := cell_later hb.1 (v := .int .i64 S) (a := ⟨w.heap.size, 2, none⟩) (by simp [go_sem])
    have c0 := cell_later hb.1 (v := .int .i64 c.1) (a := ⟨w.heap.size + 1, 0, none⟩) (by simp [go_sem])
    have c1 := cell_later hb.1 (v := .int .i64 c.2) (a := ⟨w.heap.size + 1, 1, none⟩) (by simp [go_sem])
    clear hb hk
    have zf0 := blk_lt f0
    have zf1 := blk_lt f1
    have zf2 := blk_lt f2
    have zc0 := blk_lt c0
    have zc1 := blk_lt c1
    go_wp2_with fail
    refine (HC.out _).mono ?_
    rintro e w2 ⟨rfl, hb⟩
    have hk : GB w1 w2 := by first | exact hb | exact GB.tr (GB.refl _) hb | exact GB.tr (GB.dr (GB.refl _)) hb | exact GB.tr (GB.al (GB.refl _) _) hb | exact GB.tr (GB.dr (GB.al (GB.refl _) _)) hb | exact GB.tr (GB.al (GB.al (GB.refl _) _) _) hb | exact GB.tr (GB.dr (GB.al (GB.al (GB.refl _) _) _)) hb | exact GB.tr (GB.al (GB.al (GB.al (GB.refl _) _) _) _) hb | exact GB.tr (GB.dr (GB.al (GB.al (GB.al (GB.refl _) _) _) _)) hb | exact GB.tr (GB.al (GB.al (GB.al (GB.al (GB.refl _) _) _) _) _) hb | exact GB.tr (GB.dr (GB.al (GB.al (GB.al (GB.al (GB.refl _) _) _) _) _)) hb | exact GB.tr (GB.al (GB.al (GB.al (GB.al (GB.al (GB.refl _) _) _) _) _) _) hb | exact GB.tr (GB.dr (GB.al (GB.al (GB.al (GB.al (GB.al (GB.refl _) _) _) _) _) _)) hb | exact GB.tr (GB.al (GB.al (GB.al (GB.al (GB.al (GB.al (GB.refl _) _) _) _) _) _) _) hb | exact GB.tr (GB.dr (GB.al (GB.al (GB.al (GB.al (GB.al (GB.al (GB.refl _) _) _) _) _) _) _)) hb
    replace hA := GB.tr hA hk
    clear hb hk
    go_wp2
    go_ret2
    exact ⟨rfl, hA⟩
  · have e1 : ofX W H S c = 0 := ofX_yes.2 ⟨hr, hc⟩
    have e2 : ofV W H S c = ofP W S c := by unfold ofV; rw [if_pos e1]
    rw [e1, e2]
    clear e1 e2
    obtain ⟨⟨a1, a2, a3, a4⟩, a5, a6⟩ := rightP_iff.1 hr
    obtain ⟨k1, k2, k3, k4⟩ := cell_plc hr hc
    obtain ⟨l1, l2, l3, l4⟩ := lie_wide hr
    obtain ⟨b1, b2, b3, b4, b5, b6, b7, b8⟩ := inB_iff.1 hc
    have hix : inB (lieN W S) (lieN H S) (c.1 / S) (c.2 / S) = true := inB_iff.2 (by omega)
    have HI := Lib.hid (fun w => indexG (lieN W S) (lieN H S) (c.1 / S) (c.2 / S) w hix)
    have HL := Lib.hid (fun w => lieG W H S w hr)
    have HR := Lib.hid (fun w => rightG W H S w hr)
    rw [show c.2 / S * lieN W S + c.1 / S = ofP W S c from rfl] at HI
    have HC := Lib.hid (fun w => inG W H c.1 c.2 w)
    rw [show inB W H c.1 c.2 = true from hc] at HC
    have hz : (S == 0) = false := by rw [beq_eq_false_iff_ne]; omega
    have hz2 : S ≠ 0 := by omega
    have d1 : c.1.tdiv S = c.1 / S := Int.tdiv_eq_ediv_of_nonneg b5
    have d2 : c.2.tdiv S = c.2 / S := Int.tdiv_eq_ediv_of_nonneg b7
    have w1' : IntKind.i64.wrap (c.1 / S) = c.1 / S := IntWalk.i64_in _ (by omega)
    have w2' : IntKind.i64.wrap (c.2 / S) = c.2 / S := IntWalk.i64_in _ (by omega)
    generalize ofP W S c = o at *
    generalize lieN W S = lw at *
    generalize lieN H S = lh at *
    obtain ⟨x, y⟩ := c
    simp only at *
    obtain ⟨p, hp⟩ : ∃ p, x / S = p := ⟨_, rfl⟩
    obtain ⟨q, hq⟩ : ∃ q, y / S = q := ⟨_, rfl⟩
    rw [hp] at d1 w1' HI
    rw [hq] at d2 w2' HI
    clear hc hix k1 k2 k3 k4 l1 l2 l3 l4 hr
    go_enter Tryd.func69, Tryd.ntmps69
    go_wp2_with fail
    refine (HR.out _).mono ?_
    rintro e w1 ⟨rfl, hb⟩
    have hk : GB w w1 := by first | exact hb | exact GB.tr (GB.refl _) hb | exact GB.tr (GB.dr (GB.refl _)) hb | exact GB.tr (GB.al (GB.refl _) _) hb | exact GB.tr (GB.dr (GB.al (GB.refl _) _)) hb | exact GB.tr (GB.al (GB.al (GB.refl _) _) _) hb | exact GB.tr (GB.dr (GB.al (GB.al (GB.refl _) _) _)) hb | exact GB.tr (GB.al (GB.al (GB.al (GB.refl _) _) _) _) hb | exact GB.tr (GB.dr (GB.al (GB.al (GB.al (GB.refl _) _) _) _)) hb | exact GB.tr (GB.al (GB.al (GB.al (GB.al (GB.refl _) _) _) _) _) hb | exact GB.tr (GB.dr (GB.al (GB.al (GB.al (GB.al (GB.refl _) _) _) _) _)) hb | exact GB.tr (GB.al (GB.al (GB.al (GB.al (GB.al (GB.refl _) _) _) _) _) _) hb | exact GB.tr (GB.dr (GB.al (GB.al (GB.al (GB.al (GB.al (GB.refl _) _) _) _) _) _)) hb | exact GB.tr (GB.al (GB.al (GB.al (GB.al (GB.al (GB.al (GB.refl _) _) _) _) _) _) _) hb | exact GB.tr (GB.dr (GB.al (GB.al (GB.al (GB.al (GB.al (GB.al (GB.refl _) _) _) _) _) _) _)) hb
    replace hA := GB.tr hA hk
    have f0 := cell_later hb.1 (v := .int .i64 W) (a := ⟨w.heap.size, 0, none⟩) (by simp [go_sem])
    have f1 := cell_later hb.1 (v := .int .i64 H) (a := ⟨w.heap.size, 1, none⟩) (by simp [go_sem])
    have f2 := cell_later hb.1 (v := .int .i64 S) (a := ⟨w.heap.size, 2, none⟩) (by simp [go_sem])
    have c0 := cell_later hb.1 (v := .int .i64 x) (a := ⟨w.heap.size + 1, 0, none⟩) (by simp [go_sem])
    have c1 := cell_later hb.1 (v := .int .i64 y) (a := ⟨w.heap.size + 1, 1, none⟩) (by simp [go_sem])
    clear hb hk
    have zf0 := blk_lt f0
    have zf1 := blk_lt f1
    have zf2 := blk_lt f2
    have zc0 := blk_lt c0
    have zc1 := blk_lt c1
    go_wp2_with fail
    refine (HC.out _).mono ?_
    rintro e w2 ⟨rfl, hb⟩
    have hk : GB w1 w2 := by first | exact hb | exact GB.tr (GB.refl _) hb | exact GB.tr (GB.dr (GB.refl _)) hb | exact GB.tr (GB.al (GB.refl _) _) hb | exact GB.tr (GB.dr (GB.al (GB.refl _) _)) hb | exact GB.tr (GB.al (GB.al (GB.refl _) _) _) hb | exact GB.tr (GB.dr (GB.al (GB.al (GB.refl _) _) _)) hb | exact GB.tr (GB.al (GB.al (GB.al (GB.refl _) _) _) _) hb | exact GB.tr (GB.dr (GB.al (GB.al (GB.al (GB.refl _) _) _) _)) hb | exact GB.tr (GB.al (GB.al (GB.al (GB.al (GB.refl _) _) _) _) _) hb | exact GB.tr (GB.dr (GB.al (GB.al (GB.al (GB.al (GB.refl _) _) _) _) _)) hb | exact GB.tr (GB.al (GB.al (GB.al (GB.al (GB.al (GB.refl _) _) _) _) _) _) hb | exact GB.tr (GB.dr (GB.al (GB.al (GB.al (GB.al (GB.al (GB.refl _) _) _) _) _) _)) hb | exact GB.tr (GB.al (GB.al (GB.al (GB.al (GB.al (GB.al (GB.refl _) _) _) _) _) _) _) hb | exact GB.tr (GB.dr (GB.al (GB.al (GB.al (GB.al (GB.al (GB.al (GB.refl _) _) _) _) _) _) _)) hb
    replace hA := GB.tr hA hk
    replace f0 := cell_later hk.1 f0
    replace f1 := cell_later hk.1 f1
    replace f2 := cell_later hk.1 f2
    replace c0 := cell_later hk.1 c0
    replace c1 := cell_later hk.1 c1
    clear hb hk
    have zf0 := blk_lt f0
    have zf1 := blk_lt f1
    have zf2 := blk_lt f2
    have zc0 := blk_lt c0
    have zc1 := blk_lt c1
    go_upto_region 5 with fail
    have hB := (GB.refl w2).dr
    go_region_held3 (fun w' => w'.cell? ⟨w.heap.size, 0, none⟩ = some (.int .i64 W) ∧ w'.cell? ⟨w.heap.size, 1, none⟩ = some (.int .i64 H) ∧ w'.cell? ⟨w.heap.size, 2, none⟩ = some (.int .i64 S) ∧ w'.cell? ⟨w.heap.size + 1, 0, none⟩ = some (.int .i64 x) ∧ w'.cell? ⟨w.heap.size + 1, 1, none⟩ = some (.int .i64 y))
      (exact ⟨cell_later hB.1 f0, cell_later hB.1 f1, cell_later hB.1 f2, cell_later hB.1 c0, cell_later hB.1 c1⟩)
      (first
      | (go_at_call 100; (with_reducible refine (HL.out _).mono ?_); rintro e w9 ⟨rfl, hb9⟩; replace hB := GB.tr hB hb9)
      | (go_at_call 94; (with_reducible refine (HI.out _).mono ?_); rintro e w8 ⟨rfl, hb8⟩; replace hB := GB.tr hB hb8))
    all_goals go_wp2
    all_goals go_ret2
    all_goals exact ⟨rfl, GB.tr hA hB⟩

/-- Of two numbers the first one that is not 0. -/
def orI (x y : Int) : Int := if x ≠ 0 then x else y
set_option maxRecDepth 100000 in
set_option maxHeartbeats 1600000 in
theorem or_two (x y : Int) (b : Nat) (w : World) (h0 : w.cell? ⟨b, 0, none⟩ = some (.int .i64 x)) (h1 : w.cell? ⟨b, 1, none⟩ = some (.int .i64 y)) :
    Calls Tryd.prog 111 #[.slice (some ⟨b, 0, none⟩) 2 2] w fun e w' => e = .returned (.int .i64 (orI x y)) ∧ w' = w := by
  by_cases hx : x = 0
  · have e : orI x y = y := by unfold orI; rw [if_neg (fun h => h hx)]
    rw [e]
    subst hx
    by_cases hy : y = 0
    · subst hy
      go_enter Tryd.func111, Tryd.ntmps111
      go_wp2
      refine wp_loop_rounds 3 ?_
      iterate 3 (rw [rounds_succ]; go_wp2)
      go_ret
      exact ⟨rfl, rfl⟩
    · have hy2 : (y != 0) = true := by rw [bne_iff_ne]; exact hy
      clear hy
      go_enter Tryd.func111, Tryd.ntmps111
      go_wp2
      refine wp_loop_rounds 3 ?_
      iterate 2 (rw [rounds_succ]; go_wp2)
      go_ret
      exact ⟨rfl, rfl⟩
  · have e : orI x y = x := by unfold orI; rw [if_pos hx]
    rw [e]
    have hx2 : (x != 0) = true := by rw [bne_iff_ne]; exact hx
    clear hx
    go_enter Tryd.func111, Tryd.ntmps111
    go_wp2
    refine wp_loop_rounds 3 ?_
    iterate 1 (rw [rounds_succ]; go_wp2)
    go_ret
    exact ⟨rfl, rfl⟩
end Go.Proofs.YtbdfjdipjacamaaDoor

/- The functions that put gates in order: byRow, and the closures of order. -/
namespace Go.Proofs.YtbdfjdipjacamaaDoor
open Go.RowKit Go.Sort

def byI (c d : IC) : Int := orI (Lib.compareInt c.2 d.2) (Lib.compareInt c.1 d.1)
set_option maxRecDepth 100000 in
set_option maxHeartbeats 1600000 in
theorem byRowG (c d : IC) (w : World) :
    Calls Tryd.prog 71 #[.agg #[.int .i64 c.1, .int .i64 c.2], .agg #[.int .i64 d.1, .int .i64 d.2]] w fun e w' => e = .returned (.int .i64 (byI c d)) ∧ GB w w' := by
  have hA := GB.refl w
  have H1 := Lib.hid (fun w => Tryd.cmp_Compare_int c.2 d.2 w)
  have H2 := Lib.hid (fun w => Tryd.cmp_Compare_int c.1 d.1 w)
  have H3 := Lib.hid (fun b w h0 h1 => or_two (Lib.compareInt c.2 d.2) (Lib.compareInt c.1 d.1) b w h0 h1)
  rw [show orI (Lib.compareInt c.2 d.2) (Lib.compareInt c.1 d.1) = byI c d from rfl] at H3
  generalize byI c d = r at *
  generalize Lib.compareInt c.2 d.2 = x at *
  generalize Lib.compareInt c.1 d.1 = y at *
  go_enter Tryd.func71, Tryd.ntmps71
  go_upto_region 1 with fail
  have hB := (((GB.refl w).al (.cells #[.int .i64 c.1, .int .i64 c.2] 30)).al (.cells #[.int .i64 d.1, .int .i64 d.2] 30)).dr
  go_region_held3 (fun w' => w'.cell? ⟨w.heap.size, 0, none⟩ = some (.int .i64 c.1) ∧ w'.cell? ⟨w.heap.size, 1, none⟩ = some (.int .i64 c.2) ∧ w'.cell? ⟨w.heap.size + 1, 0, none⟩ = some (.int .i64 d.1) ∧ w'.cell? ⟨w.heap.size + 1, 1, none⟩ = some (.int .i64 d.2))
    (exact ⟨by simp [go_sem], by simp [go_sem], by simp [go_sem], by simp [go_sem]⟩)
    (first
    | (go_at_call 110; (first | with_reducible refine (H1.out _).mono ?_ | with_reducible refine (H2.out _).mono ?_); rintro e w9 ⟨rfl, hw9⟩; subst hw9)
    | (go_at_call 111; (with_reducible refine (H3.out _ _ (by simp [go_sem]) (by simp [go_sem])).mono ?_); rintro e w8 ⟨rfl, hw8⟩; subst hw8))
  all_goals go_wp2
  all_goals go_ret
  all_goals exact ⟨rfl, hB.al _⟩
/-- The cluster of a cell, told by order's first closure. -/
theorem ord1G (W H S : Int) (c : IC) (b : Nat) (w : World) (hr : rightP W H S = true) (f0 : w.cell? ⟨b, 0, none⟩ = some (.int .i64 W)) (f1 : w.cell? ⟨b, 1, none⟩ = some (.int .i64 H)) (f2 : w.cell? ⟨b, 2, none⟩ = some (.int .i64 S)) :
    Calls Tryd.prog 108 #[.agg #[.int .i64 c.1, .int .i64 c.2], .pointer (some ⟨b, 0, none⟩)] w fun e w' => e = .returned (.int .i64 (ofV W H S c)) ∧ GB w w' := by
  have hA := GB.refl w
  have H1 := Lib.hid (fun w => ofG W H S c w hr)
  replace f0 := cell_later (bl_al (bl0 w) (.cells #[.int .i64 c.1, .int .i64 c.2] 30)) f0
  replace f1 := cell_later (bl_al (bl0 w) (.cells #[.int .i64 c.1, .int .i64 c.2] 30)) f1
  replace f2 := cell_later (bl_al (bl0 w) (.cells #[.int .i64 c.1, .int .i64 c.2] 30)) f2
  clear hr
  go_enter Tryd.func108, Tryd.ntmps108
  go_wp2_with fail
  refine (H1.out _).mono ?_
  rintro e w1 ⟨rfl, hb⟩
  have hk : GB w w1 := by first | exact hb | exact GB.tr (GB.refl _) hb | exact GB.tr (GB.dr (GB.refl _)) hb | exact GB.tr (GB.al (GB.refl _) _) hb | exact GB.tr (GB.dr (GB.al (GB.refl _) _)) hb | exact GB.tr (GB.al (GB.al (GB.refl _) _) _) hb | exact GB.tr (GB.dr (GB.al (GB.al (GB.refl _) _) _)) hb | exact GB.tr (GB.al (GB.al (GB.al (GB.refl _) _) _) _) hb | exact GB.tr (GB.dr (GB.al (GB.al (GB.al (GB.refl _) _) _) _)) hb | exact GB.tr (GB.al (GB.al (GB.al (GB.al (GB.refl _) _) _) _) _) hb | exact GB.tr (GB.dr (GB.al (GB.al (GB.al (GB.al (GB.refl _) _) _) _) _)) hb | exact GB.tr (GB.al (GB.al (GB.al (GB.al (GB.al (GB.refl _) _) _) _) _) _) hb | exact GB.tr (GB.dr (GB.al (GB.al (GB.al (GB.al (GB.al (GB.refl _) _) _) _) _) _)) hb | exact GB.tr (GB.al (GB.al (GB.al (GB.al (GB.al (GB.al (GB.refl _) _) _) _) _) _) _) hb | exact GB.tr (GB.dr (GB.al (GB.al (GB.al (GB.al (GB.al (GB.al (GB.refl _) _) _) _) _) _) _)) hb
  replace hA := GB.tr hA hk
  clear hb hk
  go_wp2
  go_ret
  exact ⟨rfl, hA⟩
def ordI (W H S : Int) (p q : IC × IC) : Int :=
  let a := Lib.compareInt (ofV W H S p.1) (ofV W H S q.1)
  if a ≠ 0 then a else orI (Lib.compareInt (ofV W H S p.2) (ofV W H S q.2)) (byI p.1 q.1)
set_option maxRecDepth 100000 in
set_option maxHeartbeats 4000000 in
theorem ord2G (W H S : Int) (p q : IC × IC) (b d : Nat) (w : World) (hr : rightP W H S = true) (f0 : w.cell? ⟨b, 0, none⟩ = some (.int .i64 W)) (f1 : w.cell? ⟨b, 1, none⟩ = some (.int .i64 H)) (f2 : w.cell? ⟨b, 2, none⟩ = some (.int .i64 S))
    (g0 : w.cell? ⟨d, 0, none⟩ = some (.func (.func 108) #[] #[.pointer (some ⟨b, 0, none⟩)])) :
    Calls Tryd.prog 109 #[.agg #[.int .i64 p.1.1, .int .i64 p.1.2, .int .i64 p.2.1, .int .i64 p.2.2], .agg #[.int .i64 q.1.1, .int .i64 q.1.2, .int .i64 q.2.1, .int .i64 q.2.2], .pointer (some ⟨d, 0, none⟩)] w fun e w' => e = .returned (.int .i64 (ordI W H S p q)) ∧ GB w w' := by
  have K1 := Lib.hid (fun w f0 f1 f2 => ord1G W H S p.1 b w hr f0 f1 f2)
  have K2 := Lib.hid (fun w f0 f1 f2 => ord1G W H S q.1 b w hr f0 f1 f2)
  have K3 := Lib.hid (fun w f0 f1 f2 => ord1G W H S p.2 b w hr f0 f1 f2)
  have K4 := Lib.hid (fun w f0 f1 f2 => ord1G W H S q.2 b w hr f0 f1 f2)
  have H1 := Lib.hid (fun w => Tryd.cmp_Compare_int (ofV W H S p.1) (ofV W H S q.1) w)
  have H2 := Lib.hid (fun w => Tryd.cmp_Compare_int (ofV W H S p.2) (ofV W H S q.2) w)
  have H4 := Lib.hid (fun w => byRowG p.1 q.1 w)
  have H3 := Lib.hid (fun b w h0 h1 => or_two (Lib.compareInt (ofV W H S p.2) (ofV W H S q.2)) (byI p.1 q.1) b w h0 h1)
  have hv : ordI W H S p q = if Lib.compareInt (ofV W H S p.1) (ofV W H S q.1) ≠ 0 then Lib.compareInt (ofV W H S p.1) (ofV W H S q.1) else orI (Lib.compareInt (ofV W H S p.2) (ofV W H S q.2)) (byI p.1 q.1) := rfl
  generalize orI (Lib.compareInt (ofV W H S p.2) (ofV W H S q.2)) (byI p.1 q.1) = v at *
  generalize Lib.compareInt (ofV W H S p.1) (ofV W H S q.1) = x at *
  generalize Lib.compareInt (ofV W H S p.2) (ofV W H S q.2) = y at *
  generalize byI p.1 q.1 = z at *
  generalize ordI W H S p q = r at *
  generalize ofV W H S p.1 = o1 at *
  generalize ofV W H S q.1 = o2 at *
  generalize ofV W H S p.2 = o3 at *
  generalize ofV W H S q.2 = o4 at *
  have HV := Lib.hid hv
  clear hv hr
  have hk := bl_al (bl_al (bl0 w) (.cells #[.int .i64 p.1.1, .int .i64 p.1.2, .int .i64 p.2.1, .int .i64 p.2.2] 108)) (.cells #[.int .i64 q.1.1, .int .i64 q.1.2, .int .i64 q.2.1, .int .i64 q.2.2] 108)
  replace f0 := cell_later hk f0; replace f1 := cell_later hk f1; replace f2 := cell_later hk f2; replace g0 := cell_later hk g0
  go_enter Tryd.func109, Tryd.ntmps109
  go_upto_region 1 with fail
  obtain ⟨w0, hw0⟩ : ∃ w0, (w.alloc (.cells #[.int .i64 p.1.1, .int .i64 p.1.2, .int .i64 p.2.1, .int .i64 p.2.2] 108)).alloc (.cells #[.int .i64 q.1.1, .int .i64 q.1.2, .int .i64 q.2.1, .int .i64 q.2.2] 108) = w0 := ⟨_, rfl⟩
  have hA : GB w w0 := by rw [← hw0]; exact ((GB.refl w).al _).al _
  have p0 : w0.cell? ⟨w.heap.size, 0, none⟩ = some (.int .i64 p.1.1) := by rw [← hw0]; simp [go_sem]
  have p1 : w0.cell? ⟨w.heap.size, 1, none⟩ = some (.int .i64 p.1.2) := by rw [← hw0]; simp [go_sem]
  have p2 : w0.cell? ⟨w.heap.size, 2, none⟩ = some (.int .i64 p.2.1) := by rw [← hw0]; simp [go_sem]
  have p3 : w0.cell? ⟨w.heap.size, 3, none⟩ = some (.int .i64 p.2.2) := by rw [← hw0]; simp [go_sem]
  have q0 : w0.cell? ⟨w.heap.size + 1, 0, none⟩ = some (.int .i64 q.1.1) := by rw [← hw0]; simp [go_sem]
  have q1 : w0.cell? ⟨w.heap.size + 1, 1, none⟩ = some (.int .i64 q.1.2) := by rw [← hw0]; simp [go_sem]
  have q2 : w0.cell? ⟨w.heap.size + 1, 2, none⟩ = some (.int .i64 q.2.1) := by rw [← hw0]; simp [go_sem]
  have q3 : w0.cell? ⟨w.heap.size + 1, 3, none⟩ = some (.int .i64 q.2.2) := by rw [← hw0]; simp [go_sem]
  rw [hw0] at f0 f1 f2 g0
  rw [hw0]
  clear hw0 hk
  have HS := Lib.hid (show ∀ W', Below w0.heap.size w0 W' → W'.cell? ⟨d, 0, none⟩ = some (.func (.func 108) #[] #[.pointer (some ⟨b, 0, none⟩)]) ∧ (W'.cell? ⟨w.heap.size, 0, none⟩ = some (.int .i64 p.1.1) ∧ W'.cell? ⟨w.heap.size, 1, none⟩ = some (.int .i64 p.1.2)) ∧ W'.cell? ⟨w.heap.size + 1, 0, none⟩ = some (.int .i64 q.1.1) ∧ W'.cell? ⟨w.heap.size + 1, 1, none⟩ = some (.int .i64 q.1.2) from fun W' h => ⟨cell_later h g0, ⟨cell_later h p0, cell_later h p1⟩, cell_later h q0, cell_later h q1⟩)
  have hB := (GB.refl w0).dr
  have hB1 := hB.1
  go_cut [6] from 7 to 15 (fun s wx => s = .int .i64 x ∧ GB w0 wx)
  case first =>
    go_region_held3 (fun W' => W'.cell? ⟨d, 0, none⟩ = some (.func (.func 108) #[] #[.pointer (some ⟨b, 0, none⟩)]) ∧ (W'.cell? ⟨w.heap.size, 0, none⟩ = some (.int .i64 p.1.1) ∧ W'.cell? ⟨w.heap.size, 1, none⟩ = some (.int .i64 p.1.2)) ∧ W'.cell? ⟨w.heap.size + 1, 0, none⟩ = some (.int .i64 q.1.1) ∧ W'.cell? ⟨w.heap.size + 1, 1, none⟩ = some (.int .i64 q.1.2))
      (exact HS.out _ hB1)
      (first
      | (go_at_call 108; (first | with_reducible refine (K1.out _ (cell_later hB1 f0) (cell_later hB1 f1) (cell_later hB1 f2)).mono ?_ | with_reducible refine (K2.out _ (cell_later hB1 f0) (cell_later hB1 f1) (cell_later hB1 f2)).mono ?_); rintro e w9 ⟨rfl, hb9⟩; replace hB := GB.tr hB hb9; replace hB1 := hB.1)
      | (go_at_call 110; (with_reducible refine (H1.out _).mono ?_); rintro e w8 ⟨rfl, hw8⟩; subst hw8))
    all_goals
      go_wp2_with fail
      go_meet
      exact ⟨rfl, hB⟩
  case rest =>
  obtain ⟨rfl, hb⟩ := hcut
  have hh := HV.out
  by_cases hx : x = 0
  · subst hx
    rw [if_neg (fun h => h rfl)] at hh
    subst hh
    replace f0 := cell_later hb.1 f0; replace f1 := cell_later hb.1 f1; replace f2 := cell_later hb.1 f2
    replace g0 := cell_later hb.1 g0
    replace p0 := cell_later hb.1 p0; replace p1 := cell_later hb.1 p1; replace p2 := cell_later hb.1 p2; replace p3 := cell_later hb.1 p3
    replace q0 := cell_later hb.1 q0; replace q1 := cell_later hb.1 q1; replace q2 := cell_later hb.1 q2; replace q3 := cell_later hb.1 q3
    have HS2 := Lib.hid (show ∀ W', Below wc.heap.size wc W' → W'.cell? ⟨d, 0, none⟩ = some (.func (.func 108) #[] #[.pointer (some ⟨b, 0, none⟩)]) ∧ ((W'.cell? ⟨w.heap.size, 0, none⟩ = some (.int .i64 p.1.1) ∧ W'.cell? ⟨w.heap.size, 1, none⟩ = some (.int .i64 p.1.2)) ∧ W'.cell? ⟨w.heap.size, 2, none⟩ = some (.int .i64 p.2.1) ∧ W'.cell? ⟨w.heap.size, 3, none⟩ = some (.int .i64 p.2.2)) ∧ (W'.cell? ⟨w.heap.size + 1, 0, none⟩ = some (.int .i64 q.1.1) ∧ W'.cell? ⟨w.heap.size + 1, 1, none⟩ = some (.int .i64 q.1.2)) ∧ W'.cell? ⟨w.heap.size + 1, 2, none⟩ = some (.int .i64 q.2.1) ∧ W'.cell? ⟨w.heap.size + 1, 3, none⟩ = some (.int .i64 q.2.2) from fun W' h => ⟨cell_later h g0, ⟨⟨cell_later h p0, cell_later h p1⟩, cell_later h p2, cell_later h p3⟩, ⟨cell_later h q0, cell_later h q1⟩, cell_later h q2, cell_later h q3⟩)
    clear hB hB1
    have hB := (GB.refl wc).dr
    have hB1 := hB.1
    have zp0 := blk_lt p0
    go_upto_region 4 with fail
    go_region_held3 (fun W' => W'.cell? ⟨d, 0, none⟩ = some (.func (.func 108) #[] #[.pointer (some ⟨b, 0, none⟩)]) ∧ ((W'.cell? ⟨w.heap.size, 0, none⟩ = some (.int .i64 p.1.1) ∧ W'.cell? ⟨w.heap.size, 1, none⟩ = some (.int .i64 p.1.2)) ∧ W'.cell? ⟨w.heap.size, 2, none⟩ = some (.int .i64 p.2.1) ∧ W'.cell? ⟨w.heap.size, 3, none⟩ = some (.int .i64 p.2.2)) ∧ (W'.cell? ⟨w.heap.size + 1, 0, none⟩ = some (.int .i64 q.1.1) ∧ W'.cell? ⟨w.heap.size + 1, 1, none⟩ = some (.int .i64 q.1.2)) ∧ W'.cell? ⟨w.heap.size + 1, 2, none⟩ = some (.int .i64 q.2.1) ∧ W'.cell? ⟨w.heap.size + 1, 3, none⟩ = some (.int .i64 q.2.2))
      (first | exact HS2.out _ hB1 | exact HS2.out _ (bl_al hB1 _))
      (first
      | (go_at_call 108; (first | with_reducible refine (K3.out _ (cell_later hB1 f0) (cell_later hB1 f1) (cell_later hB1 f2)).mono ?_ | with_reducible refine (K4.out _ (cell_later hB1 f0) (cell_later hB1 f1) (cell_later hB1 f2)).mono ?_); rintro e w9 ⟨rfl, hb9⟩; replace hB := GB.tr hB hb9; replace hB1 := hB.1)
      | (go_at_call 110; (with_reducible refine (H2.out _).mono ?_); rintro e w8 ⟨rfl, hw8⟩; subst hw8)
      | (go_at_call 71; (with_reducible refine (H4.out _).mono ?_); rintro e w7 ⟨rfl, hb7⟩; replace hB := GB.tr hB hb7; replace hB1 := hB.1)
      | (go_at_call 111; (with_reducible refine (H3.out _ _ (by simp [go_sem]) (by simp [go_sem])).mono ?_); rintro e w6 ⟨rfl, hw6⟩; subst hw6; replace hB := hB.al (.cells #[.int .i64 y, .int .i64 z] 3)))
    all_goals go_wp2
    all_goals go_ret
    all_goals exact ⟨rfl, GB.tr hA (GB.tr hb hB)⟩
  · have hx2 : (x != 0) = true := by rw [bne_iff_ne]; exact hx
    rw [if_pos hx] at hh
    subst hh
    clear hx
    go_wp2
    go_ret
    exact ⟨rfl, GB.tr hA hb⟩
end Go.Proofs.YtbdfjdipjacamaaDoor

/- Gates put in order by the library. -/
namespace Go.Proofs.YtbdfjdipjacamaaDoor
open Go.RowKit Go.Sort

theorem cmp_lt (x y : Int) : (Lib.compareInt x y < 0 ↔ x < y) ∧ (Lib.compareInt x y = 0 ↔ x = y) := by
  unfold Lib.compareInt
  split
  · exact ⟨by omega, by omega⟩
  · split
    · exact ⟨by omega, by omega⟩
    · exact ⟨by omega, by omega⟩
def ltC (c d : IC) : Prop := c.2 < d.2 ∨ (c.2 = d.2 ∧ c.1 < d.1)
theorem byI_lt (c d : IC) : (byI c d < 0 ↔ ltC c d) ∧ (byI c d = 0 ↔ c = d) := by
  obtain ⟨a1, a2⟩ := cmp_lt c.2 d.2
  obtain ⟨b1, b2⟩ := cmp_lt c.1 d.1
  unfold byI orI ltC
  constructor
  · split <;> omega
  · rw [Prod.ext_iff]
    split <;> omega
theorem ltOf_byI (c d : IC) : ltOf byI c d = true ↔ ltC c d := by
  unfold ltOf
  rw [decide_eq_true_eq]
  exact (byI_lt c d).1
def ltG (W H S : Int) (p q : IC × IC) : Prop :=
  ofV W H S p.1 < ofV W H S q.1 ∨ (ofV W H S p.1 = ofV W H S q.1 ∧ (ofV W H S p.2 < ofV W H S q.2 ∨ (ofV W H S p.2 = ofV W H S q.2 ∧ ltC p.1 q.1)))
theorem ltOf_ordI (W H S : Int) (p q : IC × IC) : ltOf (ordI W H S) p q = true ↔ ltG W H S p q := by
  obtain ⟨a1, a2⟩ := cmp_lt (ofV W H S p.1) (ofV W H S q.1)
  obtain ⟨b1, b2⟩ := cmp_lt (ofV W H S p.2) (ofV W H S q.2)
  obtain ⟨c1, c2⟩ := byI_lt p.1 q.1
  unfold ltOf
  rw [decide_eq_true_eq]
  unfold ltG ordI orI
  rw [← c1]
  simp only
  split
  · omega
  · split <;> omega
theorem swo_of {α : Type} {lt : α → α → Bool} {R : α → α → Prop} (h : ∀ x y, lt x y = true ↔ R x y) (h1 : ∀ x, ¬ R x x) (h2 : ∀ x y z, R x y → R y z → R x z) (h3 : ∀ x y z, ¬ R x y → ¬ R y z → ¬ R x z) : SWO lt where
  irrefl x := by cases e : lt x x; rfl; exact absurd ((h x x).1 e) (h1 x)
  trans x y z a b := (h x z).2 (h2 x y z ((h x y).1 a) ((h y z).1 b))
  ntrans x y z a b := by
    cases e : lt x z
    · rfl
    · refine absurd ((h x z).1 e) (h3 x y z (fun hh => ?_) (fun hh => ?_))
      · rw [(h x y).2 hh] at a; cases a
      · rw [(h y z).2 hh] at b; cases b
theorem swo_byI : SWO (ltOf byI) := swo_of ltOf_byI (fun x h => by unfold ltC at h; omega) (fun x y z a b => by unfold ltC at *; omega) (fun x y z a b => by unfold ltC at *; omega)
theorem swo_ordI (W H S : Int) : SWO (ltOf (ordI W H S)) :=
  swo_of (ltOf_ordI W H S) (fun x h => by unfold ltG ltC at h; omega) (fun x y z a b => by unfold ltG ltC at *; omega) (fun x y z a b => by unfold ltG ltC at *; omega)

/-! The two sorts. -/
def encG (p : IC × IC) : List Value := [.int .i64 p.1.1, .int .i64 p.1.2, .int .i64 p.2.1, .int .i64 p.2.2]
theorem flatPP_enc (zs : List (IC × IC)) : zs.flatMap encG = flatPP zs := rfl
def encC (c : IC) : List Value := [.int .i64 c.1, .int .i64 c.2]
set_option maxHeartbeats 1600000 in
theorem order_mk (W H S : Int) (w : World) :
    Calls Tryd.prog 63 #[.agg #[.int .i64 W, .int .i64 H, .int .i64 S]] w fun e w' => e = .returned (.func (.func 109) #[] #[.pointer (some ⟨w.heap.size + 1, 0, none⟩)]) ∧ ((w'.cell? ⟨w.heap.size, 0, none⟩ = some (.int .i64 W) ∧ w'.cell? ⟨w.heap.size, 1, none⟩ = some (.int .i64 H) ∧ w'.cell? ⟨w.heap.size, 2, none⟩ = some (.int .i64 S)) ∧ w'.cell? ⟨w.heap.size + 1, 0, none⟩ = some (.func (.func 108) #[] #[.pointer (some ⟨w.heap.size, 0, none⟩)])) ∧ Below w.heap.size w w' := by
  go_enter Tryd.func63, Tryd.ntmps63
  go_wp2
  go_ret
  exact ⟨rfl, ⟨⟨by simp [go_sem], by simp [go_sem], by simp [go_sem]⟩, by simp [go_sem]⟩, bl_al (bl_al (bl0 w) _) _⟩
theorem grown_cell {w w' : World} {g : Nat} (hg : w.grownBy w' (some g)) {a : Addr} {v : Value} (h : w.cell? a = some v) (hne : a.block ≠ g) : w'.cell? a = some v := hg.cell h (fun e => hne (Option.some.inj e))
theorem cmpLays_row (g n : Nat) (w : World) : CmpLays Tryd.prog 71 #[] encC 2 byI g 0 n w := by
  intro m os dk _ x y
  refine (byRowG x y _).mono ?_
  rintro e w' ⟨he, hgb⟩
  exact ⟨he, hgb.grown⟩
theorem enters_ord : ∀ args w, (callFunc 109 args).run Tryd.prog w = .ok (.enter 109 args) w := enters_of Tryd.func109 (by kernel_rfl) rfl
theorem enters_row : ∀ args w, (callFunc 71 args).run Tryd.prog w = .ok (.enter 71 args) w := enters_of Tryd.func71 (by kernel_rfl) rfl
set_option maxRecDepth 100000 in
/-- Gates of one's own, sorted. -/
theorem sortG_own (W H S : Int) (hr : rightP W H S = true) (d base g cap : Nat) (zs : List (IC × IC)) (w : World) (hl : zs.length ≤ 1048576) (hdb : ∃ b, (w.cell? ⟨b, 0, none⟩ = some (.int .i64 W) ∧ w.cell? ⟨b, 1, none⟩ = some (.int .i64 H) ∧ w.cell? ⟨b, 2, none⟩ = some (.int .i64 S)) ∧ w.cell? ⟨d, 0, none⟩ = some (.func (.func 108) #[] #[.pointer (some ⟨b, 0, none⟩)]) ∧ b ≠ g ∧ d ≠ g)
    (h : w.ownsRow base 108 4 (.slice (some ⟨g, 0, none⟩) zs.length cap) zs.length (flatPP zs)) :
    Calls Tryd.prog 62 #[.slice (some ⟨g, 0, none⟩) zs.length cap, .func (.func 109) #[] #[.pointer (some ⟨d, 0, none⟩)]] w fun e w' => e = .returned (.tuple #[]) ∧ w'.ownsRow base 108 4 (.slice (some ⟨g, 0, none⟩) zs.length cap) zs.length (flatPP (sortL (ltOf (ordI W H S)) zs)) ∧ w.grownBy w' (some g) := by
  obtain ⟨b, ⟨h0, h1, h2⟩, h3, hb, hdd⟩ := hdb
  have hcmp : CmpLays Tryd.prog 109 #[.pointer (some ⟨d, 0, none⟩)] encG 4 (ordI W H S) g 0 zs.length w := by
    intro m os dk _ x y
    have hgr := grown_sortK encG 4 w g m os dk
    refine (ord2G W H S x y b d _ hr (grown_cell hgr h0 hb) (grown_cell hgr h1 hb) (grown_cell hgr h2 hb) (grown_cell hgr h3 hdd)).mono ?_
    rintro e w' ⟨he, hgb⟩
    exact ⟨he, hgb.grown⟩
  exact sort_own Tryd.sortG 4 Tryd.isAgg108 Tryd.sizeOf108 encG (fun _ => rfl) (by decide) (fun x v hv => by simp [encG] at hv; rcases hv with rfl | rfl | rfl | rfl <;> rfl) (ordI W H S) (swo_ordI W H S) 109 _ enters_ord base g cap 108 zs w hl hcmp h
end Go.Proofs.YtbdfjdipjacamaaDoor

/- slices.Compact, of rows of one's own: the mathematics. -/
namespace Go.Proofs.YtbdfjdipjacamaaDoor
open Go.RowKit

/-- Is the j-th of a row the first, or another one than the one before it? -/
def keepB {α : Type} [DecidableEq α] (zs : List α) (j : Nat) : Bool := decide (j = 0 ∨ zs[j]? ≠ zs[j - 1]?)
def comTo {α : Type} [DecidableEq α] (zs : List α) (m : Nat) : List α := pickL zs ((List.range m).filter (keepB zs))
/-- A row without those that follow one that is the same. -/
def comL {α : Type} [DecidableEq α] (zs : List α) : List α := comTo zs zs.length
theorem comTo_succ {α : Type} [DecidableEq α] {zs : List α} {m : Nat} (h : m < zs.length) : comTo zs (m + 1) = comTo zs m ++ if keepB zs m = true then [zs[m]] else [] := by
  unfold comTo
  rw [List.range_succ, List.filter_append, pickL_app]
  congr 1
  cases hk : keepB zs m
  · simp [hk, pickL]
  · simp [hk]
    exact pickL_one h
theorem comTo_le {α : Type} [DecidableEq α] (zs : List α) (m : Nat) : (comTo zs m).length ≤ m := by
  unfold comTo pickL
  refine Nat.le_trans (List.length_filterMap_le _ _) ?_
  exact Nat.le_trans (List.length_filter_le _ _) (by simp)
theorem comTo_take {α : Type} [DecidableEq α] {zs : List α} : ∀ {m : Nat}, m ≤ zs.length → (∀ j, j < m → keepB zs j = true) → comTo zs m = zs.take m
  | 0, _, _ => by simp [comTo, pickL]
  | m + 1, h, hk => by
    rw [comTo_succ (by omega), comTo_take (by omega) (fun j hj => hk j (by omega)), if_pos (hk m (by omega)), List.take_add_one, List.getElem?_eq_getElem (by omega)]
    rfl
theorem keepB_zero {α : Type} [DecidableEq α] (zs : List α) : keepB zs 0 = true := by simp [keepB]
theorem keepB_succ {α : Type} [DecidableEq α] {zs : List α} {j : Nat} (h : j + 1 < zs.length) : keepB zs (j + 1) = decide (zs[j + 1] ≠ zs[j]) := by
  unfold keepB
  rw [decide_eq_decide, Nat.add_sub_cancel, List.getElem?_eq_getElem h, List.getElem?_eq_getElem (by omega)]
  simp
theorem comL_small {α : Type} [DecidableEq α] {zs : List α} (h : zs.length < 2) : comL zs = zs := by
  unfold comL
  rw [comTo_take (Nat.le_refl _) (fun j hj => by (obtain rfl : j = 0 := by omega); exact keepB_zero zs), List.take_length]
/-- The row while Compact's second loop runs. -/
def comD {α : Type} [DecidableEq α] (zs : List α) (m : Nat) : List α := comTo zs m ++ zs.drop (comTo zs m).length
theorem comD_len {α : Type} [DecidableEq α] {zs : List α} {m : Nat} (h : m ≤ zs.length) : (comD zs m).length = zs.length := by
  have := comTo_le zs m
  unfold comD
  rw [List.length_append, List.length_drop]
  omega
theorem comD_at {α : Type} [DecidableEq α] {zs : List α} {m j : Nat} (h : (comTo zs m).length ≤ j) : (comD zs m)[j]? = zs[j]? := by
  unfold comD
  rw [List.getElem?_append_right h, List.getElem?_drop]
  congr 1
  omega
theorem comD_skip {α : Type} [DecidableEq α] {zs : List α} {m : Nat} (h : m < zs.length) (hk : keepB zs m = false) : comD zs (m + 1) = comD zs m ∧ (comTo zs (m + 1)).length = (comTo zs m).length := by
  have e : comTo zs (m + 1) = comTo zs m := by rw [comTo_succ h, if_neg (by rw [hk]; decide), List.append_nil]
  unfold comD
  rw [e]
  exact ⟨rfl, rfl⟩
theorem comD_keep {α : Type} [DecidableEq α] {zs : List α} {m : Nat} (h : m < zs.length) (hk : keepB zs m = true) : comD zs (m + 1) = (comD zs m).set (comTo zs m).length zs[m] ∧ (comTo zs (m + 1)).length = (comTo zs m).length + 1 := by
  have e : comTo zs (m + 1) = comTo zs m ++ [zs[m]] := by rw [comTo_succ h, if_pos hk]
  have hle := comTo_le zs m
  refine ⟨?_, by rw [e, List.length_append]; rfl⟩
  unfold comD
  rw [e, List.set_append_right _ _ (Nat.le_refl _), Nat.sub_self, List.length_append, List.append_assoc]
  congr 1
  obtain ⟨y, ys, hy⟩ : ∃ y ys, zs.drop (comTo zs m).length = y :: ys := by
    cases hd : zs.drop (comTo zs m).length with
    | nil => rw [List.drop_eq_nil_iff] at hd; omega
    | cons y ys => exact ⟨y, ys, rfl⟩
  rw [hy, List.set_cons_zero]
  have : zs.drop ((comTo zs m).length + 1) = ys := by
    rw [← List.drop_drop, hy]; rfl
  rw [show [zs[m]].length = 1 from rfl, this]
  rfl
theorem comD_start {α : Type} [DecidableEq α] {zs : List α} {m : Nat} (h : m < zs.length) (hk : ∀ j, j < m → keepB zs j = true) (hn : keepB zs m = false) : comD zs (m + 1) = zs ∧ (comTo zs (m + 1)).length = m := by
  obtain ⟨e1, e2⟩ := comD_skip h hn
  have e3 := comTo_take (by omega) hk
  rw [e1, e2]
  unfold comD
  rw [e3, List.length_take]
  have : min m zs.length = m := by omega
  rw [this]
  exact ⟨List.take_append_drop m zs, rfl⟩
theorem run_clear_k {P : Program} (w : World) (t e ty : TypeId) (z : Value) (k : Nat) (ht : P.underlying t = some (.slice e)) (hv : ∀ w, (zeroValue e).run P w = .ok z w) (hz : z.cells.size = k) (k0 : 0 < k) (h1 : ∀ v ∈ z.cells, v.oneCell' = true) (b o n c : Nat) (hn : 0 < n)
    (hc : ∀ j, j < n * k → (w.cell? ⟨b, o + j, none⟩).isSome = true) (hf : ∀ j, j < n * k → w.frozen? ⟨b, o + j, none⟩ = false) :
    (Builtin.clear_ #[t] ty #[.slice (some ⟨b, o, none⟩) n c]).run P w = .ok (.tuple #[]) (w.setCells b o (Builtin.zeroCells z.cells n).toList) := by
  have hl : (Builtin.zeroCells z.cells n).toList.length = n * k := by simp [Builtin.zeroCells, hz]
  have hst := run_storeCells_cells (P := P) b o (Builtin.zeroCells z.cells n).toList 0 w (by rw [hl]; simpa using hc) (by rw [hl]; simpa using hf) (by
    intro v hv'
    simp only [Builtin.zeroCells, Array.toList_map, List.mem_map, Array.mem_toList_iff, Array.mem_range] at hv'
    obtain ⟨i, hi, rfl⟩ := hv'
    have h3 : i % z.cells.size < z.cells.size := Nat.mod_lt _ (by omega)
    rw [getElem!_pos z.cells _ h3]
    exact h1 _ (Array.getElem_mem h3))
  simp only [Nat.add_zero] at hst
  obtain ⟨m, rfl⟩ : ∃ m, n = m + 1 := ⟨n - 1, by omega⟩
  simp [Builtin.clear_, run_underlying ht, hv, hst]
end Go.Proofs.YtbdfjdipjacamaaDoor

/- slices.Compact of gates of one's own. -/
namespace Go.Proofs.YtbdfjdipjacamaaDoor
open Go.RowKit

theorem flatPP_cons (z : IC × IC) (zs : List (IC × IC)) : flatPP (z :: zs) = .int .i64 z.1.1 :: .int .i64 z.1.2 :: .int .i64 z.2.1 :: .int .i64 z.2.2 :: flatPP zs := rfl
theorem flatPP_set : ∀ (zs : List (IC × IC)) (n : Nat) (z : IC × IC), flatPP (zs.set n z) = ((((flatPP zs).set (n * 4) (.int .i64 z.1.1)).set (n * 4 + 1) (.int .i64 z.1.2)).set (n * 4 + 2) (.int .i64 z.2.1)).set (n * 4 + 3) (.int .i64 z.2.2)
  | [], n, z => by simp [flatPP]
  | y :: zs, 0, z => by simp [flatPP_cons]
  | y :: zs, n + 1, z => by
    have ih := flatPP_set zs n z
    rw [List.set_cons_succ, flatPP_cons, flatPP_cons, ih, show (n + 1) * 4 = n * 4 + 1 + 1 + 1 + 1 by omega]
    simp only [List.set_cons_succ]
theorem own_setG {W : World} {B n cap g : Nat} {xs : List (IC × IC)} (h : W.ownsRow B 108 4 (.slice (some ⟨g, 0, none⟩) n cap) n (flatPP xs)) (j : Nat) (z : IC × IC) :
    ((((W.setCell ⟨g, j * 4, none⟩ (.int .i64 z.1.1)).setCell ⟨g, j * 4 + 1, none⟩ (.int .i64 z.1.2)).setCell ⟨g, j * 4 + 2, none⟩ (.int .i64 z.2.1)).setCell ⟨g, j * 4 + 3, none⟩ (.int .i64 z.2.2)).ownsRow B 108 4 (.slice (some ⟨g, 0, none⟩) n cap) n (flatPP (xs.set j z)) := by
  rw [flatPP_set]
  exact ((((h.stored (j * 4) _).1.stored (j * 4 + 1) _).1.stored (j * 4 + 2) _).1.stored (j * 4 + 3) _).1
theorem own_cellG {W : World} {B n cap g : Nat} {xs : List (IC × IC)} (h : W.ownsRow B 108 4 (.slice (some ⟨g, 0, none⟩) n cap) n (flatPP xs)) {j : Nat} {z : IC × IC} (hz : xs[j]? = some z) :
    W.cell? ⟨g, j * 4, none⟩ = some (.int .i64 z.1.1) ∧ W.cell? ⟨g, j * 4 + 1, none⟩ = some (.int .i64 z.1.2) ∧ W.cell? ⟨g, j * 4 + 2, none⟩ = some (.int .i64 z.2.1) ∧ W.cell? ⟨g, j * 4 + 3, none⟩ = some (.int .i64 z.2.2) := by
  obtain ⟨⟨e0, e1⟩, e2, e3⟩ := flatPP_at xs j z hz
  have h0 := h.cells (g := g) rfl _ _ e0
  have h1 := h.cells (g := g) rfl _ _ e1
  have h2 := h.cells (g := g) rfl _ _ e2
  have h3 := h.cells (g := g) rfl _ _ e3
  rw [addr_add, Nat.zero_add] at h0 h1 h2 h3
  exact ⟨h0, h1, h2, h3⟩
theorem row_of_cellsG {W : World} {g : Nat} {xs : List (IC × IC)} (h : ∀ j z, xs[j]? = some z → W.cell? ⟨g, j * 4, none⟩ = some (.int .i64 z.1.1) ∧ W.cell? ⟨g, j * 4 + 1, none⟩ = some (.int .i64 z.1.2) ∧ W.cell? ⟨g, j * 4 + 2, none⟩ = some (.int .i64 z.2.1) ∧ W.cell? ⟨g, j * 4 + 3, none⟩ = some (.int .i64 z.2.2)) : RowPP W (some ⟨g, 0, none⟩) xs := by
  refine .inr ⟨g, 0, rfl, fun i z hz => ?_⟩
  obtain ⟨a, b, c, d⟩ := h i z hz
  simp only [Nat.zero_add]
  exact ⟨⟨a, b⟩, c, d⟩
theorem cell_ne' {z p : IC × IC} (h : z ≠ p) : z.1.1 ≠ p.1.1 ∨ (z.1.1 = p.1.1 ∧ z.1.2 ≠ p.1.2) ∨ (z.1.1 = p.1.1 ∧ z.1.2 = p.1.2 ∧ z.2.1 ≠ p.2.1) ∨ (z.1.1 = p.1.1 ∧ z.1.2 = p.1.2 ∧ z.2.1 = p.2.1 ∧ z.2.2 ≠ p.2.2) := by
  obtain ⟨⟨a, b⟩, c, d⟩ := z
  obtain ⟨⟨e, f⟩, g, h'⟩ := p
  simp only [ne_eq, Prod.mk.injEq] at h ⊢
  omega
theorem neG {z p : IC × IC} (h : z ≠ p) : (z.1.1 == p.1.1) = false ∨ ((z.1.1 == p.1.1) = true ∧ (z.1.2 == p.1.2) = false) ∨ ((z.1.1 == p.1.1) = true ∧ (z.1.2 == p.1.2) = true ∧ (z.2.1 == p.2.1) = false) ∨ ((z.1.1 == p.1.1) = true ∧ (z.1.2 == p.1.2) = true ∧ (z.2.1 == p.2.1) = true ∧ (z.2.2 == p.2.2) = false) := by
  simp only [beq_iff_eq, beq_eq_false_iff_ne]
  exact cell_ne' h

theorem bel_drnG {B : Nat} {w W : World} (h : Below B w W) (n : Nat) : Below B w (W.drewN n) := ⟨h.os, h.tape, h.output, h.size, h.block⟩
set_option maxRecDepth 100000 in
set_option maxHeartbeats 4000000 in
theorem compactG_own (B g cap : Nat) (zs : List (IC × IC)) (w : World) (hl : zs.length ≤ 1048576) (h : w.ownsRow B 108 4 (.slice (some ⟨g, 0, none⟩) zs.length cap) zs.length (flatPP zs)) :
    Calls Tryd.prog 64 #[.slice (some ⟨g, 0, none⟩) zs.length cap] w fun e w' => e = .returned (.slice (some ⟨g, 0, none⟩) (comL zs).length cap) ∧ (comL zs).length ≤ cap ∧ RowPP w' (some ⟨g, 0, none⟩) (comL zs) ∧ Below B w w' := by
  have hgB := (h.lt g rfl).1
  have hcap : zs.length ≤ cap := own_capR h
  by_cases h2 : zs.length < 2
  · have e := comL_small h2
    rw [e]
    have hrow := row_of_cellsG (fun j z hz => own_cellG h hz)
    have hlt : (zs.length : Int) < 2 := by omega
    have HH := Lib.hid hrow
    clear h hrow h2 e
    go_enter Tryd.func64, Tryd.ntmps64
    go_wp2
    go_ret
    exact ⟨rfl, hcap, HH.out, Below.refl _ _⟩
  · have hlt : ¬ (zs.length : Int) < 2 := by omega
    obtain ⟨n, hn⟩ : ∃ n, zs.length = n := ⟨_, rfl⟩
    rw [hn] at h hlt hcap hl ⊢
    have HN := Lib.hid hn
    have H := Lib.hid h
    obtain ⟨Z, hZ⟩ : ∃ Z : Nat → (IC × IC), ∀ (j : Nat) (hj : j < zs.length), zs[j] = Z j := ⟨fun j => zs.getD j default, fun j hj => by simp [List.getD_eq_getElem?_getD, List.getElem?_eq_getElem hj]⟩
    have HAT := Lib.hid (show ∀ j, j < n → zs[j]? = some (Z j) from fun j hj => by rw [List.getElem?_eq_getElem (by omega), hZ])
    have HKB := Lib.hid (show ∀ j, j + 1 < n → keepB zs (j + 1) = decide (Z (j + 1) ≠ Z j) from fun j hj => by rw [keepB_succ (by omega), hZ, hZ])
    have HKP := Lib.hid (show ∀ m, m < n → keepB zs m = true → comD zs (m + 1) = (comD zs m).set (comTo zs m).length (Z m) ∧ (comTo zs (m + 1)).length = (comTo zs m).length + 1 from fun m hm hk => by have := comD_keep (zs := zs) (m := m) (by omega) hk; rw [hZ] at this; exact this)
    have HSK := Lib.hid (show ∀ m, m < n → keepB zs m = false → comD zs (m + 1) = comD zs m ∧ (comTo zs (m + 1)).length = (comTo zs m).length from fun m hm hk => comD_skip (by omega) hk)
    have HST := Lib.hid (show ∀ m, m < n → (∀ j, j < m → keepB zs j = true) → keepB zs m = false → comD zs (m + 1) = zs ∧ (comTo zs (m + 1)).length = m from fun m hm hk hn2 => comD_start (by omega) hk hn2)
    have HALL := Lib.hid (show (∀ j, j < n → keepB zs j = true) → comL zs = zs from fun hk => by unfold comL; rw [hn, comTo_take (by omega) hk, ← hn, List.take_length])
    clear hZ
    have HCL := Lib.hid (show comL zs = comTo zs n by unfold comL; rw [hn])
    clear h hn
    go_enter Tryd.func64, Tryd.ntmps64
    go_wp2_with fail
    go_loopw [3] (fun iv wr => ∃ i : Nat, i + 1 ≤ n ∧ iv = .int .i64 ((i : Int) + 1) ∧ (∀ j, j < i + 1 → keepB zs j = true) ∧ Below B w wr ∧ wr.ownsRow B 108 4 (.slice (some ⟨g, 0, none⟩) n cap) n (flatPP zs)) (fun iv _ => n - (intOf iv).toNat)
    case atStart => exact ⟨0, by omega, rfl, fun j hj => by (obtain rfl : j = 0 := by omega); exact keepB_zero zs, Below.refl _ _, H.out⟩
    case round =>
      obtain ⟨i, hi, rfl, hkb, hA, hown⟩ := hrel
      have hi0 : (0 : Int) ≤ (i : Int) := by omega
      by_cases hlt : i + 1 < n
      case neg =>
        have hge : ¬ ((i : Int) + 1 < (n : Int)) := by omega
        have hall := HALL.out (fun j hj => hkb j (by omega))
        have HE := Lib.hid hall
        have hrow := row_of_cellsG (fun j z hz => own_cellG hown hz)
        have HR := Lib.hid hrow
        have hzl := HN.out
        clear hrow hown hkb hall
        go_wp2
        go_ret
        exact ⟨by rw [HE.out, hzl]; rfl, by rw [HE.out]; omega, by rw [HE.out]; exact HR.out, hA⟩
      case pos =>
        have hlt2 : (i : Int) + 1 < (n : Int) := by omega
        have hlt3 : (i : Int) < (n : Int) := by omega
        have HK1 := Lib.hid hkb
        have hkn := HKB.out i hlt
        obtain ⟨q0, q1, q2, q3⟩ := own_cellG hown (HAT.out (i + 1) hlt)
        obtain ⟨r0, r1, r2, r3⟩ := own_cellG hown (HAT.out i (by omega))
        have HO := Lib.hid hown
        obtain ⟨x, hx⟩ : ∃ x, Z (i + 1) = x := ⟨_, rfl⟩
        obtain ⟨y, hy⟩ : ∃ y, Z i = y := ⟨_, rfl⟩
        rw [hx] at hkn q0 q1 q2 q3
        rw [hy] at hkn r0 r1 r2 r3
        clear hkb hown hx hy
        have zq := blk_lt q0
        by_cases hxy : x = y
        · subst hxy
          have hk2 : keepB zs (i + 1) = false := by rw [hkn]; simp
          have HST2 := Lib.hid (HST.out (i + 1) hlt HK1.out hk2)
          have n0 : (x.1.1 == x.1.1) = true := beq_self_eq_true _
          have n1 : (x.1.2 == x.1.2) = true := beq_self_eq_true _
          have n2 : (x.2.1 == x.2.1) = true := beq_self_eq_true _
          have n3 : (x.2.2 == x.2.2) = true := beq_self_eq_true _
          clear hkn hk2
          go_upto_region 6 with fail
          go_quiet (fail)
          obtain ⟨W2, hW2⟩ : ∃ W2, wr.drewN nq = W2 := ⟨_, rfl⟩
          have hA2 : Below B w W2 := by rw [← hW2]; exact bel_drnG hA _
          have hown2 : W2.ownsRow B 108 4 (.slice (some ⟨g, 0, none⟩) n cap) n (flatPP zs) := by rw [← hW2]; exact own_later HO.out (bl_drn _ _)
          rw [hW2]
          clear hW2 hA q0 q1 q2 q3 r0 r1 r2 r3 zq HO
          have HO2 := Lib.hid hown2
          have HA2 := Lib.hid hA2
          clear hown2 hA2
          have hic : (i : Int) + 1 ≤ (n : Int) := by omega
          have hic2 : (i : Int) + 1 ≤ (cap : Int) := by omega
          go_wp2_with fail
          go_loopw [3, 5] (fun s3 s5 wr => ∃ t : Nat, i + t + 2 ≤ n ∧ s3 = .int .i64 ((comTo zs (i + t + 2)).length : Nat) ∧ s5 = .int .i64 ((t : Int) + 1) ∧ (comTo zs (i + t + 2)).length < i + t + 2 ∧ Below B w wr ∧ wr.ownsRow B 108 4 (.slice (some ⟨g, 0, none⟩) n cap) n (flatPP (comD zs (i + t + 2)))) (fun _ s5 _ => n - (intOf s5).toNat)
          case atStart =>
            obtain ⟨e1, e2⟩ := HST2.out
            exact ⟨0, by omega, by rw [show i + 0 + 2 = i + 1 + 1 by omega, e2]; rfl, rfl, by rw [show i + 0 + 2 = i + 1 + 1 by omega, e2]; omega, HA2.out, by rw [show i + 0 + 2 = i + 1 + 1 by omega, e1]; exact HO2.out⟩
          case round =>
            obtain ⟨t, ht, rfl, rfl, hkt, hA, hown⟩ := hrel
            have ht0 : (0 : Int) ≤ (t : Int) := by omega
            obtain ⟨kk, hkk⟩ : ∃ kk, (comTo zs (i + t + 2)).length = kk := ⟨_, rfl⟩
            rw [hkk] at hkt ⊢
            have hkk0 : (0 : Int) ≤ (kk : Int) := by omega
            have HKK := Lib.hid hkk
            by_cases hlm : i + t + 2 < n
            case pos =>
              have hlm2 : (t : Int) + 1 < ((n - (i + 1) : Nat) : Int) := by omega
              have hlm3 : (t : Int) < ((n - (i + 1) : Nat) : Int) := by omega
              have hkn : (kk : Int) < (n : Int) := by omega
              have hkb2 := HKB.out (i + t + 1) hlm
              obtain ⟨q0, q1, q2, q3⟩ := own_cellG hown ((comD_at (j := i + t + 2) (by omega)).trans (HAT.out _ (by omega)))
              obtain ⟨r0, r1, r2, r3⟩ := own_cellG hown ((comD_at (j := i + t + 1) (by omega)).trans (HAT.out _ (by omega)))
              obtain ⟨d0, d1, d2, d3⟩ := own_cellG hown ((comD_at (j := kk) (by omega)).trans (HAT.out _ (by omega)))
              have HKP2 := Lib.hid (HKP.out (i + t + 2) hlm)
              have HSK2 := Lib.hid (HSK.out (i + t + 2) hlm)
              have HO := Lib.hid hown
              have hfr : ∀ j, wr.frozen? ⟨g, j, none⟩ = false := hown.frozenAt
              have u0 := hfr (kk * 4)
              have u1 := hfr (kk * 4 + 1)
              have u2 := hfr (kk * 4 + 2)
              have u3 := hfr (kk * 4 + 3)
              obtain ⟨x2, hx2⟩ : ∃ x2, Z (i + t + 2) = x2 := ⟨_, rfl⟩
              obtain ⟨y2, hy2⟩ : ∃ y2, Z (i + t + 1) = y2 := ⟨_, rfl⟩
              obtain ⟨o2, ho2⟩ : ∃ o2, Z kk = o2 := ⟨_, rfl⟩
              rw [show i + t + 1 + 1 = i + t + 2 by omega, hx2, hy2] at hkb2
              rw [hx2] at HKP2 q0 q1 q2 q3
              rw [hy2] at r0 r1 r2 r3
              rw [ho2] at d0 d1 d2 d3
              rw [show (i + t + 2) * 4 = (i + 1) * 4 + (t + 1) * 4 by omega] at q0 q1 q2 q3
              rw [show (i + t + 1) * 4 = (i + 1) * 4 + t * 4 by omega] at r0 r1 r2 r3
              clear hown hx2 hy2 ho2 hkk hfr
              have zq := blk_lt q0
              by_cases hxy2 : x2 = y2
              · subst hxy2
                have hk3 : keepB zs (i + t + 2) = false := by rw [hkb2]; simp
                obtain ⟨e1, e2⟩ := HSK2.out hk3
                have HE1 := Lib.hid e1
                have HE2 := Lib.hid e2
                have n0 : (x2.1.1 == x2.1.1) = true := beq_self_eq_true _
                have n1 : (x2.1.2 == x2.1.2) = true := beq_self_eq_true _
                have n2 : (x2.2.1 == x2.2.1) = true := beq_self_eq_true _
                have n3 : (x2.2.2 == x2.2.2) = true := beq_self_eq_true _
                clear hkb2 hk3 e1 e2
                go_upto_region 11 with fail
                go_quiet (fail)
                go_wp2
                go_roundw
                case rel => exact ⟨t + 1, by omega, by rw [show i + (t + 1) + 2 = i + t + 2 + 1 by omega, HE2.out, HKK.out], by go_num, by rw [show i + (t + 1) + 2 = i + t + 2 + 1 by omega, HE2.out, HKK.out]; omega, bel_drnG hA _, by rw [show i + (t + 1) + 2 = i + t + 2 + 1 by omega, HE1.out]; exact own_later HO.out (bl_drn _ _)⟩
                case measure => simp [intOf]; omega
              · have hk3 : keepB zs (i + t + 2) = true := by rw [hkb2]; simp [hxy2]
                obtain ⟨e1, e2⟩ := HKP2.out hk3
                rw [HKK.out] at e1 e2
                have HE1 := Lib.hid e1
                have HE2 := Lib.hid e2
                clear hkb2 hk3 e1 e2
                rcases neG hxy2 with n0 | ⟨n0, n1⟩ | ⟨n0, n1, n2⟩ | ⟨n0, n1, n2, n3⟩
                all_goals
                  clear hxy2
                  go_upto_region 11 with fail
                  go_quiet (fail)
                  obtain ⟨W3, hW3⟩ : ∃ W3, wr.drewN nq = W3 := ⟨_, rfl⟩
                  have hb3 : Below wr.heap.size wr W3 := by rw [← hW3]; exact bl_drn _ _
                  have hA3 : Below B w W3 := by rw [← hW3]; exact bel_drnG hA _
                  have hown3 := own_later HO.out hb3
                  replace q0 := cell_later hb3 q0; replace q1 := cell_later hb3 q1; replace q2 := cell_later hb3 q2; replace q3 := cell_later hb3 q3; replace d0 := cell_later hb3 d0; replace d1 := cell_later hb3 d1; replace d2 := cell_later hb3 d2; replace d3 := cell_later hb3 d3
                  have hfr : ∀ j, W3.frozen? ⟨g, j, none⟩ = false := hown3.frozenAt
                  replace u0 := hfr (kk * 4)
                  replace u1 := hfr (kk * 4 + 1)
                  replace u2 := hfr (kk * 4 + 2)
                  replace u3 := hfr (kk * 4 + 3)
                  rw [hW3]
                  have HO4 := Lib.hid (own_setG hown3 kk x2)
                  have HA4 := Lib.hid (show Below B w (((((W3).setCell ⟨g, kk * 4, none⟩ (.int .i64 x2.1.1)).setCell ⟨g, kk * 4 + 1, none⟩ (.int .i64 x2.1.2)).setCell ⟨g, kk * 4 + 2, none⟩ (.int .i64 x2.2.1)).setCell ⟨g, kk * 4 + 3, none⟩ (.int .i64 x2.2.2)) from ((((hA3.setCell (p := ⟨g, kk * 4, none⟩) hgB _).setCell (p := ⟨g, kk * 4 + 1, none⟩) hgB _).setCell (p := ⟨g, kk * 4 + 2, none⟩) hgB _).setCell (p := ⟨g, kk * 4 + 3, none⟩) hgB _))
                  clear hW3 hb3 hA3 hown3 hfr zq
                  have zq := blk_lt q0
                  go_wp2
                  go_roundw
                  case rel => exact ⟨t + 1, by omega, by rw [show i + (t + 1) + 2 = i + t + 2 + 1 by omega, HE2.out]; rfl, by go_num, by rw [show i + (t + 1) + 2 = i + t + 2 + 1 by omega, HE2.out]; omega, HA4.out, by rw [show i + (t + 1) + 2 = i + t + 2 + 1 by omega, HE1.out]; exact HO4.out⟩
                  case measure => simp [intOf]; omega
            case neg =>
              have hmn : i + t + 2 = n := by omega
              have hge : ¬ ((t : Int) + 1 < ((n - (i + 1) : Nat) : Int)) := by omega
              rw [hmn] at hown hkk hkt
              have hkn : (kk : Int) ≤ (n : Int) := by omega
              have hkc : (kk : Int) ≤ (cap : Int) := by omega
              have hlen : (comL zs).length = kk := by rw [HCL.out]; exact hkk
              have hdl : (flatPP (comD zs n)).length = n * 4 := hown.1
              have hce : ∀ j, j < (n - kk) * 4 → (wr.cell? ⟨g, kk * 4 + j, none⟩).isSome = true := fun j hj => by
                have hj2 : kk * 4 + j < n * 4 := by rw [Nat.sub_mul] at hj; omega
                have := hown.cells (g := g) rfl (kk * 4 + j) _ (List.getElem?_eq_getElem (by rw [hdl]; exact hj2))
                rw [addr_add, Nat.zero_add] at this
                rw [this]; rfl
              have hcl : ∀ ty, (Builtin.clear_ #[54] ty #[.slice (some ⟨g, kk * 4, none⟩) (n - kk) (cap - kk)]).run Tryd.prog wr = .ok (.tuple #[]) (wr.setCells g (kk * 4) (Builtin.zeroCells #[.int .i64 0, .int .i64 0, .int .i64 0, .int .i64 0] (n - kk)).toList) :=
                fun ty => run_clear_k wr 54 108 ty _ 4 Tryd.underlying54 Tryd.zeroValue108 rfl (by decide) (by intro v hv; simp [Value.cells] at hv; rcases hv with rfl <;> rfl) g (kk * 4) (n - kk) (cap - kk) (by omega) hce (fun j _ => hown.frozenAt _)
              have hrow : RowPP (wr.setCells g (kk * 4) (Builtin.zeroCells #[.int .i64 0, .int .i64 0, .int .i64 0, .int .i64 0] (n - kk)).toList) (some ⟨g, 0, none⟩) (comL zs) := by
                refine row_of_cellsG (fun j z hz => ?_)
                have hj : j < kk := by
                  rw [← hlen]
                  exact (List.getElem?_eq_some_iff.1 hz).1
                have hz2 : (comD zs n)[j]? = some z := by
                  unfold comD
                  rw [← HCL.out, List.getElem?_append_left (by rw [hlen]; exact hj)]
                  exact hz
                obtain ⟨q0, q1, q2, q3⟩ := own_cellG hown hz2
                refine ⟨?_, ?_, ?_, ?_⟩
                all_goals (rw [World.cell?_setCells_out g _ _ _ _ (fun _ _ => .inl (by simp only; omega))]; assumption)
              have hB : Below B w (wr.setCells g (kk * 4) (Builtin.zeroCells #[.int .i64 0, .int .i64 0, .int .i64 0, .int .i64 0] (n - kk)).toList) := hA.trans (Lib.below_setCells_w hgB _ _ _)
              have HR := Lib.hid hrow
              have HB := Lib.hid hB
              have HLEN := Lib.hid hlen
              clear hrow hB hlen hce hdl hown hkk HKK
              go_wp2
              go_ret
              exact ⟨by rw [HLEN.out]; rfl, by rw [HLEN.out]; omega, HR.out, HB.out⟩
        · have hk2 : keepB zs (i + 1) = true := by rw [hkn]; simp [hxy]
          have hkk : ∀ j, j < i + 1 + 1 → keepB zs j = true := fun j hj => by
            by_cases e : j = i + 1
            · rw [e]; exact hk2
            · exact HK1.out j (by omega)
          have HK2 := Lib.hid hkk
          clear hkk hk2 hkn
          rcases neG hxy with n0 | ⟨n0, n1⟩ | ⟨n0, n1, n2⟩ | ⟨n0, n1, n2, n3⟩
          all_goals
            clear hxy
            go_upto_region 6 with fail
            go_quiet (fail)
            go_wp2
            go_roundw
            case rel => exact ⟨i + 1, by omega, by go_num, HK2.out, bel_drnG hA _, own_later HO.out (bl_drn _ _)⟩
            case measure => simp [intOf]; omega

end Go.Proofs.YtbdfjdipjacamaaDoor

/- Gates: all of them. -/
namespace Go.Proofs.YtbdfjdipjacamaaDoor
open Go.RowKit Go.Sort

theorem run_append_none_c {P : Program} {w : World} (base : Nat) (t ty e : TypeId) (i : TypeInfo) (size c : Nat) (ht : P.underlying t = some (.slice e)) (hi : P.info? e = some i)
    (v : Value) (n : Nat) (xs : List Value) (hown : w.ownsRow base e size v n xs) :
    (Builtin.append_ #[t, t] ty #[v, .slice none 0 c]).run P w = .ok v w := by
  rcases hown.2 with ⟨rfl, rfl⟩ | ⟨g, cap, cur, rfl, _, _, hnc, _⟩
  · simp [Builtin.append_, run_underlying ht, sizeOf, typeInfo, hi, Builtin.lenOf, Builtin.firstCells]
  · simp [Builtin.append_, run_underlying ht, sizeOf, typeInfo, hi, Builtin.lenOf, Builtin.firstCells, hnc, storeCells]
theorem flatPP_len : ∀ zs : List (IC × IC), (flatPP zs).length = zs.length * 4
  | [] => rfl
  | z :: zs => by
    have := flatPP_len zs
    rw [flatPP_cons]
    simp only [List.length_cons]
    omega
theorem flatPP_one (zs : List (IC × IC)) : ∀ u ∈ flatPP zs, u.oneCell' = true := by
  intro u hu
  simp only [flatPP, List.mem_flatMap] at hu
  obtain ⟨z, _, hz⟩ := hu
  simp at hz
  rcases hz with rfl | rfl | rfl | rfl <;> rfl
theorem flatPP_app (a b : List (IC × IC)) : flatPP (a ++ b) = flatPP a ++ flatPP b := by simp [flatPP, List.flatMap_append]
theorem flatPP_cells {W : World} {b o : Nat} (zs : List (IC × IC)) (h : ∀ i z, zs[i]? = some z → (W.cell? ⟨b, o + i * 4, none⟩ = some (.int .i64 z.1.1) ∧ W.cell? ⟨b, o + i * 4 + 1, none⟩ = some (.int .i64 z.1.2)) ∧ W.cell? ⟨b, o + i * 4 + 2, none⟩ = some (.int .i64 z.2.1) ∧ W.cell? ⟨b, o + i * 4 + 3, none⟩ = some (.int .i64 z.2.2)) :
    ∀ j u, (flatPP zs)[j]? = some u → W.cell? ⟨b, o + j, none⟩ = some u := by
  intro j u hu
  have hj : j < zs.length * 4 := by
    have := (List.getElem?_eq_some_iff.1 hu).1
    rw [flatPP_len] at this
    exact this
  have hi : j / 4 < zs.length := by omega
  obtain ⟨⟨h0, h1⟩, h2, h3⟩ := h (j / 4) _ (List.getElem?_eq_getElem hi)
  obtain ⟨⟨e0, e1⟩, e2, e3⟩ := flatPP_at zs (j / 4) _ (List.getElem?_eq_getElem hi)
  have hm : j % 4 = 0 ∨ j % 4 = 1 ∨ j % 4 = 2 ∨ j % 4 = 3 := by omega
  rcases hm with hm | hm | hm | hm
  · rw [show j / 4 * 4 = j by omega] at e0 h0
    rw [hu] at e0; cases e0
    exact h0
  · rw [show j / 4 * 4 + 1 = j by omega] at e1
    rw [show o + j / 4 * 4 + 1 = o + j by omega] at h1
    rw [hu] at e1; cases e1
    exact h1
  · rw [show j / 4 * 4 + 2 = j by omega] at e2
    rw [show o + j / 4 * 4 + 2 = o + j by omega] at h2
    rw [hu] at e2; cases e2
    exact h2
  · rw [show j / 4 * 4 + 3 = j by omega] at e3
    rw [show o + j / 4 * 4 + 3 = o + j by omega] at h3
    rw [hu] at e3; cases e3
    exact h3
/-- A row of gates appended whole, nil or not. -/
theorem wpList_append_rowG {w : World} {ops : Array Oper} {rest : List Oper} {o : Oper} {a : Act} {Q : Exit → Act → World → Prop} (hgd : o.guard = none) (s x : Operand)
    (ho : o.op = .call { callee := .builtin .append, args := #[s, x], argTypes := #[54, 54] })
    (base : Nat) (v : Value) (n : Nat) (xs : List (IC × IC)) (hs : a.eval s = v) (hown : w.ownsRow base 108 4 v n (flatPP xs)) (r : Option Addr) (c : Nat) (zs : List (IC × IC)) (hx : a.eval x = .slice r zs.length c) (hr : RowPP w r zs)
    (h63 : n + zs.length ≤ 1048576) (hbase : base ≤ w.heap.size)
    (h : ∀ v' w', w'.ownsRow base 108 4 v' (n + zs.length) (flatPP (xs ++ zs)) → w.grownBy w' v.ownBlock → wpList Tryd.prog ops Q rest (a.put o.dst v') w') : wpList Tryd.prog ops Q (o :: rest) a w := by
  obtain ⟨i0, hi, hz0, hz1, hz2⟩ := info_parts Tryd.infoG
  rw [flatPP_app] at h
  cases r with
  | none =>
    have hn : zs = [] := by
      rcases hr with h | ⟨b, o, e, _⟩
      · exact h
      · cases e
    subst hn
    have hrun := run_append_none_c (P := Tryd.prog) (w := w) base 54 o.type 108 i0 4 c Tryd.underlying54 hi v n _ hown
    have h' := h v w (by simpa [flatPP] using hown) (World.grownBy.refl _ _)
    refine wpList_plain hgd fun K hK => ?_
    unfold Oper.wp
    simp only [List.length_nil] at hx
    simp [execOp, ho, resolve, invoke, builtin, hs, hx, hrun, Result.andThen]
    exact hK _ _ h'
  | some ad =>
    refine wpList_append_own w hgd s x 54 ho base 108 i0 (.agg #[.int .i64 0, .int .i64 0, .int .i64 0, .int .i64 0]) 4 32 Tryd.underlying54 hi hz0 hz1 hz2 rfl (by decide) v n _ hs hown ad zs.length c (flatPP zs) hx (flatPP_len zs) ?_ (flatPP_one zs) (by unfold maxLen; omega) (by omega) hbase (fun v' w' h1 h2 _ => h v' w' h1 h2)
    intro j u hu
    rcases hr with rfl | ⟨b, o, e, hcell⟩
    · simp [flatPP] at hu
    · cases e
      rw [addr_add]
      exact flatPP_cells zs hcell j u hu

set_option maxHeartbeats 2000000 in
theorem ins_nil (fv : Value) (w : World) :
    Calls Tryd.prog 132 #[.slice none 0 0, .int .i64 0, .int .i64 0, fv] w fun e w' => e = .returned (.tuple #[]) ∧ w' = w := by
  go_enter Tryd.func132, Tryd.ntmps132
  go_wp2
  refine wp_loop_rounds 1 ?_
  rw [rounds_succ]
  go_wp2
  go_end0
  exact ⟨rfl, rfl⟩
set_option maxHeartbeats 2000000 in
theorem pdq_nil (lim : Int) (fv : Value) (w : World) :
    Calls Tryd.prog 106 #[.slice none 0 0, .int .i64 0, .int .i64 0, .int .i64 lim, fv] w fun e w' => e = .returned (.tuple #[]) ∧ w' = w := by
  go_enter Tryd.func106, Tryd.ntmps106
  go_wp2
  refine wp_loop_rounds 1 ?_
  rw [rounds_succ]
  go_wp2_with (go_at_call 132; refine (ins_nil _ _).mono ?_; rintro e w' ⟨rfl, rfl⟩)
  (try simp only [Exit.inBlock, Exit.then]); refine bodyPost_ret (results_none rfl _ _ _) rfl ?_
  exact ⟨rfl, rfl⟩
set_option maxHeartbeats 2000000 in
theorem sort_nil (fv : Value) (w : World) :
    Calls Tryd.prog 62 #[.slice none 0 0, fv] w fun e w' => e = .returned (.tuple #[]) ∧ w' = w := by
  have hl := Tryd.bits_Len 0 w (by omega) (by omega)
  go_enter Tryd.func62, Tryd.ntmps62
  go_wp2_with (first | (go_at_call 107; refine hl.mono ?_; rintro e w' ⟨rfl, rfl⟩) | (go_at_call 106; refine (pdq_nil _ _ _).mono ?_; rintro e w' ⟨rfl, rfl⟩))
  go_end0
  exact ⟨rfl, rfl⟩
set_option maxHeartbeats 2000000 in
theorem compact_nil (w : World) :
    Calls Tryd.prog 64 #[.slice none 0 0] w fun e w' => e = .returned (.slice none 0 0) ∧ w' = w := by
  go_enter Tryd.func64, Tryd.ntmps64
  go_wp2
  go_ret
  exact ⟨rfl, rfl⟩
end Go.Proofs.YtbdfjdipjacamaaDoor

/- Parts: those beside a cluster, told in new memory. -/
namespace Go.Proofs.YtbdfjdipjacamaaDoor
open Go.RowKit

def BesF (x : Int) (l : List Int) (w : World) (e : Ending) (w' : World) : Prop := ∃ a cap, e = .returned (.tuple #[.slice a l.length cap, .int .i64 x]) ∧ w'.ownsRow w.heap.size 3 1 (.slice a l.length cap) l.length (cellsN l) ∧ Below w.heap.size w w'
theorem own_base {w : World} {base base2 : Nat} {e : TypeId} {size n : Nat} {v : Value} {xs : List Value} (h : w.ownsRow base e size v n xs) (hb : base2 ≤ base) : w.ownsRow base2 e size v n xs := by
  obtain ⟨h1, h2⟩ := h
  refine ⟨h1, ?_⟩
  rcases h2 with h2 | ⟨g, cap, cur, e1, e2, e3, e4, e5, e6, e7⟩
  · exact .inl h2
  · exact .inr ⟨g, cap, cur, e1, Nat.le_trans hb e2, e3, e4, e5, e6, e7⟩
/-- A row of one's own of another type lies where a row grows. -/
theorem own_beside {w w' : World} {base base2 : Nat} {e e2 : TypeId} {size size2 n n2 : Nat} {v v2 : Value} {xs xs2 : List Value} (h : w.ownsRow base e size v n xs) (h2 : w.ownsRow base2 e2 size2 v2 n2 xs2) (hne : e ≠ e2) (hg : w.grownBy w' v.ownBlock) : w'.ownsRow base2 e2 size2 v2 n2 xs2 := by
  obtain ⟨k1, k2⟩ := h2
  refine ⟨k1, ?_⟩
  rcases k2 with k2 | ⟨g2, cap2, cur2, e1, f2, f3, f4, f5, f6, f7⟩
  · exact .inl k2
  · refine .inr ⟨g2, cap2, cur2, e1, f2, ?_, f4, f5, f6, f7⟩
    have hlt : g2 < w.heap.size := (Array.getElem?_eq_some_iff.1 f3).1
    rw [hg.block g2 hlt (fun hh => ?_)]
    · exact f3
    · rcases h.2 with ⟨hv, _⟩ | ⟨g, cap, cur, hv, _, h3, _⟩
      · rw [hv] at hh; cases hh
      · rw [hv] at hh
        simp only [Value.ownBlock, Option.some.injEq] at hh
        rw [← hh, f3] at h3
        simp only [Option.some.injEq, Obj.cells.injEq] at h3
        exact hne h3.2.1.symm

set_option maxRecDepth 100000 in
set_option maxHeartbeats 4000000 in
theorem beside_f (W H S id : Int) (w : World) (hs : Stp w) :
    Calls Tryd.prog 59 #[.agg #[.int .i64 W, .int .i64 H, .int .i64 S], .int .i64 id] w (BesF (plcX W H S id) (besL W H S id) w) := by
  obtain ⟨i0, hi, hz0, hz1, hz2⟩ := info_parts Tryd.infoN
  have hA := bl0 w
  have HP := Lib.hid (fun w => place_p W H S id w)
  by_cases h0 : plcX W H S id = 0
  · obtain ⟨hr, d0, d1⟩ := plcX_yes.1 h0
    have hon := plc_lie hr d0 d1
    have e1 : besL W H S id = besP W H S id 4 := by unfold besL; rw [if_pos h0]
    have e2 : plcV W H S id = plcP W S id := by unfold plcV; rw [if_pos h0]
    rw [h0, e2] at HP
    rw [h0, e1]
    have HB := Lib.hid (fun (k : Nat) (hk : k < 4) b q w (hs : Stp w) => beside1_any W H S (plcP W S id) k b q w hs hr hon (by omega) (by omega))
    have HSN := Lib.hid (fun (k : Nat) => (show besP W H S id (k + 1) = besP W H S id k ++ (if toP W H S (plcP W S id) k = true then [besV W H S (plcP W S id) k] else []) by
      rw [besP]; unfold besV; cases toP W H S (plcP W S id) k <;> rfl))
    have HLN := Lib.hid (besP_len W H S id)
    clear e1 e2 h0 hr d0 d1 hon
    obtain ⟨p, hp⟩ : ∃ p, plcP W S id = p := ⟨_, rfl⟩
    rw [hp] at HP HB HSN
    obtain ⟨F, hF⟩ : ∃ F, besP W H S id = F := ⟨_, rfl⟩
    rw [hF] at HSN HLN ⊢
    have HNIL := Lib.hid (show F 0 = [] by rw [← hF]; rfl)
    clear hp hF
    go_enter Tryd.func59, Tryd.ntmps59
    go_wp2_with fail
    refine (HP.out _).mono ?_
    rintro e w1 ⟨rfl, hb⟩
    have hk : Below w.heap.size w w1 := by first | exact hb | exact bl_tr (bl_al (bl0 _) _) hb | exact bl_tr (bl_dr (bl_al (bl0 _) _)) hb | exact bl_tr (bl_al (bl_al (bl0 _) _) _) hb | exact bl_tr (bl_dr (bl_al (bl_al (bl0 _) _) _)) hb | exact bl_tr (bl_al (bl_al (bl_al (bl0 _) _) _) _) hb | exact bl_tr (bl_dr (bl_al (bl_al (bl_al (bl0 _) _) _) _)) hb | exact bl_tr (bl_al (bl_al (bl_al (bl_al (bl0 _) _) _) _) _) hb | exact bl_tr (bl_dr (bl_al (bl_al (bl_al (bl_al (bl0 _) _) _) _) _)) hb | exact bl_tr (bl_al (bl_al (bl_al (bl_al (bl_al (bl0 _) _) _) _) _) _) hb | exact bl_tr (bl_dr (bl_al (bl_al (bl_al (bl_al (bl_al (bl0 _) _) _) _) _) _)) hb | exact bl_tr (bl_al (bl_al (bl_al (bl_al (bl_al (bl_al (bl0 _) _) _) _) _) _) _) hb | exact bl_tr (bl_dr (bl_al (bl_al (bl_al (bl_al (bl_al (bl_al (bl0 _) _) _) _) _) _) _)) hb | exact bl_tr (bl_dr (bl0 _)) hb
    replace hA := bl_tr hA hk
    have f0 := cell_later hb (v := .int .i64 W) (a := ⟨w.heap.size, 0, none⟩) (by simp [go_sem])
    have f1 := cell_later hb (v := .int .i64 H) (a := ⟨w.heap.size, 1, none⟩) (by simp [go_sem])
    have f2 := cell_later hb (v := .int .i64 S) (a := ⟨w.heap.size, 2, none⟩) (by simp [go_sem])
    clear hb hk
    have zf0 := blk_lt f0
    have zf1 := blk_lt f1
    have zf2 := blk_lt f2
    go_wp2_with fail
    refine (beside_mk W H S p _).mono ?_
    rintro e w2 ⟨rfl, hq, hb⟩
    have hk : Below w1.heap.size w1 w2 := bl_tr (bl_al (bl0 _) _) hb
    replace hA := bl_tr hA hk
    clear hb hk f0 f1 f2 zf0 zf1 zf2
    rw [World.size_alloc] at hq
    have hbs := blk_lt hq.1.1
    have hqs := blk_lt hq.2.1
    have hA2 := Lib.hid hA
    have hsz := hA.size
    go_wp2_with fail
    clear hA
    go_loopw [9, 10, 11, 12] (fun v i _ _ wr => ∃ k : Nat, k ≤ 4 ∧ i = .int .i64 k ∧ wr.ownsRow w2.heap.size 3 1 v (F k).length (cellsN (F k)) ∧ Below w2.heap.size w2 wr ∧ BesAt wr (w1.heap.size + 1) (w1.heap.size + 1 + 1) W H S p) (fun _ i _ _ _ => 4 - (intOf i).toNat)
    case atStart => exact ⟨0, by omega, rfl, by rw [HNIL.out]; exact World.ownsRow_nil _ _ _ _, bl0 _, hq⟩
    case round =>
      obtain ⟨k, hk, rfl, hown, hA, hq⟩ := hrel
      obtain ⟨va, vc, rfl, hcp⟩ := own_shape hown
      have hk0 : (0 : Int) ≤ (k : Int) := by omega
      have hln := HLN.out k
      by_cases hlt : k < 4
      · have hlt2 : (k : Int) ≤ 3 := by omega
        have hsn := HSN.out k
        go_wp2_with fail
        refine (HB.out k hlt _ _ _ (hs.below (bl_tr hA2.out hA)) hq).mono ?_
        rintro e w3 ⟨rfl, hb⟩
        replace hA := bl_tr hA hb
        replace hq := hq.below hb
        replace hown := own_later hown hb
        clear hb
        obtain ⟨t, ht⟩ : ∃ t, toP W H S p k = t := ⟨_, rfl⟩
        obtain ⟨z, hz⟩ : ∃ z, besV W H S p k = z := ⟨_, rfl⟩
        rw [ht, hz] at hsn
        rw [ht, hz]
        have HS2 := Lib.hid hsn
        clear hsn ht hz
        cases t
        · have hs2 : F (k + 1) = F k := by rw [HS2.out]; simp
          have HS3 := Lib.hid hs2
          clear hs2
          go_wp2
          go_roundw
          case rel => exact ⟨k + 1, by omega, by go_num, by rw [HS3.out]; exact hown, hA, hq⟩
          case measure => simp [intOf]; omega
        · have hs2 : F (k + 1) = F k ++ [z] := HS2.out
          have HS3 := Lib.hid hs2
          have HLK := Lib.hid hln
          obtain ⟨n, hn⟩ : ∃ n, (F k).length = n := ⟨_, rfl⟩
          rw [hn] at hown hcp hln ⊢
          have HN := Lib.hid hn
          clear hs2 hn
          go_wp2_with (at_builtin; refine wpList_append_own _ rfl _ _ 100 rfl w2.heap.size 3 i0 (.int .i64 0) 1 8 Tryd.underlying100 hi hz0 hz1 hz2 rfl (by decide) _ _ _ rfl (hown.alloc _) ⟨w3.heap.size, 0, none⟩ 1 1 [.int .i64 z] rfl rfl ?c1 ?c2 ?c3 ?c4 ?c5 ?_)
          case c1 => exact cell_one _ _ _
          case c2 => intro u hu; simp at hu; rcases hu with rfl; rfl
          case c3 => unfold maxLen; omega
          case c4 => omega
          case c5 => (have := hA.size; simp; omega)
          intro v' w5 hown' hgrow _
          have hl2 : Below w3.heap.size w3 (w3.alloc (.cells #[.int .i64 z] 3)) := bl_al (bl0 _) _
          have hB5 : Below w2.heap.size w2 w5 := (bl_tr hA hl2).grown hgrow (by have := hA.size; simp; omega) (fun j hj => by have := (hown.lt j hj).1; omega)
          have hne : ∀ j, j < w2.heap.size → some j ≠ Value.ownBlock (.slice va n vc) := fun j hj e => by have := (hown.lt _ e.symm).1; omega
          have hq5 := (hq.below hl2).grown hgrow (hne _ hbs) (hne _ hqs)
          rw [← cellsN_snoc, ← HS3.out] at hown'
          have hlen : n + 1 = (F (k + 1)).length := by rw [HS3.out, List.length_append, HN.out]; rfl
          rw [hlen] at hown'
          clear hgrow hown hl2 hne hA hq hlen
          go_wp2
          go_roundw
          case rel => exact ⟨k + 1, by omega, by go_num, hown', hB5, hq5⟩
          case measure => simp [intOf]; omega
      · obtain rfl : k = 4 := by omega
        have hrow := rowN_of_own hown
        have HR := Lib.hid (show ∀ e, e = Ending.returned (.tuple #[.slice va (F 4).length vc, .int .i64 0]) → BesF 0 (F 4) w e wr from fun e he => ⟨va, vc, he, own_base hown hA2.out.size, bl_tr hA2.out hA⟩)
        obtain ⟨n, hn⟩ : ∃ n, (F 4).length = n := ⟨_, rfl⟩
        rw [hn] at HR ⊢
        clear hown hrow hln hn
        go_wp2
        go_ret2
        exact HR.out _ rfl
  · have e1 : besL W H S id = [] := by unfold besL; rw [if_neg h0]
    obtain ⟨x, hx⟩ : ∃ x, plcX W H S id = x := ⟨_, rfl⟩
    obtain ⟨p, hp⟩ : ∃ p, plcV W H S id = p := ⟨_, rfl⟩
    rw [hx] at h0
    rw [hx, hp] at HP
    rw [e1, hx]
    have h1 : (x != 0) = true := by rw [bne_iff_ne]; exact h0
    clear e1 hx hp h0
    go_enter Tryd.func59, Tryd.ntmps59
    go_wp2_with fail
    refine (HP.out _).mono ?_
    rintro e w1 ⟨rfl, hb⟩
    have hk : Below w.heap.size w w1 := by first | exact hb | exact bl_tr (bl_al (bl0 _) _) hb | exact bl_tr (bl_dr (bl_al (bl0 _) _)) hb | exact bl_tr (bl_al (bl_al (bl0 _) _) _) hb | exact bl_tr (bl_dr (bl_al (bl_al (bl0 _) _) _)) hb | exact bl_tr (bl_al (bl_al (bl_al (bl0 _) _) _) _) hb | exact bl_tr (bl_dr (bl_al (bl_al (bl_al (bl0 _) _) _) _)) hb | exact bl_tr (bl_al (bl_al (bl_al (bl_al (bl0 _) _) _) _) _) hb | exact bl_tr (bl_dr (bl_al (bl_al (bl_al (bl_al (bl0 _) _) _) _) _)) hb | exact bl_tr (bl_al (bl_al (bl_al (bl_al (bl_al (bl0 _) _) _) _) _) _) hb | exact bl_tr (bl_dr (bl_al (bl_al (bl_al (bl_al (bl_al (bl0 _) _) _) _) _) _)) hb | exact bl_tr (bl_al (bl_al (bl_al (bl_al (bl_al (bl_al (bl0 _) _) _) _) _) _) _) hb | exact bl_tr (bl_dr (bl_al (bl_al (bl_al (bl_al (bl_al (bl_al (bl0 _) _) _) _) _) _) _)) hb | exact bl_tr (bl_dr (bl0 _)) hb
    replace hA := bl_tr hA hk
    clear hb hk
    go_wp2
    go_ret2
    exact ⟨none, 0, rfl, ⟨rfl, .inl ⟨rfl, rfl⟩⟩, bl_al hA _⟩
end Go.Proofs.YtbdfjdipjacamaaDoor

/- Gates: Of, whatever the arguments. -/
namespace Go.Proofs.YtbdfjdipjacamaaDoor
open Go.RowKit Go.Sort

/-- What is found of a cluster, border by border. -/
def bsL (A B : Int) (zs : List Int) (S : Int) (id : Nat) : List (IC × IC) := (besL A B S id).flatMap fun o => gatesL (opnF A zs) (brdP A B S id o)
def fndL (A B : Int) (zs : List Int) (S : Int) (n : Nat) : List (IC × IC) := (List.range n).flatMap (bsL A B zs S)
theorem fnd_succ (A B : Int) (zs : List Int) (S : Int) (n : Nat) : fndL A B zs S (n + 1) = fndL A B zs S n ++ bsL A B zs S n := by
  unfold fndL
  rw [List.range_succ, List.flatMap_append]
  simp
def bsT (A B : Int) (zs : List Int) (S : Int) (id k : Nat) : List (IC × IC) := ((besL A B S id).take k).flatMap fun o => gatesL (opnF A zs) (brdP A B S id o)
theorem bsT_succ {A B : Int} {zs : List Int} {S : Int} {id k : Nat} (h : k < (besL A B S id).length) : bsT A B zs S id (k + 1) = bsT A B zs S id k ++ gatesL (opnF A zs) (brdP A B S id (besL A B S id)[k]) := by
  unfold bsT
  rw [List.take_add_one, List.getElem?_eq_getElem h, List.flatMap_append]
  simp
theorem bsT_all {A B : Int} {zs : List Int} {S : Int} {id k : Nat} (h : (besL A B S id).length ≤ k) : bsT A B zs S id k = bsL A B zs S id := by
  unfold bsT bsL
  rw [List.take_of_length_le h]
theorem flat_le {α β : Type} (f : α → List β) (m : Nat) (h : ∀ x, (f x).length ≤ m) : ∀ l : List α, (l.flatMap f).length ≤ m * l.length
  | [] => by simp
  | x :: l => by
    have := flat_le f m h l
    have := h x
    rw [List.flatMap_cons, List.length_append, List.length_cons, Nat.mul_succ]
    omega
theorem besL_len (A B S : Int) (id : Int) : (besL A B S id).length ≤ 4 := by
  unfold besL
  split
  · exact besP_len _ _ _ _ 4
  · simp
theorem bsT_le (A B : Int) (zs : List Int) (S : Int) (id k : Nat) : (bsT A B zs S id k).length ≤ 64 := by
  have h1 := flat_le (fun o => gatesL (opnF A zs) (brdP A B S id o)) 16 (fun o => Nat.le_trans (gatesL_le _ _) (brdP_le A B S id o)) ((besL A B S id).take k)
  have h2 := besL_len A B S id
  have h3 : ((besL A B S id).take k).length ≤ 4 := by rw [List.length_take]; omega
  unfold bsT
  omega
theorem bsT_le2 (A B : Int) (zs : List Int) (S : Int) (id k : Nat) : (bsT A B zs S id k).length ≤ 16 * k := by
  have h1 := flat_le (fun o => gatesL (opnF A zs) (brdP A B S id o)) 16 (fun o => Nat.le_trans (gatesL_le _ _) (brdP_le A B S id o)) ((besL A B S id).take k)
  have h3 : ((besL A B S id).take k).length ≤ k := by rw [List.length_take]; omega
  unfold bsT
  omega
theorem fnd_le (A B : Int) (zs : List Int) (S : Int) (n : Nat) : (fndL A B zs S n).length ≤ 64 * n := by
  have h := flat_le (bsL A B zs S) 64 (fun id => by rw [← bsT_all (k := 4) (besL_len A B S id)]; exact bsT_le A B zs S id 4) (List.range n)
  unfold fndL
  rw [List.length_range] at h
  exact h
theorem sortL_nil {α : Type} [Inhabited α] {lt : α → α → Bool} (hO : SWO lt) : sortL lt ([] : List α) = [] := List.eq_nil_of_length_eq_zero (sortL_spec hO []).1
/-- What Of tells. -/
def ofXx (A B n X Y S : Int) : Int := if fitX A B n X Y ≠ 0 then fitX A B n X Y else if rightP A B S = true then 0 else 1
def ofLl (A B : Int) (zs : List Int) (X Y S : Int) : List (IC × IC) := if ofXx A B zs.length X Y S = 0 then comL (sortL (ltOf (ordI A B S)) (fndL A B zs S (cntN A B S))) else []
def SnB (w0 W : World) : Prop := Below w0.heap.size w0 W
theorem SnB.below {w0 W W' : World} (h : SnB w0 W) (hb : Below W.heap.size W W') : SnB w0 W' := bl_tr h hb
theorem SnB.size {w0 W : World} (h : SnB w0 W) : w0.heap.size ≤ W.heap.size := Below.size h
/-- What Of's inner loop holds. -/
structure OfI (w w2 : World) (bl : List Int) (ba : Option Addr) (bc : Nat) (X Y S : Int) (a : Option Addr) (n cap : Nat) (W : World) : Prop where
  bes : W.ownsRow w2.heap.size 3 1 (.slice ba bl.length bc) bl.length (cellsN bl)
  bel : Below w2.heap.size w2 W
  fld : W.cell? ⟨w.heap.size, 0, none⟩ = some (.int .i64 X) ∧ W.cell? ⟨w.heap.size, 1, none⟩ = some (.int .i64 Y) ∧ W.cell? ⟨w.heap.size, 2, none⟩ = some (.slice a n cap)
  prt : W.cell? ⟨w.heap.size + 1, 0, none⟩ = some (.int .i64 X) ∧ W.cell? ⟨w.heap.size + 1, 1, none⟩ = some (.int .i64 Y) ∧ W.cell? ⟨w.heap.size + 1, 2, none⟩ = some (.int .i64 S)
theorem OfI.below {w w2 : World} {bl : List Int} {ba : Option Addr} {bc : Nat} {X Y S : Int} {a : Option Addr} {n cap : Nat} {W W' : World} (h : OfI w w2 bl ba bc X Y S a n cap W) (hb : Below W.heap.size W W') : OfI w w2 bl ba bc X Y S a n cap W' :=
  ⟨own_later h.bes hb, bl_tr h.bel hb, ⟨cell_later hb h.fld.1, cell_later hb h.fld.2.1, cell_later hb h.fld.2.2⟩, ⟨cell_later hb h.prt.1, cell_later hb h.prt.2.1, cell_later hb h.prt.2.2⟩⟩
theorem OfI.grown {w w2 : World} {bl : List Int} {ba : Option Addr} {bc : Nat} {X Y S : Int} {a : Option Addr} {n cap : Nat} {W W' : World} (h : OfI w w2 bl ba bc X Y S a n cap W) (hw : w.heap.size + 1 < w2.heap.size) {v : Value} {m : Nat} {xs : List Value} (hown : W.ownsRow w2.heap.size 108 4 v m xs) (hg : W.grownBy W' v.ownBlock) : OfI w w2 bl ba bc X Y S a n cap W' := by
  have hne : ∀ j, j < w2.heap.size → some j ≠ v.ownBlock := fun j hj e => by have := (hown.lt j e.symm).1; omega
  refine ⟨own_beside hown h.bes (by decide) hg, h.bel.grown hg h.bel.size (fun k hk => (hown.lt k hk).1), ⟨hg.cell h.fld.1 (hne w.heap.size (by omega)), hg.cell h.fld.2.1 (hne w.heap.size (by omega)), hg.cell h.fld.2.2 (hne w.heap.size (by omega))⟩, ⟨hg.cell h.prt.1 (hne (w.heap.size + 1) (by omega)), hg.cell h.prt.2.1 (hne (w.heap.size + 1) (by omega)), hg.cell h.prt.2.2 (hne (w.heap.size + 1) (by omega))⟩⟩
set_option maxRecDepth 100000 in
set_option maxHeartbeats 8000000 in
theorem of_any (A B : Int) (a : Option Addr) (cap : Nat) (zs : List Int) (X Y S : Int) (w : World) (hr : RowH w a zs) (hs : Stp w) :
    Calls Tryd.prog 24 #[.agg #[.int .i64 A, .int .i64 B, .slice a zs.length cap], .agg #[.int .i64 X, .int .i64 Y, .int .i64 S]] w (BtwR (ofXx A B zs.length X Y S) (ofLl A B zs X Y S) w) := by
  have hA := bl0 w
  obtain ⟨x, hx⟩ : ∃ x, ofXx A B zs.length X Y S = x := ⟨_, rfl⟩
  obtain ⟨L, hL⟩ : ∃ L, ofLl A B zs X Y S = L := ⟨_, rfl⟩
  rw [hx, hL]
  unfold ofLl at hL
  rw [hx] at hL
  unfold ofXx at hx
  have H1 := Lib.hid (fun w => gfits_any A B a zs.length cap X Y S w)
  by_cases h0 : fitX A B zs.length X Y = 0
  case neg =>
    rw [if_pos h0] at hx
    have hx0 : x ≠ 0 := by rw [← hx]; exact h0
    rw [if_neg hx0] at hL
    subst hL
    rw [hx] at H1
    have hx1 : (x != 0) = true := by rw [bne_iff_ne]; exact hx0
    clear h0 hx hx0
    go_enter Tryd.func24, Tryd.ntmps24
    go_wp2_with fail
    refine (H1.out _).mono ?_
    rintro e w1 ⟨rfl, hb⟩
    have hk : Below w.heap.size w w1 := by first | exact hb | exact bl_tr (bl_al (bl0 _) _) hb | exact bl_tr (bl_dr (bl_al (bl0 _) _)) hb | exact bl_tr (bl_al (bl_al (bl0 _) _) _) hb | exact bl_tr (bl_dr (bl_al (bl_al (bl0 _) _) _)) hb | exact bl_tr (bl_al (bl_al (bl_al (bl0 _) _) _) _) hb | exact bl_tr (bl_dr (bl_al (bl_al (bl_al (bl0 _) _) _) _)) hb | exact bl_tr (bl_al (bl_al (bl_al (bl_al (bl0 _) _) _) _) _) hb | exact bl_tr (bl_dr (bl_al (bl_al (bl_al (bl_al (bl0 _) _) _) _) _)) hb | exact bl_tr (bl_al (bl_al (bl_al (bl_al (bl_al (bl0 _) _) _) _) _) _) hb | exact bl_tr (bl_dr (bl_al (bl_al (bl_al (bl_al (bl_al (bl0 _) _) _) _) _) _)) hb | exact bl_tr (bl_al (bl_al (bl_al (bl_al (bl_al (bl_al (bl0 _) _) _) _) _) _) _) hb | exact bl_tr (bl_dr (bl_al (bl_al (bl_al (bl_al (bl_al (bl_al (bl0 _) _) _) _) _) _) _)) hb | exact bl_tr (bl_dr (bl0 _)) hb
    replace hA := bl_tr hA hk
    clear hb hk
    go_wp2
    go_ret2
    exact ⟨none, 0, rfl, Nat.le_refl _, .inl rfl, hA⟩
  case pos =>
  obtain ⟨hc, rfl, rfl⟩ := fit_of h0
  obtain ⟨hm, hn⟩ := chk_of hc
  rw [if_neg (fun h => h h0)] at hx
  rw [h0] at H1
  have H2 := Lib.hid (fun w => count_p X Y S w)
  cases hrt : rightP X Y S
  · rw [hrt, if_neg (by decide)] at hx
    subst hx
    rw [if_neg (by decide)] at hL
    subst hL
    have hc0 : cntV X Y S = 0 := by unfold cntV; rw [if_neg (by rw [hrt]; decide)]
    rw [hc0] at H2
    clear hc hm hn h0 hrt hc0
    go_enter Tryd.func24, Tryd.ntmps24
    go_wp2_with fail
    refine (H1.out _).mono ?_
    rintro e w1 ⟨rfl, hb⟩
    have hk : Below w.heap.size w w1 := by first | exact hb | exact bl_tr (bl_al (bl0 _) _) hb | exact bl_tr (bl_dr (bl_al (bl0 _) _)) hb | exact bl_tr (bl_al (bl_al (bl0 _) _) _) hb | exact bl_tr (bl_dr (bl_al (bl_al (bl0 _) _) _)) hb | exact bl_tr (bl_al (bl_al (bl_al (bl0 _) _) _) _) hb | exact bl_tr (bl_dr (bl_al (bl_al (bl_al (bl0 _) _) _) _)) hb | exact bl_tr (bl_al (bl_al (bl_al (bl_al (bl0 _) _) _) _) _) hb | exact bl_tr (bl_dr (bl_al (bl_al (bl_al (bl_al (bl0 _) _) _) _) _)) hb | exact bl_tr (bl_al (bl_al (bl_al (bl_al (bl_al (bl0 _) _) _) _) _) _) hb | exact bl_tr (bl_dr (bl_al (bl_al (bl_al (bl_al (bl_al (bl0 _) _) _) _) _) _)) hb | exact bl_tr (bl_al (bl_al (bl_al (bl_al (bl_al (bl_al (bl0 _) _) _) _) _) _) _) hb | exact bl_tr (bl_dr (bl_al (bl_al (bl_al (bl_al (bl_al (bl_al (bl0 _) _) _) _) _) _) _)) hb | exact bl_tr (bl_dr (bl0 _)) hb
    replace hA := bl_tr hA hk
    have p0 := cell_later hb (v := .int .i64 X) (a := ⟨w.heap.size + 1, 0, none⟩) (by simp [go_sem])
    have p1 := cell_later hb (v := .int .i64 Y) (a := ⟨w.heap.size + 1, 1, none⟩) (by simp [go_sem])
    have p2 := cell_later hb (v := .int .i64 S) (a := ⟨w.heap.size + 1, 2, none⟩) (by simp [go_sem])
    clear hb hk
    have zp0 := blk_lt p0
    have zp1 := blk_lt p1
    have zp2 := blk_lt p2
    go_wp2_with fail
    refine (H2.out _).mono ?_
    rintro e w2 ⟨rfl, hb⟩
    have hk : Below w1.heap.size w1 w2 := by first | exact hb | exact bl_tr (bl_al (bl0 _) _) hb | exact bl_tr (bl_dr (bl_al (bl0 _) _)) hb | exact bl_tr (bl_al (bl_al (bl0 _) _) _) hb | exact bl_tr (bl_dr (bl_al (bl_al (bl0 _) _) _)) hb | exact bl_tr (bl_al (bl_al (bl_al (bl0 _) _) _) _) hb | exact bl_tr (bl_dr (bl_al (bl_al (bl_al (bl0 _) _) _) _)) hb | exact bl_tr (bl_al (bl_al (bl_al (bl_al (bl0 _) _) _) _) _) hb | exact bl_tr (bl_dr (bl_al (bl_al (bl_al (bl_al (bl0 _) _) _) _) _)) hb | exact bl_tr (bl_al (bl_al (bl_al (bl_al (bl_al (bl0 _) _) _) _) _) _) hb | exact bl_tr (bl_dr (bl_al (bl_al (bl_al (bl_al (bl_al (bl0 _) _) _) _) _) _)) hb | exact bl_tr (bl_al (bl_al (bl_al (bl_al (bl_al (bl_al (bl0 _) _) _) _) _) _) _) hb | exact bl_tr (bl_dr (bl_al (bl_al (bl_al (bl_al (bl_al (bl_al (bl0 _) _) _) _) _) _) _)) hb | exact bl_tr (bl_dr (bl0 _)) hb
    replace hA := bl_tr hA hk
    clear hb hk
    go_wp2
    go_ret2
    exact ⟨none, 0, rfl, Nat.le_refl _, .inl rfl, hA⟩
  · rw [hrt, if_pos rfl] at hx
    subst hx
    rw [if_pos rfl] at hL
    obtain ⟨hcn, n1, n2⟩ := cntN_eq hrt
    have hcv : cntV X Y S = (cntN X Y S : Nat) := by unfold cntV; rw [if_pos hrt, hcn]
    rw [hcv] at H2
    have H3 := Lib.hid (fun (id : Nat) w hs => beside_f X Y S id w hs)
    unfold BesF at H3
    have H4 := Lib.hid (fun (id : Nat) (o : Int) w hs => border_p X Y S id o w hs)
    unfold BorR at H4
    have H5 := Lib.hid (fun (id : Nat) (o : Int) b cap2 w (hr : RowH w a zs) (hrow : RowPP w b (brdP X Y S id o)) (hcl : (brdP X Y S id o).length ≤ cap2) => along_any X Y a cap zs b cap2 (brdP X Y S id o) w hr hn hrow hcl (by have := brdP_le X Y S id o; omega) (by
      by_cases hbx : brdX X Y S id o = 0
      · exact brd_on hbx
      · have : brdP X Y S id o = [] := by unfold brdP; rw [if_neg hbx]
        rw [this]
        intro p hp
        cases hp))
    unfold GatR at H5
    have HFS := Lib.hid (fun n => fnd_succ X Y zs S n)
    have HFL := Lib.hid (fun n => fnd_le X Y zs S n)
    have HBS := Lib.hid (fun (id k : Nat) (h : k < (besL X Y S id).length) => bsT_succ (zs := zs) h)
    have HBA := Lib.hid (fun (id k : Nat) (h : (besL X Y S id).length ≤ k) => bsT_all (zs := zs) h)
    have HBL := Lib.hid (fun (id k : Nat) => bsT_le2 X Y zs S id k)
    have HL4 := Lib.hid (fun (id : Nat) => besL_len X Y S id)
    have HGL := Lib.hid (fun (id : Nat) (o : Int) => (show (gatesL (opnF X zs) (brdP X Y S id o)).length ≤ 16 from Nat.le_trans (gatesL_le _ _) (brdP_le X Y S id o)))
    have HLL := Lib.hid hL
    have hbz : ∀ id, bsT X Y zs S id 0 = [] := fun id => by simp [bsT]
    have HBZ := Lib.hid hbz
    have hfz : fndL X Y zs S 0 = [] := by simp [fndL]
    have HO := Lib.hid (fun zs d base g cap2 w hl hdb h => sortG_own X Y S hrt d base g cap2 zs w hl hdb h)
    have HON := Lib.hid (sortL_nil (swo_ordI X Y S))
    generalize hcN : cntN X Y S = cn at *
    have hcn3 : cn ≤ 16384 := by omega
    have hcn4 : ((cn : Int) == 0) = false := by rw [beq_eq_false_iff_ne]; omega
    clear hL hc hm hn h0 hrt hcv hcn n1 n2 hcN hbz
    go_enter Tryd.func24, Tryd.ntmps24
    go_wp2_with fail
    refine (H1.out _).mono ?_
    rintro e w1 ⟨rfl, hb⟩
    have hk : Below w.heap.size w w1 := by first | exact hb | exact bl_tr (bl_al (bl0 _) _) hb | exact bl_tr (bl_dr (bl_al (bl0 _) _)) hb | exact bl_tr (bl_al (bl_al (bl0 _) _) _) hb | exact bl_tr (bl_dr (bl_al (bl_al (bl0 _) _) _)) hb | exact bl_tr (bl_al (bl_al (bl_al (bl0 _) _) _) _) hb | exact bl_tr (bl_dr (bl_al (bl_al (bl_al (bl0 _) _) _) _)) hb | exact bl_tr (bl_al (bl_al (bl_al (bl_al (bl0 _) _) _) _) _) hb | exact bl_tr (bl_dr (bl_al (bl_al (bl_al (bl_al (bl0 _) _) _) _) _)) hb | exact bl_tr (bl_al (bl_al (bl_al (bl_al (bl_al (bl0 _) _) _) _) _) _) hb | exact bl_tr (bl_dr (bl_al (bl_al (bl_al (bl_al (bl_al (bl0 _) _) _) _) _) _)) hb | exact bl_tr (bl_al (bl_al (bl_al (bl_al (bl_al (bl_al (bl0 _) _) _) _) _) _) _) hb | exact bl_tr (bl_dr (bl_al (bl_al (bl_al (bl_al (bl_al (bl_al (bl0 _) _) _) _) _) _) _)) hb | exact bl_tr (bl_dr (bl0 _)) hb
    replace hA := bl_tr hA hk
    have k0 := cell_later hb (v := .int .i64 X) (a := ⟨w.heap.size, 0, none⟩) (by simp [go_sem])
    have k1 := cell_later hb (v := .int .i64 Y) (a := ⟨w.heap.size, 1, none⟩) (by simp [go_sem])
    have k2 := cell_later hb (v := .slice a zs.length cap) (a := ⟨w.heap.size, 2, none⟩) (by simp [go_sem])
    have p0 := cell_later hb (v := .int .i64 X) (a := ⟨w.heap.size + 1, 0, none⟩) (by simp [go_sem])
    have p1 := cell_later hb (v := .int .i64 Y) (a := ⟨w.heap.size + 1, 1, none⟩) (by simp [go_sem])
    have p2 := cell_later hb (v := .int .i64 S) (a := ⟨w.heap.size + 1, 2, none⟩) (by simp [go_sem])
    clear hb hk
    have zk0 := blk_lt k0
    have zk1 := blk_lt k1
    have zk2 := blk_lt k2
    have zp0 := blk_lt p0
    have zp1 := blk_lt p1
    have zp2 := blk_lt p2
    go_wp2_with fail
    refine (H2.out _).mono ?_
    rintro e w2 ⟨rfl, hb⟩
    have hk : Below w1.heap.size w1 w2 := by first | exact hb | exact bl_tr (bl_al (bl0 _) _) hb | exact bl_tr (bl_dr (bl_al (bl0 _) _)) hb | exact bl_tr (bl_al (bl_al (bl0 _) _) _) hb | exact bl_tr (bl_dr (bl_al (bl_al (bl0 _) _) _)) hb | exact bl_tr (bl_al (bl_al (bl_al (bl0 _) _) _) _) hb | exact bl_tr (bl_dr (bl_al (bl_al (bl_al (bl0 _) _) _) _)) hb | exact bl_tr (bl_al (bl_al (bl_al (bl_al (bl0 _) _) _) _) _) hb | exact bl_tr (bl_dr (bl_al (bl_al (bl_al (bl_al (bl0 _) _) _) _) _)) hb | exact bl_tr (bl_al (bl_al (bl_al (bl_al (bl_al (bl0 _) _) _) _) _) _) hb | exact bl_tr (bl_dr (bl_al (bl_al (bl_al (bl_al (bl_al (bl0 _) _) _) _) _) _)) hb | exact bl_tr (bl_al (bl_al (bl_al (bl_al (bl_al (bl_al (bl0 _) _) _) _) _) _) _) hb | exact bl_tr (bl_dr (bl_al (bl_al (bl_al (bl_al (bl_al (bl_al (bl0 _) _) _) _) _) _) _)) hb | exact bl_tr (bl_dr (bl0 _)) hb
    replace hA := bl_tr hA hk
    replace k0 := cell_later hk k0
    replace k1 := cell_later hk k1
    replace k2 := cell_later hk k2
    replace p0 := cell_later hk p0
    replace p1 := cell_later hk p1
    replace p2 := cell_later hk p2
    clear hb hk
    have zk0 := blk_lt k0
    have zk1 := blk_lt k1
    have zk2 := blk_lt k2
    have zp0 := blk_lt p0
    have zp1 := blk_lt p1
    have zp2 := blk_lt p2
    have HA := Lib.hid hA
    have HWZ := Lib.hid zp0
    have K0 := Lib.hid k0; have K1 := Lib.hid k1; have K2 := Lib.hid k2; have P0 := Lib.hid p0; have P1 := Lib.hid p1; have P2 := Lib.hid p2
    go_wp2_with fail
    clear k0 k1 k2 p0 p1 p2 zk0 zk1 zk2 zp0 zp1 zp2
    go_loopw [8, 9, 10, 11, 13, 14, 15, 27] (fun fv _ _ _ _ _ _ iv wr => ∃ id : Nat, id ≤ cn ∧ iv = .int .i64 id ∧ wr.ownsRow w2.heap.size 108 4 fv (fndL X Y zs S id).length (flatPP (fndL X Y zs S id)) ∧ Below w2.heap.size w2 wr) (fun _ _ _ _ _ _ _ iv _ => cn - (intOf iv).toNat)
    case atStart => exact ⟨0, Nat.zero_le _, rfl, by rw [hfz]; exact ⟨rfl, .inl ⟨rfl, rfl⟩⟩, bl0 _⟩
    case round =>
      obtain ⟨id, hid, rfl, hown, hB⟩ := hrel
      have hid0 : (0 : Int) ≤ (id : Int) := by omega
      have hA := bl_tr HA.out hB
      have k0 := cell_later hB K0.out; have k1 := cell_later hB K1.out; have k2 := cell_later hB K2.out
      have p0 := cell_later hB P0.out; have p1 := cell_later hB P1.out; have p2 := cell_later hB P2.out
      have zk0 := blk_lt k0
      have zp0 := blk_lt p0
      have hB2 := hB.size
      by_cases hlt : id < cn
      · have hlt2 : (id : Int) < (cn : Int) := by omega
        have hBB : SnB w2 wr := hB
        have HWR := Lib.hid hB2
        clear hB hB2
        go_wp2_with fail
        refine (H3.out _ _ (hs.below (by first | exact hA | exact (bl_al hA _) | exact (bl_dr (bl_al hA _)) | exact (bl_al (bl_al hA _) _) | exact (bl_dr (bl_al (bl_al hA _) _)) | exact (bl_al (bl_al (bl_al hA _) _) _) | exact (bl_dr (bl_al (bl_al (bl_al hA _) _) _)) | exact (bl_al (bl_al (bl_al (bl_al hA _) _) _) _) | exact (bl_dr (bl_al (bl_al (bl_al (bl_al hA _) _) _) _)) | exact (bl_al (bl_al (bl_al (bl_al (bl_al hA _) _) _) _) _) | exact (bl_dr (bl_al (bl_al (bl_al (bl_al (bl_al hA _) _) _) _) _)) | exact (bl_al (bl_al (bl_al (bl_al (bl_al (bl_al hA _) _) _) _) _) _) | exact (bl_dr (bl_al (bl_al (bl_al (bl_al (bl_al (bl_al hA _) _) _) _) _) _)) | exact (bl_dr hA)))).mono ?_
        rintro e w3 ⟨ba, bc, rfl, hbo, hb⟩
        have hk : Below wr.heap.size wr w3 := by first | exact hb | exact bl_tr (bl_al (bl0 _) _) hb | exact bl_tr (bl_dr (bl_al (bl0 _) _)) hb | exact bl_tr (bl_al (bl_al (bl0 _) _) _) hb | exact bl_tr (bl_dr (bl_al (bl_al (bl0 _) _) _)) hb | exact bl_tr (bl_al (bl_al (bl_al (bl0 _) _) _) _) hb | exact bl_tr (bl_dr (bl_al (bl_al (bl_al (bl0 _) _) _) _)) hb | exact bl_tr (bl_al (bl_al (bl_al (bl_al (bl0 _) _) _) _) _) hb | exact bl_tr (bl_dr (bl_al (bl_al (bl_al (bl_al (bl0 _) _) _) _) _)) hb | exact bl_tr (bl_al (bl_al (bl_al (bl_al (bl_al (bl0 _) _) _) _) _) _) hb | exact bl_tr (bl_dr (bl_al (bl_al (bl_al (bl_al (bl_al (bl0 _) _) _) _) _) _)) hb | exact bl_tr (bl_al (bl_al (bl_al (bl_al (bl_al (bl_al (bl0 _) _) _) _) _) _) _) hb | exact bl_tr (bl_dr (bl_al (bl_al (bl_al (bl_al (bl_al (bl_al (bl0 _) _) _) _) _) _) _)) hb | exact bl_tr (bl_dr (bl0 _)) hb
        replace hA := bl_tr hA hk
        replace hBB := hBB.below hk
        replace k0 := cell_later hk k0
        replace k1 := cell_later hk k1
        replace k2 := cell_later hk k2
        replace p0 := cell_later hk p0
        replace p1 := cell_later hk p1
        replace p2 := cell_later hk p2
        replace hown := own_later hown hk
        clear hb hk
        have zk0 := blk_lt k0
        have zk1 := blk_lt k1
        have zk2 := blk_lt k2
        have zp0 := blk_lt p0
        have zp1 := blk_lt p1
        have zp2 := blk_lt p2
        have HBT := Lib.hid (HBS.out id)
        have HBU := Lib.hid (HBA.out id)
        have hl4 := HL4.out id
        obtain ⟨bl, hbl⟩ : ∃ bl, besL X Y S id = bl := ⟨_, rfl⟩
        rw [hbl] at hbo HBT HBU hl4 ⊢
        have hsz := hbo.1
        have HW3 := Lib.hid (show w2.heap.size ≤ w3.heap.size from hBB.size)
        have hst : fndL X Y zs S id = fndL X Y zs S id ++ bsT X Y zs S id 0 := by rw [HBZ.out, List.append_nil]
        have hown0 := hown
        rw [hst] at hown0
        have HOW := Lib.hid hown0
        have HST := Lib.hid hst
        have HBO := Lib.hid hbo
        have HSB := Lib.hid hBB
        have HA3 := Lib.hid hA
        have KK0 := Lib.hid k0; have KK1 := Lib.hid k1; have KK2 := Lib.hid k2; have PP0 := Lib.hid p0; have PP1 := Lib.hid p1; have PP2 := Lib.hid p2
        clear hbl hst hown0
        go_wp2_with fail
        clear hown hbo hBB hA k0 k1 k2 p0 p1 p2 zk0 zk1 zk2 zp0 zp1 zp2
        go_loopw [8, 13, 14, 15, 38] (fun fv _ _ _ kv wr => ∃ k : Nat, k ≤ bl.length ∧ kv = .int .i64 k ∧ wr.ownsRow w2.heap.size 108 4 fv (fndL X Y zs S id ++ bsT X Y zs S id k).length (flatPP (fndL X Y zs S id ++ bsT X Y zs S id k)) ∧ OfI w w2 bl ba bc X Y S a zs.length cap wr) (fun _ _ _ _ kv _ => bl.length - (intOf kv).toNat)
        case atStart => exact ⟨0, Nat.zero_le _, rfl, HOW.out, ⟨own_base HBO.out HWR.out, HSB.out, ⟨KK0.out, KK1.out, KK2.out⟩, ⟨PP0.out, PP1.out, PP2.out⟩⟩⟩
        case round =>
          obtain ⟨k, hk, rfl, hown, hI⟩ := hrel
          have hk0 : (0 : Int) ≤ (k : Int) := by omega
          have hA := bl_tr HA.out hI.bel
          by_cases hlk : k < bl.length
          · have hlk2 : (k : Int) < (bl.length : Int) := by omega
            have hbt := HBT.out k hlk
            have hn1 := HFL.out id
            have hn2 := HBL.out id k
            obtain ⟨k0, k1, k2⟩ := hI.fld
            obtain ⟨p0, p1, p2⟩ := hI.prt
            have zk0 := blk_lt k0
            have zp0 := blk_lt p0
            obtain ⟨g2, rfl⟩ : ∃ g2, ba = some ⟨g2, 0, none⟩ := by
              rcases hI.bes.2 with ⟨_, h0⟩ | ⟨g2, _, _, e, _⟩
              · omega
              · cases e; exact ⟨g2, rfl⟩
            have hq := hI.bes.cells (g := g2) rfl k (.int .i64 bl[k]) (by simp [cellsN, hlk])
            rw [addr_add, Nat.zero_add] at hq
            have zq := blk_lt hq
            obtain ⟨o, ho⟩ : ∃ o, bl[k] = o := ⟨_, rfl⟩
            rw [ho] at hq hbt
            have hg16 := HGL.out id o
            clear ho
            go_wp2_with fail
            refine (H4.out _ _ _ (hs.below (by first | exact hA | exact (bl_al hA _) | exact (bl_dr (bl_al hA _)) | exact (bl_al (bl_al hA _) _) | exact (bl_dr (bl_al (bl_al hA _) _)) | exact (bl_al (bl_al (bl_al hA _) _) _) | exact (bl_dr (bl_al (bl_al (bl_al hA _) _) _)) | exact (bl_al (bl_al (bl_al (bl_al hA _) _) _) _) | exact (bl_dr (bl_al (bl_al (bl_al (bl_al hA _) _) _) _)) | exact (bl_al (bl_al (bl_al (bl_al (bl_al hA _) _) _) _) _) | exact (bl_dr (bl_al (bl_al (bl_al (bl_al (bl_al hA _) _) _) _) _)) | exact (bl_al (bl_al (bl_al (bl_al (bl_al (bl_al hA _) _) _) _) _) _) | exact (bl_dr (bl_al (bl_al (bl_al (bl_al (bl_al (bl_al hA _) _) _) _) _) _)) | exact (bl_dr hA)))).mono ?_
            rintro e w4 ⟨ua, uc, rfl, hur, hb, hcl⟩
            have hk : Below wr.heap.size wr w4 := by first | exact hb | exact bl_tr (bl_al (bl0 _) _) hb | exact bl_tr (bl_dr (bl_al (bl0 _) _)) hb | exact bl_tr (bl_al (bl_al (bl0 _) _) _) hb | exact bl_tr (bl_dr (bl_al (bl_al (bl0 _) _) _)) hb | exact bl_tr (bl_al (bl_al (bl_al (bl0 _) _) _) _) hb | exact bl_tr (bl_dr (bl_al (bl_al (bl_al (bl0 _) _) _) _)) hb | exact bl_tr (bl_al (bl_al (bl_al (bl_al (bl0 _) _) _) _) _) hb | exact bl_tr (bl_dr (bl_al (bl_al (bl_al (bl_al (bl0 _) _) _) _) _)) hb | exact bl_tr (bl_al (bl_al (bl_al (bl_al (bl_al (bl0 _) _) _) _) _) _) hb | exact bl_tr (bl_dr (bl_al (bl_al (bl_al (bl_al (bl_al (bl0 _) _) _) _) _) _)) hb | exact bl_tr (bl_al (bl_al (bl_al (bl_al (bl_al (bl_al (bl0 _) _) _) _) _) _) _) hb | exact bl_tr (bl_dr (bl_al (bl_al (bl_al (bl_al (bl_al (bl_al (bl0 _) _) _) _) _) _) _)) hb | exact bl_tr (bl_dr (bl0 _)) hb
            replace hA := bl_tr hA hk
            replace hI := hI.below hk
            replace k0 := cell_later hk k0
            replace k1 := cell_later hk k1
            replace k2 := cell_later hk k2
            replace hown := own_later hown hk
            clear hb hk
            have zk0 := blk_lt k0
            have zk1 := blk_lt k1
            have zk2 := blk_lt k2
            clear hq zq p0 p1 p2 zp0
            go_wp2_with fail
            refine (H5.out _ _ _ _ _ (hr.below (by first | exact hA | exact (bl_al hA _) | exact (bl_dr (bl_al hA _)) | exact (bl_al (bl_al hA _) _) | exact (bl_dr (bl_al (bl_al hA _) _)) | exact (bl_al (bl_al (bl_al hA _) _) _) | exact (bl_dr (bl_al (bl_al (bl_al hA _) _) _)) | exact (bl_al (bl_al (bl_al (bl_al hA _) _) _) _) | exact (bl_dr (bl_al (bl_al (bl_al (bl_al hA _) _) _) _)) | exact (bl_al (bl_al (bl_al (bl_al (bl_al hA _) _) _) _) _) | exact (bl_dr (bl_al (bl_al (bl_al (bl_al (bl_al hA _) _) _) _) _)) | exact (bl_al (bl_al (bl_al (bl_al (bl_al (bl_al hA _) _) _) _) _) _) | exact (bl_dr (bl_al (bl_al (bl_al (bl_al (bl_al (bl_al hA _) _) _) _) _) _)) | exact (bl_dr hA))) hur hcl).mono ?_
            rintro e w5 ⟨ga, gc, rfl, hgc, hgr, hb⟩
            have hk : Below w4.heap.size w4 w5 := by first | exact hb | exact bl_tr (bl_al (bl0 _) _) hb | exact bl_tr (bl_dr (bl_al (bl0 _) _)) hb | exact bl_tr (bl_al (bl_al (bl0 _) _) _) hb | exact bl_tr (bl_dr (bl_al (bl_al (bl0 _) _) _)) hb | exact bl_tr (bl_al (bl_al (bl_al (bl0 _) _) _) _) hb | exact bl_tr (bl_dr (bl_al (bl_al (bl_al (bl0 _) _) _) _)) hb | exact bl_tr (bl_al (bl_al (bl_al (bl_al (bl0 _) _) _) _) _) hb | exact bl_tr (bl_dr (bl_al (bl_al (bl_al (bl_al (bl0 _) _) _) _) _)) hb | exact bl_tr (bl_al (bl_al (bl_al (bl_al (bl_al (bl0 _) _) _) _) _) _) hb | exact bl_tr (bl_dr (bl_al (bl_al (bl_al (bl_al (bl_al (bl0 _) _) _) _) _) _)) hb | exact bl_tr (bl_al (bl_al (bl_al (bl_al (bl_al (bl_al (bl0 _) _) _) _) _) _) _) hb | exact bl_tr (bl_dr (bl_al (bl_al (bl_al (bl_al (bl_al (bl_al (bl0 _) _) _) _) _) _) _)) hb | exact bl_tr (bl_dr (bl0 _)) hb
            replace hA := bl_tr hA hk
            replace hI := hI.below hk
            replace hown := own_later hown hk
            clear hb hk
            clear hur hcl k0 k1 k2 zk0 zk1 zk2
            obtain ⟨gl, hgl⟩ : ∃ gl, gatesL (opnF X zs) (brdP X Y S id o) = gl := ⟨_, rfl⟩
            rw [hgl] at hgr hgc hbt hg16 ⊢
            obtain ⟨FF, hFF⟩ : ∃ FF, fndL X Y zs S id ++ bsT X Y zs S id k = FF := ⟨_, rfl⟩
            have hnx : fndL X Y zs S id ++ bsT X Y zs S id (k + 1) = FF ++ gl := by rw [hbt, ← List.append_assoc, hFF]
            have hFl : FF.length ≤ 64 * id + 48 := by rw [← hFF, List.length_append]; omega
            rw [hFF] at hown
            have HNX := Lib.hid hnx
            have hw2 := hI.bel.size
            clear hgl hFF hbt hnx hA hgc
            go_wp2_with (at_builtin; refine wpList_append_rowG rfl _ _ rfl w2.heap.size _ _ FF rfl hown ga gc gl rfl hgr (by omega) hw2 ?_)
            intro v' w6 hown' hgrow
            have hI6 := hI.grown HWZ.out hown hgrow
            rw [← HNX.out, ← List.length_append, ← HNX.out] at hown'
            have HI6 := Lib.hid hI6
            clear hI6 hI hown hgrow hgr hw2
            go_wp2
            go_roundw
            case rel => exact ⟨k + 1, by omega, by go_num, hown', HI6.out⟩
            case measure => simp [intOf]; omega
          · have hge : ¬ (k : Int) < (bl.length : Int) := by omega
            have hall := HBU.out k (by omega)
            have hnx : fndL X Y zs S id ++ bsT X Y zs S id k = fndL X Y zs S (id + 1) := by rw [hall, HFS.out]
            rw [hnx] at hown
            have hbel := hI.bel
            clear hall hnx hI hA
            go_wp2
            go_roundw
            case rel => exact ⟨id + 1, by omega, by go_num, hown, hbel⟩
            case measure => simp [intOf]; omega
      · obtain rfl : id = cn := by omega
        have hge : ¬ (id : Int) < (id : Int) := by omega
        have hFl := HFL.out id
        obtain ⟨F, hF⟩ : ∃ F, fndL X Y zs S id = F := ⟨_, rfl⟩
        rw [hF] at hown hFl HLL
        have hbw := hB.size
        have HBB := Lib.hid hB
        clear hF hB k0 k1 k2 zk0
        go_wp2_with fail
        refine (order_mk X Y S _).mono ?_
        rintro e w3 ⟨rfl, ⟨⟨o0, o1, o2⟩, o3⟩, hb⟩
        have hA3 := bl_tr hA hb
        have HBW := Lib.hid (bl_tr HBB.out hb)
        have hown3 := own_later hown hb
        have hlt3 := fun g h => (hown.lt g h).2
        clear p0 p1 p2 zp0 hA hown
        have HLE := Lib.hid (sortL_spec (swo_ordI X Y S) F).1
        have hw2 := hbw
        rcases hown3.2 with ⟨rfl, h0⟩ | ⟨g, cap', cur, rfl, hg1, hg2, hg3, _⟩
        · have hF0 : F = [] := List.eq_nil_of_length_eq_zero h0
          subst hF0
          have hLe : L = [] := by rw [← HLL.out, HON.out]; rfl
          subst hLe
          clear hown3 hlt3 h0 hFl HLE
          go_wp2_with fail
          refine (sort_nil _ _).mono ?_
          rintro e w4 ⟨rfl, hw4⟩
          subst hw4
          go_wp2_with fail
          refine (compact_nil _).mono ?_
          rintro e w5 ⟨rfl, hw5⟩
          subst hw5
          go_wp2
          go_ret2
          exact ⟨none, 0, rfl, Nat.le_refl _, .inl rfl, hA3⟩
        · have hlt := hlt3 g rfl
          have HSRT := Lib.hid (HO.out F (wr.heap.size + 1) w2.heap.size g cap' w3 (by omega) ⟨wr.heap.size, ⟨o0, o1, o2⟩, o3, by omega, by omega⟩ hown3)
          clear o0 o1 o2 o3 hlt3 hg2
          go_wp2_with fail
          refine HSRT.out.mono ?_
          rintro e w4 ⟨rfl, hown4, hgr⟩
          have hA4 : Below w2.heap.size w2 w4 := (HBW.out).grown hgr (by have := hb.size; omega) (fun k hk => by cases hk; exact hg1)
          obtain ⟨F2, hF2⟩ : ∃ F2, sortL (ltOf (ordI X Y S)) F = F2 := ⟨_, rfl⟩
          rw [hF2] at hown4 HLL
          have hl2 := HLE.out
          rw [hF2] at hl2
          rw [← hl2] at hown4 ⊢
          have HCM := Lib.hid (compactG_own w2.heap.size g cap' F2 w4 (by omega) hown4)
          rw [HLL.out] at HCM
          clear hown3 hown4 hgr hF2 hb hg3 hl2
          go_wp2_with fail
          refine HCM.out.mono ?_
          rintro e w5 ⟨rfl, hcl, hrw, hb5⟩
          have hA5 := bl_tr HA.out (hA4.trans hb5)
          have HRW := Lib.hid hrw
          clear hrw hb5 hA4 hA3
          go_wp2
          go_ret2
          exact ⟨_, cap', rfl, hcl, HRW.out, hA5⟩
end Go.Proofs.YtbdfjdipjacamaaDoor

/- Rows that rise, and rows put in order from which the doubled ones are taken. -/
namespace Go.Proofs.YtbdfjdipjacamaaDoor
open Go.RowKit Go.Sort

/-- Two rows that rise and have the same members are the same. -/
theorem rise_ext {α : Type} {R : α → α → Prop} (hi : ∀ x, ¬ R x x) (ht : ∀ x y z, R x y → R y z → R x z) : ∀ {xs ys : List α}, xs.Pairwise R → ys.Pairwise R → (∀ x, x ∈ xs ↔ x ∈ ys) → xs = ys
  | [], [], _, _, _ => rfl
  | [], y :: ys, _, _, h => by have := (h y).2 (by simp); cases this
  | x :: xs, [], _, _, h => by have := (h x).1 (by simp); cases this
  | x :: xs, y :: ys, hx, hy, h => by
    rw [List.pairwise_cons] at hx hy
    have e : x = y := by
      have a := (h x).1 (by simp)
      have b := (h y).2 (by simp)
      rw [List.mem_cons] at a b
      rcases a with a | a
      · exact a
      · rcases b with b | b
        · exact b.symm
        · exact absurd (ht _ _ _ (hx.1 _ b) (hy.1 _ a)) (hi _)
    subst e
    congr 1
    refine rise_ext hi ht hx.2 hy.2 fun z => ?_
    have a := h z
    rw [List.mem_cons, List.mem_cons] at a
    constructor
    · intro hz
      rcases a.1 (.inr hz) with e | e
      · exact absurd (e ▸ hx.1 _ hz) (hi _)
      · exact e
    · intro hz
      rcases a.2 (.inr hz) with e | e
      · exact absurd (e ▸ hy.1 _ hz) (hi _)
      · exact e
theorem comTo_mem {α : Type} [DecidableEq α] {zs : List α} : ∀ {m : Nat}, m ≤ zs.length → ∀ x, x ∈ comTo zs m ↔ x ∈ zs.take m
  | 0, _, x => by simp [comTo, pickL]
  | m + 1, h, x => by
    have ih := comTo_mem (zs := zs) (m := m) (by omega) x
    rw [comTo_succ (show m < zs.length by omega), List.take_add_one, List.getElem?_eq_getElem (show m < zs.length by omega), List.mem_append, List.mem_append, ih]
    cases hk : keepB zs m
    · rw [if_neg (by decide)]
      simp only [List.not_mem_nil, or_false, Option.toList_some, List.mem_singleton]
      refine ⟨.inl, fun hh => hh.elim id fun e => ?_⟩
      subst e
      cases m with
      | zero => rw [keepB_zero] at hk; cases hk
      | succ m =>
        rw [keepB_succ (by omega), decide_eq_false_iff_not, Decidable.not_not] at hk
        rw [hk, List.mem_take_iff_getElem]
        exact ⟨m, by omega, rfl⟩
    · rw [if_pos rfl]
      rfl
theorem comTo_rise {α : Type} [DecidableEq α] {zs : List α} {R : α → α → Prop} (ht : ∀ x y z, R x y → R y z → R x z) (hq : ∀ x y, ¬ R x y → ¬ R y x → x = y) (hs : ∀ i j (hi : i < j) (hj : j < zs.length), ¬ R zs[j] zs[i]) :
    ∀ {m : Nat}, m ≤ zs.length → (comTo zs m).Pairwise R
  | 0, _ => by simp [comTo, pickL]
  | m + 1, h => by
    have ih := comTo_rise (zs := zs) ht hq hs (m := m) (by omega)
    rw [comTo_succ (show m < zs.length by omega)]
    cases hk : keepB zs m
    · rw [if_neg (by decide), List.append_nil]; exact ih
    · rw [if_pos rfl, List.pairwise_append]
      refine ⟨ih, by simp, fun x hx y hy => ?_⟩
      rw [List.mem_singleton] at hy
      subst hy
      rw [comTo_mem (by omega), List.mem_take_iff_getElem] at hx
      obtain ⟨j, hj, rfl⟩ := hx
      cases m with
      | zero => omega
      | succ m =>
        rw [keepB_succ (by omega), decide_eq_true_eq] at hk
        have h1 : R zs[m] zs[m + 1] := Classical.byContradiction fun hn => hk (hq _ _ hn (hs m (m + 1) (by omega) (by omega))).symm
        by_cases e : j = m
        · subst e; exact h1
        · have h2 := hs j m (by omega) (by omega)
          by_cases h3 : R zs[j] zs[m]
          · exact ht _ _ _ h3 h1
          · rw [hq _ _ h3 h2]; exact h1
/-- Put in order and without the doubled ones: it rises, and has the same members. -/
theorem comL_sort {α : Type} [Inhabited α] [DecidableEq α] {lt : α → α → Bool} {R : α → α → Prop} (hO : SWO lt) (h : ∀ x y, lt x y = true ↔ R x y) (hq : ∀ x y, ¬ R x y → ¬ R y x → x = y) (zs : List α) :
    (comL (sortL lt zs)).Pairwise R ∧ ∀ x, x ∈ comL (sortL lt zs) ↔ x ∈ zs := by
  obtain ⟨h1, h2, h3⟩ := sortL_spec hO zs
  have ht : ∀ x y z, R x y → R y z → R x z := fun x y z a b => (h x z).1 (hO.trans _ _ _ ((h x y).2 a) ((h y z).2 b))
  refine ⟨comTo_rise ht hq (fun i j hi hj hR => ?_) (Nat.le_refl _), fun x => ?_⟩
  · have := h3 i j hi hj
    rw [(h _ _).2 hR] at this
    cases this
  · unfold comL
    rw [comTo_mem (Nat.le_refl _), List.take_length]
    exact h2.mem_iff
theorem ltC_irr (x : IC) : ¬ ltC x x := fun h => by unfold ltC at h; omega
theorem ltC_tr (x y z : IC) (a : ltC x y) (b : ltC y z) : ltC x z := by unfold ltC at *; omega
theorem ltC_eq (x y : IC) (a : ¬ ltC x y) (b : ¬ ltC y x) : x = y := by
  unfold ltC at *
  rw [Prod.ext_iff]
  omega
/-- What a row of cells, put in order and without the doubled ones, is. -/
theorem comC_eq {zs ys : List IC} (h : ys.Pairwise ltC) (hm : ∀ x, x ∈ zs ↔ x ∈ ys) : comL (sortL (ltOf byI) zs) = ys := by
  obtain ⟨h1, h2⟩ := comL_sort swo_byI ltOf_byI ltC_eq zs
  exact rise_ext ltC_irr ltC_tr h1 h fun x => (h2 x).trans (hm x)
end Go.Proofs.YtbdfjdipjacamaaDoor

/- slices.Compact of cells of one's own. -/
namespace Go.Proofs.YtbdfjdipjacamaaDoor
open Go.RowKit

theorem flatC_cons' (z : IC) (zs : List IC) : flatC (z :: zs) = .int .i64 z.1 :: .int .i64 z.2 :: flatC zs := rfl
theorem flatC_set' : ∀ (zs : List IC) (n : Nat) (z : IC), flatC (zs.set n z) = ((flatC zs).set (n * 2) (.int .i64 z.1)).set (n * 2 + 1) (.int .i64 z.2)
  | [], n, z => by simp [flatC]
  | y :: zs, 0, z => by simp [flatC_cons']
  | y :: zs, n + 1, z => by
    have ih := flatC_set' zs n z
    rw [List.set_cons_succ, flatC_cons', flatC_cons', ih, show (n + 1) * 2 = n * 2 + 1 + 1 by omega]
    simp only [List.set_cons_succ]
theorem own_setL {W : World} {B n cap g : Nat} {xs : List IC} (h : W.ownsRow B 30 2 (.slice (some ⟨g, 0, none⟩) n cap) n (flatC xs)) (j : Nat) (z : IC) :
    ((W.setCell ⟨g, j * 2, none⟩ (.int .i64 z.1)).setCell ⟨g, j * 2 + 1, none⟩ (.int .i64 z.2)).ownsRow B 30 2 (.slice (some ⟨g, 0, none⟩) n cap) n (flatC (xs.set j z)) := by
  rw [flatC_set']
  exact ((h.stored (j * 2) _).1.stored (j * 2 + 1) _).1
theorem own_cellL {W : World} {B n cap g : Nat} {xs : List IC} (h : W.ownsRow B 30 2 (.slice (some ⟨g, 0, none⟩) n cap) n (flatC xs)) {j : Nat} {z : IC} (hz : xs[j]? = some z) :
    W.cell? ⟨g, j * 2, none⟩ = some (.int .i64 z.1) ∧ W.cell? ⟨g, j * 2 + 1, none⟩ = some (.int .i64 z.2) := by
  obtain ⟨e0, e1⟩ := flatC_at xs j z hz
  have h0 := h.cells (g := g) rfl _ _ e0
  have h1 := h.cells (g := g) rfl _ _ e1
  rw [addr_add, Nat.zero_add] at h0 h1
  exact ⟨h0, h1⟩
theorem row_of_cellsL {W : World} {g : Nat} {xs : List IC} (h : ∀ j z, xs[j]? = some z → W.cell? ⟨g, j * 2, none⟩ = some (.int .i64 z.1) ∧ W.cell? ⟨g, j * 2 + 1, none⟩ = some (.int .i64 z.2)) : RowC W (some ⟨g, 0, none⟩) xs := by
  refine .inr ⟨g, 0, rfl, fun i z hz => ?_⟩
  obtain ⟨a, b⟩ := h i z hz
  simp only [Nat.zero_add]
  exact ⟨a, b⟩
theorem neL {z p : IC} (h : z ≠ p) : (z.1 == p.1) = false ∨ ((z.1 == p.1) = true ∧ (z.2 == p.2) = false) := by
  obtain ⟨a, b⟩ := z
  obtain ⟨c, d⟩ := p
  simp only [ne_eq, Prod.mk.injEq, beq_iff_eq, beq_eq_false_iff_ne] at h ⊢
  omega

theorem bel_drnL {B : Nat} {w W : World} (h : Below B w W) (n : Nat) : Below B w (W.drewN n) := ⟨h.os, h.tape, h.output, h.size, h.block⟩
set_option maxRecDepth 100000 in
set_option maxHeartbeats 4000000 in
theorem compactL_own (B g cap : Nat) (zs : List IC) (w : World) (hl : zs.length ≤ 1048576) (h : w.ownsRow B 30 2 (.slice (some ⟨g, 0, none⟩) zs.length cap) zs.length (flatC zs)) :
    Calls Tryd.prog 72 #[.slice (some ⟨g, 0, none⟩) zs.length cap] w fun e w' => e = .returned (.slice (some ⟨g, 0, none⟩) (comL zs).length cap) ∧ (comL zs).length ≤ cap ∧ RowC w' (some ⟨g, 0, none⟩) (comL zs) ∧ Below B w w' := by
  have hgB := (h.lt g rfl).1
  have hcap : zs.length ≤ cap := own_capR h
  by_cases h2 : zs.length < 2
  · have e := comL_small h2
    rw [e]
    have hrow := row_of_cellsL (fun j z hz => own_cellL h hz)
    have hlt : (zs.length : Int) < 2 := by omega
    have HH := Lib.hid hrow
    clear h hrow h2 e
    go_enter Tryd.func72, Tryd.ntmps72
    go_wp2
    go_ret
    exact ⟨rfl, hcap, HH.out, Below.refl _ _⟩
  · have hlt : ¬ (zs.length : Int) < 2 := by omega
    obtain ⟨n, hn⟩ : ∃ n, zs.length = n := ⟨_, rfl⟩
    rw [hn] at h hlt hcap hl ⊢
    have HN := Lib.hid hn
    have H := Lib.hid h
    obtain ⟨Z, hZ⟩ : ∃ Z : Nat → IC, ∀ (j : Nat) (hj : j < zs.length), zs[j] = Z j := ⟨fun j => zs.getD j default, fun j hj => by simp [List.getD_eq_getElem?_getD, List.getElem?_eq_getElem hj]⟩
    have HAT := Lib.hid (show ∀ j, j < n → zs[j]? = some (Z j) from fun j hj => by rw [List.getElem?_eq_getElem (by omega), hZ])
    have HKB := Lib.hid (show ∀ j, j + 1 < n → keepB zs (j + 1) = decide (Z (j + 1) ≠ Z j) from fun j hj => by rw [keepB_succ (by omega), hZ, hZ])
    have HKP := Lib.hid (show ∀ m, m < n → keepB zs m = true → comD zs (m + 1) = (comD zs m).set (comTo zs m).length (Z m) ∧ (comTo zs (m + 1)).length = (comTo zs m).length + 1 from fun m hm hk => by have := comD_keep (zs := zs) (m := m) (by omega) hk; rw [hZ] at this; exact this)
    have HSK := Lib.hid (show ∀ m, m < n → keepB zs m = false → comD zs (m + 1) = comD zs m ∧ (comTo zs (m + 1)).length = (comTo zs m).length from fun m hm hk => comD_skip (by omega) hk)
    have HST := Lib.hid (show ∀ m, m < n → (∀ j, j < m → keepB zs j = true) → keepB zs m = false → comD zs (m + 1) = zs ∧ (comTo zs (m + 1)).length = m from fun m hm hk hn2 => comD_start (by omega) hk hn2)
    have HALL := Lib.hid (show (∀ j, j < n → keepB zs j = true) → comL zs = zs from fun hk => by unfold comL; rw [hn, comTo_take (by omega) hk, ← hn, List.take_length])
    clear hZ
    have HCL := Lib.hid (show comL zs = comTo zs n by unfold comL; rw [hn])
    clear h hn
    go_enter Tryd.func72, Tryd.ntmps72
    go_wp2_with fail
    go_loopw [3] (fun iv wr => ∃ i : Nat, i + 1 ≤ n ∧ iv = .int .i64 ((i : Int) + 1) ∧ (∀ j, j < i + 1 → keepB zs j = true) ∧ Below B w wr ∧ wr.ownsRow B 30 2 (.slice (some ⟨g, 0, none⟩) n cap) n (flatC zs)) (fun iv _ => n - (intOf iv).toNat)
    case atStart => exact ⟨0, by omega, rfl, fun j hj => by (obtain rfl : j = 0 := by omega); exact keepB_zero zs, Below.refl _ _, H.out⟩
    case round =>
      obtain ⟨i, hi, rfl, hkb, hA, hown⟩ := hrel
      have hi0 : (0 : Int) ≤ (i : Int) := by omega
      by_cases hlt : i + 1 < n
      case neg =>
        have hge : ¬ ((i : Int) + 1 < (n : Int)) := by omega
        have hall := HALL.out (fun j hj => hkb j (by omega))
        have HE := Lib.hid hall
        have hrow := row_of_cellsL (fun j z hz => own_cellL hown hz)
        have HR := Lib.hid hrow
        have hzl := HN.out
        clear hrow hown hkb hall
        go_wp2
        go_ret
        exact ⟨by rw [HE.out, hzl]; rfl, by rw [HE.out]; omega, by rw [HE.out]; exact HR.out, hA⟩
      case pos =>
        have hlt2 : (i : Int) + 1 < (n : Int) := by omega
        have hlt3 : (i : Int) < (n : Int) := by omega
        have HK1 := Lib.hid hkb
        have hkn := HKB.out i hlt
        obtain ⟨q0, q1⟩ := own_cellL hown (HAT.out (i + 1) hlt)
        obtain ⟨r0, r1⟩ := own_cellL hown (HAT.out i (by omega))
        have HO := Lib.hid hown
        obtain ⟨x, hx⟩ : ∃ x, Z (i + 1) = x := ⟨_, rfl⟩
        obtain ⟨y, hy⟩ : ∃ y, Z i = y := ⟨_, rfl⟩
        rw [hx] at hkn q0 q1
        rw [hy] at hkn r0 r1
        clear hkb hown hx hy
        have zq := blk_lt q0
        by_cases hxy : x = y
        · subst hxy
          have hk2 : keepB zs (i + 1) = false := by rw [hkn]; simp
          have HST2 := Lib.hid (HST.out (i + 1) hlt HK1.out hk2)
          have n0 : (x.1 == x.1) = true := beq_self_eq_true _
          have n1 : (x.2 == x.2) = true := beq_self_eq_true _
          clear hkn hk2
          go_upto_region 6 with fail
          go_quiet (fail)
          obtain ⟨W2, hW2⟩ : ∃ W2, wr.drewN nq = W2 := ⟨_, rfl⟩
          have hA2 : Below B w W2 := by rw [← hW2]; exact bel_drnL hA _
          have hown2 : W2.ownsRow B 30 2 (.slice (some ⟨g, 0, none⟩) n cap) n (flatC zs) := by rw [← hW2]; exact own_later HO.out (bl_drn _ _)
          rw [hW2]
          clear hW2 hA q0 q1 r0 r1 zq HO
          have HO2 := Lib.hid hown2
          have HA2 := Lib.hid hA2
          clear hown2 hA2
          have hic : (i : Int) + 1 ≤ (n : Int) := by omega
          have hic2 : (i : Int) + 1 ≤ (cap : Int) := by omega
          go_wp2_with fail
          go_loopw [3, 5] (fun s3 s5 wr => ∃ t : Nat, i + t + 2 ≤ n ∧ s3 = .int .i64 ((comTo zs (i + t + 2)).length : Nat) ∧ s5 = .int .i64 ((t : Int) + 1) ∧ (comTo zs (i + t + 2)).length < i + t + 2 ∧ Below B w wr ∧ wr.ownsRow B 30 2 (.slice (some ⟨g, 0, none⟩) n cap) n (flatC (comD zs (i + t + 2)))) (fun _ s5 _ => n - (intOf s5).toNat)
          case atStart =>
            obtain ⟨e1, e2⟩ := HST2.out
            exact ⟨0, by omega, by rw [show i + 0 + 2 = i + 1 + 1 by omega, e2]; rfl, rfl, by rw [show i + 0 + 2 = i + 1 + 1 by omega, e2]; omega, HA2.out, by rw [show i + 0 + 2 = i + 1 + 1 by omega, e1]; exact HO2.out⟩
          case round =>
            obtain ⟨t, ht, rfl, rfl, hkt, hA, hown⟩ := hrel
            have ht0 : (0 : Int) ≤ (t : Int) := by omega
            obtain ⟨kk, hkk⟩ : ∃ kk, (comTo zs (i + t + 2)).length = kk := ⟨_, rfl⟩
            rw [hkk] at hkt ⊢
            have hkk0 : (0 : Int) ≤ (kk : Int) := by omega
            have HKK := Lib.hid hkk
            by_cases hlm : i + t + 2 < n
            case pos =>
              have hlm2 : (t : Int) + 1 < ((n - (i + 1) : Nat) : Int) := by omega
              have hlm3 : (t : Int) < ((n - (i + 1) : Nat) : Int) := by omega
              have hkn : (kk : Int) < (n : Int) := by omega
              have hkb2 := HKB.out (i + t + 1) hlm
              obtain ⟨q0, q1⟩ := own_cellL hown ((comD_at (j := i + t + 2) (by omega)).trans (HAT.out _ (by omega)))
              obtain ⟨r0, r1⟩ := own_cellL hown ((comD_at (j := i + t + 1) (by omega)).trans (HAT.out _ (by omega)))
              obtain ⟨d0, d1⟩ := own_cellL hown ((comD_at (j := kk) (by omega)).trans (HAT.out _ (by omega)))
              have HKP2 := Lib.hid (HKP.out (i + t + 2) hlm)
              have HSK2 := Lib.hid (HSK.out (i + t + 2) hlm)
              have HO := Lib.hid hown
              have hfr : ∀ j, wr.frozen? ⟨g, j, none⟩ = false := hown.frozenAt
              have u0 := hfr (kk * 2)
              have u1 := hfr (kk * 2 + 1)
              obtain ⟨x2, hx2⟩ : ∃ x2, Z (i + t + 2) = x2 := ⟨_, rfl⟩
              obtain ⟨y2, hy2⟩ : ∃ y2, Z (i + t + 1) = y2 := ⟨_, rfl⟩
              obtain ⟨o2, ho2⟩ : ∃ o2, Z kk = o2 := ⟨_, rfl⟩
              rw [show i + t + 1 + 1 = i + t + 2 by omega, hx2, hy2] at hkb2
              rw [hx2] at HKP2 q0 q1
              rw [hy2] at r0 r1
              rw [ho2] at d0 d1
              rw [show (i + t + 2) * 2 = (i + 1) * 2 + (t + 1) * 2 by omega] at q0 q1
              rw [show (i + t + 1) * 2 = (i + 1) * 2 + t * 2 by omega] at r0 r1
              clear hown hx2 hy2 ho2 hkk hfr
              have zq := blk_lt q0
              by_cases hxy2 : x2 = y2
              · subst hxy2
                have hk3 : keepB zs (i + t + 2) = false := by rw [hkb2]; simp
                obtain ⟨e1, e2⟩ := HSK2.out hk3
                have HE1 := Lib.hid e1
                have HE2 := Lib.hid e2
                have n0 : (x2.1 == x2.1) = true := beq_self_eq_true _
                have n1 : (x2.2 == x2.2) = true := beq_self_eq_true _
                clear hkb2 hk3 e1 e2
                go_upto_region 11 with fail
                go_quiet (fail)
                go_wp2
                go_roundw
                case rel => exact ⟨t + 1, by omega, by rw [show i + (t + 1) + 2 = i + t + 2 + 1 by omega, HE2.out, HKK.out], by go_num, by rw [show i + (t + 1) + 2 = i + t + 2 + 1 by omega, HE2.out, HKK.out]; omega, bel_drnL hA _, by rw [show i + (t + 1) + 2 = i + t + 2 + 1 by omega, HE1.out]; exact own_later HO.out (bl_drn _ _)⟩
                case measure => simp [intOf]; omega
              · have hk3 : keepB zs (i + t + 2) = true := by rw [hkb2]; simp [hxy2]
                obtain ⟨e1, e2⟩ := HKP2.out hk3
                rw [HKK.out] at e1 e2
                have HE1 := Lib.hid e1
                have HE2 := Lib.hid e2
                clear hkb2 hk3 e1 e2
                rcases neL hxy2 with n0 | ⟨n0, n1⟩
                all_goals
                  clear hxy2
                  go_upto_region 11 with fail
                  go_quiet (fail)
                  obtain ⟨W3, hW3⟩ : ∃ W3, wr.drewN nq = W3 := ⟨_, rfl⟩
                  have hb3 : Below wr.heap.size wr W3 := by rw [← hW3]; exact bl_drn _ _
                  have hA3 : Below B w W3 := by rw [← hW3]; exact bel_drnL hA _
                  have hown3 := own_later HO.out hb3
                  replace q0 := cell_later hb3 q0; replace q1 := cell_later hb3 q1; replace d0 := cell_later hb3 d0; replace d1 := cell_later hb3 d1
                  have hfr : ∀ j, W3.frozen? ⟨g, j, none⟩ = false := hown3.frozenAt
                  replace u0 := hfr (kk * 2)
                  replace u1 := hfr (kk * 2 + 1)
                  rw [hW3]
                  have HO4 := Lib.hid (own_setL hown3 kk x2)
                  have HA4 := Lib.hid (show Below B w (((W3).setCell ⟨g, kk * 2, none⟩ (.int .i64 x2.1)).setCell ⟨g, kk * 2 + 1, none⟩ (.int .i64 x2.2)) from ((hA3.setCell (p := ⟨g, kk * 2, none⟩) hgB _).setCell (p := ⟨g, kk * 2 + 1, none⟩) hgB _))
                  clear hW3 hb3 hA3 hown3 hfr zq
                  have zq := blk_lt q0
                  go_wp2
                  go_roundw
                  case rel => exact ⟨t + 1, by omega, by rw [show i + (t + 1) + 2 = i + t + 2 + 1 by omega, HE2.out]; rfl, by go_num, by rw [show i + (t + 1) + 2 = i + t + 2 + 1 by omega, HE2.out]; omega, HA4.out, by rw [show i + (t + 1) + 2 = i + t + 2 + 1 by omega, HE1.out]; exact HO4.out⟩
                  case measure => simp [intOf]; omega
            case neg =>
              have hmn : i + t + 2 = n := by omega
              have hge : ¬ ((t : Int) + 1 < ((n - (i + 1) : Nat) : Int)) := by omega
              rw [hmn] at hown hkk hkt
              have hkn : (kk : Int) ≤ (n : Int) := by omega
              have hkc : (kk : Int) ≤ (cap : Int) := by omega
              have hlen : (comL zs).length = kk := by rw [HCL.out]; exact hkk
              have hdl : (flatC (comD zs n)).length = n * 2 := hown.1
              have hce : ∀ j, j < (n - kk) * 2 → (wr.cell? ⟨g, kk * 2 + j, none⟩).isSome = true := fun j hj => by
                have hj2 : kk * 2 + j < n * 2 := by rw [Nat.sub_mul] at hj; omega
                have := hown.cells (g := g) rfl (kk * 2 + j) _ (List.getElem?_eq_getElem (by rw [hdl]; exact hj2))
                rw [addr_add, Nat.zero_add] at this
                rw [this]; rfl
              have hcl : ∀ ty, (Builtin.clear_ #[44] ty #[.slice (some ⟨g, kk * 2, none⟩) (n - kk) (cap - kk)]).run Tryd.prog wr = .ok (.tuple #[]) (wr.setCells g (kk * 2) (Builtin.zeroCells #[.int .i64 0, .int .i64 0] (n - kk)).toList) :=
                fun ty => run_clear_k wr 44 30 ty _ 2 Tryd.underlying44 Tryd.zeroValue30 rfl (by decide) (by intro v hv; simp [Value.cells] at hv; rcases hv with rfl <;> rfl) g (kk * 2) (n - kk) (cap - kk) (by omega) hce (fun j _ => hown.frozenAt _)
              have hrow : RowC (wr.setCells g (kk * 2) (Builtin.zeroCells #[.int .i64 0, .int .i64 0] (n - kk)).toList) (some ⟨g, 0, none⟩) (comL zs) := by
                refine row_of_cellsL (fun j z hz => ?_)
                have hj : j < kk := by
                  rw [← hlen]
                  exact (List.getElem?_eq_some_iff.1 hz).1
                have hz2 : (comD zs n)[j]? = some z := by
                  unfold comD
                  rw [← HCL.out, List.getElem?_append_left (by rw [hlen]; exact hj)]
                  exact hz
                obtain ⟨q0, q1⟩ := own_cellL hown hz2
                refine ⟨?_, ?_⟩
                all_goals (rw [World.cell?_setCells_out g _ _ _ _ (fun _ _ => .inl (by simp only; omega))]; assumption)
              have hB : Below B w (wr.setCells g (kk * 2) (Builtin.zeroCells #[.int .i64 0, .int .i64 0] (n - kk)).toList) := hA.trans (Lib.below_setCells_w hgB _ _ _)
              have HR := Lib.hid hrow
              have HB := Lib.hid hB
              have HLEN := Lib.hid hlen
              clear hrow hB hlen hce hdl hown hkk HKK
              go_wp2
              go_ret
              exact ⟨by rw [HLEN.out]; rfl, by rw [HLEN.out]; omega, HR.out, HB.out⟩
        · have hk2 : keepB zs (i + 1) = true := by rw [hkn]; simp [hxy]
          have hkk : ∀ j, j < i + 1 + 1 → keepB zs j = true := fun j hj => by
            by_cases e : j = i + 1
            · rw [e]; exact hk2
            · exact HK1.out j (by omega)
          have HK2 := Lib.hid hkk
          clear hkk hk2 hkn
          rcases neL hxy with n0 | ⟨n0, n1⟩
          all_goals
            clear hxy
            go_upto_region 6 with fail
            go_quiet (fail)
            go_wp2
            go_roundw
            case rel => exact ⟨i + 1, by omega, by go_num, HK2.out, bel_drnL hA _, own_later HO.out (bl_drn _ _)⟩
            case measure => simp [intOf]; omega

end Go.Proofs.YtbdfjdipjacamaaDoor

/- Gates: Cells, whatever the arguments. -/
namespace Go.Proofs.YtbdfjdipjacamaaDoor
open Go.RowKit Go.Sort

set_option maxHeartbeats 2000000 in
theorem ins_nilC (fv : Value) (w : World) :
    Calls Tryd.prog 143 #[.slice none 0 0, .int .i64 0, .int .i64 0, fv] w fun e w' => e = .returned (.tuple #[]) ∧ w' = w := by
  go_enter Tryd.func143, Tryd.ntmps143
  go_wp2
  refine wp_loop_rounds 1 ?_
  rw [rounds_succ]
  go_wp2
  go_end0
  exact ⟨rfl, rfl⟩
set_option maxHeartbeats 2000000 in
theorem pdq_nilC (lim : Int) (fv : Value) (w : World) :
    Calls Tryd.prog 114 #[.slice none 0 0, .int .i64 0, .int .i64 0, .int .i64 lim, fv] w fun e w' => e = .returned (.tuple #[]) ∧ w' = w := by
  go_enter Tryd.func114, Tryd.ntmps114
  go_wp2
  refine wp_loop_rounds 1 ?_
  rw [rounds_succ]
  go_wp2_with (go_at_call 143; refine (ins_nilC _ _).mono ?_; rintro e w' ⟨rfl, rfl⟩)
  (try simp only [Exit.inBlock, Exit.then]); refine bodyPost_ret (results_none rfl _ _ _) rfl ?_
  exact ⟨rfl, rfl⟩
set_option maxHeartbeats 2000000 in
theorem sort_nilC (fv : Value) (w : World) :
    Calls Tryd.prog 70 #[.slice none 0 0, fv] w fun e w' => e = .returned (.tuple #[]) ∧ w' = w := by
  have hl := Tryd.bits_Len 0 w (by omega) (by omega)
  go_enter Tryd.func70, Tryd.ntmps70
  go_wp2_with (first | (go_at_call 107; refine hl.mono ?_; rintro e w' ⟨rfl, rfl⟩) | (go_at_call 114; refine (pdq_nilC _ _ _).mono ?_; rintro e w' ⟨rfl, rfl⟩))
  go_end0
  exact ⟨rfl, rfl⟩
set_option maxHeartbeats 2000000 in
theorem compact_nilC (w : World) :
    Calls Tryd.prog 72 #[.slice none 0 0] w fun e w' => e = .returned (.slice none 0 0) ∧ w' = w := by
  go_enter Tryd.func72, Tryd.ntmps72
  go_wp2
  go_ret
  exact ⟨rfl, rfl⟩

@[go_sem] theorem run_index_c0 (a b c d : Int) (w : World) : (Instr.index 117 (.agg #[.int .i64 a, .int .i64 b, .int .i64 c, .int .i64 d]) (.int .i64 0)).run Tryd.prog w = .ok (.agg #[.int .i64 a, .int .i64 b]) w := by
  simp [Instr.index, asIntOf, run_underlying Tryd.underlying117, Tryd.sizeOf30, part, Tryd.isAgg30]
@[go_sem] theorem run_index_c1 (a b c d : Int) (w : World) : (Instr.index 117 (.agg #[.int .i64 a, .int .i64 b, .int .i64 c, .int .i64 d]) (.int .i64 1)).run Tryd.prog w = .ok (.agg #[.int .i64 c, .int .i64 d]) w := by
  simp [Instr.index, asIntOf, run_underlying Tryd.underlying117, Tryd.sizeOf30, part, Tryd.isAgg30]
theorem cell_twoG (w : World) (a b : Value) (t : TypeId) : ∀ j u, [a, b][j]? = some u → (w.alloc (.cells #[a, b] t)).cell? ((⟨w.heap.size, 0, none⟩ : Addr).add j) = some u := by
  intro j u h
  match j with
  | 0 => simp at h; subst h; simp [go_sem]
  | 1 => simp at h; subst h; simp [go_sem, Addr.add]
  | j + 2 => simp at h
def inK (W H S id : Int) (c : IC) : Bool := decide (ofX W H S c = 0 ∧ ofV W H S c = id)
def twoC (g : IC × IC) : List IC := [g.1, g.2]
/-- The cells in a cluster that are found of the first k gates, and of the first j cells of the next one. -/
def clT (W H S id : Int) (zs : List (IC × IC)) (k : Nat) : List IC := ((zs.take k).flatMap twoC).filter (inK W H S id)
theorem clT_succ {W H S id : Int} {zs : List (IC × IC)} {k : Nat} (h : k < zs.length) : clT W H S id zs (k + 1) = clT W H S id zs k ++ (twoC zs[k]).filter (inK W H S id) := by
  unfold clT
  rw [List.take_add_one, List.getElem?_eq_getElem h, List.flatMap_append, List.filter_append]
  simp
theorem clT_le (W H S id : Int) (zs : List (IC × IC)) (k : Nat) : (clT W H S id zs k).length ≤ 2 * k := by
  have h1 := flat_le twoC 2 (fun x => Nat.le_refl _) (zs.take k)
  have h2 : (zs.take k).length ≤ k := by rw [List.length_take]; omega
  have h3 : (clT W H S id zs k).length ≤ _ := List.length_filter_le _ _
  omega
def clL (W H S id : Int) (zs : List (IC × IC)) : List IC := if plcX W H S id = 0 then comL (sortL (ltOf byI) (clT W H S id zs zs.length)) else []
def CelG (x : Int) (L : List IC) (w : World) (e : Ending) (w' : World) : Prop := ∃ a cap, e = .returned (.tuple #[.slice a L.length cap, .int .i64 x]) ∧ L.length ≤ cap ∧ RowC w' a L ∧ Below w.heap.size w w'
set_option maxRecDepth 100000 in
set_option maxHeartbeats 8000000 in
theorem cells_any (W H S id : Int) (a : Option Addr) (cap : Nat) (zs : List (IC × IC)) (w : World) (hr : RowPP w a zs) (hzl : zs.length ≤ 65536) :
    Calls Tryd.prog 28 #[.agg #[.int .i64 W, .int .i64 H, .int .i64 S], .slice a zs.length cap, .int .i64 id] w (CelG (plcX W H S id) (clL W H S id zs) w) := by
  obtain ⟨i0, hi, hz0, hz1, hz2⟩ := info_parts Tryd.infoCell
  have hA := bl0 w
  have H1 := Lib.hid (fun w => tbox_p W H S id w)
  obtain ⟨L, hL⟩ : ∃ L, clL W H S id zs = L := ⟨_, rfl⟩
  rw [hL]
  unfold clL at hL
  generalize boxV W H S id (bxX S (plcP W S id)) = v0 at *
  generalize boxV W H S id (bxY S (plcP W S id)) = v1 at *
  generalize boxV W H S id (bxW W S (plcP W S id)) = v2 at *
  generalize boxV W H S id (bxH H S (plcP W S id)) = v3 at *
  by_cases h0 : plcX W H S id = 0
  case neg =>
    rw [if_neg h0] at hL
    subst hL
    obtain ⟨x, hx⟩ : ∃ x, plcX W H S id = x := ⟨_, rfl⟩
    rw [hx] at H1 h0 ⊢
    have hx1 : (x != 0) = true := by rw [bne_iff_ne]; exact h0
    clear h0 hx hr
    go_enter Tryd.func28, Tryd.ntmps28
    go_wp2_with fail
    refine (H1.out _).mono ?_
    rintro e w1 ⟨rfl, hb⟩
    have hk : Below w.heap.size w w1 := by first | exact hb | exact bl_tr (bl_al (bl0 _) _) hb | exact bl_tr (bl_dr (bl_al (bl0 _) _)) hb | exact bl_tr (bl_al (bl_al (bl0 _) _) _) hb | exact bl_tr (bl_dr (bl_al (bl_al (bl0 _) _) _)) hb | exact bl_tr (bl_al (bl_al (bl_al (bl0 _) _) _) _) hb | exact bl_tr (bl_dr (bl_al (bl_al (bl_al (bl0 _) _) _) _)) hb | exact bl_tr (bl_al (bl_al (bl_al (bl_al (bl0 _) _) _) _) _) hb | exact bl_tr (bl_dr (bl_al (bl_al (bl_al (bl_al (bl0 _) _) _) _) _)) hb | exact bl_tr (bl_al (bl_al (bl_al (bl_al (bl_al (bl0 _) _) _) _) _) _) hb | exact bl_tr (bl_dr (bl_al (bl_al (bl_al (bl_al (bl_al (bl0 _) _) _) _) _) _)) hb | exact bl_tr (bl_al (bl_al (bl_al (bl_al (bl_al (bl_al (bl0 _) _) _) _) _) _) _) hb | exact bl_tr (bl_dr (bl_al (bl_al (bl_al (bl_al (bl_al (bl_al (bl0 _) _) _) _) _) _) _)) hb | exact bl_tr (bl_dr (bl0 _)) hb
    replace hA := bl_tr hA hk
    clear hb hk
    go_wp2
    go_ret2
    exact ⟨none, 0, rfl, Nat.le_refl _, .inl rfl, bl_al hA _⟩
  case pos =>
  rw [if_pos h0] at hL
  rw [h0] at H1 ⊢
  have H2 := Lib.hid (fun c w => of_p W H S c w)
  have HF := Lib.hid (fun (k : Nat) (h : k < zs.length) => clT_succ (W := W) (H := H) (S := S) (id := id) h)
  have HFL := Lib.hid (fun k => clT_le W H S id zs k)
  have hfz : clT W H S id zs 0 = [] := by simp [clT]
  have hik0 : ∀ c, inK W H S id c = decide (ofX W H S c = 0 ∧ ofV W H S c = id) := fun _ => rfl
  have HIK := Lib.hid hik0
  clear hik0
  have HON := Lib.hid (sortL_nil swo_byI)
  obtain ⟨F, hF⟩ : ∃ F, clT W H S id zs = F := ⟨_, rfl⟩
  obtain ⟨P, hP⟩ : ∃ P, inK W H S id = P := ⟨_, rfl⟩
  rw [hF] at HF HFL hfz hL
  rw [hP] at HF HIK
  have HLL := Lib.hid hL
  clear hF hP h0 hL
  go_enter Tryd.func28, Tryd.ntmps28
  go_wp2_with fail
  refine (H1.out _).mono ?_
  rintro e w1 ⟨rfl, hb⟩
  have hk : Below w.heap.size w w1 := by first | exact hb | exact bl_tr (bl_al (bl0 _) _) hb | exact bl_tr (bl_dr (bl_al (bl0 _) _)) hb | exact bl_tr (bl_al (bl_al (bl0 _) _) _) hb | exact bl_tr (bl_dr (bl_al (bl_al (bl0 _) _) _)) hb | exact bl_tr (bl_al (bl_al (bl_al (bl0 _) _) _) _) hb | exact bl_tr (bl_dr (bl_al (bl_al (bl_al (bl0 _) _) _) _)) hb | exact bl_tr (bl_al (bl_al (bl_al (bl_al (bl0 _) _) _) _) _) hb | exact bl_tr (bl_dr (bl_al (bl_al (bl_al (bl_al (bl0 _) _) _) _) _)) hb | exact bl_tr (bl_al (bl_al (bl_al (bl_al (bl_al (bl0 _) _) _) _) _) _) hb | exact bl_tr (bl_dr (bl_al (bl_al (bl_al (bl_al (bl_al (bl0 _) _) _) _) _) _)) hb | exact bl_tr (bl_al (bl_al (bl_al (bl_al (bl_al (bl_al (bl0 _) _) _) _) _) _) _) hb | exact bl_tr (bl_dr (bl_al (bl_al (bl_al (bl_al (bl_al (bl_al (bl0 _) _) _) _) _) _) _)) hb | exact bl_tr (bl_dr (bl0 _)) hb
  replace hA := bl_tr hA hk
  have p0 := cell_later hb (v := .int .i64 W) (a := ⟨w.heap.size, 0, none⟩) (by simp [go_sem])
  have p1 := cell_later hb (v := .int .i64 H) (a := ⟨w.heap.size, 1, none⟩) (by simp [go_sem])
  have p2 := cell_later hb (v := .int .i64 S) (a := ⟨w.heap.size, 2, none⟩) (by simp [go_sem])
  clear hb hk
  have zp0 := blk_lt p0
  have zp1 := blk_lt p1
  have zp2 := blk_lt p2
  have HA := Lib.hid hA
  have HR := Lib.hid (hr.below hA)
  have P0 := Lib.hid p0; have P1 := Lib.hid p1; have P2 := Lib.hid p2
  have HW1 := Lib.hid zp0
  go_wp2_with fail
  clear p0 p1 p2 zp0 zp1 zp2 hr hA
  go_loopw [10, 12, 14, 15, 16, 28] (fun fv _ _ _ _ iv wr => ∃ k : Nat, k ≤ zs.length ∧ iv = .int .i64 k ∧ wr.ownsRow w1.heap.size 30 2 fv (F k).length (flatC (F k)) ∧ Below w1.heap.size w1 wr) (fun _ _ _ _ _ iv _ => zs.length - (intOf iv).toNat)
  case atStart => exact ⟨0, Nat.zero_le _, rfl, by rw [hfz]; exact ⟨rfl, .inl ⟨rfl, rfl⟩⟩, bl_al (bl0 _) _⟩
  case round =>
    obtain ⟨k, hk, rfl, hown, hB⟩ := hrel
    have hk0 : (0 : Int) ≤ (k : Int) := by omega
    by_cases hlt : k < zs.length
    · have hlt2 : (k : Int) < (zs.length : Int) := by omega
      have hf := HF.out k hlt
      have hfl := HFL.out k
      obtain ⟨gb, go, rfl, ⟨q0, q1⟩, q2, q3⟩ := (HR.out.below hB).cell hlt
      generalize zs[k] = z at *
      obtain ⟨FF, hFF⟩ : ∃ FF, F k = FF := ⟨_, rfl⟩
      rw [hFF] at hown hf hfl
      have HNX := Lib.hid hf
      have HOW := Lib.hid hown
      have HB := Lib.hid hB
      have hbs := hB.size
      clear hFF hf
      go_wp2_with fail
      clear hown q0 q1 q2 q3
      have HM0 : (fun j => FF ++ ((twoC z).take j).filter P) 0 = FF := by simp
      obtain ⟨M, hM⟩ : ∃ M : Nat → List IC, M = fun j => FF ++ ((twoC z).take j).filter P := ⟨_, rfl⟩
      have hm0 : M 0 = FF := by rw [hM]; simp
      have HM1 := Lib.hid (show M 1 = M 0 ++ (if P z.1 = true then [z.1] else []) by rw [hM]; cases hq : P z.1 <;> simp [twoC, hq])
      have HM2 := Lib.hid (show M 2 = M 1 ++ (if P z.2 = true then [z.2] else []) by rw [hM]; cases hq : P z.1 <;> cases hq2 : P z.2 <;> simp [twoC, hq, hq2])
      have HM3 := Lib.hid (show F (k + 1) = M 2 by rw [HNX.out, hM]; rfl)
      have HML := Lib.hid (show ∀ j, (M j).length ≤ 131076 by
        intro j
        rw [hM]
        have := List.length_filter_le P ((twoC z).take j)
        have h2 : ((twoC z).take j).length ≤ 2 := by rw [List.length_take]; exact Nat.min_le_right _ _
        simp only [List.length_append]
        omega)
      rw [← hm0] at HOW
      clear HM0 hm0 hM
      go_loopw [10, 14, 15, 16, 37] (fun fv _ _ _ jv wx => ∃ j : Nat, j ≤ 2 ∧ jv = .int .i64 j ∧ wx.ownsRow w1.heap.size 30 2 fv (M j).length (flatC (M j)) ∧ Below w1.heap.size w1 wx) (fun _ _ _ _ jv _ => 2 - (intOf jv).toNat)
      case atStart => exact ⟨0, Nat.zero_le _, rfl, own_later HOW.out (bl_al (bl0 _) _), bl_al HB.out _⟩
      case round =>
        obtain ⟨j, hj, rfl, hown, hB⟩ := hrel
        by_cases hj2 : j < 2
        · rcases (show j = 0 ∨ j = 1 by omega) with rfl | rfl
          · have hA := bl_tr HA.out hB
            have p0 := cell_later hB P0.out; have p1 := cell_later hB P1.out; have p2 := cell_later hB P2.out
            have zp0 := blk_lt p0
            have hik := HIK.out z.1
            have H3 := Lib.hid (fun w => H2.out z.1 w)
            obtain ⟨o, ho⟩ : ∃ o, ofV W H S z.1 = o := ⟨_, rfl⟩
            obtain ⟨x, hx⟩ : ∃ x, ofX W H S z.1 = x := ⟨_, rfl⟩
            rw [ho, hx] at H3 hik
            clear ho hx
            have hBB : SnB w1 wr := hB
            have hm := HM1.out
            clear hB
            go_wp2_with fail
            refine (H3.out _).mono ?_
            rintro e w4 ⟨rfl, hb⟩
            have hk : Below wr.heap.size wr w4 := by first | exact hb | exact bl_tr (bl_al (bl0 _) _) hb | exact bl_tr (bl_dr (bl_al (bl0 _) _)) hb | exact bl_tr (bl_al (bl_al (bl0 _) _) _) hb | exact bl_tr (bl_dr (bl_al (bl_al (bl0 _) _) _)) hb | exact bl_tr (bl_al (bl_al (bl_al (bl0 _) _) _) _) hb | exact bl_tr (bl_dr (bl_al (bl_al (bl_al (bl0 _) _) _) _)) hb | exact bl_tr (bl_al (bl_al (bl_al (bl_al (bl0 _) _) _) _) _) hb | exact bl_tr (bl_dr (bl_al (bl_al (bl_al (bl_al (bl0 _) _) _) _) _)) hb | exact bl_tr (bl_al (bl_al (bl_al (bl_al (bl_al (bl0 _) _) _) _) _) _) hb | exact bl_tr (bl_dr (bl_al (bl_al (bl_al (bl_al (bl_al (bl0 _) _) _) _) _) _)) hb | exact bl_tr (bl_al (bl_al (bl_al (bl_al (bl_al (bl_al (bl0 _) _) _) _) _) _) _) hb | exact bl_tr (bl_dr (bl_al (bl_al (bl_al (bl_al (bl_al (bl_al (bl0 _) _) _) _) _) _) _)) hb | exact bl_tr (bl_dr (bl0 _)) hb
            replace hA := bl_tr hA hk
            replace hBB := hBB.below hk
            replace p0 := cell_later hk p0
            replace p1 := cell_later hk p1
            replace p2 := cell_later hk p2
            replace hown := own_later hown hk
            have c0 := cell_later hb (v := .int .i64 z.1.1) (a := ⟨wr.heap.size, 0, none⟩) (by simp [go_sem])
            have c1 := cell_later hb (v := .int .i64 z.1.2) (a := ⟨wr.heap.size, 1, none⟩) (by simp [go_sem])
            clear hb hk
            have zp0 := blk_lt p0
            have zp1 := blk_lt p1
            have zp2 := blk_lt p2
            have zc0 := blk_lt c0
            have zc1 := blk_lt c1
            by_cases hx0 : x = 0
            · subst hx0
              by_cases hid : o = id
              · subst hid
                rw [decide_eq_true ⟨rfl, rfl⟩] at hik
                rw [hik, if_pos rfl] at hm
                have e1 : (o == o) = true := beq_self_eq_true _
                obtain ⟨va, vc, rfl, hcp⟩ := own_shape hown
                have hml := HML.out 0
                have hmh := Lib.hid hm
                have hlen : (M 0).length + 1 = (M 1).length := by rw [hm, List.length_append]; rfl
                have HLEN := Lib.hid hlen
                generalize M 0 = G at *
                obtain ⟨G2, hG2⟩ : ∃ G2, M 1 = G2 := ⟨_, rfl⟩
                have HG2 := Lib.hid hG2
                rw [hG2] at hmh HLEN
                clear hG2
                have hbz := hBB.size
                clear hm hlen hik p0 p1 p2 zp0 hA HLL HON HF HFL HM1
                go_wp2_with (at_builtin; refine wpList_append_own _ rfl _ _ 44 rfl w1.heap.size 30 i0 (.agg #[.int .i64 0, .int .i64 0]) 2 16 Tryd.underlying44 hi hz0 hz1 hz2 rfl (by decide) _ _ _ rfl (hown.alloc _) ⟨w4.heap.size, 0, none⟩ 1 1 [.int .i64 z.1.1, .int .i64 z.1.2] rfl rfl ?c01 ?c02 ?c03 ?c04 ?c05 ?_)
                try case c01 => exact cell_twoG w4 (.int .i64 z.1.1) (.int .i64 z.1.2) 30
                case c02 => (first | exact ⟨rfl, rfl⟩ | (intro u' hu; simp at hu; rcases hu with rfl | rfl <;> rfl))
                case c03 => unfold maxLen; omega
                case c04 => omega
                case c05 => (simp; omega)
                intro v' w6 hown' hgrow _
                have hB6 : Below w1.heap.size w1 w6 := (bl_tr (show Below w1.heap.size w1 w4 from hBB) (bl_al (bl0 _) _)).grown hgrow (by simp; omega) (fun j hj => by have := (hown.lt j hj).1; omega)
                rw [← flatC_snoc, ← hmh.out, HLEN.out] at hown'
                have HO := Lib.hid hown'
                clear hgrow hown hown' hbz
                go_wp2
                go_roundw
                case rel => exact ⟨1, by omega, by go_num, by rw [HG2.out]; exact HO.out, hB6⟩
                case measure => simp [intOf]
              · have e1 : (o == id) = false := by rw [beq_eq_false_iff_ne]; exact hid
                rw [decide_eq_false (fun h => hid h.2)] at hik
                rw [hik, if_neg (by decide), List.append_nil] at hm
                rw [← hm] at hown
                have hB6 : Below w1.heap.size w1 w4 := hBB
                clear hm hik hid hA hBB p0 p1 p2 zp0
                go_wp2
                go_roundw
                case rel => exact ⟨1, by omega, by go_num, hown, hB6⟩
                case measure => simp [intOf]
            · have e1 : (x == 0) = false := by rw [beq_eq_false_iff_ne]; exact hx0
              rw [decide_eq_false (fun h => hx0 h.1)] at hik
              rw [hik, if_neg (by decide), List.append_nil] at hm
              rw [← hm] at hown
              have hB6 : Below w1.heap.size w1 w4 := hBB
              clear hm hik hx0 hA hBB p0 p1 p2 zp0
              go_wp2
              go_roundw
              case rel => exact ⟨1, by omega, by go_num, hown, hB6⟩
              case measure => simp [intOf]
          · have hA := bl_tr HA.out hB
            have p0 := cell_later hB P0.out; have p1 := cell_later hB P1.out; have p2 := cell_later hB P2.out
            have zp0 := blk_lt p0
            have hik := HIK.out z.2
            have H3 := Lib.hid (fun w => H2.out z.2 w)
            obtain ⟨o, ho⟩ : ∃ o, ofV W H S z.2 = o := ⟨_, rfl⟩
            obtain ⟨x, hx⟩ : ∃ x, ofX W H S z.2 = x := ⟨_, rfl⟩
            rw [ho, hx] at H3 hik
            clear ho hx
            have hBB : SnB w1 wr := hB
            have hm := HM2.out
            clear hB
            go_wp2_with fail
            refine (H3.out _).mono ?_
            rintro e w4 ⟨rfl, hb⟩
            have hk : Below wr.heap.size wr w4 := by first | exact hb | exact bl_tr (bl_al (bl0 _) _) hb | exact bl_tr (bl_dr (bl_al (bl0 _) _)) hb | exact bl_tr (bl_al (bl_al (bl0 _) _) _) hb | exact bl_tr (bl_dr (bl_al (bl_al (bl0 _) _) _)) hb | exact bl_tr (bl_al (bl_al (bl_al (bl0 _) _) _) _) hb | exact bl_tr (bl_dr (bl_al (bl_al (bl_al (bl0 _) _) _) _)) hb | exact bl_tr (bl_al (bl_al (bl_al (bl_al (bl0 _) _) _) _) _) hb | exact bl_tr (bl_dr (bl_al (bl_al (bl_al (bl_al (bl0 _) _) _) _) _)) hb | exact bl_tr (bl_al (bl_al (bl_al (bl_al (bl_al (bl0 _) _) _) _) _) _) hb | exact bl_tr (bl_dr (bl_al (bl_al (bl_al (bl_al (bl_al (bl0 _) _) _) _) _) _)) hb | exact bl_tr (bl_al (bl_al (bl_al (bl_al (bl_al (bl_al (bl0 _) _) _) _) _) _) _) hb | exact bl_tr (bl_dr (bl_al (bl_al (bl_al (bl_al (bl_al (bl_al (bl0 _) _) _) _) _) _) _)) hb | exact bl_tr (bl_dr (bl0 _)) hb
            replace hA := bl_tr hA hk
            replace hBB := hBB.below hk
            replace p0 := cell_later hk p0
            replace p1 := cell_later hk p1
            replace p2 := cell_later hk p2
            replace hown := own_later hown hk
            have c0 := cell_later hb (v := .int .i64 z.2.1) (a := ⟨wr.heap.size, 0, none⟩) (by simp [go_sem])
            have c1 := cell_later hb (v := .int .i64 z.2.2) (a := ⟨wr.heap.size, 1, none⟩) (by simp [go_sem])
            clear hb hk
            have zp0 := blk_lt p0
            have zp1 := blk_lt p1
            have zp2 := blk_lt p2
            have zc0 := blk_lt c0
            have zc1 := blk_lt c1
            by_cases hx0 : x = 0
            · subst hx0
              by_cases hid : o = id
              · subst hid
                rw [decide_eq_true ⟨rfl, rfl⟩] at hik
                rw [hik, if_pos rfl] at hm
                have e1 : (o == o) = true := beq_self_eq_true _
                obtain ⟨va, vc, rfl, hcp⟩ := own_shape hown
                have hml := HML.out 1
                have hmh := Lib.hid hm
                have hlen : (M 1).length + 1 = (M 2).length := by rw [hm, List.length_append]; rfl
                have HLEN := Lib.hid hlen
                generalize M 1 = G at *
                obtain ⟨G2, hG2⟩ : ∃ G2, M 2 = G2 := ⟨_, rfl⟩
                have HG2 := Lib.hid hG2
                rw [hG2] at hmh HLEN
                clear hG2
                have hbz := hBB.size
                clear hm hlen hik p0 p1 p2 zp0 hA HLL HON HF HFL HM2
                go_wp2_with (at_builtin; refine wpList_append_own _ rfl _ _ 44 rfl w1.heap.size 30 i0 (.agg #[.int .i64 0, .int .i64 0]) 2 16 Tryd.underlying44 hi hz0 hz1 hz2 rfl (by decide) _ _ _ rfl (hown.alloc _) ⟨w4.heap.size, 0, none⟩ 1 1 [.int .i64 z.2.1, .int .i64 z.2.2] rfl rfl ?c11 ?c12 ?c13 ?c14 ?c15 ?_)
                try case c11 => exact cell_twoG w4 (.int .i64 z.2.1) (.int .i64 z.2.2) 30
                case c12 => (first | exact ⟨rfl, rfl⟩ | (intro u' hu; simp at hu; rcases hu with rfl | rfl <;> rfl))
                case c13 => unfold maxLen; omega
                case c14 => omega
                case c15 => (simp; omega)
                intro v' w6 hown' hgrow _
                have hB6 : Below w1.heap.size w1 w6 := (bl_tr (show Below w1.heap.size w1 w4 from hBB) (bl_al (bl0 _) _)).grown hgrow (by simp; omega) (fun j hj => by have := (hown.lt j hj).1; omega)
                rw [← flatC_snoc, ← hmh.out, HLEN.out] at hown'
                have HO := Lib.hid hown'
                clear hgrow hown hown' hbz
                go_wp2
                go_roundw
                case rel => exact ⟨2, by omega, by go_num, by rw [HG2.out]; exact HO.out, hB6⟩
                case measure => simp [intOf]
              · have e1 : (o == id) = false := by rw [beq_eq_false_iff_ne]; exact hid
                rw [decide_eq_false (fun h => hid h.2)] at hik
                rw [hik, if_neg (by decide), List.append_nil] at hm
                rw [← hm] at hown
                have hB6 : Below w1.heap.size w1 w4 := hBB
                clear hm hik hid hA hBB p0 p1 p2 zp0
                go_wp2
                go_roundw
                case rel => exact ⟨2, by omega, by go_num, hown, hB6⟩
                case measure => simp [intOf]
            · have e1 : (x == 0) = false := by rw [beq_eq_false_iff_ne]; exact hx0
              rw [decide_eq_false (fun h => hx0 h.1)] at hik
              rw [hik, if_neg (by decide), List.append_nil] at hm
              rw [← hm] at hown
              have hB6 : Below w1.heap.size w1 w4 := hBB
              clear hm hik hx0 hA hBB p0 p1 p2 zp0
              go_wp2
              go_roundw
              case rel => exact ⟨2, by omega, by go_num, hown, hB6⟩
              case measure => simp [intOf]
        · obtain rfl : j = 2 := by omega
          rw [← HM3.out] at hown
          go_wp2
          go_roundw
          case rel => exact ⟨k + 1, by omega, by go_num, hown, hB⟩
          case measure => simp [intOf]; omega
    · obtain rfl : k = zs.length := by omega
      have hge : ¬ (zs.length : Int) < (zs.length : Int) := by omega
      have hFl := HFL.out zs.length
      obtain ⟨F0, hF⟩ : ∃ F0, F zs.length = F0 := ⟨_, rfl⟩
      rw [hF] at hown hFl HLL
      have hbw := hB.size
      have HBB := Lib.hid hB
      have hA3 := bl_tr HA.out hB
      have HLE := Lib.hid (sortL_spec swo_byI F0).1
      clear hF hB
      rcases hown.2 with ⟨rfl, h0⟩ | ⟨g, cap', cur, rfl, hg1, hg2, hg3, _⟩
      · have hF0 : F0 = [] := List.eq_nil_of_length_eq_zero h0
        subst hF0
        have hLe : L = [] := by rw [← HLL.out, HON.out]; rfl
        subst hLe
        clear hown h0 hFl HLE
        go_wp2_with fail
        refine (sort_nilC _ _).mono ?_
        rintro e w4 ⟨rfl, hw4⟩
        subst hw4
        go_wp2_with fail
        refine (compact_nilC _).mono ?_
        rintro e w5 ⟨rfl, hw5⟩
        subst hw5
        go_wp2
        go_ret2
        exact ⟨none, 0, rfl, Nat.le_refl _, .inl rfl, hA3⟩
      · have HSRT := Lib.hid (sort_own Tryd.sortC 2 Tryd.isAgg30 Tryd.sizeOf30 encC (fun _ => rfl) (by decide) (fun x v hv => by simp [encC] at hv; rcases hv with rfl | rfl <;> rfl) byI swo_byI 71 #[] enters_row w1.heap.size g cap' 30 F0 wr (by omega) (cmpLays_row g F0.length wr) hown)
        clear hown hg2 hg3
        go_wp2_with fail
        refine HSRT.out.mono ?_
        rintro e w4 ⟨rfl, hown4, hgr⟩
        have hA4 : Below w1.heap.size w1 w4 := (HBB.out).grown hgr hbw (fun k hk => by cases hk; exact hg1)
        obtain ⟨F2, hF2⟩ : ∃ F2, sortL (ltOf byI) F0 = F2 := ⟨_, rfl⟩
        rw [hF2] at hown4 HLL
        have hl2 := HLE.out
        rw [hF2] at hl2
        rw [← hl2] at hown4 ⊢
        have HCM := Lib.hid (compactL_own w1.heap.size g cap' F2 w4 (by omega) hown4)
        rw [HLL.out] at HCM
        clear hown4 hgr hF2 hl2
        go_wp2_with fail
        refine HCM.out.mono ?_
        rintro e w5 ⟨rfl, hcl, hrw, hb5⟩
        have hA5 := bl_tr HA.out (hA4.trans hb5)
        have HRW := Lib.hid hrw
        clear hrw hb5 hA4 hA3
        go_wp2
        go_ret2
        exact ⟨_, cap', rfl, hcl, HRW.out, hA5⟩
end Go.Proofs.YtbdfjdipjacamaaDoor

/- Gates: the cells of gates in a box, row by row. -/
namespace Go.Proofs.YtbdfjdipjacamaaDoor
open Go.RowKit Go.Sort

def hasG (zs : List (IC × IC)) (c : IC) : Bool := zs.any fun g => decide (g.1 = c) || decide (g.2 = c)
def rowT (P : IC → Bool) (X y : Int) (n : Nat) : List IC := ((List.range n).map fun (i : Nat) => ((X + i, y) : IC)).filter P
def boxT (P : IC → Bool) (X Y : Int) (n m : Nat) : List IC := (List.range m).flatMap fun (j : Nat) => rowT P X (Y + j) n
theorem rowT_succ (P : IC → Bool) (X y : Int) (n : Nat) : rowT P X y (n + 1) = rowT P X y n ++ if P (X + n, y) = true then [(X + (n : Int), y)] else [] := by
  unfold rowT
  rw [List.range_succ, List.map_append, List.filter_append]
  congr 1
  cases h : P (X + n, y) <;> simp [h]
theorem boxT_succ (P : IC → Bool) (X Y : Int) (n m : Nat) : boxT P X Y n (m + 1) = boxT P X Y n m ++ rowT P X (Y + m) n := by
  unfold boxT
  rw [List.range_succ, List.flatMap_append]
  simp
theorem rowT_mem {P : IC → Bool} {X y : Int} {n : Nat} {c : IC} : c ∈ rowT P X y n ↔ P c = true ∧ c.2 = y ∧ X ≤ c.1 ∧ c.1 < X + n := by
  unfold rowT
  rw [List.mem_filter, List.mem_map]
  constructor
  · rintro ⟨⟨i, hi, rfl⟩, h⟩
    rw [List.mem_range] at hi
    exact ⟨h, rfl, by show X ≤ X + (i : Int); omega, by show X + (i : Int) < _; omega⟩
  · rintro ⟨h, rfl, h1, h2⟩
    refine ⟨⟨(c.1 - X).toNat, by rw [List.mem_range]; omega, ?_⟩, h⟩
    rw [Prod.ext_iff]
    exact ⟨by show X + ((c.1 - X).toNat : Int) = c.1; omega, rfl⟩
theorem boxT_mem {P : IC → Bool} {X Y : Int} {n m : Nat} {c : IC} : c ∈ boxT P X Y n m ↔ P c = true ∧ (X ≤ c.1 ∧ c.1 < X + n ∧ Y ≤ c.2 ∧ c.2 < Y + m) := by
  unfold boxT
  rw [List.mem_flatMap]
  constructor
  · rintro ⟨j, hj, h⟩
    rw [List.mem_range] at hj
    rw [rowT_mem] at h
    obtain ⟨h1, h2, h3, h4⟩ := h
    exact ⟨h1, h3, h4, by omega, by omega⟩
  · rintro ⟨h1, h2, h3, h4, h5⟩
    refine ⟨(c.2 - Y).toNat, by rw [List.mem_range]; omega, ?_⟩
    rw [rowT_mem]
    exact ⟨h1, by omega, h2, h3⟩
theorem rowT_rise (P : IC → Bool) (X y : Int) : ∀ n : Nat, (rowT P X y n).Pairwise ltC
  | 0 => by simp [rowT]
  | n + 1 => by
    rw [rowT_succ, List.pairwise_append]
    refine ⟨rowT_rise P X y n, by split <;> simp, fun a ha b hb => ?_⟩
    rw [rowT_mem] at ha
    split at hb
    · rw [List.mem_singleton] at hb
      subst hb
      exact .inr ⟨ha.2.1, ha.2.2.2⟩
    · cases hb
theorem boxT_rise (P : IC → Bool) (X Y : Int) (n : Nat) : ∀ m : Nat, (boxT P X Y n m).Pairwise ltC
  | 0 => by simp [boxT]
  | m + 1 => by
    rw [boxT_succ, List.pairwise_append]
    refine ⟨boxT_rise P X Y n m, rowT_rise _ _ _ _, fun a ha b hb => ?_⟩
    rw [boxT_mem] at ha
    rw [rowT_mem] at hb
    exact .inl (by omega)
theorem hasG_iff {zs : List (IC × IC)} {c : IC} : hasG zs c = true ↔ c ∈ zs.flatMap twoC := by
  unfold hasG twoC
  rw [List.any_eq_true, List.mem_flatMap]
  constructor
  · rintro ⟨g, hg, h⟩
    refine ⟨g, hg, ?_⟩
    rw [Bool.or_eq_true, decide_eq_true_eq, decide_eq_true_eq] at h
    rcases h with rfl | rfl <;> simp
  · rintro ⟨g, hg, h⟩
    refine ⟨g, hg, ?_⟩
    simp only [List.mem_cons, List.not_mem_nil, or_false] at h
    rcases h with rfl | rfl <;> simp
/-- A cell is of a cluster just if it lies in the cluster's box. -/
theorem inK_box {W H S id : Int} (hr : rightP W H S = true) (h0 : 0 ≤ id) (h1 : id < lieN W S * lieN H S) (c : IC) :
    inK W H S id c = true ↔ bxX S (plcP W S id) ≤ c.1 ∧ c.1 < bxX S (plcP W S id) + bxW W S (plcP W S id) ∧ bxY S (plcP W S id) ≤ c.2 ∧ c.2 < bxY S (plcP W S id) + bxH H S (plcP W S id) := by
  obtain ⟨a1, a2, a3, a4, a5⟩ := plc_in hr h0 h1
  rw [box_has hr a1 a2 a3 a4]
  unfold inK
  rw [decide_eq_true_eq]
  constructor
  · rintro ⟨e1, e2⟩
    obtain ⟨_, hc⟩ := ofX_yes.1 e1
    unfold ofV at e2
    rw [if_pos e1] at e2
    exact ⟨hc, by rw [← plc_cell hr hc, e2]⟩
  · rintro ⟨hc, hp⟩
    have e1 : ofX W H S c = 0 := ofX_yes.2 ⟨hr, hc⟩
    refine ⟨e1, ?_⟩
    unfold ofV
    rw [if_pos e1]
    unfold ofP
    rw [Prod.ext_iff] at hp
    obtain ⟨p1, p2⟩ := hp
    simp only at p1 p2
    rw [p1, p2]
    exact a5
theorem clL_box {W H S id : Int} (hr : rightP W H S = true) (h0 : 0 ≤ id) (h1 : id < lieN W S * lieN H S) (zs : List (IC × IC)) :
    clL W H S id zs = boxT (hasG zs) (bxX S (plcP W S id)) (bxY S (plcP W S id)) (bxW W S (plcP W S id)).toNat (bxH H S (plcP W S id)).toNat := by
  obtain ⟨a1, a2, a3, a4, a5⟩ := plc_in hr h0 h1
  obtain ⟨_, ⟨b1, _, b2, _⟩, _⟩ := bx_bd hr a1 a2 a3 a4
  unfold clL
  rw [if_pos (plcX_yes.2 ⟨hr, h0, h1⟩)]
  refine comC_eq (boxT_rise _ _ _ _ _) fun c => ?_
  rw [boxT_mem, hasG_iff]
  unfold clT
  rw [List.take_length, List.mem_filter, inK_box hr h0 h1]
  have e1 : ((bxW W S (plcP W S id)).toNat : Int) = bxW W S (plcP W S id) := by omega
  have e2 : ((bxH H S (plcP W S id)).toNat : Int) = bxH H S (plcP W S id) := by omega
  rw [e1, e2]
end Go.Proofs.YtbdfjdipjacamaaDoor

/- Gates: the reference's cells of gates in a box. -/
namespace Go.Proofs.YtbdfjdipjacamaaDoor
open Go.RowKit

theorem own_empty2 (w : World) (t : TypeId) (base : Nat) (hb : base ≤ w.heap.size) : (w.alloc (.cells #[] t)).ownsRow base t 2 (.slice (some ⟨w.heap.size, 0, none⟩) 0 0) 0 (flatC []) :=
  ⟨rfl, .inr ⟨w.heap.size, 0, #[], rfl, hb, heap_alloc_new w _, Nat.le_refl _, Nat.zero_le _, rfl, rfl⟩⟩
theorem hasG_succ {zs : List (IC × IC)} {k : Nat} (h : k < zs.length) (c : IC) : hasG (zs.take (k + 1)) c = (hasG (zs.take k) c || (decide (zs[k].1 = c) || decide (zs[k].2 = c))) := by
  unfold hasG
  rw [List.take_succ_eq_append_getElem h, List.any_append]
  simp
theorem rowT_le (P : IC → Bool) (X y : Int) (n : Nat) : (rowT P X y n).length ≤ n := by
  unfold rowT
  refine Nat.le_trans (List.length_filter_le _ _) ?_
  simp
theorem boxT_le (P : IC → Bool) (X Y : Int) (n : Nat) : ∀ m, (boxT P X Y n m).length ≤ n * m
  | 0 => by simp [boxT]
  | m + 1 => by
    have := boxT_le P X Y n m
    have := rowT_le P X (Y + m) n
    rw [boxT_succ, List.length_append, Nat.mul_succ]
    omega
structure RcI (w : World) (X Y U V : Int) (W : World) : Prop where
  bel : Below w.heap.size w W
  f0 : W.cell? ⟨w.heap.size, 0, none⟩ = some (.int .i64 X)
  f1 : W.cell? ⟨w.heap.size, 1, none⟩ = some (.int .i64 Y)
  f2 : W.cell? ⟨w.heap.size, 2, none⟩ = some (.int .i64 U)
  f3 : W.cell? ⟨w.heap.size, 3, none⟩ = some (.int .i64 V)
theorem RcI.below {w : World} {X Y U V : Int} {W W' : World} (h : RcI w X Y U V W) (hb : Below W.heap.size W W') : RcI w X Y U V W' := ⟨bl_tr h.bel hb, cell_later hb h.f0, cell_later hb h.f1, cell_later hb h.f2, cell_later hb h.f3⟩
def CelR (L : List IC) (w : World) (e : Ending) (w' : World) : Prop := ∃ a cap, e = .returned (.slice a L.length cap) ∧ RowC w' a L ∧ Below w.heap.size w w'
theorem rowC_of_ownL {w : World} {base : Nat} {a : Option Addr} {cap : Nat} {zs : List IC} (h : w.ownsRow base 30 2 (.slice a zs.length cap) zs.length (flatC zs)) : RowC w a zs := by
  have hown := h
  rcases h.2 with ⟨e, h0⟩ | ⟨g, cap, cur, e, hb, hg, _⟩
  · exact .inl (List.eq_nil_of_length_eq_zero h0)
  · cases e
    exact row_of_cellsL (fun j z hz => own_cellL hown hz)
theorem ne_cel {z p : IC} (h : z ≠ p) : ((z.1 == p.1) = false) ∨ ((z.1 == p.1) = true ∧ (z.2 == p.2) = false) := neL h

set_option maxRecDepth 100000 in
set_option maxHeartbeats 8000000 in
theorem rcells_any (a : Option Addr) (cap : Nat) (zs : List (IC × IC)) (X Y : Int) (U V : Nat) (w : World) (hr : RowPP w a zs) (hl : zs.length ≤ 1048576) (hx : 0 ≤ X ∧ X ≤ 300) (hy : 0 ≤ Y ∧ Y ≤ 300) (hU : U ≤ 16) (hV : V ≤ 16) :
    Calls Tryd.prog 31 #[.slice a zs.length cap, .agg #[.int .i64 X, .int .i64 Y, .int .i64 U, .int .i64 V]] w (CelR (boxT (hasG zs) X Y U V) w) := by
  obtain ⟨i0, hi0, hz0, hz1, hz2⟩ := info_parts Tryd.infoCell
  obtain ⟨hx1, hx2⟩ := hx
  obtain ⟨hy1, hy2⟩ := hy
  have HROW := Lib.hid hr
  have HZS := Lib.hid (fun (k : Nat) (h : k < zs.length) c => hasG_succ h c)
  have HZE := Lib.hid (fun c => (show hasG (zs.take zs.length) c = hasG zs c by rw [List.take_length]))
  have HZ0 := Lib.hid (fun c => (show hasG (zs.take 0) c = false by simp [hasG]))
  obtain ⟨T, hT⟩ : ∃ T : Nat → IC → Bool, T = fun k c => hasG (zs.take k) c := ⟨_, rfl⟩
  obtain ⟨P, hP⟩ : ∃ P, hasG zs = P := ⟨_, rfl⟩
  have HTS := Lib.hid (show ∀ (k : Nat) (h : k < zs.length) c, T (k + 1) c = (T k c || (decide (zs[k].1 = c) || decide (zs[k].2 = c))) by rw [hT]; exact HZS.out)
  have HTE := Lib.hid (show ∀ c, T zs.length c = P c by rw [hT, ← hP]; exact HZE.out)
  have HT0 := Lib.hid (show ∀ c, T 0 c = false by rw [hT]; exact HZ0.out)
  rw [hP]
  clear HZS HZE HZ0 hT hP hr
  have hl2 : (zs.length : Int) ≤ 1048576 := by omega
  have hwx : IntKind.i64.wrap (X + U) = X + U := IntWalk.i64_in _ (by omega)
  have hwy : IntKind.i64.wrap (Y + V) = Y + V := IntWalk.i64_in _ (by omega)
  have hA := bl0 w
  go_enter Tryd.func31, Tryd.ntmps31
  go_wp2_with fail
  go_loopw [5, 6, 7, 8, 9, 10] (fun o yv _ _ _ _ wr => ∃ j : Nat, j ≤ V ∧ yv = .int .i64 (Y + j) ∧ wr.ownsRow (w.heap.size + 1) 30 2 o (boxT P X Y U j).length (flatC (boxT P X Y U j)) ∧ RcI w X Y U V wr) (fun _ yv _ _ _ _ _ => (Y + V - intOf yv).toNat)
  case atStart =>
    have ho := own_empty2 (w.alloc (.cells #[.int .i64 X, .int .i64 Y, .int .i64 U, .int .i64 V] 28)) 30 (w.heap.size + 1) (by simp)
    rw [World.size_alloc] at ho
    exact ⟨0, Nat.zero_le _, by simp, by simpa [boxT] using ho, ⟨bl_al (bl_al hA _) _, by simp [go_sem], by simp [go_sem], by simp [go_sem], by simp [go_sem]⟩⟩
  case round =>
    clear hA
    obtain ⟨j, hj, rfl, hown, hI⟩ := hrel
    have f0 := hI.f0; have f1 := hI.f1; have f2 := hI.f2; have f3 := hI.f3
    have zf := blk_lt f0
    obtain ⟨y, hyy⟩ : ∃ y, Y + (j : Int) = y := ⟨_, rfl⟩
    have HYN := Lib.hid (show Y + ((j + 1 : Nat) : Int) = y + 1 by rw [← hyy]; omega)
    have hy0 : 0 ≤ y := by omega
    have hy6 : y ≤ 600 := by omega
    have hbr := boxT_succ P X Y U j
    rw [hyy] at hbr ⊢
    have HBR := Lib.hid hbr
    have hle := boxT_le P X Y U j
    have hule : U * j ≤ 16 * 16 := Nat.mul_le_mul (by omega) (by omega)
    have HYE := Lib.hid hyy
    by_cases hlt : j < V
    · have hly : y < Y + V := by omega
      have dly : decide (y < Y + (V : Int)) = true := decide_eq_true hly
      clear hyy hbr
      go_wp2_with fail
      obtain ⟨L, hL⟩ : ∃ L, boxT P X Y U j = L := ⟨_, rfl⟩
      rw [hL] at hown HBR hle
      clear hL
      have HOWN := Lib.hid hown
      have HI := Lib.hid hI
      clear hown hI f0 f1 f2 f3 zf
      go_loopw [5, 7, 8, 9, 10] (fun o xv _ _ _ wr => ∃ i : Nat, i ≤ U ∧ xv = .int .i64 (X + i) ∧ wr.ownsRow (w.heap.size + 1) 30 2 o (L ++ rowT P X y i).length (flatC (L ++ rowT P X y i)) ∧ RcI w X Y U V wr) (fun _ xv _ _ _ _ => (X + U - intOf xv).toNat)
      case atStart => exact ⟨0, Nat.zero_le _, by simp, by rw [show L ++ rowT P X y 0 = L by simp [rowT]]; exact HOWN.out, HI.out⟩
      case round =>
        obtain ⟨i, hii, rfl, hown, hI⟩ := hrel
        have f0 := hI.f0; have f1 := hI.f1; have f2 := hI.f2; have f3 := hI.f3
        have zf := blk_lt f0
        obtain ⟨x, hxx⟩ : ∃ x, X + (i : Int) = x := ⟨_, rfl⟩
        have HXN := Lib.hid (show X + ((i + 1 : Nat) : Int) = x + 1 by rw [← hxx]; omega)
        have hx0 : 0 ≤ x := by omega
        have hx6 : x ≤ 600 := by omega
        have hrw := rowT_succ P X y i
        rw [hxx] at hrw ⊢
        have hrle := rowT_le P X y i
        by_cases hli : i < U
        · have hlx : x < X + U := by omega
          have dlx : decide (x < X + (U : Int)) = true := decide_eq_true hlx
          clear hxx
          obtain ⟨L2, hL2⟩ : ∃ L2, L ++ rowT P X y i = L2 := ⟨_, rfl⟩
          have hl2' : L2.length ≤ 1000 := by rw [← hL2, List.length_append]; omega
          have HR2 := Lib.hid (show L ++ rowT P X y (i + 1) = L2 ++ (if P (x, y) = true then [(x, y)] else []) by rw [← hL2, hrw, List.append_assoc])
          rw [hL2] at hown
          have HOWN2 := Lib.hid hown
          have HI2 := Lib.hid hI
          clear hL2 hrw hrle
          go_wp2_with fail
          clear hown hI f0 f1 f2 f3 zf
          have HTS2 := Lib.hid (fun k h => HTS.out k h (x, y))
          have HTE2 := Lib.hid (HTE.out (x, y))
          have HT02 := Lib.hid (HT0.out (x, y))
          obtain ⟨S, hS⟩ : ∃ S : Nat → Bool, S = fun k => T k (x, y) := ⟨_, rfl⟩
          have HSS := Lib.hid (show ∀ (k : Nat) (h : k < zs.length), S (k + 1) = (S k || (decide (zs[k].1 = (x, y)) || decide (zs[k].2 = (x, y)))) by rw [hS]; exact HTS2.out)
          have HSE := Lib.hid (show S zs.length = P (x, y) by rw [hS]; exact HTE2.out)
          have hs0 : S 0 = false := by rw [hS]; exact HT02.out
          have HB0 := Lib.hid (show Below wr.heap.size wr (wr.alloc (.cells #[.int .i64 x, .int .i64 y] 30)) from bl_al (bl0 _) _)
          clear HTS2 HTE2 HT02 hS
          go_loopw [9, 10] (fun sv kv wq => ∃ k : Nat, k ≤ zs.length ∧ kv = .int .i64 k ∧ sv = .bool (S k) ∧ Below wr.heap.size wr wq ∧ wq.cell? ⟨wr.heap.size, 0, none⟩ = some (.int .i64 x) ∧ wq.cell? ⟨wr.heap.size, 1, none⟩ = some (.int .i64 y)) (fun _ kv _ => zs.length - (intOf kv).toNat)
          case atStart => exact ⟨0, Nat.zero_le _, rfl, by rw [hs0], HB0.out, by simp [go_sem], by simp [go_sem]⟩
          case round =>
            obtain ⟨k, hk, rfl, rfl, hB, c0, c1⟩ := hrel
            have hk0 : (0 : Int) ≤ (k : Int) := by omega
            have zc := blk_lt c0
            by_cases hkl : k < zs.length
            · have hlt2 : (k : Int) < (zs.length : Int) := by omega
              have hsk := HSS.out k hkl
              obtain ⟨gb, go, rfl, ⟨q0, q1⟩, q2, q3⟩ := (HROW.out.below (bl_tr HI2.out.bel hB)).cell hkl
              have zq := blk_lt q0
              generalize zs[k] = z at *
              obtain ⟨S1, hS1⟩ : ∃ S1, S (k + 1) = S1 := ⟨_, rfl⟩
              rw [hS1] at hsk
              have HS1 := Lib.hid hS1
              obtain ⟨t, ht⟩ : ∃ t, S k = t := ⟨_, rfl⟩
              rw [ht] at hsk ⊢
              clear ht hS1
              cases t
              · by_cases ha : z.1 = (x, y)
                · have hs : S1 = true := by rw [hsk, decide_eq_true ha]; rfl
                  rw [Prod.ext_iff] at ha
                  have e0 : (z.1.1 == x) = true := by rw [beq_iff_eq]; exact ha.1
                  have e1 : (z.1.2 == y) = true := by rw [beq_iff_eq]; exact ha.2
                  clear hsk ha
                  subst hs
                  go_wp2
                  go_quiet (fail)
                  go_wp2
                  go_roundw
                  case rel => exact ⟨k + 1, by omega, by go_num, by rw [HS1.out], bl_tr hB (bl_drn _ _), cell_later (bl_drn _ _) c0, cell_later (bl_drn _ _) c1⟩
                  case measure => simp [intOf]; omega
                · rw [decide_eq_false ha] at hsk
                  by_cases hb : z.2 = (x, y)
                  · have hs : S1 = true := by rw [hsk, decide_eq_true hb]; rfl
                    rw [Prod.ext_iff] at hb
                    have e2 : (z.2.1 == x) = true := by rw [beq_iff_eq]; exact hb.1
                    have e3 : (z.2.2 == y) = true := by rw [beq_iff_eq]; exact hb.2
                    subst hs
                    clear hb hsk
                    rcases ne_cel ha with e0 | ⟨e0, e1⟩
                    · simp only at e0
                      clear ha
                      go_wp2
                      go_quiet (fail)
                      go_wp2
                      go_roundw
                      case rel => exact ⟨k + 1, by omega, by go_num, by rw [HS1.out], bl_tr hB (bl_drn _ _), cell_later (bl_drn _ _) c0, cell_later (bl_drn _ _) c1⟩
                      case measure => simp [intOf]; omega
                    · simp only at e0 e1
                      clear ha
                      go_wp2
                      go_quiet (fail)
                      go_wp2
                      go_roundw
                      case rel => exact ⟨k + 1, by omega, by go_num, by rw [HS1.out], bl_tr hB (bl_drn _ _), cell_later (bl_drn _ _) c0, cell_later (bl_drn _ _) c1⟩
                      case measure => simp [intOf]; omega
                  · have hs : S1 = false := by rw [hsk, decide_eq_false hb]; rfl
                    subst hs
                    clear hsk
                    rcases ne_cel ha with e0 | ⟨e0, e1⟩
                    · rcases ne_cel hb with e2 | ⟨e2, e3⟩
                      · simp only at e0 e2
                        clear ha hb
                        go_wp2
                        go_quiet (fail)
                        go_wp2
                        go_roundw
                        case rel => exact ⟨k + 1, by omega, by go_num, by rw [HS1.out], bl_tr hB (bl_drn _ _), cell_later (bl_drn _ _) c0, cell_later (bl_drn _ _) c1⟩
                        case measure => simp [intOf]; omega
                      · simp only at e0 e2 e3
                        clear ha hb
                        go_wp2
                        go_quiet (fail)
                        go_wp2
                        go_roundw
                        case rel => exact ⟨k + 1, by omega, by go_num, by rw [HS1.out], bl_tr hB (bl_drn _ _), cell_later (bl_drn _ _) c0, cell_later (bl_drn _ _) c1⟩
                        case measure => simp [intOf]; omega
                    · rcases ne_cel hb with e2 | ⟨e2, e3⟩
                      · simp only at e0 e1 e2
                        clear ha hb
                        go_wp2
                        go_quiet (fail)
                        go_wp2
                        go_roundw
                        case rel => exact ⟨k + 1, by omega, by go_num, by rw [HS1.out], bl_tr hB (bl_drn _ _), cell_later (bl_drn _ _) c0, cell_later (bl_drn _ _) c1⟩
                        case measure => simp [intOf]; omega
                      · simp only at e0 e1 e2 e3
                        clear ha hb
                        go_wp2
                        go_quiet (fail)
                        go_wp2
                        go_roundw
                        case rel => exact ⟨k + 1, by omega, by go_num, by rw [HS1.out], bl_tr hB (bl_drn _ _), cell_later (bl_drn _ _) c0, cell_later (bl_drn _ _) c1⟩
                        case measure => simp [intOf]; omega
              · have hs : S1 = true := by rw [hsk]; rfl
                clear hsk
                subst hs
                go_wp2
                go_quiet (fail)
                go_wp2
                go_roundw
                case rel => exact ⟨k + 1, by omega, by go_num, by rw [HS1.out], bl_tr hB (bl_drn _ _), cell_later (bl_drn _ _) c0, cell_later (bl_drn _ _) c1⟩
                case measure => simp [intOf]; omega
            · obtain rfl : k = zs.length := by omega
              have hge : ¬ (zs.length : Int) < (zs.length : Int) := by omega
              have hse := HSE.out
              rw [hse]
              have hI := HI2.out.below hB
              have hown := own_later HOWN2.out hB
              have hrr := HR2.out
              obtain ⟨t, ht⟩ : ∃ t, P (x, y) = t := ⟨_, rfl⟩
              obtain ⟨R, hR⟩ : ∃ R, L ++ rowT P X y (i + 1) = R := ⟨_, rfl⟩
              have HRE := Lib.hid hR
              rw [ht, hR] at hrr
              rw [ht]
              clear hse ht hR hB
              cases t
              · have hs : R = L2 := by rw [hrr]; simp
                have HS := Lib.hid hs
                clear hrr hs
                go_wp2
                go_roundw
                case rel => exact ⟨i + 1, by omega, by rw [HXN.out]; try go_num, by rw [HRE.out, HS.out]; exact hown, hI⟩
                case measure => simp [intOf]; omega
              · have hs : R = L2 ++ [(x, y)] := by rw [hrr]; rfl
                obtain ⟨va, vc, rfl, hcp⟩ := own_shape hown
                have HS := Lib.hid hs
                have HLN := Lib.hid (show L2.length + 1 = R.length by rw [hs, List.length_append]; rfl)
                have hsz := hI.bel.size
                clear hrr hs
                go_wp2_with (at_builtin; refine wpList_append_own _ rfl _ _ 44 rfl (w.heap.size + 1) 30 i0 (.agg #[.int .i64 0, .int .i64 0]) 2 16 Tryd.underlying44 hi0 hz0 hz1 hz2 rfl (by decide) _ _ _ rfl (hown.alloc _) ⟨wr.heap.size, 0, none⟩ 1 1 [.int .i64 x, .int .i64 y] rfl rfl ?c1 ?c2 ?c3 ?c4 ?c5 ?_)
                try case c1 => exact cell_twoG wr (.int .i64 x) (.int .i64 y) 30
                case c2 => (first | exact ⟨rfl, rfl⟩ | (intro u' hu; simp at hu; rcases hu with rfl | rfl <;> rfl))
                case c3 => unfold maxLen; omega
                case c4 => omega
                try case c5 => (have := blk_lt hI.f0; simp; omega)
                intro v' w6 hown' hgrow _
                have hl2 : Below wr.heap.size wr (wr.alloc (.cells #[.int .i64 x, .int .i64 y] 30)) := bl_al (bl0 _) _
                have hne : some w.heap.size ≠ Value.ownBlock (.slice va L2.length vc) := fun e => by have := (hown.lt _ e.symm).1; omega
                have HI6 := Lib.hid (show RcI w X Y U V w6 from ⟨(bl_tr hI.bel hl2).grown hgrow (by simp; omega) (fun j hj => by have := (hown.lt j hj).1; omega), hgrow.cell (cell_later hl2 hI.f0) hne, hgrow.cell (cell_later hl2 hI.f1) hne, hgrow.cell (cell_later hl2 hI.f2) hne, hgrow.cell (cell_later hl2 hI.f3) hne⟩)
                rw [← flatC_snoc (z := ((x, y) : IC)), ← HS.out, HLN.out] at hown'
                have HO := Lib.hid hown'
                clear hgrow hown hown' hl2 hne hI
                go_wp2
                go_roundw
                case rel => exact ⟨i + 1, by omega, by rw [HXN.out]; try go_num, by rw [HRE.out]; exact HO.out, HI6.out⟩
                case measure => simp [intOf]; omega
        · obtain rfl : i = U := by omega
          have hge : ¬ x < X + i := by omega
          have dge : decide (x < X + (i : Int)) = false := decide_eq_false hge
          have hbb : boxT P X Y i (j + 1) = L ++ rowT P X y i := HBR.out
          have HBB := Lib.hid hbb
          clear hxx hrw hbb
          go_wp2
          go_roundw
          case rel => exact ⟨j + 1, by omega, by rw [HYN.out]; try go_num, by rw [HBB.out]; exact hown, hI⟩
          case measure => simp [intOf]; omega
    · obtain rfl : j = V := by omega
      have hge : ¬ y < Y + j := by omega
      have dge : decide (y < Y + (j : Int)) = false := decide_eq_false hge
      obtain ⟨va, vc, rfl, hcp⟩ := own_shape hown
      have hrow : RowC wr va (boxT P X Y U j) := rowC_of_ownL (cap := vc) hown
      have hA := hI.bel
      have HR := Lib.hid (show ∀ e, e = Ending.returned (.slice va (boxT P X Y U j).length vc) → CelR (boxT P X Y U j) w e wr from fun e he => ⟨va, vc, he, hrow, hA⟩)
      obtain ⟨m, hm⟩ : ∃ m, (boxT P X Y U j).length = m := ⟨_, rfl⟩
      rw [hm] at HR ⊢
      clear hown hrow hm hle hyy hbr
      go_wp2
      go_ret
      exact HR.out _ rfl
end Go.Proofs.YtbdfjdipjacamaaDoor

/- Gates: the frame of a row of gates; two rows of cells that are the same. -/
namespace Go.Proofs.YtbdfjdipjacamaaDoor
open Go.ChangeShapes Go.WideShapes Go.ChangeAt Go.RowKit Go.Joins

theorem Tryd.cGate : Tryd.prog.cellsOf 108 = 4 := by kernel_rfl
theorem read_gate {H : Type} {enc : TypeId × Value → H} {W : World} {held : Bool} {n : Nat} {c0 c1 c2 c3 : Value} {x : DataW H × List MemPlace}
    (hf : DataW.trod enc Tryd.prog W 0 (fun _ => true) held n 108 [c0, c1, c2, c3] = some x) : ∃ l : IC × IC, c0 = .int .i64 l.1.1 ∧ c1 = .int .i64 l.1.2 ∧ c2 = .int .i64 l.2.1 ∧ c3 = .int .i64 l.2.2 := by
  obtain ⟨u0, u1, k, _, _, hu0, hu1⟩ := trod_struct2 Tryd.underlying108 hf
  have f0 : DataW.trod enc Tryd.prog W 0 (fun _ => true) held k 30 [c0, c1] = some u0 := by
    have e : (([c0, c1, c2, c3].drop 0).take (Tryd.prog.cellsOf 30)) = [c0, c1] := by rw [Tryd.cCell]; rfl
    rw [← e]; exact hu0
  have f1 : DataW.trod enc Tryd.prog W 0 (fun _ => true) held k 30 [c2, c3] = some u1 := by
    have e : (([c0, c1, c2, c3].drop 2).take (Tryd.prog.cellsOf 30)) = [c2, c3] := by rw [Tryd.cCell]; rfl
    rw [← e]; exact hu1
  obtain ⟨a, b, e0, _, _⟩ := cell_two f0
  obtain ⟨c, e, e1, _, _⟩ := cell_two f1
  simp at e0 e1
  exact ⟨((a, b), (c, e)), e0.1, e0.2, e1.1, e1.2⟩
set_option maxRecDepth 100000 in
theorem open_gates {H : Type} {enc : TypeId × Value → H} {W : World} {r : Reach} {b0 : Nat} {held : Bool} {v : Value} {d : DataW H} {p : List MemPlace}
    (hv : Value.okWide Tryd.prog W r b0 54 v) (h : DataW.Trod enc Tryd.prog W 0 (fun _ => true) held 54 v d p) : ∃ (a : Option Addr) (cap : Nat) (ls : List (IC × IC)),
      v = .slice a ls.length cap ∧ ls.length ≤ maxLen ∧ RowPP W a ls ∧ ls.length ≤ cap := by
  obtain ⟨a, len, cap, rfl⟩ := okWide_slice Tryd.underlying54 hv
  obtain ⟨fuel, hf⟩ := h
  rcases Go.Deep.open_slice Tryd.underlying54 hf with ⟨e, _⟩ | ⟨a', len', cap', m, n, D, Pl, e, _, hl, hm, hmm, _, hx⟩
  · simp [Value.cells] at e
    obtain ⟨rfl, rfl, rfl⟩ := e
    exact ⟨none, 0, [], rfl, Nat.zero_le _, .inl rfl, Nat.le_refl _⟩
  · simp [Value.cells] at e
    obtain ⟨rfl, rfl, rfl⟩ := e
    have hmm' : m = cap := by simpa using hmm
    subst hmm'
    have each : ∀ i, i < m → ∃ l : IC × IC, W.cell? (a'.add (i * 4)) = some (.int .i64 l.1.1) ∧ W.cell? ((a'.add (i * 4)).add 1) = some (.int .i64 l.1.2) ∧ W.cell? ((a'.add (i * 4)).add 2) = some (.int .i64 l.2.1) ∧ W.cell? ((a'.add (i * 4)).add 3) = some (.int .i64 l.2.2) := fun i hi => by
      obtain ⟨cs', h1, h2⟩ := hx i hi
      rw [Tryd.cGate] at h1
      obtain ⟨_, hlen, hcell⟩ := World.cells?_some h1
      match cs', hlen with
      | [c0, c1, c2, c3], _ =>
        obtain ⟨l, e0, e1, e2, e3⟩ := read_gate h2
        have k0 := hcell 0 (by decide)
        have k1 := hcell 1 (by decide)
        have k2 := hcell 2 (by decide)
        have k3 := hcell 3 (by decide)
        simp at k0 k1 k2 k3
        rw [e0] at k0
        rw [e1] at k1
        rw [e2] at k2
        rw [e3] at k3
        exact ⟨l, k0, k1, k2, k3⟩
    obtain ⟨f, hf'⟩ := Go.Deep.choose_lt each
    refine ⟨some a', m, (List.range len).map f, by simp, by simp; omega, ?_, by simp; omega⟩
    by_cases h0 : len = 0
    · exact .inl (by simp [h0])
    · obtain ⟨b, off, spot⟩ := a'
      have hspot : spot = none := by simpa [Addr.add] using World.cell?_spot (hf' 0 (by omega)).1
      subst hspot
      refine .inr ⟨b, off, rfl, fun i t ht => ?_⟩
      have hi : i < len := by
        have := (List.getElem?_eq_some_iff.1 ht).1
        simpa using this
      simp [hi] at ht
      subst ht
      obtain ⟨k0, k1, k2, k3⟩ := hf' i (by omega)
      rw [add_none] at k0
      rw [add_none, add_none] at k1 k2 k3
      exact ⟨⟨k0, k1⟩, k2, k3⟩

set_option maxRecDepth 100000 in
set_option maxHeartbeats 4000000 in
theorem cells_t (a a2 : Option Addr) (cap cap2 : Nat) (xs : List IC) (w : World) (hr : RowC w a xs) (hr2 : RowC w a2 xs) (hl : xs.length ≤ 1048576) :
    Calls Tryd.prog 30 #[.slice a xs.length cap, .slice a2 xs.length cap2] w fun e w' => e = .returned (.bool true) ∧ Below w.heap.size w w' := by
  have hl2 : (xs.length : Int) ≤ 1048576 := by omega
  have h1 : ((xs.length : Int) != (xs.length : Int)) = false := by rw [bne_eq_false_iff_eq]
  have hA0 := bl0 w
  go_enter Tryd.func30, Tryd.ntmps30
  go_wp2
  go_loopw [5] (fun i wr => ∃ k : Nat, k ≤ xs.length ∧ i = .int .i64 k ∧ Below w.heap.size w wr) (fun i _ => xs.length - (intOf i).toNat)
  case atStart => exact ⟨0, Nat.zero_le _, rfl, hA0⟩
  case round =>
    obtain ⟨k, hk, rfl, hB⟩ := hrel
    clear hA0
    by_cases hlt : k < xs.length
    · have hlt2 : (k : Int) < (xs.length : Int) := by omega
      have hk0 : (0 : Int) ≤ (k : Int) := by omega
      obtain ⟨gb, go, rfl, q0, q1⟩ := hr.cell hlt
      obtain ⟨gb2, go2, rfl, r0, r1⟩ := hr2.cell hlt
      replace q0 := cell_later hB q0; replace q1 := cell_later hB q1
      replace r0 := cell_later hB r0; replace r1 := cell_later hB r1
      clear hr hr2
      generalize xs[k] = x at *
      have n0 : (x.1 == x.1) = true := beq_self_eq_true _
      have n1 : (x.2 == x.2) = true := beq_self_eq_true _
      go_wp2
      go_quiet (fail)
      go_wp2
      go_roundw
      case rel => exact ⟨k + 1, by omega, by go_num, bl_tr hB (bl_drn _ _)⟩
      case measure => simp [intOf]; omega
    · have hge : (xs.length : Int) ≤ (k : Int) := by omega
      go_wp2
      go_ret
      exact ⟨rfl, hB⟩
end Go.Proofs.YtbdfjdipjacamaaDoor

/- Gates: all of them, by pairs of clusters: what is found, put in order and without the doubled ones, is the gates of each pair, pair by pair. -/
namespace Go.Proofs.YtbdfjdipjacamaaDoor
open Go.RowKit Go.Sort

theorem comTo_riseOn {α : Type} [DecidableEq α] {zs : List α} {R : α → α → Prop} (ht : ∀ x y z, R x y → R y z → R x z) (hq : ∀ x ∈ zs, ∀ y ∈ zs, ¬ R x y → ¬ R y x → x = y) (hs : ∀ i j (hi : i < j) (hj : j < zs.length), ¬ R zs[j] zs[i]) :
    ∀ {m : Nat}, m ≤ zs.length → (comTo zs m).Pairwise R
  | 0, _ => by simp [comTo, pickL]
  | m + 1, h => by
    have ih := comTo_riseOn (zs := zs) ht hq hs (m := m) (by omega)
    rw [comTo_succ (show m < zs.length by omega)]
    cases hk : keepB zs m
    · rw [if_neg (by decide), List.append_nil]; exact ih
    · rw [if_pos rfl, List.pairwise_append]
      refine ⟨ih, by simp, fun x hx y hy => ?_⟩
      rw [List.mem_singleton] at hy
      subst hy
      rw [comTo_mem (by omega), List.mem_take_iff_getElem] at hx
      obtain ⟨j, hj, rfl⟩ := hx
      cases m with
      | zero => omega
      | succ m =>
        rw [keepB_succ (by omega), decide_eq_true_eq] at hk
        have h1 : R zs[m] zs[m + 1] := Classical.byContradiction fun hn => hk (hq _ (List.getElem_mem _) _ (List.getElem_mem _) hn (hs m (m + 1) (by omega) (by omega))).symm
        by_cases e : j = m
        · subst e; exact h1
        · have h2 := hs j m (by omega) (by omega)
          by_cases h3 : R zs[j] zs[m]
          · exact ht _ _ _ h3 h1
          · rw [hq _ (List.getElem_mem _) _ (List.getElem_mem _) h3 h2]; exact h1
/-- As comL_sort, where what is neither less nor greater is the same one of those that are there. -/
theorem comL_sortOn {α : Type} [Inhabited α] [DecidableEq α] {lt : α → α → Bool} {R : α → α → Prop} (hO : SWO lt) (h : ∀ x y, lt x y = true ↔ R x y) (zs : List α) (hq : ∀ x ∈ zs, ∀ y ∈ zs, ¬ R x y → ¬ R y x → x = y) :
    (comL (sortL lt zs)).Pairwise R ∧ ∀ x, x ∈ comL (sortL lt zs) ↔ x ∈ zs := by
  obtain ⟨h1, h2, h3⟩ := sortL_spec hO zs
  have ht : ∀ x y z, R x y → R y z → R x z := fun x y z a b => (h x z).1 (hO.trans _ _ _ ((h x y).2 a) ((h y z).2 b))
  refine ⟨comTo_riseOn ht (fun x hx y hy => hq x (h2.mem_iff.1 hx) y (h2.mem_iff.1 hy)) (fun i j hi hj hR => ?_) (Nat.le_refl _), fun x => ?_⟩
  · have := h3 i j hi hj
    rw [(h _ _).2 hR] at this
    cases this
  · unfold comL
    rw [comTo_mem (Nat.le_refl _), List.take_length]
    exact h2.mem_iff
theorem gatesTo_sub {α : Type} (op : α → Bool) (l : List α) : ∀ k, k ≤ l.length → List.Sublist (gatesTo op l k) (l.take k)
  | 0, _ => by simp [gatesTo, gTo, pickL]
  | k + 1, h => by
    rw [gatesTo_succ (by omega), List.take_succ_eq_append_getElem (by omega)]
    refine List.Sublist.append (gatesTo_sub op l k (by omega)) ?_
    split
    · exact List.Sublist.refl _
    · simp
theorem gatesL_sub {α : Type} (op : α → Bool) (l : List α) : List.Sublist (gatesL op l) l := by
  have h := gatesTo_sub op l l.length (Nat.le_refl _)
  rw [List.take_length] at h
  exact h
/-- The gates of two clusters. -/
def grL (A B : Int) (zs : List Int) (S a b : Int) : List (IC × IC) := gatesL (opnF A zs) (brdP A B S a b)
def refI (A B : Int) (zs : List Int) (S : Int) (a j : Nat) : List (IC × IC) := (List.range j).flatMap fun t => grL A B zs S (a : Nat) ((a + 1 + t : Nat) : Int)
def refO (A B : Int) (zs : List Int) (S : Int) (n k : Nat) : List (IC × IC) := (List.range k).flatMap fun a => refI A B zs S a (n - (a + 1))
theorem refI_succ (A B : Int) (zs : List Int) (S : Int) (a j : Nat) : refI A B zs S a (j + 1) = refI A B zs S a j ++ grL A B zs S (a : Nat) ((a + 1 + j : Nat) : Int) := by
  unfold refI
  rw [List.range_succ, List.flatMap_append]
  simp
theorem refO_succ (A B : Int) (zs : List Int) (S : Int) (n k : Nat) : refO A B zs S n (k + 1) = refO A B zs S n k ++ refI A B zs S k (n - (k + 1)) := by
  unfold refO
  rw [List.range_succ, List.flatMap_append]
  simp
theorem grL_le (A B : Int) (zs : List Int) (S a b : Int) : (grL A B zs S a b).length ≤ 16 := Nat.le_trans (gatesL_le _ _) (brdP_le A B S a b)
theorem refI_le (A B : Int) (zs : List Int) (S : Int) (a j : Nat) : (refI A B zs S a j).length ≤ 16 * j := by
  have h := flat_le (fun t : Nat => grL A B zs S (a : Nat) ((a + 1 + t : Nat) : Int)) 16 (fun t => grL_le _ _ _ _ _ _) (List.range j)
  rw [List.length_range] at h
  exact h
theorem refO_le (A B : Int) (zs : List Int) (S : Int) (n k : Nat) : (refO A B zs S n k).length ≤ 16 * n * k := by
  have h := flat_le (fun a : Nat => refI A B zs S a (n - (a + 1))) (16 * n) (fun a => Nat.le_trans (refI_le _ _ _ _ _ _) (Nat.mul_le_mul_left _ (by omega))) (List.range k)
  rw [List.length_range] at h
  exact h
theorem grL_mem {A B : Int} {zs : List Int} {S a b : Int} {x : IC × IC} (h : x ∈ grL A B zs S a b) : brdX A B S a b = 0 ∧ x ∈ brdP A B S a b := by
  have hx := (gatesL_sub _ _).subset h
  refine ⟨?_, hx⟩
  by_cases e : brdX A B S a b = 0
  · exact e
  · unfold brdP at hx
    rw [if_neg e] at hx
    cases hx
/-- In which clusters a gate's cells lie. -/
theorem grL_of {A B : Int} {zs : List Int} {S a b : Int} {x : IC × IC} (hab : a < b) (h : x ∈ grL A B zs S a b) : ofV A B S x.1 = a ∧ ofV A B S x.2 = b := by
  obtain ⟨hx, hm⟩ := grL_mem h
  obtain ⟨hr, _, _, _, _, hall⟩ := brd_facts hx
  obtain ⟨o1, o2⟩ := brd_on hx x hm
  obtain ⟨f1, f2⟩ := hall x hm
  rw [show min a b = a by omega] at f1
  rw [show max a b = b by omega] at f2
  unfold ofV
  rw [if_pos (ofX_yes.2 ⟨hr, o1⟩), if_pos (ofX_yes.2 ⟨hr, o2⟩)]
  exact ⟨f1, f2⟩
theorem prsF_ltC {W H S : Int} {p : IC} {d : Int} {i j : Nat} (h : i < j) : ltC (prsF W H S p d i).1 (prsF W H S p d j).1 := by
  by_cases hd : d = 1
  · have e : ∀ k : Nat, (prsF W H S p d k).1 = (bxX S p + bxW W S p - 1, bxY S p + (k : Int)) := fun k => by unfold prsF; simp [hd]
    rw [e, e]
    exact .inl (show bxY S p + (i : Int) < bxY S p + (j : Int) by omega)
  · have e : ∀ k : Nat, (prsF W H S p d k).1 = (bxX S p + (k : Int), bxY S p + bxH H S p - 1) := fun k => by unfold prsF; simp [hd]
    rw [e, e]
    exact .inr ⟨rfl, show bxX S p + (i : Int) < bxX S p + (j : Int) by omega⟩
theorem brdP_rise (A B S a b : Int) : (brdP A B S a b).Pairwise fun x y => ltC x.1 y.1 := by
  unfold brdP
  split
  · unfold prsP
    rw [List.pairwise_map]
    exact List.Pairwise.imp (fun h => prsF_ltC h) List.pairwise_lt_range
  · exact .nil
theorem grL_rise {A B : Int} {zs : List Int} {S a b : Int} (hab : a < b) : (grL A B zs S a b).Pairwise (ltG A B S) := by
  have h := (brdP_rise A B S a b).sublist (gatesL_sub (opnF A zs) _)
  refine List.Pairwise.imp_of_mem (fun {x y} hx hy h => ?_) h
  obtain ⟨x1, x2⟩ := grL_of hab hx
  obtain ⟨y1, y2⟩ := grL_of hab hy
  exact .inr ⟨x1.trans y1.symm, .inr ⟨x2.trans y2.symm, h⟩⟩
theorem refI_mem {A B : Int} {zs : List Int} {S : Int} {a j : Nat} {x : IC × IC} : x ∈ refI A B zs S a j ↔ ∃ b : Nat, a < b ∧ b < a + 1 + j ∧ x ∈ grL A B zs S a b := by
  unfold refI
  rw [List.mem_flatMap]
  constructor
  · rintro ⟨t, ht, h⟩
    rw [List.mem_range] at ht
    exact ⟨a + 1 + t, by omega, by omega, h⟩
  · rintro ⟨b, h1, h2, h⟩
    refine ⟨b - (a + 1), by rw [List.mem_range]; omega, ?_⟩
    rw [show a + 1 + (b - (a + 1)) = b by omega]
    exact h
theorem refO_mem {A B : Int} {zs : List Int} {S : Int} {n k : Nat} (hk : k ≤ n) {x : IC × IC} : x ∈ refO A B zs S n k ↔ ∃ a b : Nat, a < k ∧ a < b ∧ b < n ∧ x ∈ grL A B zs S a b := by
  unfold refO
  rw [List.mem_flatMap]
  constructor
  · rintro ⟨a, ha, h⟩
    rw [List.mem_range] at ha
    obtain ⟨b, h1, h2, h3⟩ := refI_mem.1 h
    exact ⟨a, b, ha, h1, by omega, h3⟩
  · rintro ⟨a, b, h0, h1, h2, h3⟩
    exact ⟨a, by rw [List.mem_range]; exact h0, refI_mem.2 ⟨b, h1, by omega, h3⟩⟩
theorem refI_rise (A B : Int) (zs : List Int) (S : Int) (a : Nat) : ∀ j : Nat, (refI A B zs S a j).Pairwise (ltG A B S)
  | 0 => by simp [refI]
  | j + 1 => by
    rw [refI_succ, List.pairwise_append]
    refine ⟨refI_rise A B zs S a j, grL_rise (by omega), fun x hx y hy => ?_⟩
    obtain ⟨b, h1, h2, h3⟩ := refI_mem.1 hx
    obtain ⟨x1, x2⟩ := grL_of (by omega) h3
    obtain ⟨y1, y2⟩ := grL_of (by omega) hy
    exact .inr ⟨x1.trans y1.symm, .inl (by rw [x2, y2]; omega)⟩
theorem refO_rise (A B : Int) (zs : List Int) (S : Int) (n : Nat) : ∀ k : Nat, k ≤ n → (refO A B zs S n k).Pairwise (ltG A B S)
  | 0, _ => by simp [refO]
  | k + 1, h => by
    rw [refO_succ, List.pairwise_append]
    refine ⟨refO_rise A B zs S n k (by omega), refI_rise _ _ _ _ _ _, fun x hx y hy => ?_⟩
    obtain ⟨a, b, h0, h1, h2, h3⟩ := (refO_mem (by omega)).1 hx
    obtain ⟨b', g1, g2, g3⟩ := refI_mem.1 hy
    obtain ⟨x1, x2⟩ := grL_of (by omega) h3
    obtain ⟨y1, y2⟩ := grL_of (by omega) g3
    exact .inl (by rw [x1, y1]; omega)
theorem ltG_irr (W H S : Int) (x : IC × IC) : ¬ ltG W H S x x := fun h => by unfold ltG ltC at h; omega
theorem ltG_tr (W H S : Int) (x y z : IC × IC) (a : ltG W H S x y) (b : ltG W H S y z) : ltG W H S x z := by unfold ltG ltC at *; omega
theorem grL_eq {A B : Int} {zs : List Int} {S a b : Int} {x y : IC × IC} (hx : x ∈ grL A B zs S a b) (hy : y ∈ grL A B zs S a b) (h : x.1 = y.1) : x = y := by
  obtain ⟨e, hx⟩ := grL_mem hx
  obtain ⟨_, hy⟩ := grL_mem hy
  unfold brdP at hx hy
  rw [if_pos e] at hx hy
  unfold prsP at hx hy
  obtain ⟨i, _, rfl⟩ := List.mem_map.1 hx
  obtain ⟨j, _, rfl⟩ := List.mem_map.1 hy
  rw [prsF_inj h]
theorem brdX_min (A B S a b : Int) : brdX A B S (min a b) (max a b) = brdX A B S a b ∧ brdP A B S (min a b) (max a b) = brdP A B S a b := by
  have h1 : min (min a b) (max a b) = min a b := by omega
  have h2 : max (min a b) (max a b) = max a b := by omega
  have hx : brdX A B S (min a b) (max a b) = brdX A B S a b := by unfold brdX; rw [h1, h2]
  refine ⟨hx, ?_⟩
  unfold brdP
  rw [hx, h1, h2]
/-- What is found, border by border of each cluster, is what all pairs of clusters have. -/
theorem fnd_mem {A B : Int} {zs : List Int} {S : Int} (hr : rightP A B S = true) (x : IC × IC) : x ∈ fndL A B zs S (cntN A B S) ↔ x ∈ refO A B zs S (cntN A B S) (cntN A B S) := by
  obtain ⟨hn, _, _⟩ := cntN_eq hr
  rw [refO_mem (Nat.le_refl _)]
  unfold fndL
  rw [List.mem_flatMap]
  constructor
  · rintro ⟨id, _, h⟩
    unfold bsL at h
    rw [List.mem_flatMap] at h
    obtain ⟨o, _, h⟩ := h
    have h' : x ∈ grL A B zs S (id : Nat) o := h
    obtain ⟨hx, _⟩ := grL_mem h'
    obtain ⟨_, ⟨a0, a1⟩, ⟨b0, b1⟩, hlt, _⟩ := brd_facts hx
    obtain ⟨_, e2⟩ := brdX_min A B S (id : Nat) o
    have h2 : x ∈ grL A B zs S (min (id : Int) o) (max (id : Int) o) := by unfold grL; rw [e2]; exact h'
    generalize min (id : Int) o = a at *
    generalize max (id : Int) o = b at *
    obtain ⟨a', rfl⟩ : ∃ a' : Nat, a = a' := ⟨a.toNat, by omega⟩
    obtain ⟨b', rfl⟩ : ∃ b' : Nat, b = b' := ⟨b.toNat, by omega⟩
    exact ⟨a', b', by omega, by omega, by omega, h2⟩
  · rintro ⟨a, b, h0, h1, h2, h⟩
    obtain ⟨hx, _⟩ := grL_mem h
    obtain ⟨_, ⟨a0, a1⟩, ⟨b0, b1⟩, _, ⟨d, hd, _, ht, hnu⟩, _⟩ := brd_facts hx
    rw [show min (a : Int) b = a by omega] at a0 a1 ht hnu
    rw [show max (a : Int) b = b by omega] at hnu
    refine ⟨a, by rw [List.mem_range]; exact h0, ?_⟩
    unfold bsL
    rw [List.mem_flatMap]
    refine ⟨b, ?_, h⟩
    have hbs : besL A B S a = besP A B S a 4 := by unfold besL; rw [if_pos (plcX_yes.2 ⟨hr, a0, a1⟩)]
    rw [hbs]
    refine List.count_pos_iff.1 ?_
    obtain rfl | rfl := hd
    · rw [bes_once (b := (b : Int)) (d := 1) hr a0 a1 (by omega) ht hnu 4 (by omega)]; decide
    · rw [bes_once (b := (b : Int)) (d := 2) hr a0 a1 (by omega) ht hnu 4 (by omega)]; decide
/-- Of tells the gates of each pair of clusters, pair by pair. -/
theorem ofLl_eq {A B : Int} {zs : List Int} {S : Int} (hr : rightP A B S = true) : comL (sortL (ltOf (ordI A B S)) (fndL A B zs S (cntN A B S))) = refO A B zs S (cntN A B S) (cntN A B S) := by
  obtain ⟨h1, h2⟩ := comL_sortOn (swo_ordI A B S) (ltOf_ordI A B S) (fndL A B zs S (cntN A B S)) (fun x hx y hy n1 n2 => by
    obtain ⟨a, b, g0, g1, g2, g3⟩ := (refO_mem (Nat.le_refl _)).1 ((fnd_mem hr x).1 hx)
    obtain ⟨c, d, k0, k1, k2, k3⟩ := (refO_mem (Nat.le_refl _)).1 ((fnd_mem hr y).1 hy)
    obtain ⟨x1, x2⟩ := grL_of (by omega) g3
    obtain ⟨y1, y2⟩ := grL_of (by omega) k3
    unfold ltG at n1 n2
    rw [x1, x2, y1, y2] at n1 n2
    have hac : a = c := by omega
    have hbd : b = d := by omega
    subst hac; subst hbd
    refine grL_eq g3 k3 (ltC_eq _ _ (fun h => n1 (.inr ⟨rfl, .inr ⟨rfl, h⟩⟩)) (fun h => n2 (.inr ⟨rfl, .inr ⟨rfl, h⟩⟩))))
  exact rise_ext (ltG_irr A B S) (ltG_tr A B S) h1 (refO_rise _ _ _ _ _ _ (Nat.le_refl _)) fun x => (h2 x).trans (fnd_mem hr x)
end Go.Proofs.YtbdfjdipjacamaaDoor

/- Gates: all of them, the reference's. -/
namespace Go.Proofs.YtbdfjdipjacamaaDoor
open Go.RowKit

/-- An append of a row of pairs of cells, nil or not, in a region that draws its order. -/
theorem ordS_append_rowR {F : Fence} {n : Nat} {ops : Array Oper} {Q : Exit → Act → World → Prop} {md : Region.Mode} {S : World → Prop} {i : Nat} {o : Oper} {j : Nat} {l : Array Bool} {a : Act} (w : World)
    (hr : Region.ready md ops l = [i]) (ho : ops[i]? = some o) (hw : Region.wanted o (yielded ops a.tmps) = true) (s x : Operand) (hop : o.op = Op.call { callee := Callee.builtin Builtin.append, args := #[s, x], argTypes := #[58, 58] })
    (base : Nat) (v : Value) (k : Nat) (xs : List (IC × IC)) (hs : a.eval s = v) (hown : w.ownsRow base 98 4 v k (flatPP xs)) (r : Option Addr) (c : Nat) (zs : List (IC × IC)) (hx : a.eval x = .slice r zs.length c) (hrow : RowPP w r zs)
    (b1 : k + zs.length ≤ 4398046511104) (b3 : base ≤ w.heap.size)
    (hK : ∀ v' w', w'.ownsRow base 98 4 v' (k + zs.length) (flatPP (xs ++ zs)) → w.grownBy w' v.ownBlock → S w' ∧ OrdS F n Tryd.prog md ops Q S j (l.setIfInBounds i true) (a.put o.dst v') w') :
    OrdS F n Tryd.prog md ops Q S (j + 1) l a w := by
  obtain ⟨i0, hi, hz0, hz1, hz2⟩ := info_parts Tryd.infoRG
  rw [flatPP_app] at hK
  cases r with
  | none =>
    have hn : zs = [] := by
      rcases hrow with h | ⟨b, o, e, _⟩
      · exact h
      · cases e
    subst hn
    have hrun := run_append_none_c (P := Tryd.prog) (w := w) base 58 o.type 98 i0 4 c Tryd.underlying58 hi v k _ hown
    have h' := hK v w (by simpa [flatPP] using hown) (World.grownBy.refl _ _)
    refine ordS_one hr ho hw fun K hK' => ?_
    unfold Oper.wpIn
    simp only [List.length_nil] at hx
    refine ⟨?_, ?_⟩
    · simp [Oper.about, hop, resolve, Target.leads, Sem.run_pure]
    · rw [Oper.semAt_plain F _ _ (by rw [hop]; intro c hc'; cases hc')]
      simp [execOp, hop, resolve, invoke, builtin, hs, hx, hrun, Result.andThen]
      exact hK' _ _ h'.1 h'.2
  | some ad =>
    refine ordS_append w hr ho hw s x 58 hop base 98 i0 (.agg #[.int .i64 0, .int .i64 0, .int .i64 0, .int .i64 0]) 4 32 Tryd.underlying58 hi hz0 hz1 hz2 rfl (by decide) v k _ hs hown ad zs.length c (flatPP zs) hx (flatPP_len zs) ?_ (flatPP_one zs) (by unfold maxLen; omega) (by omega) b3 (fun v' w' h1 h2 => hK v' w' h1 h2)
    intro j u hu
    rcases hrow with rfl | ⟨b, o, e, hcell⟩
    · simp [flatPP] at hu
    · cases e
      rw [addr_add]
      exact flatPP_cells zs hcell j u hu

/-- What Of's loops hold. -/
structure RfI (w w1 : World) (A B : Int) (a : Option Addr) (n cap : Nat) (W : World) : Prop where
  bel : Below w1.heap.size w1 W
  f0 : W.cell? ⟨w.heap.size, 0, none⟩ = some (.int .i64 A)
  f1 : W.cell? ⟨w.heap.size, 1, none⟩ = some (.int .i64 B)
  f2 : W.cell? ⟨w.heap.size, 2, none⟩ = some (.slice a n cap)
theorem RfI.below {w w1 : World} {A B : Int} {a : Option Addr} {n cap : Nat} {W W' : World} (h : RfI w w1 A B a n cap W) (hb : Below W.heap.size W W') : RfI w w1 A B a n cap W' :=
  ⟨bl_tr h.bel hb, cell_later hb h.f0, cell_later hb h.f1, cell_later hb h.f2⟩
theorem RfI.grown {w w1 : World} {A B : Int} {a : Option Addr} {n cap : Nat} {W W' : World} (h : RfI w w1 A B a n cap W) (hw : w.heap.size < w1.heap.size) {v : Value} {m : Nat} {xs : List Value} (hown : W.ownsRow w1.heap.size 98 4 v m xs) (hg : W.grownBy W' v.ownBlock) : RfI w w1 A B a n cap W' := by
  have hne : ∀ j, j < w1.heap.size → some j ≠ v.ownBlock := fun j hj e => by have := (hown.lt j e.symm).1; omega
  exact ⟨h.bel.grown hg h.bel.size (fun k hk => (hown.lt k hk).1), hg.cell h.f0 (hne _ hw), hg.cell h.f1 (hne _ hw), hg.cell h.f2 (hne _ hw)⟩

set_option maxRecDepth 100000 in
set_option maxHeartbeats 8000000 in
theorem rof_any (A B : Int) (a : Option Addr) (cap : Nat) (zs : List Int) (S : Int) (w : World) (hr : RowH w a zs) (hin : AllH zs) (hn : (zs.length : Int) = A * B) (hrt : rightP A B S = true) :
    Calls Tryd.prog 26 #[.agg #[.int .i64 A, .int .i64 B, .slice a zs.length cap], .int .i64 S] w (BxsR (refO A B zs S (cntN A B S) (cntN A B S)) w) := by
  have hA := bl0 w
  obtain ⟨hcn, n1, n2⟩ := cntN_eq hrt
  have H1 := Lib.hid (fun w => boxes11 A B S w hrt)
  unfold BxsR at H1
  have H2 := Lib.hid (fun (x y : Nat) (hx : x < cntN A B S) (hy : y < cntN A B S) b cap2 w (hrow : RowPP w b (boxL A B S)) => border11 A B S b cap2 (x : Int) (y : Int) w hrt (by omega) (by omega) (by omega) (by omega) hrow)
  have hsame : ∀ (x y : Nat), x < cntN A B S → y < cntN A B S → refB A B S x y = brdP A B S x y := fun x y hx hy => by
    rcases brd_same (a := (x : Int)) (b := (y : Int)) hrt (by omega) (by omega) (by omega) (by omega) with ⟨_, h1, h2⟩ | ⟨_, h1, _⟩
    · rw [h1, h2]
    · exact h1.symm
  unfold BxsR at H2
  have H3 := Lib.hid (fun (x y : Int) b cap2 w (hr : RowH w a zs) (hrow : RowPP w b (brdP A B S x y)) => rbtw_any A B a cap zs b cap2 (brdP A B S x y) w hr hin hn hrow (by have := brdP_le A B S x y; omega) (by
    by_cases hbx : brdX A B S x y = 0
    · exact brd_on hbx
    · have : brdP A B S x y = [] := by unfold brdP; rw [if_neg hbx]
      rw [this]
      intro p hp
      cases hp))
  unfold GatR at H3
  have HSM := Lib.hid hsame
  have HBL := Lib.hid (boxL_len A B S)
  have HRS := Lib.hid (fun a j => refI_succ A B zs S a j)
  have HOS := Lib.hid (fun k => refO_succ A B zs S (cntN A B S) k)
  have HRL := Lib.hid (fun a j => refI_le A B zs S a j)
  have HOL := Lib.hid (fun k => refO_le A B zs S (cntN A B S) k)
  have HGL := Lib.hid (fun x y => grL_le A B zs S x y)
  have HGE := Lib.hid (show ∀ x y : Int, gatesL (opnF A zs) (brdP A B S x y) = grL A B zs S x y from fun _ _ => rfl)
  have hIz : ∀ x, refI A B zs S x 0 = [] := fun x => by simp [refI]
  have hOz : refO A B zs S (cntN A B S) 0 = [] := by simp [refO]
  have HIZ := Lib.hid hIz
  generalize hcN : cntN A B S = n at *
  have hn3 : n ≤ 16384 := by omega
  clear hsame hIz hcn n1 n2 hcN hin hn
  go_enter Tryd.func26, Tryd.ntmps26
  go_wp2_with fail
  refine (H1.out _).mono ?_
  rintro e w1 ⟨la, lc, rfl, hrw, hb⟩
  have hk : Below w.heap.size w w1 := by first | exact hb | exact bl_tr (bl_al (bl0 _) _) hb | exact bl_tr (bl_dr (bl_al (bl0 _) _)) hb | exact bl_tr (bl_al (bl_al (bl0 _) _) _) hb | exact bl_tr (bl_dr (bl_al (bl_al (bl0 _) _) _)) hb | exact bl_tr (bl_al (bl_al (bl_al (bl0 _) _) _) _) hb | exact bl_tr (bl_dr (bl_al (bl_al (bl_al (bl0 _) _) _) _)) hb | exact bl_tr (bl_al (bl_al (bl_al (bl_al (bl0 _) _) _) _) _) hb | exact bl_tr (bl_dr (bl_al (bl_al (bl_al (bl_al (bl0 _) _) _) _) _)) hb | exact bl_tr (bl_al (bl_al (bl_al (bl_al (bl_al (bl0 _) _) _) _) _) _) hb | exact bl_tr (bl_dr (bl_al (bl_al (bl_al (bl_al (bl_al (bl0 _) _) _) _) _) _)) hb | exact bl_tr (bl_al (bl_al (bl_al (bl_al (bl_al (bl_al (bl0 _) _) _) _) _) _) _) hb | exact bl_tr (bl_dr (bl_al (bl_al (bl_al (bl_al (bl_al (bl_al (bl0 _) _) _) _) _) _) _)) hb | exact bl_tr (bl_dr (bl0 _)) hb
  replace hA := bl_tr hA hk
  have f0 := cell_later hb (v := .int .i64 A) (a := ⟨w.heap.size, 0, none⟩) (by simp [go_sem])
  have f1 := cell_later hb (v := .int .i64 B) (a := ⟨w.heap.size, 1, none⟩) (by simp [go_sem])
  have f2 := cell_later hb (v := .slice a zs.length cap) (a := ⟨w.heap.size, 2, none⟩) (by simp [go_sem])
  clear hb hk
  have zf0 := blk_lt f0
  have zf1 := blk_lt f1
  have zf2 := blk_lt f2
  rw [HBL.out]
  have HA := Lib.hid hA
  have HR := Lib.hid (hr.below hA)
  have HRW := Lib.hid hrw
  have HSZ := Lib.hid zf0
  have HI1 := Lib.hid (show RfI w w1 A B a zs.length cap w1 from ⟨bl0 _, f0, f1, f2⟩)
  clear hr hrw hA f0 f1 f2 zf0 zf1 zf2
  go_wp2_with fail
  go_loopw [6, 7, 8] (fun ov iv _ wr => ∃ k : Nat, k ≤ n ∧ iv = .int .i64 k ∧ wr.ownsRow w1.heap.size 98 4 ov (refO A B zs S n k).length (flatPP (refO A B zs S n k)) ∧ RfI w w1 A B a zs.length cap wr) (fun _ iv _ _ => n - (intOf iv).toNat)
  case atStart => exact ⟨0, Nat.zero_le _, rfl, by rw [hOz]; exact own_empty4 w1 98 w1.heap.size (Nat.le_refl _), HI1.out.below (bl_al (bl0 _) _)⟩
  case round =>
    obtain ⟨k, hk, rfl, hown, hI⟩ := hrel
    have hk0 : (0 : Int) ≤ (k : Int) := by omega
    by_cases hlt : k < n
    · have hlt2 : (k : Int) < (n : Int) := by omega
      have hwk : IntKind.i64.wrap ((k : Int) + 1) = ((k + 1 : Nat) : Int) := by rw [IntWalk.i64_in _ (by omega)]; omega
      have hob : (refO A B zs S n k).length ≤ 4294967296 := by
        have h1 := HOL.out k
        have h2 : 16 * n * k ≤ 16 * 16384 * 16384 := Nat.mul_le_mul (Nat.mul_le_mul_left 16 hn3) (by omega)
        omega
      obtain ⟨O, hO⟩ : ∃ O, refO A B zs S n k = O := ⟨_, rfl⟩
      have hos := HOS.out k
      rw [hO] at hown hob hos
      have HOW := Lib.hid hown
      have HII := Lib.hid hI
      have HOB := Lib.hid hob
      have HO2 := Lib.hid hos
      clear hown hI hob hos hO hOz
      go_wp2_with fail
      go_loopw [6, 8] (fun ov jv wr => ∃ j : Nat, k + 1 + j ≤ n ∧ jv = .int .i64 ((k + 1 + j : Nat) : Int) ∧ wr.ownsRow w1.heap.size 98 4 ov (O ++ refI A B zs S k j).length (flatPP (O ++ refI A B zs S k j)) ∧ RfI w w1 A B a zs.length cap wr) (fun _ jv _ => n - (intOf jv).toNat)
      case atStart => exact ⟨0, by omega, by first | rfl | go_num, by rw [HIZ.out, List.append_nil]; exact HOW.out, HII.out⟩
      case round =>
        obtain ⟨j, hj, rfl, hown, hI⟩ := hrel
        have hj0 : (0 : Int) ≤ ((k + 1 + j : Nat) : Int) := by omega
        by_cases hlj : k + 1 + j < n
        · have hlj2 : ((k + 1 + j : Nat) : Int) < (n : Int) := by omega
          have hrs := HRS.out k j
          have hrl := HRL.out k j
          have hob := HOB.out
          obtain ⟨G, hG⟩ : ∃ G, O ++ refI A B zs S k j = G := ⟨_, rfl⟩
          have hGl : G.length ≤ 4295229440 := by rw [← hG, List.length_append]; omega
          have hnx : O ++ refI A B zs S k (j + 1) = G ++ grL A B zs S (k : Nat) ((k + 1 + j : Nat) : Int) := by rw [hrs, ← List.append_assoc, hG]
          rw [hG] at hown
          have HNX := Lib.hid hnx
          have H2k := Lib.hid (H2.out k (k + 1 + j) hlt hlj)
          rw [HSM.out k (k + 1 + j) hlt hlj] at H2k
          have H3k := Lib.hid (H3.out (k : Int) ((k + 1 + j : Nat) : Int))
          rw [HGE.out] at H3k
          have hgl := HGL.out (k : Int) ((k + 1 + j : Nat) : Int)
          have hwb := HSZ.out
          clear hG hnx hrs hrl hob
          generalize hb2 : k + 1 + j = m at *
          obtain ⟨GL, hGL⟩ : ∃ GL, grL A B zs S (k : Int) (m : Int) = GL := ⟨_, rfl⟩
          rw [hGL] at HNX H3k hgl
          obtain ⟨BP, hBP⟩ : ∃ BP, brdP A B S (k : Int) (m : Int) = BP := ⟨_, rfl⟩
          rw [hBP] at H2k H3k
          clear hGL hBP
          have hf := And.intro hI.f0 (And.intro hI.f1 hI.f2)
          go_upto_region 9 with fail
          have hB := bl_dr (bl0 wr)
          have hS := And.intro (cell_later hB hf.1) (And.intro (cell_later hB hf.2.1) (cell_later hB hf.2.2))
          refine (wpIn_wide (n := 11)).1 ?_
          refine ordS_begin (S := (fun W9 => W9.cell? ⟨w.heap.size, 0, none⟩ = some (.int .i64 A) ∧ W9.cell? ⟨w.heap.size, 1, none⟩ = some (.int .i64 B) ∧ W9.cell? ⟨w.heap.size, 2, none⟩ = some (.slice a zs.length cap))) (by kernel_rfl) hS (fun hH => ?_)
          first
            | (refine' ordS_take (i := 0) (oi := { dst := some 28, op := Op.move (Operand.tmp 6), type := 58, pos := _, after := #[], guard := none }) (v := _) rfl (by kernel_rfl) (by kernel_rfl) (by kernel_rfl) (by kernel_rfl) (fun _ _ _ h => h) (by assumption) (Or.inl ⟨by rfl, ?hy205⟩) (fun _ => rfl) ?rest205
               case hy205 => (intro w hSw; (try dsimp only at hSw); go_simp; try with_reducible rfl))
            | (refine ordS_take (i := 0) (oi := { dst := some 28, op := Op.move (Operand.tmp 6), type := 58, pos := _, after := #[], guard := none }) (v := undef) rfl (by kernel_rfl) (by kernel_rfl) (by kernel_rfl) (by kernel_rfl) (fun _ _ _ h => h) (by assumption) (Or.inr ⟨by rfl, rfl⟩) (fun _ => rfl) ?_)
          try simp only [Act.put, List.setIfInBounds_toArray, List.set_cons_zero, List.set_cons_succ]
          first
            | (refine' ordS_take (i := 1) (oi := { dst := some 29, op := Op.load 26 (Operand.tmp 2), type := 26, pos := _, after := #[], guard := none }) (v := _) rfl (by kernel_rfl) (by kernel_rfl) (by kernel_rfl) (by kernel_rfl) (fun _ _ _ h => h) (by assumption) (Or.inl ⟨by rfl, ?hy206⟩) (fun _ => rfl) ?rest206
               case hy206 => (intro w hSw; (try dsimp only at hSw); go_simp; try with_reducible rfl))
            | (refine ordS_take (i := 1) (oi := { dst := some 29, op := Op.load 26 (Operand.tmp 2), type := 26, pos := _, after := #[], guard := none }) (v := undef) rfl (by kernel_rfl) (by kernel_rfl) (by kernel_rfl) (by kernel_rfl) (fun _ _ _ h => h) (by assumption) (Or.inr ⟨by rfl, rfl⟩) (fun _ => rfl) ?_)
          try simp only [Act.put, List.setIfInBounds_toArray, List.set_cons_zero, List.set_cons_succ]
          first
            | (refine' ordS_take (i := 2) (oi := { dst := some 30, op := Op.move (Operand.tmp 5), type := 63, pos := _, after := #[], guard := none }) (v := _) rfl (by kernel_rfl) (by kernel_rfl) (by kernel_rfl) (by kernel_rfl) (fun _ _ _ h => h) (by assumption) (Or.inl ⟨by rfl, ?hy207⟩) (fun _ => rfl) ?rest207
               case hy207 => (intro w hSw; (try dsimp only at hSw); go_simp; try with_reducible rfl))
            | (refine ordS_take (i := 2) (oi := { dst := some 30, op := Op.move (Operand.tmp 5), type := 63, pos := _, after := #[], guard := none }) (v := undef) rfl (by kernel_rfl) (by kernel_rfl) (by kernel_rfl) (by kernel_rfl) (fun _ _ _ h => h) (by assumption) (Or.inr ⟨by rfl, rfl⟩) (fun _ => rfl) ?_)
          try simp only [Act.put, List.setIfInBounds_toArray, List.set_cons_zero, List.set_cons_succ]
          first
            | (refine' ordS_take (i := 3) (oi := { dst := some 31, op := Op.move (Operand.tmp 7), type := 3, pos := _, after := #[], guard := none }) (v := _) rfl (by kernel_rfl) (by kernel_rfl) (by kernel_rfl) (by kernel_rfl) (fun _ _ _ h => h) (by assumption) (Or.inl ⟨by rfl, ?hy208⟩) (fun _ => rfl) ?rest208
               case hy208 => (intro w hSw; (try dsimp only at hSw); go_simp; try with_reducible rfl))
            | (refine ordS_take (i := 3) (oi := { dst := some 31, op := Op.move (Operand.tmp 7), type := 3, pos := _, after := #[], guard := none }) (v := undef) rfl (by kernel_rfl) (by kernel_rfl) (by kernel_rfl) (by kernel_rfl) (fun _ _ _ h => h) (by assumption) (Or.inr ⟨by rfl, rfl⟩) (fun _ => rfl) ?_)
          try simp only [Act.put, List.setIfInBounds_toArray, List.set_cons_zero, List.set_cons_succ]
          first
            | (refine' ordS_take (i := 4) (oi := { dst := some 32, op := Op.move (Operand.tmp 8), type := 3, pos := _, after := #[], guard := none }) (v := _) rfl (by kernel_rfl) (by kernel_rfl) (by kernel_rfl) (by kernel_rfl) (fun _ _ _ h => h) (by assumption) (Or.inl ⟨by rfl, ?hy209⟩) (fun _ => rfl) ?rest209
               case hy209 => (intro w hSw; (try dsimp only at hSw); go_simp; try with_reducible rfl))
            | (refine ordS_take (i := 4) (oi := { dst := some 32, op := Op.move (Operand.tmp 8), type := 3, pos := _, after := #[], guard := none }) (v := undef) rfl (by kernel_rfl) (by kernel_rfl) (by kernel_rfl) (by kernel_rfl) (fun _ _ _ h => h) (by assumption) (Or.inr ⟨by rfl, rfl⟩) (fun _ => rfl) ?_)
          try simp only [Act.put, List.setIfInBounds_toArray, List.set_cons_zero, List.set_cons_succ]
          obtain ⟨W2, hW2⟩ : ∃ W2, wr.drew = W2 := ⟨_, rfl⟩
          rw [hW2] at hB hS
          rw [hW2]
          clear hW2 hH
          refine ordS_one (i := 5) (o := { dst := some 33, op := Op.call { callee := Callee.value (Operand.func 67), args := #[Operand.tmp 30, Operand.tmp 31, Operand.tmp 32], argTypes := #[63, 3, 3] }, type := 103, pos := _, after := #[{ on := 2, ground := Ground.data }, { on := 3, ground := Ground.data }, { on := 4, ground := Ground.data }], guard := none }) (by kernel_rfl) rfl (by rfl) (fun K hK => ?_)
          go_simp
          refine ⟨trivial, ?_⟩
          with_reducible refine (callsIn_wide.2 (H2k.out la lc _ ((HRW.out.below hI.bel).below hB))).mono ?_
          rintro e W3 ⟨ba, bc, rfl, hbp, hb3⟩
          replace hB := bl_tr hB hb3
          have hS3 := And.intro (cell_later hb3 hS.1) (And.intro (cell_later hb3 hS.2.1) (cell_later hb3 hS.2.2))
          refine hK _ _ hS3 ?_
          clear hK K hb3
          try simp only [Act.put, List.setIfInBounds_toArray, List.set_cons_zero, List.set_cons_succ]
          refine ordS_one (i := 6) (o := { dst := some 34, op := Op.call { callee := Callee.value (Operand.func 66), args := #[Operand.tmp 29, Operand.tmp 33], argTypes := #[26, 103] }, type := 58, pos := _, after := #[{ on := 1, ground := Ground.data }, { on := 5, ground := Ground.data }, { on := 5, ground := Ground.chain }], guard := none }) (by kernel_rfl) rfl (by rfl) (fun K hK => ?_)
          go_simp
          refine ⟨trivial, ?_⟩
          with_reducible refine (callsIn_wide.2 (H3k.out ba bc _ ((HR.out.below hI.bel).below hB) hbp)).mono ?_
          rintro e W4 ⟨ga, gc, rfl, hgc, hgr, hb4⟩
          replace hB := bl_tr hB hb4
          have hS4 := And.intro (cell_later hb4 hS3.1) (And.intro (cell_later hb4 hS3.2.1) (cell_later hb4 hS3.2.2))
          refine hK _ _ hS4 ?_
          clear hK K hb4
          try simp only [Act.put, List.setIfInBounds_toArray, List.set_cons_zero, List.set_cons_succ]
          have hown4 := own_later hown hB
          have hI4 := hI.below hB
          have hsz4 := hI4.bel.size
          refine ordS_append_rowR (i := 7) (o := { dst := some 35, op := Op.call { callee := Callee.builtin Builtin.append, args := #[Operand.tmp 28, Operand.tmp 34], argTypes := #[58, 58] }, type := 58, pos := _, after := #[{ on := 0, ground := Ground.data }, { on := 6, ground := Ground.data }, { on := 6, ground := Ground.chain }], guard := none }) _ (by kernel_rfl) rfl (by rfl) _ _ rfl w1.heap.size _ _ G rfl hown4 ga gc GL rfl hgr (by omega) hsz4 ?_
          intro v' w6 hown' hgrow
          have hI6 := hI4.grown hwb hown4 hgrow
          have hS6 := And.intro hI6.f0 (And.intro hI6.f1 hI6.f2)
          refine ⟨hS6, ?_⟩
          try simp only [Act.put, List.setIfInBounds_toArray, List.set_cons_zero, List.set_cons_succ]
          first
            | (refine' ordS_take (i := 8) (oi := { dst := some 6, op := Op.assign (Operand.tmp 35), type := 58, pos := _, after := #[{ on := 7, ground := Ground.data }, { on := 7, ground := Ground.chain }, { on := 0, ground := Ground.phase }, { on := 1, ground := Ground.phase }, { on := 2, ground := Ground.phase }, { on := 3, ground := Ground.phase }, { on := 4, ground := Ground.phase }, { on := 5, ground := Ground.phase }, { on := 6, ground := Ground.phase }, { on := 7, ground := Ground.phase }], guard := none }) (v := _) rfl (by kernel_rfl) (by kernel_rfl) (by kernel_rfl) (by kernel_rfl) (fun _ _ _ h => h) (by assumption) (Or.inl ⟨by rfl, ?hy210⟩) (fun _ => rfl) ?rest210
               case hy210 => (intro w hSw; (try dsimp only at hSw); go_simp; try with_reducible rfl))
            | (refine ordS_take (i := 8) (oi := { dst := some 6, op := Op.assign (Operand.tmp 35), type := 58, pos := _, after := #[{ on := 7, ground := Ground.data }, { on := 7, ground := Ground.chain }, { on := 0, ground := Ground.phase }, { on := 1, ground := Ground.phase }, { on := 2, ground := Ground.phase }, { on := 3, ground := Ground.phase }, { on := 4, ground := Ground.phase }, { on := 5, ground := Ground.phase }, { on := 6, ground := Ground.phase }, { on := 7, ground := Ground.phase }], guard := none }) (v := undef) rfl (by kernel_rfl) (by kernel_rfl) (by kernel_rfl) (by kernel_rfl) (fun _ _ _ h => h) (by assumption) (Or.inr ⟨by rfl, rfl⟩) (fun _ => rfl) ?_)
          try simp only [Act.put, List.setIfInBounds_toArray, List.set_cons_zero, List.set_cons_succ]
          refine ordS_done (by kernel_rfl) ?_
          rw [← List.length_append, ← HNX.out] at hown'
          have HI6 := Lib.hid hI6
          clear hI6 hI4 hI hown hown4 hgrow hgr hsz4 hB hS hS3 hS4 hS6 hf hbp hgc
          go_wp2
          go_roundw
          case rel => exact ⟨j + 1, by omega, by go_num, hown', HI6.out⟩
          case measure => simp [intOf]; omega
        · obtain rfl : j = n - (k + 1) := by omega
          have hge : ¬ ((k + 1 + (n - (k + 1)) : Nat) : Int) < (n : Int) := by omega
          rw [← HO2.out] at hown
          go_wp2
          go_roundw
          case rel => exact ⟨k + 1, by omega, by go_num, hown, hI⟩
          case measure => simp [intOf]; omega
    · obtain rfl : k = n := by omega
      have hge : ¬ (k : Int) < (k : Int) := by omega
      obtain ⟨vm, cm, rfl, hcm⟩ := own_shape hown
      have hrm := rowR_of_own hown
      have hA9 := bl_tr HA.out hI.bel
      have HRM := Lib.hid hrm
      clear hown hI hrm
      go_wp2
      go_ret
      exact ⟨vm, cm, rfl, HRM.out, hA9⟩
end Go.Proofs.YtbdfjdipjacamaaDoor
