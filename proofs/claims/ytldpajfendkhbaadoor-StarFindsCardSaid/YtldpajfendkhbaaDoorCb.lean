/- Least costs: what holds while things wait, and that what is told in the end is how far all are. -/
import Derived.Test.YtldpajfendkhbaaDoorCa
import Derived.Test.YtldpajfendkhbaaDoorH1
namespace Go.Proofs.YtldpajfendkhbaaDoor

/-- One that was taken: told, and not waiting. -/
def taken (ds : List Int) (m : List Th) (j : Nat) : Prop := atD ds j ≠ 18446744073709551615 ∧ ∀ t ∈ m, t.id ≠ (j : Int)
/-- What holds of what is told, and of what waits: L is the last key that was taken, E the steps that are not looked at yet. -/
structure Spr (G : Gph) (s : Nat) (ds : List Int) (m : List Th) (L : Int) (E : Nat → Nat → Prop) : Prop where
  len : ds.length = G.N
  val : ∀ i, atD ds i = 18446744073709551615 ∨ 0 ≤ atD ds i ∧ atD ds i ≤ 65535 * ((G.N : Int) - (untold ds : Int))
  op : ∀ i, atD ds i ≠ 18446744073709551615 → G.opn i
  w : ∀ t ∈ m, ∃ i : Nat, t = ⟨(i : Int), atD ds i, 0, 0, 0⟩ ∧ atD ds i ≠ 18446744073709551615 ∧ L ≤ atD ds i
  nd : (m.map Th.id).Nodup
  src : G.opn s → atD ds s = 0
  nos : ¬ G.opn s → ∀ i, atD ds i = 18446744073709551615
  pre : ∀ i, i ≠ s → atD ds i ≠ 18446744073709551615 → ∃ j, j ∈ G.nb i ∧ taken ds m j ∧ atD ds i = atD ds j + G.k i
  rel : ∀ j i, taken ds m j → G.opn i → i ∈ G.nb j → ¬ E j i → atD ds i ≠ 18446744073709551615 ∧ atD ds i ≤ atD ds j + G.k i
  low : ∀ j, taken ds m j → atD ds j ≤ L
  few : untold ds + m.length ≤ G.N

theorem untold_rep (n : Nat) : untold (List.replicate n 18446744073709551615) = n := by
  unfold untold
  rw [List.countP_replicate]
  simp
theorem atD_rep (n i : Nat) : atD (List.replicate n 18446744073709551615) i = 18446744073709551615 := by
  unfold atD
  rw [List.getD_eq_getElem?_getD, List.getElem?_replicate]
  split <;> rfl
section
variable {G : Gph} {s : Nat} {ds : List Int} {m : List Th} {L : Int} {E : Nat → Nat → Prop}
theorem spr_none (h : ¬ G.opn s) : Spr G s (List.replicate G.N 18446744073709551615) [] 0 (fun _ _ => False) where
  len := by simp
  val i := .inl (atD_rep _ _)
  op i hi := absurd (atD_rep _ _) hi
  w t ht := by cases ht
  nd := List.nodup_nil
  src ho := absurd ho h
  nos _ i := atD_rep _ _
  pre i _ hi := absurd (atD_rep _ _) hi
  rel j i hj := absurd (atD_rep _ _) hj.1
  low j hj := absurd (atD_rep _ _) hj.1
  few := by rw [untold_rep]; simp
theorem spr_one (h : G.opn s) : Spr G s ((List.replicate G.N 18446744073709551615).set s 0) [⟨(s : Int), 0, 0, 0, 0⟩] 0 (fun _ _ => False) := by
  have hl : s < (List.replicate G.N (18446744073709551615 : Int)).length := by simpa using h.1
  have ha : ∀ i, atD ((List.replicate G.N 18446744073709551615).set s 0) i = if i = s then 0 else 18446744073709551615 := fun i => by
    rw [atD_set _ _ _ _ hl, atD_rep]
  have hu := untold_set (v := 0) hl (atD_rep _ _) (by decide)
  rw [untold_rep] at hu
  have hnt : ∀ j, ¬ taken ((List.replicate G.N 18446744073709551615).set s 0) [⟨(s : Int), 0, 0, 0, 0⟩] j := fun j hj => by
    have h1 := hj.1
    rw [ha] at h1
    by_cases e : j = s
    · exact hj.2 _ (List.mem_singleton.2 rfl) (by rw [e])
    · rw [if_neg e] at h1; exact h1 rfl
  refine ⟨by simp, fun i => ?_, fun i hi => ?_, fun t ht => ?_, by simp, fun _ => by rw [ha, if_pos rfl], fun q => absurd h q, fun i hi hf => ?_, fun j i hj => absurd hj (hnt j), fun j hj => absurd hj (hnt j), by simp; omega⟩
  · rw [ha]
    by_cases e : i = s
    · rw [if_pos e]; exact .inr ⟨by decide, by omega⟩
    · rw [if_neg e]; exact .inl rfl
  · rw [ha] at hi
    by_cases e : i = s
    · rw [e]; exact h
    · rw [if_neg e] at hi; exact absurd rfl hi
  · obtain rfl := List.mem_singleton.1 ht
    refine ⟨s, ?_, ?_, ?_⟩
    · rw [ha, if_pos rfl]
    · rw [ha, if_pos rfl]; decide
    · rw [ha, if_pos rfl]; decide
  · rw [ha, if_neg hi] at hf; exact absurd rfl hf
/-- What waits is told. -/
theorem Spr.told (h : Spr G s ds m L E) {t : Th} (ht : t ∈ m) {i : Nat} (e : t.id = i) : atD ds i ≠ 18446744073709551615 := by
  obtain ⟨j, h1, h2, _⟩ := h.w t ht
  rw [h1] at e
  obtain rfl : j = i := by
    have e' : (j : Int) = (i : Int) := e
    omega
  exact h2
/-- One is taken. -/
theorem Spr.pop (h : Spr G s ds m L (fun _ _ => False)) (hm : m ≠ []) : ∃ a : Nat, firstT m = ⟨(a : Int), atD ds a, 0, 0, 0⟩ ∧ a < G.N ∧ Spr G s ds (popM m) (atD ds a) (fun j _ => j = a) ∧ taken ds (popM m) a ∧ untold ds + (popM m).length + 1 = untold ds + m.length := by
  obtain ⟨h1, h2⟩ := firstT_least m hm
  obtain ⟨a, e1, e2, e3⟩ := h.w _ h1
  have eid : (firstT m).id = a := by rw [e1]
  have hsub : ∀ t ∈ popM m, t ∈ m ∧ t.id ≠ (a : Int) := fun t ht => by
    unfold popM at ht
    rw [List.mem_filter, eid] at ht
    exact ⟨ht.1, of_decide_eq_true ht.2⟩
  have hdn : ∀ j, taken ds (popM m) j → j = a ∨ taken ds m j := fun j hj => by
    by_cases e : j = a
    · exact .inl e
    · refine .inr ⟨hj.1, fun t ht q => hj.2 t ?_ q⟩
      unfold popM
      rw [List.mem_filter, eid]
      exact ⟨ht, by simp [q]; omega⟩
  have hup : ∀ j, taken ds m j → taken ds (popM m) j := fun j hj => ⟨hj.1, fun t ht => hj.2 t (hsub t ht).1⟩
  have hlen : (popM m).length + 1 = m.length := by
    have hnd := h.nd
    have h3 : ∀ l : List Th, (l.map Th.id).Nodup → firstT m ∈ l → (l.filter (fun x => decide (x.id ≠ (firstT m).id))).length + 1 = l.length := by
      intro l
      induction l with
      | nil => intro _ h; cases h
      | cons x l ih =>
        intro hn hx
        rw [List.map_cons, List.nodup_cons] at hn
        by_cases e : x.id = (firstT m).id
        · have : l.filter (fun x => decide (x.id ≠ (firstT m).id)) = l := by
            rw [List.filter_eq_self]
            intro y hy
            have hne : y.id ≠ (firstT m).id := fun q => hn.1 (List.mem_map.2 ⟨y, hy, by rw [q, e]⟩)
            simpa using hne
          rw [List.filter_cons, if_neg (by simp [e]), this]
          rfl
        · rcases List.mem_cons.1 hx with q | hx
          · exact absurd (by rw [q]) e
          · rw [List.filter_cons, if_pos (by simp [e]), List.length_cons, ih hn.2 hx]
            rfl
    exact h3 m hnd h1
  refine ⟨a, e1, (h.op a e2).1, ⟨h.len, h.val, h.op, fun t ht => ?_, ?_, h.src, h.nos, fun i hi hf => ?_, fun j i hj ho hi hE => ?_, fun j hj => ?_, by have := h.few; omega⟩, ⟨e2, fun t ht => (hsub t ht).2⟩, by omega⟩
  · obtain ⟨i, q1, q2, q3⟩ := h.w t (hsub t ht).1
    refine ⟨i, q1, q2, ?_⟩
    have := h2 t (hsub t ht).1
    rw [← Bool.not_eq_true, aheadT_iff, q1, e1] at this
    simp only at this
    omega
  · exact (h.nd).sublist ((List.filter_sublist).map _)
  · obtain ⟨j, q1, q2, q3⟩ := h.pre i hi hf
    exact ⟨j, q1, hup j q2, q3⟩
  · rcases hdn j hj with e | hj
    · exact absurd e hE
    · exact h.rel j i hj ho hi (fun q => q)
  · rcases hdn j hj with e | hj
    · rw [e]; exact Int.le_refl _
    · have := h.low j hj
      omega
/-- One beside the one that was taken is told. -/
theorem Spr.reach (hG : G.Ok) {a b : Nat} (h : Spr G s ds m (atD ds a) E) (ha : taken ds m a) (hb : G.opn b) (hn : b ∈ G.nb a) :
    (atD ds b ≠ 18446744073709551615 → Spr G s ds m (atD ds a) (fun j i => E j i ∧ ¬ (j = a ∧ i = b))) ∧
    (atD ds b = 18446744073709551615 → Spr G s (ds.set b (atD ds a + G.k b)) (m ++ [⟨(b : Int), atD ds a + G.k b, 0, 0, 0⟩]) (atD (ds.set b (atD ds a + G.k b)) a) (fun j i => E j i ∧ ¬ (j = a ∧ i = b))
      ∧ taken (ds.set b (atD ds a + G.k b)) (m ++ [⟨(b : Int), atD ds a + G.k b, 0, 0, 0⟩]) a ∧ atD (ds.set b (atD ds a + G.k b)) a = atD ds a ∧ untold (ds.set b (atD ds a + G.k b)) + 1 = untold ds ∧ findT m b = none) := by
  have va := h.val a
  have hkb := hG.pos1 hb
  have hbig := hG.big
  constructor
  · intro hf
    refine ⟨h.len, h.val, h.op, h.w, h.nd, h.src, h.nos, h.pre, fun j i hj ho hi hE => ?_, h.low, h.few⟩
    by_cases e : j = a ∧ i = b
    · obtain ⟨rfl, rfl⟩ := e
      refine ⟨hf, ?_⟩
      by_cases q : i = s
      · subst q
        have := h.src hb
        have := h.val j
        omega
      · obtain ⟨c, q1, q2, q3⟩ := h.pre i q hf
        have := h.low c q2
        omega
    · exact h.rel j i hj ho hi (fun q => hE ⟨q, e⟩)
  · intro hf
    have hbl : b < ds.length := by rw [h.len]; exact hb.1
    have hul := untold_le ds
    rw [h.len] at hul
    have hta := ha.1
    have hne : atD ds a + G.k b ≠ 18446744073709551615 := by omega
    have hu := untold_set hbl hf hne
    have hab : a ≠ b := fun e => ha.1 (by rw [e]; exact hf)
    generalize hv : atD ds a + G.k b = v at *
    have hs : ∀ i, atD (ds.set b v) i = if i = b then v else atD ds i := fun i => atD_set _ _ _ _ hbl
    have hsa : atD (ds.set b v) a = atD ds a := by rw [hs, if_neg hab]
    have hnm : ∀ t ∈ m, t.id ≠ (b : Int) := fun t ht e => h.told ht e hf
    have hdn : ∀ j, taken (ds.set b v) (m ++ [⟨(b : Int), v, 0, 0, 0⟩]) j ↔ taken ds m j := fun j => by
      by_cases e : j = b
      · constructor
        · intro q; exact absurd (by rw [e]) (q.2 ⟨(b : Int), v, 0, 0, 0⟩ (by simp))
        · intro q; exact absurd (by rw [e]; exact hf) q.1
      · unfold taken
        rw [hs, if_neg e]
        refine and_congr Iff.rfl ⟨fun q t ht => q t (by simp [ht]), fun q t ht => ?_⟩
        rcases List.mem_append.1 ht with ht | ht
        · exact q t ht
        · rw [List.mem_singleton.1 ht]
          intro e'
          have e2 : (b : Int) = (j : Int) := e'
          exact e (by omega)
    have hjb : ∀ j, taken ds m j → j ≠ b := fun j hj e => hj.1 (by rw [e]; exact hf)
    refine ⟨⟨by rw [List.length_set]; exact h.len, fun i => ?_, fun i hi => ?_, fun t ht => ?_, ?_, fun ho => ?_, fun hno i => ?_, fun i hi hfi => ?_, fun j i hj ho hi hE => ?_, fun j hj => ?_, ?_⟩, (hdn a).2 ha, hsa, hu, findT_none hnm⟩
    · rw [hs]
      by_cases e : i = b
      · rw [if_pos e]
        refine .inr ⟨by omega, by omega⟩
      · rw [if_neg e]
        have := h.val i
        omega
    · rw [hs] at hi
      by_cases e : i = b
      · rw [e]; exact hb
      · rw [if_neg e] at hi; exact h.op i hi
    · rcases List.mem_append.1 ht with ht | ht
      · obtain ⟨i, q1, q2, q3⟩ := h.w t ht
        have e : i ≠ b := fun e => q2 (by rw [e]; exact hf)
        refine ⟨i, by rw [hs, if_neg e]; exact q1, by rw [hs, if_neg e]; exact q2, by rw [hsa, hs, if_neg e]; exact q3⟩
      · rw [List.mem_singleton.1 ht]
        refine ⟨b, by rw [hs, if_pos rfl], by rw [hs, if_pos rfl]; exact hne, by rw [hsa, hs, if_pos rfl]; omega⟩
    · rw [List.map_append, List.nodup_append]
      refine ⟨h.nd, by simp, fun x hx y hy => ?_⟩
      obtain ⟨t, ht, rfl⟩ := List.mem_map.1 hx
      simp only [List.map_cons, List.map_nil, List.mem_singleton] at hy
      rw [hy]
      exact hnm t ht
    · have := h.src ho
      have : s ≠ b := fun e => by rw [e] at this; omega
      rw [hs, if_neg this]; assumption
    · exact absurd (h.nos hno a) ha.1
    · by_cases e : i = b
      · subst e
        refine ⟨a, hG.sym a i (h.op a ha.1).1 hn, (hdn a).2 ha, ?_⟩
        rw [hs, if_pos rfl, hsa]; exact hv.symm
      · rw [hs, if_neg e] at hfi
        obtain ⟨j, q1, q2, q3⟩ := h.pre i hi hfi
        exact ⟨j, q1, (hdn j).2 q2, by rw [hs, hs, if_neg e, if_neg (hjb j q2)]; exact q3⟩
    · replace hj := (hdn j).1 hj
      rw [hs, hs, if_neg (hjb j hj)]
      by_cases e : i = b
      · subst e
        rw [if_pos rfl]
        refine ⟨hne, ?_⟩
        by_cases hE2 : E j i
        · have : j = a := by
            apply Classical.byContradiction
            intro q
            exact hE ⟨hE2, fun r => q r.1⟩
          rw [this, hv]
          exact Int.le_refl _
        · exact absurd hf (h.rel j i hj ho hi hE2).1
      · rw [if_neg e]
        exact h.rel j i hj ho hi (fun q => hE ⟨q, fun r => e r.2⟩)
    · replace hj := (hdn j).1 hj
      rw [hs, if_neg (hjb j hj), hsa]
      exact h.low j hj
    · rw [List.length_append]
      have := h.few
      simp
      omega
/-- Fewer are looked at. -/
theorem Spr.weak {E' : Nat → Nat → Prop} (h : Spr G s ds m L E) (hE : ∀ j i, taken ds m j → G.opn i → i ∈ G.nb j → E j i → E' j i) : Spr G s ds m L E' :=
  ⟨h.len, h.val, h.op, h.w, h.nd, h.src, h.nos, h.pre, fun j i hj ho hi hn => h.rel j i hj ho hi (fun q => hn (hE j i hj ho hi q)), h.low, h.few⟩
/-- None waits. -/
theorem Spr.far (hG : G.Ok) (h : Spr G s ds [] L (fun _ _ => False)) : Far G s (atD ds) := by
  have ht : ∀ i, atD ds i ≠ 18446744073709551615 → taken ds [] i := fun i hi => ⟨hi, fun t ht => by cases ht⟩
  have hbig := hG.big
  refine ⟨fun i => ?_, fun i hi => ?_, h.src, fun i j hi hj hn hf => ?_, fun i hi hf => ?_, h.nos⟩
  · have := h.val i
    omega
  · apply Classical.byContradiction
    intro q
    exact hi (h.op i q)
  · exact (h.rel j i (ht j hf) hi (hG.sym i j hi.1 hn) (fun q => q)).2
  · obtain ⟨j, q1, q2, q3⟩ := h.pre i hi hf
    exact ⟨j, q1, h.op j q2.1, q2.1, q3⟩
end
end Go.Proofs.YtldpajfendkhbaaDoor
