/- A search by guess: a cell that costs more, or is a wall from now on: the mathematics. -/
import Derived.Test.YtldpajfendkhbaaDoorN1
namespace Go.Proofs.YtldpajfendkhbaaDoor
open Go.RowKit

/-- On a graph with more that is open, and that costs no more, nothing is further. -/
theorem far_less {G G' : Gph} {s : Nat} {d d' : Nat → Int} (hG : G.Ok) (h : Far G s d) (h' : Far G' s d') (hk : ∀ i, G.opn i → G'.opn i ∧ G'.k i ≤ G.k i) (hn : ∀ i, G.opn i → ∀ j ∈ G.nb i, j ∈ G'.nb i) : ∀ i, d' i ≤ d i := by
  have key : ∀ (n : Nat) (i : Nat), d i ≤ (n : Int) → d i ≠ 18446744073709551615 → d' i ≤ d i := by
    intro n
    induction n with
    | zero =>
      intro i hi hf
      by_cases e : i = s
      · subst e
        rw [h'.src (hk _ (h.opns hf)).1]
        exact h.ge0 _
      · obtain ⟨j, h1, h2, h3, h4⟩ := h.of i e hf
        have := hG.pos1 (h.opn hf)
        have := h.ge0 j
        omega
    | succ n ih =>
      intro i hi hf
      by_cases e : i = s
      · subst e
        rw [h'.src (hk _ (h.opns hf)).1]
        exact h.ge0 _
      · obtain ⟨j, h1, h2, h3, h4⟩ := h.of i e hf
        have p1 := hG.pos1 (h.opn hf)
        have p2 := ih j (by omega) h3
        have p3 := h.bd j
        have p4 := hk i (h.opn hf)
        have p5 := h'.le i j p4.1 (hk j h2).1 (hn i (h.opn hf) j h1) (by omega)
        omega
  intro i
  by_cases hf : d i = 18446744073709551615
  · rw [hf]; exact h'.le_inf i
  · have := h.ge0 i
    exact key (d i).toNat i (by omega) hf
/-- No cell of a path is further than along it. -/
theorem path_far {A H : Int} {zs : List Int} {P : List IC} {d : Nat → Int} (hm : mayB A H = true) (hn : (zs.length : Int) = A * H) (hz : AllH zs) (hP : IsPath A H zs P) (hd : Far (gph A H zs) (numN A (cK P 0)) d) :
    ∀ k, k < P.length → d (numN A (cK P k)) ≠ 18446744073709551615 ∧ d (numN A (cK P k)) ≤ costS A zs (P.take (k + 1)).tail := by
  have hopn : ∀ k, k < P.length → (gph A H zs).opn (numN A (cK P k)) := fun k hk => by
    have ho := hP.on k hk
    have h1 := numN_int ho
    exact ⟨by show numN A (cK P k) < zs.length; omega, hP.cost k hk⟩
  intro k
  induction k with
  | zero =>
    intro hk
    have h0 := hd.src (hopn 0 hk)
    rw [h0]
    refine ⟨by decide, ?_⟩
    have : (P.take (0 + 1)).tail = [] := by
      cases P with
      | nil => rfl
      | cons x l => simp
    rw [this]
    exact Int.le_refl _
  | succ k ih =>
    intro hk
    obtain ⟨i1, i2⟩ := ih (by omega)
    have ho := hP.on k (by omega)
    have ho2 := hP.on (k + 1) hk
    have hb := hP.bes k hk
    have hst := step_bes hb
    have hbr : 0 ≤ besI (cK P k) (cK P (k + 1)) ∧ besI (cK P k) (cK P (k + 1)) ≤ 3 := by
      unfold besI at hb ⊢
      unfold dirI at hb ⊢
      split
      · omega
      · rename_i q1
        rw [if_neg q1] at hb
        split
        · omega
        · rename_i q2
          rw [if_neg q2] at hb
          split
          · omega
          · rename_i q3
            rw [if_neg q3] at hb
            split
            · omega
            · rename_i q4
              rw [if_neg q4] at hb
              exact absurd rfl hb
    have hkA : ((numN A (cK P k) : Nat) : Int) < A * H := by have := numN_int ho; omega
    have hnb : numN A (cK P (k + 1)) ∈ nbL A H (numN A (cK P k)) := mem_nbL.2 ⟨besI (cK P k) (cK P (k + 1)), hbr.1, hbr.2, by rw [cellN_num ho, hst]; exact ho2, by rw [cellN_num ho, hst]⟩
    have hle := hd.le _ _ (hopn (k + 1) hk) (hopn k (by omega)) (nbL_sym hm hkA hnb) i1
    have hkk := (gph_ok hm hn hz).pos (numN A (cK P (k + 1)))
    have hbd := hd.bd (numN A (cK P k))
    refine ⟨by omega, ?_⟩
    have ht : (P.take (k + 1 + 1)).tail = (P.take (k + 1)).tail ++ [cK P (k + 1)] := by
      have h1 : P.take (k + 1 + 1) = P.take (k + 1) ++ [cK P (k + 1)] := by rw [List.take_add_one, cK_at hk]; rfl
      rw [h1, List.tail_append_of_ne_nil]
      intro q
      have := congrArg List.length q
      rw [List.length_take, List.length_nil] at this
      omega
    rw [ht]
    unfold costS at i2 ⊢
    rw [List.map_append, List.sum_append]
    have hlast : ([cK P (k + 1)].map (costAt A zs)).sum = (gph A H zs).k (numN A (cK P (k + 1))) := by
      simp only [List.map_cons, List.map_nil, List.sum_cons, List.sum_nil]
      show zs.getD (numN A (cK P (k + 1))) 0 + 0 = zs.getD (numN A (cK P (k + 1))) 0
      omega
    rw [hlast]
    omega
theorem getD_set {zs : List Int} {n i : Nat} {v : Int} (hn : n < zs.length) : (zs.set n v).getD i 0 = if i = n then v else zs.getD i 0 := by
  rw [List.getD_eq_getElem?_getD, List.getD_eq_getElem?_getD, List.getElem?_set]
  by_cases e : i = n
  · subst e; simp [hn]
  · rw [if_neg (fun q => e q.symm), if_neg e]
theorem allH_set {zs : List Int} {n : Nat} {v : Int} (hz : AllH zs) (hv : v = 0 ∨ zs.getD n 0 ≠ 0 ∧ zs.getD n 0 ≤ v ∧ v ≤ 65535) : AllH (zs.set n v) := by
  intro z hz'
  rcases List.mem_or_eq_of_mem_set hz' with h | h
  · exact hz z h
  · subst h
    rcases hv with rfl | ⟨_, h3, h4⟩
    · exact ⟨by decide, by decide⟩
    · have := getD_in hz n
      exact ⟨by omega, by omega⟩
theorem more_cases {A H : Int} {a b : Option Addr} {zs : List Int} {F T : IC} {w w' : World} {n : Nat} {v : Int} (hr : RowH w a zs) (hz : AllH zs) (hst : Stp w) (hr2 : RowH w' b (zs.set n v)) (hst2 : Stp w') (hnl : n < zs.length) (hv : v = 0 ∨ zs.getD n 0 ≠ 0 ∧ zs.getD n 0 ≤ v ∧ v ≤ 65535) {E1 C1 M1 E2 C2 M2 : Int} {P1 P2 : List IC} (h1 : seekT A H zs F T zs.length = ⟨E1, P1, C1, M1⟩) (h2 : seekT A H (zs.set n v) F T zs.length = ⟨E2, P2, C2, M2⟩) :
    (E1 ≠ 0 → E2 = E1 ∧ P2 = []) ∧ (E1 = 0 → (1 ≤ A ∧ (n : Int) < A * H) ∧ (cellN A n ∉ P1 → E2 = 0 ∧ C2 = C1) ∧ (E2 = 0 ∧ C1 ≤ C2 ∨ E2 = 22 ∧ v = 0 ∧ P2 = [])) := by
  have hlen : (zs.set n v).length = zs.length := List.length_set
  have hz2 : AllH (zs.set n v) := by
    intro z hz'
    rcases List.mem_or_eq_of_mem_set hz' with h | h
    · exact hz z h
    · subst h
      rcases hv with rfl | ⟨_, h3, h4⟩
      · exact ⟨by decide, by decide⟩
      · have := getD_in hz n
        exact ⟨by omega, by omega⟩
  have hlen' : ((zs.set n v).length : Int) = (zs.length : Int) := by rw [hlen]
  by_cases hE : errS A H zs.length F T zs.length = 0
  · obtain ⟨q1, q2, q3, _⟩ := errS_ok hE
    obtain ⟨hm, hn⟩ := chkF_may q1
    have hn2 : ((zs.set n v).length : Int) = A * H := by rw [hlen]; exact hn
    obtain ⟨d, _, hd⟩ := far_ex A H a zs.length zs F w hr hz hst q1 q2
    obtain ⟨d', _, hd'⟩ := far_ex A H b (zs.set n v).length (zs.set n v) F w' hr2 hz2 hst2 (by rw [hlen]; exact q1) q2
    have e1 := seek_ends (budget := ((zs.length : Nat) : Int)) hm hn hz q2 q3 (by omega) hd
    have e2 := seek_ends (budget := ((zs.length : Nat) : Int)) hm hn2 hz2 q2 q3 (by omega) hd'
    rw [h1] at e1
    rw [h2] at e2
    have hA1 : 1 ≤ A := (mayB_iff.1 hm).1
    have hnA : (n : Int) < A * H := by omega
    have hmono := far_less (gph_ok hm hn2 hz2) hd' hd (fun i hi => by
      obtain ⟨o1, o2⟩ := hi
      have o1' : i < (zs.set n v).length := o1
      rw [hlen] at o1'
      have o2' : (zs.set n v).getD i 0 ≠ 0 := o2
      rw [getD_set hnl] at o2'
      have ek : (gph A H (zs.set n v)).k i = if i = n then v else zs.getD i 0 := getD_set hnl
      by_cases e : i = n
      · subst e
        rw [if_pos rfl] at o2' ek
        rcases hv with h | ⟨h3, h4, _⟩
        · exact absurd h o2'
        · exact ⟨⟨o1', h3⟩, by rw [ek]; exact h4⟩
      · rw [if_neg e] at o2' ek
        exact ⟨⟨o1', o2'⟩, by rw [ek]; exact Int.le_refl _⟩) (fun i _ j hj => hj)
    have hgo := hmono (numN A T)
    have hbd := hd.bd (numN A T)
    have hbd' := hd'.bd (numN A T)
    rcases e1 with ⟨e1, i1⟩ | g1 | ⟨_, i1⟩
    · cases e1
      refine ⟨fun _ => ?_, fun q => (by cases q)⟩
      rcases e2 with ⟨e2, _⟩ | g2 | ⟨_, i2⟩
      · cases e2
        exact ⟨rfl, rfl⟩
      · have := g2.fin
        omega
      · rw [hlen] at i2
        omega
    · have c1 : C1 = atD d (numN A T) := g1.C
      refine ⟨fun q => absurd g1.E q, fun _ => ⟨⟨hA1, hnA⟩, ?_⟩⟩
      have hP : IsPath A H zs P1 := g1.path
      have hF0 : cK P1 0 = F := g1.first
      have hT0 : cK P1 (P1.length - 1) = T := g1.last
      have hcs : costS A zs P1.tail = C1 := g1.cost
      have hpos := hP.pos
      have htk : P1.take (P1.length - 1 + 1) = P1 := by rw [show P1.length - 1 + 1 = P1.length by omega, List.take_length]
      have hnum : ∀ k, k < P1.length → ((numN A (cK P1 k) : Nat) : Int) < A * H := fun k hk => by have := numN_int (hP.on k hk); omega
      -- the path is one as well, if no cell of it is a wall now
      have hpath : (∀ k, k < P1.length → (zs.set n v).getD (numN A (cK P1 k)) 0 ≠ 0) → atD d' (numN A T) ≠ 18446744073709551615 ∧ atD d' (numN A T) ≤ costS A (zs.set n v) P1.tail := fun hop => by
        have hP2 : IsPath A H (zs.set n v) P1 := ⟨hP.pos, hP.on, hP.bes, fun k hk => hop k hk⟩
        have := path_far hm hn2 hz2 hP2 (by rw [hF0]; exact hd') (P1.length - 1) (by omega)
        rw [hT0, htk] at this
        exact this
      have hcons : (cellN A n ∉ P1) → (∀ k, k < P1.length → numN A (cK P1 k) ≠ n) := fun hno k hk q => by
        refine hno ?_
        rw [← q, cellN_num (hP.on k hk)]
        exact List.mem_of_getElem? (cK_at hk)
      refine ⟨fun hno => ?_, ?_⟩
      · have hne := hcons hno
        have hp := hpath (fun k hk => by
          rw [getD_set hnl, if_neg (hne k hk)]
          exact hP.cost k hk)
        have hsame : costS A (zs.set n v) P1.tail = costS A zs P1.tail := by
          unfold costS
          congr 1
          refine List.map_congr_left fun c hc => ?_
          obtain ⟨k, hk⟩ := List.getElem?_of_mem (List.mem_of_mem_tail hc)
          have hkl : k < P1.length := (List.getElem?_eq_some_iff.1 hk).1
          rw [cK_at hkl] at hk
          cases hk
          show (zs.set n v).getD (numN A (cK P1 k)) 0 = zs.getD (numN A (cK P1 k)) 0
          rw [getD_set hnl, if_neg (hne k hkl)]
        rw [hsame, hcs] at hp
        rcases e2 with ⟨_, i2⟩ | g2 | ⟨_, i2⟩
        · exact absurd i2 hp.1
        · have c2 : C2 = atD d' (numN A T) := g2.C
          exact ⟨g2.E, by omega⟩
        · rw [hlen] at i2
          omega
      · rcases e2 with ⟨e2, i2⟩ | g2 | ⟨_, i2⟩
        · cases e2
          refine .inr ⟨rfl, ?_, rfl⟩
          apply Classical.byContradiction
          intro hv0
          rcases hv with h | ⟨h3, h4, _⟩
          · exact hv0 h
          · refine (hpath (fun k hk => ?_)).1 i2
            rw [getD_set hnl]
            split
            · exact hv0
            · exact hP.cost k hk
        · have c2 : C2 = atD d' (numN A T) := g2.C
          exact .inl ⟨g2.E, by omega⟩
        · rw [hlen] at i2
          omega
    · omega
  · have hE2 : errS A H (zs.set n v).length F T zs.length ≠ 0 := by rw [hlen']; exact hE
    rw [seek_err hE] at h1
    rw [seek_err hE2] at h2
    cases h1; cases h2
    exact ⟨fun _ => ⟨by rw [hlen'], rfl⟩, fun q => absurd q hE⟩
end Go.Proofs.YtldpajfendkhbaaDoor
