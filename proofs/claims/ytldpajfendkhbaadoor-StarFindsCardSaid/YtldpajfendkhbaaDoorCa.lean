/- Least costs: what is told of all numbers of a graph, that it is one alone; there and back; on a greater graph; by way of a third one. -/
import Derived.Test.YtldpajfendkhbaaDoorAb
namespace Go.Proofs.YtldpajfendkhbaaDoor

/-- Numbers below N, each with a cost (0: a wall), and those beside it, in their order. -/
structure Gph where
  N : Nat
  k : Nat → Int
  nb : Nat → List Nat
structure Gph.Ok (G : Gph) : Prop where
  lt : ∀ i, i < G.N → ∀ j ∈ G.nb i, j < G.N
  sym : ∀ i j, i < G.N → j ∈ G.nb i → i ∈ G.nb j
  pos : ∀ i, 0 ≤ G.k i ∧ G.k i ≤ 65535
  big : G.N ≤ 65536
def Gph.opn (G : Gph) (i : Nat) : Prop := i < G.N ∧ G.k i ≠ 0
theorem Gph.Ok.pos1 {G : Gph} (h : G.Ok) {i : Nat} (hi : G.opn i) : 1 ≤ G.k i ∧ G.k i ≤ 65535 := by
  have h1 := h.pos i
  have h2 := hi.2
  omega
/-- How far all are from s. -/
structure Far (G : Gph) (s : Nat) (d : Nat → Int) : Prop where
  bd : ∀ i, d i = 18446744073709551615 ∨ 0 ≤ d i ∧ d i ≤ 4294967296
  wall : ∀ i, ¬ G.opn i → d i = 18446744073709551615
  src : G.opn s → d s = 0
  le : ∀ i j, G.opn i → G.opn j → j ∈ G.nb i → d j ≠ 18446744073709551615 → d i ≤ d j + G.k i
  of : ∀ i, i ≠ s → d i ≠ 18446744073709551615 → ∃ j, j ∈ G.nb i ∧ G.opn j ∧ d j ≠ 18446744073709551615 ∧ d i = d j + G.k i
  nos : ¬ G.opn s → ∀ i, d i = 18446744073709551615
section
variable {G G' : Gph} {s t : Nat} {d d' e : Nat → Int}
theorem Far.le_inf (h : Far G s d) (i : Nat) : d i ≤ 18446744073709551615 := by
  rcases h.bd i with h | h <;> omega
theorem Far.ge0 (h : Far G s d) (i : Nat) : 0 ≤ d i := by
  rcases h.bd i with h | h <;> omega
theorem Far.opn (h : Far G s d) {i : Nat} (hi : d i ≠ 18446744073709551615) : G.opn i := by
  apply Classical.byContradiction
  intro hn
  exact hi (h.wall i hn)
theorem Far.opns (h : Far G s d) {i : Nat} (hi : d i ≠ 18446744073709551615) : G.opn s := by
  apply Classical.byContradiction
  intro hn
  exact hi (h.nos hn i)
/-- On a graph with more that is open nothing is further. -/
theorem Far.mono (hG : G.Ok) (h : Far G s d) (h' : Far G' s d') (hk : ∀ i, G.opn i → G'.opn i ∧ G'.k i = G.k i) (hn : ∀ i, G.opn i → ∀ j ∈ G.nb i, j ∈ G'.nb i) : ∀ i, d' i ≤ d i := by
  have key : ∀ (n : Nat) (i : Nat), d i ≤ (n : Int) → d i ≠ 18446744073709551615 → d' i ≤ d i := by
    intro n
    induction n with
    | zero =>
      intro i hi hf
      by_cases e : i = s
      · subst e
        rw [h'.src (hk _ (h.opns hf)).1]
        exact h.ge0 _
      · obtain ⟨j, h1, h2, h3, h4⟩ := h.of i e hf
        have := hG.pos1 (h.opn hf)
        have := h.ge0 j
        omega
    | succ n ih =>
      intro i hi hf
      by_cases e : i = s
      · subst e
        rw [h'.src (hk _ (h.opns hf)).1]
        exact h.ge0 _
      · obtain ⟨j, h1, h2, h3, h4⟩ := h.of i e hf
        have p1 := hG.pos1 (h.opn hf)
        have p2 := ih j (by omega) h3
        have p3 := h.bd j
        have p4 := hk i (h.opn hf)
        have p5 := h'.le i j p4.1 (hk j h2).1 (hn i (h.opn hf) j h1) (by omega)
        omega
  intro i
  by_cases hf : d i = 18446744073709551615
  · rw [hf]; exact h'.le_inf i
  · have := h.ge0 i
    exact key (d i).toNat i (by omega) hf
/-- What is told, is one alone. -/
theorem Far.one (hG : G.Ok) (h : Far G s d) (h' : Far G s d') (i : Nat) : d i = d' i := by
  have h1 := h.mono hG h' (fun i h => ⟨h, rfl⟩) (fun i _ j hj => hj) i
  have h2 := h'.mono hG h (fun i h => ⟨h, rfl⟩) (fun i _ j hj => hj) i
  omega
/-- By way of a third one. -/
theorem Far.three (hG : G.Ok) (h : Far G s d) (he : Far G t e) (hr : d t ≠ 18446744073709551615) : ∀ i, e i ≠ 18446744073709551615 → d i ≤ d t + e i ∧ d i ≠ 18446744073709551615 := by
  have key : ∀ (n : Nat) (i : Nat), e i ≤ (n : Int) → e i ≠ 18446744073709551615 → d i ≤ d t + e i ∧ d i ≠ 18446744073709551615 := by
    intro n
    induction n with
    | zero =>
      intro i hi hf
      by_cases q : i = t
      · subst q
        have := he.ge0 i
        exact ⟨by omega, hr⟩
      · obtain ⟨j, h1, h2, h3, h4⟩ := he.of i q hf
        have := hG.pos1 (he.opn hf)
        have := he.ge0 j
        omega
    | succ n ih =>
      intro i hi hf
      by_cases q : i = t
      · subst q
        have := he.ge0 i
        exact ⟨by omega, hr⟩
      · obtain ⟨j, h1, h2, h3, h4⟩ := he.of i q hf
        have p1 := hG.pos1 (he.opn hf)
        have p2 := ih j (by omega) h3
        have p5 := h.le i j (he.opn hf) h2 h1 p2.2
        have p6 := h.bd t
        have p7 := h.bd j
        have p8 := h.bd i
        exact ⟨by omega, by omega⟩
  intro i hf
  have := he.ge0 i
  exact key (e i).toNat i (by omega) hf
/-- There and back. -/
theorem Far.back_le (hG : G.Ok) (h : Far G s d) (he : Far G t e) : ∀ i, e i ≠ 18446744073709551615 → d i ≠ 18446744073709551615 → d t ≠ 18446744073709551615 ∧ d t + G.k i ≤ d i + e i + G.k t := by
  have key : ∀ (n : Nat) (i : Nat), e i ≤ (n : Int) → e i ≠ 18446744073709551615 → d i ≠ 18446744073709551615 → d t ≠ 18446744073709551615 ∧ d t + G.k i ≤ d i + e i + G.k t := by
    intro n
    induction n with
    | zero =>
      intro i hi hf hd
      by_cases q : i = t
      · subst q
        have := he.ge0 i
        exact ⟨hd, by omega⟩
      · obtain ⟨j, h1, h2, h3, h4⟩ := he.of i q hf
        have := hG.pos1 (he.opn hf)
        have := he.ge0 j
        omega
    | succ n ih =>
      intro i hi hf hd
      by_cases q : i = t
      · subst q
        have := he.ge0 i
        exact ⟨hd, by omega⟩
      · obtain ⟨j, h1, h2, h3, h4⟩ := he.of i q hf
        have hoi := he.opn hf
        have p1 := hG.pos1 hoi
        have p9 := hG.pos1 h2
        have p5 := h.le j i h2 hoi (hG.sym i j hoi.1 h1) hd
        have p6 := h.bd i
        have p7 := h.bd j
        obtain ⟨p2, p3⟩ := ih j (by omega) h3 (by omega)
        exact ⟨p2, by omega⟩
  intro i hf hd
  have := he.ge0 i
  exact key (e i).toNat i (by omega) hf hd
theorem Far.back (hG : G.Ok) (h : Far G s d) (he : Far G t e) : (d t = 18446744073709551615 ↔ e s = 18446744073709551615) ∧ (d t ≠ 18446744073709551615 → d t + G.k s = e s + G.k t) := by
  have a1 : e s ≠ 18446744073709551615 → d t ≠ 18446744073709551615 ∧ d t + G.k s ≤ e s + G.k t := fun hf => by
    have ho := he.opn hf
    have h0 := h.src ho
    have := h.back_le hG he s hf (by rw [h0]; decide)
    rw [h0] at this
    exact ⟨this.1, by omega⟩
  have a2 : d t ≠ 18446744073709551615 → e s ≠ 18446744073709551615 ∧ e s + G.k t ≤ d t + G.k s := fun hf => by
    have ho := h.opn hf
    have h0 := he.src ho
    have := he.back_le hG h t hf (by rw [h0]; decide)
    rw [h0] at this
    exact ⟨this.1, by omega⟩
  refine ⟨⟨fun q => ?_, fun q => ?_⟩, fun hf => ?_⟩
  · apply Classical.byContradiction
    intro hn
    exact (a1 hn).1 q
  · apply Classical.byContradiction
    intro hn
    exact (a2 hn).1 q
  · have b1 := a2 hf
    have b2 := a1 b1.1
    omega
end

/-! ### The search -/
/-- What is told of one; none of one that is none. -/
def atD (ds : List Int) (i : Nat) : Int := ds.getD i 18446744073709551615
theorem atD_set (ds : List Int) (i j : Nat) (v : Int) (h : i < ds.length) : atD (ds.set i v) j = if j = i then v else atD ds j := by
  unfold atD
  rw [List.getD_eq_getElem?_getD, List.getD_eq_getElem?_getD, List.getElem?_set]
  by_cases e : j = i
  · subst e; simp [h]
  · rw [if_neg (fun q => e q.symm), if_neg e]
theorem atD_get {ds : List Int} {i : Nat} (h : i < ds.length) : ds[i] = atD ds i := by
  unfold atD
  rw [List.getD_eq_getElem?_getD, List.getElem?_eq_getElem h]; rfl
theorem atD_none {ds : List Int} {i : Nat} (h : ds.length ≤ i) : atD ds i = 18446744073709551615 := by
  unfold atD
  rw [List.getD_eq_getElem?_getD, List.getElem?_eq_none h]; rfl
/-- How many are not told. -/
def untold (ds : List Int) : Nat := ds.countP (· == 18446744073709551615)
theorem untold_set {ds : List Int} {i : Nat} {v : Int} (h : i < ds.length) (h0 : atD ds i = 18446744073709551615) (hv : v ≠ 18446744073709551615) : untold (ds.set i v) + 1 = untold ds := by
  have hb : (v == 18446744073709551615) = false := by rw [beq_eq_false_iff_ne]; exact hv
  rw [← atD_get h] at h0
  unfold untold
  rw [List.countP_set h, h0, hb]
  have : 0 < ds.countP (· == 18446744073709551615) := by
    rw [List.countP_pos_iff]
    exact ⟨ds[i], List.getElem_mem h, by rw [h0]; rfl⟩
  simp
  omega
theorem untold_le (ds : List Int) : untold ds ≤ ds.length := List.countP_le_length
theorem nodup_lt_len : ∀ (N : Nat) (l : List Nat), l.Nodup → (∀ x ∈ l, x < N) → l.length ≤ N
  | 0, l, _, h => by
    cases l with
    | nil => exact Nat.le_refl _
    | cons x l => exact absurd (h x (by simp)) (by omega)
  | N + 1, l, hn, h => by
    have h1 := nodup_lt_len N (l.filter (fun x => decide (x ≠ N))) (hn.sublist List.filter_sublist) (fun x hx => by
      rw [List.mem_filter] at hx
      have := h x hx.1
      have := of_decide_eq_true hx.2
      omega)
    have h2 : ∀ l : List Nat, l.Nodup → l.length ≤ (l.filter (fun x => decide (x ≠ N))).length + 1 := by
      intro l
      induction l with
      | nil => intro _; exact Nat.zero_le _
      | cons x l ih =>
        intro hn
        rw [List.nodup_cons] at hn
        by_cases e : x = N
        · have : l.filter (fun x => decide (x ≠ N)) = l := by
            rw [List.filter_eq_self]
            intro y hy
            exact decide_eq_true (fun q => hn.1 (by rw [e, ← q]; exact hy))
          rw [List.filter_cons, if_neg (by simp [e]), this]
          simp
        · rw [List.filter_cons, if_pos (decide_eq_true e)]
          have := ih hn.2
          simp only [List.length_cons]
          omega
    have := h2 l hn
    omega
end Go.Proofs.YtldpajfendkhbaaDoor
