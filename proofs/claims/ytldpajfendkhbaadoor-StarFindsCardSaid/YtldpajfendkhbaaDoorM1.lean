/- Texts joined: Ma, Mb, Mc, Md, Me, Mf, Mg, Mh, Mi, Mj, Mk, Ml, Mn, Mo, Mp, Mq, Mr. -/
import Derived.Test.YtldpajfendkhbaaDoorCa
import Derived.Test.YtldpajfendkhbaaDoorH1
import Derived.Test.YtldpajfendkhbaaDoorAb
import Derived.DeepKeys4
import Derived.MapViews
import Derived.Test.YtldpajfendkhbaaDoorCd
import Derived.Test.YtldpajfendkhbaaDoorCc
import Derived.Test.YtldpajfendkhbaaDoorCl
import Derived.Test.YtldpajfendkhbaaDoorOw
/- A search that settles the nearest by guess first: the mathematics. -/
namespace Go.Proofs.YtldpajfendkhbaaDoor

/-- Which are new (0), open (1), settled (2); their numbers G; from where they came. -/
structure AS where
  st : Nat → Nat
  g : Nat → Int
  par : Nat → Nat
def updF {α : Type} (f : Nat → α) (j : Nat) (v : α) : Nat → α := fun i => if i = j then v else f i
theorem updF_same {α : Type} (f : Nat → α) (j : Nat) (v : α) : updF f j v j = v := if_pos rfl
theorem updF_other {α : Type} (f : Nat → α) {j i : Nat} (v : α) (h : i ≠ j) : updF f j v i = f i := if_neg h
/-- One is reached from b, at a number G. -/
def relaxA (k : Nat → Int) (b : Nat) (s : AS) (j : Nat) : AS :=
  if s.st j = 0 ∨ s.st j = 1 ∧ s.g b + k j < s.g j then ⟨updF s.st j 1, updF s.g j (s.g b + k j), updF s.par j b⟩ else s
def settleB (s : AS) (b : Nat) : AS := ⟨updF s.st b 2, s.g, s.par⟩
def settleA (k : Nat → Int) (l : List Nat) (s : AS) (b : Nat) : AS := l.foldl (relaxA k b) (settleB s b)
/-- Which of two goes ahead. -/
def lessA (g h : Nat → Int) (i j : Nat) : Bool := decide (g i + h i < g j + h j ∨ g i + h i = g j + h j ∧ (h i < h j ∨ h i = h j ∧ i < j))
def bestTo (s : AS) (h : Nat → Int) : Nat → Option Nat
  | 0 => none
  | n + 1 => match bestTo s h n with
    | none => if s.st n = 1 then some n else none
    | some b => if s.st n = 1 ∧ lessA s.g h n b = true then some n else some b
theorem bestTo_none {s : AS} {h : Nat → Int} : ∀ {n : Nat}, bestTo s h n = none → ∀ i, i < n → s.st i ≠ 1
  | 0, _, i, hi => absurd hi (by omega)
  | n + 1, e, i, hi => by
    unfold bestTo at e
    cases hb : bestTo s h n with
    | none =>
      rw [hb] at e
      simp only at e
      split at e
      · cases e
      · rename_i hn
        rcases Nat.lt_or_eq_of_le (Nat.le_of_lt_succ hi) with q | rfl
        · exact bestTo_none hb i q
        · exact hn
    | some b =>
      rw [hb] at e
      simp only at e
      split at e <;> cases e
theorem lessA_tr {g h : Nat → Int} {i j k : Nat} (h1 : lessA g h i j = true) (h2 : lessA g h j k = true) : lessA g h i k = true := by
  unfold lessA at *
  rw [decide_eq_true_iff] at *
  omega
theorem bestTo_some {s : AS} {h : Nat → Int} : ∀ {n b : Nat}, bestTo s h n = some b → b < n ∧ s.st b = 1 ∧ ∀ i, i < n → s.st i = 1 → i = b ∨ lessA s.g h b i = true
  | 0, b, e => by cases e
  | n + 1, b, e => by
    unfold bestTo at e
    cases hb : bestTo s h n with
    | none =>
      rw [hb] at e
      simp only at e
      split at e
      · rename_i hn
        cases e
        refine ⟨by omega, hn, fun i hi h1 => ?_⟩
        rcases Nat.lt_or_eq_of_le (Nat.le_of_lt_succ hi) with q | rfl
        · exact absurd h1 (bestTo_none hb i q)
        · exact .inl rfl
      · cases e
    | some c =>
      rw [hb] at e
      simp only at e
      obtain ⟨q1, q2, q3⟩ := bestTo_some hb
      split at e
      · rename_i hn
        cases e
        refine ⟨by omega, hn.1, fun i hi h1 => ?_⟩
        rcases Nat.lt_or_eq_of_le (Nat.le_of_lt_succ hi) with q | rfl
        · rcases q3 i q h1 with rfl | q4
          · exact .inr hn.2
          · exact .inr (lessA_tr hn.2 q4)
        · exact .inl rfl
      · rename_i hn
        cases e
        refine ⟨by omega, q2, fun i hi h1 => ?_⟩
        rcases Nat.lt_or_eq_of_le (Nat.le_of_lt_succ hi) with q | rfl
        · exact q3 i q h1
        · right
          have h2 : ¬ lessA s.g h i b = true := fun q => hn ⟨h1, q⟩
          unfold lessA at *
          rw [decide_eq_true_iff] at *
          omega
/-- What holds of a search's state. -/
structure InvA (G : Gph) (s0 : Nat) (d : Nat → Int) (s : AS) : Prop where
  opn : ∀ i, s.st i ≠ 0 → d i ≠ 18446744073709551615 ∧ d i ≤ s.g i
  set : ∀ i, s.st i = 2 → s.g i = d i
  nb : ∀ i, s.st i = 2 → ∀ j, j ∈ G.nb i → G.opn j → s.st j ≠ 0 ∧ s.g j ≤ d i + G.k j
  src : s.st s0 ≠ 0 ∧ s.g s0 = 0
  par : ∀ i, s.st i ≠ 0 → i ≠ s0 → s.st (s.par i) = 2 ∧ s.par i ∈ G.nb i ∧ s.g i = d (s.par i) + G.k i
  val : ∀ i, s.st i ≤ 2
def startA (s0 : Nat) : AS := ⟨updF (fun _ => 0) s0 1, fun _ => 0, fun _ => s0⟩
section
variable {G : Gph} {s0 : Nat} {d h : Nat → Int} {s : AS}
theorem inv_start (hF : Far G s0 d) (ho : G.opn s0) : InvA G s0 d (startA s0) := by
  have hs : ∀ i, (startA s0).st i ≠ 0 → i = s0 := fun i hi => by
    apply Classical.byContradiction
    intro hne
    exact hi (updF_other (fun _ => 0) 1 hne)
  have h1 : (startA s0).st s0 = 1 := updF_same (fun _ => 0) s0 1
  have h2 : ∀ i, (startA s0).st i ≠ 2 := fun i hi => by
    have := hs i (by omega)
    subst this
    omega
  refine ⟨fun i hi => ?_, fun i hi => absurd hi (h2 i), fun i hi => absurd hi (h2 i), ⟨by omega, rfl⟩, fun i hi hne => absurd (hs i hi) hne, fun i => ?_⟩
  · have := hs i hi
    subst this
    rw [hF.src ho]
    exact ⟨by decide, Int.le_refl _⟩
  · by_cases e : (startA s0).st i = 0
    · omega
    · rw [hs i e]; omega
/-- Of each one that is reached: it is settled, or one is open on the way to it, at its least cost, that is no further by guess. -/
theorem key_open (hG : G.Ok) (hF : Far G s0 d) (hh : ∀ i j, G.opn i → G.opn j → j ∈ G.nb i → h j ≤ h i + G.k i) (hI : InvA G s0 d s) : ∀ (n : Nat) (i : Nat), d i ≤ (n : Int) → d i ≠ 18446744073709551615 →
    s.st i = 2 ∨ ∃ y, s.st y = 1 ∧ s.g y = d y ∧ d y + h y ≤ d i + h i := by
  intro n
  induction n with
  | zero =>
    intro i hi hne
    by_cases e : i = s0
    · subst e
      have hv := hI.val i
      have h0 := hI.src
      by_cases h2 : s.st i = 2
      · exact .inl h2
      · refine .inr ⟨i, by omega, ?_, Int.le_refl _⟩
        rw [h0.2, hF.src (hF.opn hne)]
    · obtain ⟨j, j1, j2, j3, j4⟩ := hF.of i e hne
      have := hG.pos1 (hF.opn hne)
      have := hF.ge0 j
      omega
  | succ n ih =>
    intro i hi hne
    by_cases e : i = s0
    · subst e
      have hv := hI.val i
      have h0 := hI.src
      by_cases h2 : s.st i = 2
      · exact .inl h2
      · refine .inr ⟨i, by omega, ?_, Int.le_refl _⟩
        rw [h0.2, hF.src (hF.opn hne)]
    · obtain ⟨j, j1, j2, j3, j4⟩ := hF.of i e hne
      have hk := hG.pos1 (hF.opn hne)
      have hoi := hF.opn hne
      rcases ih j (by omega) j3 with h2 | ⟨y, y1, y2, y3⟩
      · obtain ⟨n1, n2⟩ := hI.nb j h2 i (hG.sym i j hoi.1 j1) hoi
        have hv := hI.val i
        by_cases h3 : s.st i = 2
        · exact .inl h3
        · refine .inr ⟨i, by omega, ?_, Int.le_refl _⟩
          have := (hI.opn i n1).2
          omega
      · refine .inr ⟨y, y1, y2, ?_⟩
        have := hh i j hoi j2 j1
        omega
/-- The one that is settled next has its least cost. -/
theorem best_exact (hG : G.Ok) (hF : Far G s0 d) (hh : ∀ i j, G.opn i → G.opn j → j ∈ G.nb i → h j ≤ h i + G.k i) (hI : InvA G s0 d s) {N b : Nat} (hN : ∀ i, s.st i ≠ 0 → i < N) (hb : bestTo s h N = some b) :
    s.g b = d b ∧ ∀ i, d i ≠ 18446744073709551615 → s.st i ≠ 2 → d b + h b ≤ d i + h i := by
  obtain ⟨b1, b2, b3⟩ := bestTo_some hb
  obtain ⟨o1, o2⟩ := hI.opn b (by omega)
  have key : ∀ i, d i ≠ 18446744073709551615 → s.st i ≠ 2 → s.g b + h b ≤ d i + h i := fun i hi h2 => by
    have hb := hF.bd i
    rcases key_open hG hF hh hI (d i).toNat i (by omega) hi with q | ⟨y, y1, y2, y3⟩
    · exact absurd q h2
    · rcases b3 y (hN y (by omega)) y1 with rfl | q
      · omega
      · unfold lessA at q
        rw [decide_eq_true_iff] at q
        omega
  have h1 := key b o1 (by omega)
  have e : s.g b = d b := by omega
  exact ⟨e, fun i hi h2 => by rw [← e]; exact key i hi h2⟩
/-- What holds while those beside one that is settled are reached. -/
structure InvP (G : Gph) (s0 : Nat) (d : Nat → Int) (b : Nat) (pre : List Nat) (s : AS) : Prop where
  opn : ∀ i, s.st i ≠ 0 → d i ≠ 18446744073709551615 ∧ d i ≤ s.g i
  set : ∀ i, s.st i = 2 → s.g i = d i
  nb : ∀ i, s.st i = 2 → i ≠ b → ∀ j, j ∈ G.nb i → G.opn j → s.st j ≠ 0 ∧ s.g j ≤ d i + G.k j
  nbb : ∀ j, j ∈ pre → s.st j ≠ 0 ∧ s.g j ≤ d b + G.k j
  src : s.st s0 ≠ 0 ∧ s.g s0 = 0
  par : ∀ i, s.st i ≠ 0 → i ≠ s0 → s.st (s.par i) = 2 ∧ s.par i ∈ G.nb i ∧ s.g i = d (s.par i) + G.k i
  val : ∀ i, s.st i ≤ 2
  own : s.st b = 2
theorem inv_settle (hI : InvA G s0 d s) {b : Nat} (hb : s.st b = 1) (hg : s.g b = d b) : InvP G s0 d b [] (settleB s b) := by
  have hst : ∀ i, (settleB s b).st i = if i = b then 2 else s.st i := fun i => rfl
  have hne : ∀ i, (settleB s b).st i ≠ 0 → s.st i ≠ 0 := fun i hi => by
    rw [hst] at hi
    split at hi
    · rename_i e; subst e; omega
    · exact hi
  have h2 : ∀ i, (settleB s b).st i = 2 → i ≠ b → s.st i = 2 := fun i hi e => by rw [hst, if_neg e] at hi; exact hi
  have hup : ∀ i, s.st i ≠ 0 → (settleB s b).st i ≠ 0 := fun i hi => by
    rw [hst]; split
    · decide
    · exact hi
  refine ⟨fun i hi => hI.opn i (hne i hi), fun i hi => ?_, fun i hi e j hj ho => ?_, (fun j hj => by cases hj), ⟨hup _ hI.src.1, hI.src.2⟩, fun i hi e => ?_, fun i => ?_, by rw [hst, if_pos rfl]⟩
  · by_cases e : i = b
    · subst e; exact hg
    · exact hI.set i (h2 i hi e)
  · obtain ⟨q1, q2⟩ := hI.nb i (h2 i hi e) j hj ho
    exact ⟨hup j q1, q2⟩
  · obtain ⟨q1, q2, q3⟩ := hI.par i (hne i hi) e
    refine ⟨?_, q2, q3⟩
    rw [hst]; split
    · rfl
    · exact q1
  · rw [hst]; split
    · decide
    · exact hI.val i
theorem inv_relax (hG : G.Ok) (hF : Far G s0 d) {b j : Nat} {pre : List Nat} (hI : InvP G s0 d b pre s) (hj : j ∈ G.nb b) (ho : G.opn j) (hob : G.opn b) : InvP G s0 d b (pre ++ [j]) (relaxA G.k b s j) := by
  have hgb := hI.set b hI.own
  obtain ⟨d1, d2⟩ := hI.opn b (by rw [hI.own]; decide)
  have hjb := hG.sym b j hob.1 hj
  have hle := hF.le j b ho hob hjb d1
  have hdj : d j ≠ 18446744073709551615 := by
    have hk := hG.pos1 ho
    have := hF.bd b
    have := hF.bd j
    omega
  unfold relaxA
  by_cases hc : s.st j = 0 ∨ s.st j = 1 ∧ s.g b + G.k j < s.g j
  · rw [if_pos hc]
    have hjn : s.st j ≠ 2 := by omega
    have hbj : b ≠ j := fun e => by subst e; exact hjn hI.own
    refine ⟨fun i hi => ?_, fun i hi => ?_, fun i hi e x hx hox => ?_, fun x hx => ?_, ?_, fun i hi e => ?_, fun i => ?_, ?_⟩
    · by_cases e : i = j
      · subst e
        refine ⟨hdj, ?_⟩
        show d i ≤ updF s.g i _ i
        rw [updF_same]; omega
      · have e1 : s.st i ≠ 0 := by have : updF s.st j 1 i ≠ 0 := hi; rw [updF_other _ _ e] at this; exact this
        have := hI.opn i e1
        show _ ∧ d i ≤ updF s.g j _ i
        rw [updF_other _ _ e]; exact this
    · have hi' : updF s.st j 1 i = 2 := hi
      by_cases e : i = j
      · subst e; rw [updF_same] at hi'; cases hi'
      · rw [updF_other _ _ e] at hi'
        show updF s.g j _ i = d i
        rw [updF_other _ _ e]; exact hI.set i hi'
    · have hi' : updF s.st j 1 i = 2 := hi
      have ei : i ≠ j := fun q => by subst q; rw [updF_same] at hi'; cases hi'
      rw [updF_other _ _ ei] at hi'
      obtain ⟨q1, q2⟩ := hI.nb i hi' e x hx hox
      show updF s.st j 1 x ≠ 0 ∧ updF s.g j _ x ≤ d i + G.k x
      by_cases ex : x = j
      · subst ex
        rw [updF_same, updF_same]
        refine ⟨by decide, ?_⟩
        rcases hc with hc | ⟨_, hc⟩
        · exact absurd hc q1
        · omega
      · rw [updF_other _ _ ex, updF_other _ _ ex]; exact ⟨q1, q2⟩
    · show updF s.st j 1 x ≠ 0 ∧ updF s.g j _ x ≤ d b + G.k x
      by_cases ex : x = j
      · subst ex
        rw [updF_same, updF_same]
        exact ⟨by decide, by omega⟩
      · rw [updF_other _ _ ex, updF_other _ _ ex]
        rcases List.mem_append.1 hx with hx | hx
        · exact hI.nbb x hx
        · exact absurd (List.mem_singleton.1 hx) ex
    · show updF s.st j 1 s0 ≠ 0 ∧ updF s.g j _ s0 = 0
      obtain ⟨q1, q2⟩ := hI.src
      by_cases ex : s0 = j
      · subst ex
        exfalso
        rcases hc with hc | ⟨_, hc⟩
        · exact q1 hc
        · have := hF.ge0 b
          have := hG.pos1 ho
          omega
      · rw [updF_other _ _ ex, updF_other _ _ ex]; exact ⟨q1, q2⟩
    · have hi' : updF s.st j 1 i ≠ 0 := hi
      show updF s.st j 1 (updF s.par j b i) = 2 ∧ updF s.par j b i ∈ G.nb i ∧ updF s.g j _ i = d (updF s.par j b i) + G.k i
      by_cases ex : i = j
      · subst ex
        rw [updF_same, updF_same, updF_other _ _ hbj]
        exact ⟨hI.own, hjb, by rw [hgb]⟩
      · rw [updF_other _ _ ex] at hi'
        rw [updF_other _ _ ex, updF_other _ _ ex]
        obtain ⟨q1, q2, q3⟩ := hI.par i hi' e
        refine ⟨?_, q2, q3⟩
        rw [updF_other _ _ (fun q => hjn (by rw [← q]; exact q1))]; exact q1
    · show updF s.st j 1 i ≤ 2
      by_cases ex : i = j
      · subst ex; rw [updF_same]; decide
      · rw [updF_other _ _ ex]; exact hI.val i
    · show updF s.st j 1 b = 2
      rw [updF_other _ _ hbj]; exact hI.own
  · rw [if_neg hc]
    refine ⟨hI.opn, hI.set, hI.nb, fun x hx => ?_, hI.src, hI.par, hI.val, hI.own⟩
    rcases List.mem_append.1 hx with hx | hx
    · exact hI.nbb x hx
    · obtain rfl := List.mem_singleton.1 hx
      have hv := hI.val x
      have h0 : s.st x ≠ 0 := fun q => hc (.inl q)
      refine ⟨h0, ?_⟩
      by_cases h1 : s.st x = 1
      · have : ¬ s.g b + G.k x < s.g x := fun q => hc (.inr ⟨h1, q⟩)
        omega
      · have := hI.set x (by omega)
        omega
theorem inv_fold (hG : G.Ok) (hF : Far G s0 d) {b : Nat} (hob : G.opn b) : ∀ (l pre : List Nat) (s : AS), InvP G s0 d b pre s → (∀ j ∈ l, j ∈ G.nb b ∧ G.opn j) → InvP G s0 d b (pre ++ l) (l.foldl (relaxA G.k b) s)
  | [], pre, s, hI, _ => by simpa using hI
  | j :: l, pre, s, hI, hl => by
    obtain ⟨h1, h2⟩ := hl j (List.mem_cons_self ..)
    have := inv_fold hG hF hob l (pre ++ [j]) _ (inv_relax hG hF hI h1 h2 hob) (fun x hx => hl x (List.mem_cons_of_mem _ hx))
    rw [List.append_assoc, List.singleton_append] at this
    exact this
theorem inv_next (hG : G.Ok) (hF : Far G s0 d) (hI : InvA G s0 d s) {b : Nat} {l : List Nat} (hb : s.st b = 1) (hg : s.g b = d b) (hl : ∀ j, j ∈ l ↔ j ∈ G.nb b ∧ G.opn j) : InvA G s0 d (settleA G.k l s b) := by
  obtain ⟨d1, _⟩ := hI.opn b (by omega)
  have hp := inv_fold hG hF (hF.opn d1) l [] _ (inv_settle hI hb hg) (fun j hj => (hl j).1 hj)
  rw [List.nil_append] at hp
  refine ⟨hp.opn, hp.set, fun i hi j hj ho => ?_, hp.src, hp.par, hp.val⟩
  by_cases e : i = b
  · subst e
    exact hp.nbb j ((hl j).2 ⟨hj, ho⟩)
  · exact hp.nb i hi e j hj ho
end
end Go.Proofs.YtldpajfendkhbaaDoor

/- A search that settles the nearest by guess first: its run, and what it comes to. -/
namespace Go.Proofs.YtldpajfendkhbaaDoor

/-- How the search ends (0: at the goal, 22: none is open, 23: the budget is spent), how many are settled, and the state. -/
def runA (k : Nat → Int) (nb : Nat → List Nat) (h : Nat → Int) (N goal : Nat) (budget : Int) : Nat → Nat → AS → Int × Nat × AS
  | 0, n, s => (22, n, s)
  | f + 1, n, s => match bestTo s h N with
    | none => (22, n, s)
    | some b => if (n : Int) = budget then (23, n, s) else if b = goal then (0, n + 1, settleB s b) else runA k nb h N goal budget f (n + 1) (settleA k (nb b) s b)
def cntA (N : Nat) (s : AS) : Nat := (List.range N).countP (fun i => decide (s.st i = 2))
theorem relax_two (k : Nat → Int) (b : Nat) (s : AS) (j i : Nat) : (relaxA k b s j).st i = 2 ↔ s.st i = 2 := by
  unfold relaxA
  split
  · rename_i hc
    show updF s.st j 1 i = 2 ↔ _
    by_cases e : i = j
    · subst e; rw [updF_same]; omega
    · rw [updF_other _ _ e]
  · exact Iff.rfl
theorem fold_two (k : Nat → Int) (b : Nat) (i : Nat) : ∀ (l : List Nat) (s : AS), (l.foldl (relaxA k b) s).st i = 2 ↔ s.st i = 2
  | [], _ => Iff.rfl
  | j :: l, s => (fold_two k b i l _).trans (relax_two k b s j i)
theorem settle_two (s : AS) (b i : Nat) : (settleB s b).st i = 2 ↔ i = b ∨ s.st i = 2 := by
  show updF s.st b 2 i = 2 ↔ _
  by_cases e : i = b
  · subst e; rw [updF_same]; simp
  · rw [updF_other _ _ e]; simp [e]
theorem next_two (k : Nat → Int) (l : List Nat) (s : AS) (b i : Nat) : (settleA k l s b).st i = 2 ↔ i = b ∨ s.st i = 2 := (fold_two k b i l _).trans (settle_two s b i)
theorem count_one {p q : Nat → Bool} {b : Nat} (hpq : ∀ i, q i = true ↔ i = b ∨ p i = true) (hb : p b = false) : ∀ N, b < N → (List.range N).countP q = (List.range N).countP p + 1 := by
  have hs : ∀ M, M ≤ b → (List.range M).countP q = (List.range M).countP p := fun M hM => by
    refine List.countP_congr fun i hi => ?_
    rw [hpq i]
    have := List.mem_range.1 hi
    constructor
    · rintro (h | h)
      · omega
      · exact h
    · exact .inr
  intro N
  induction N with
  | zero => intro h; omega
  | succ N ih =>
    intro h
    rw [List.range_succ, List.countP_append, List.countP_append]
    by_cases e : b = N
    · subst e
      have h1 : q b = true := (hpq b).2 (.inl rfl)
      rw [hs b (Nat.le_refl _)]
      simp [h1, hb]
    · rw [ih (by omega)]
      have : q N = p N := by
        have := hpq N
        cases h1 : p N <;> cases h2 : q N <;> simp_all
      simp only [List.countP_cons, List.countP_nil, this]
      omega
theorem fold_lt (k : Nat → Int) (b N : Nat) : ∀ (l : List Nat) (s : AS), (∀ j ∈ l, j < N) → (∀ i, s.st i ≠ 0 → i < N) → ∀ i, (l.foldl (relaxA k b) s).st i ≠ 0 → i < N
  | [], _, _, h => h
  | j :: l, s, hl, h => fold_lt k b N l _ (fun x hx => hl x (List.mem_cons_of_mem _ hx)) (fun i hi => by
    unfold relaxA at hi
    split at hi
    · have hi' : updF s.st j 1 i ≠ 0 := hi
      by_cases e : i = j
      · subst e; exact hl i (List.mem_cons_self ..)
      · rw [updF_other _ _ e] at hi'; exact h i hi'
    · exact h i hi)
/-- What holds as the search goes on. -/
structure RunI (G : Gph) (s0 : Nat) (d h : Nat → Int) (goal n : Nat) (s : AS) : Prop where
  inv : InvA G s0 d s
  lt : ∀ i, s.st i ≠ 0 → i < G.N
  cnt : cntA G.N s = n
  off : s.st goal ≠ 2
  near : d goal ≠ 18446744073709551615 → ∀ i, s.st i = 2 → d i + h i ≤ d goal + h goal
theorem cnt_le (N : Nat) (s : AS) : cntA N s ≤ N := by
  have := List.countP_le_length (p := fun i => decide (s.st i = 2)) (l := List.range N)
  simpa [cntA] using this
section
variable {G : Gph} {s0 goal : Nat} {d h : Nat → Int} {nb : Nat → List Nat}
theorem runI_start (hF : Far G s0 d) (ho : G.opn s0) : RunI G s0 d h goal 0 (startA s0) := by
  have hs : ∀ i, (startA s0).st i ≠ 2 := fun i hi => by
    by_cases e : i = s0
    · have : (startA s0).st i = 1 := by rw [e]; exact updF_same (fun _ => 0) s0 1
      omega
    · have : (startA s0).st i = 0 := updF_other (fun _ => 0) 1 e
      omega
  refine ⟨inv_start hF ho, fun i hi => ?_, ?_, hs goal, fun _ i hi => absurd hi (hs i)⟩
  · by_cases e : i = s0
    · rw [e]; exact ho.1
    · exact absurd (updF_other (fun _ => 0) 1 e) hi
  · unfold cntA
    rw [List.countP_eq_zero]
    intro i _ hi
    exact hs i (of_decide_eq_true hi)
theorem runI_next (hG : G.Ok) (hF : Far G s0 d) (hh : ∀ i j, G.opn i → G.opn j → j ∈ G.nb i → h j ≤ h i + G.k i) (hnb : ∀ b, G.opn b → ∀ j, j ∈ nb b ↔ j ∈ G.nb b ∧ G.opn j) {n b : Nat} {s : AS} (hI : RunI G s0 d h goal n s) (hb : bestTo s h G.N = some b) (hg : b ≠ goal) :
    RunI G s0 d h goal (n + 1) (settleA G.k (nb b) s b) := by
  obtain ⟨b1, b2, b3⟩ := bestTo_some hb
  obtain ⟨e1, e2⟩ := best_exact hG hF hh hI.inv hI.lt hb
  have hob := hF.opn (hI.inv.opn b (by omega)).1
  refine ⟨inv_next hG hF hI.inv b2 e1 (hnb b hob), fold_lt _ _ _ _ _ (fun j hj => ((hnb b hob j).1 hj).2.1) (fun i hi => ?_), ?_, fun q => ?_, fun hd i hi => ?_⟩
  · have hi' : updF s.st b 2 i ≠ 0 := hi
    by_cases e : i = b
    · subst e; exact b1
    · rw [updF_other _ _ e] at hi'; exact hI.lt i hi'
  · have := count_one (p := fun i => decide (s.st i = 2)) (q := fun i => decide ((settleA G.k (nb b) s b).st i = 2)) (b := b) (fun i => by simp [next_two]) (by simp; omega) G.N b1
    unfold cntA
    rw [this]
    have := hI.cnt
    unfold cntA at this
    omega
  · rcases (next_two _ _ _ _ _).1 q with e | e
    · exact hg e.symm
    · exact hI.off e
  · rcases (next_two _ _ _ _ _).1 hi with e | e
    · subst e
      exact e2 goal hd hI.off
    · exact hI.near hd i e
/-- What the search comes to. -/
theorem run_end (hG : G.Ok) (hF : Far G s0 d) (hh : ∀ i j, G.opn i → G.opn j → j ∈ G.nb i → h j ≤ h i + G.k i) (hnb : ∀ b, G.opn b → ∀ j, j ∈ nb b ↔ j ∈ G.nb b ∧ G.opn j) (budget : Int) :
    ∀ (f n : Nat) (s : AS), RunI G s0 d h goal n s → G.N < n + f →
      ∃ e m s', runA G.k nb h G.N goal budget f n s = (e, m, s') ∧ n ≤ m ∧ m ≤ G.N ∧
        (e = 22 ∧ cntA G.N s' = m ∧ InvA G s0 d s' ∧ d goal = 18446744073709551615 ∧ (∀ i, s'.st i = 2 ↔ d i ≠ 18446744073709551615) ∨
         e = 0 ∧ n < m ∧ cntA G.N s' = m ∧ d goal ≠ 18446744073709551615 ∧ s'.g goal = d goal ∧ s'.st goal = 2 ∧ (∀ i, s'.st i = 2 → d i ≠ 18446744073709551615 ∧ d i + h i ≤ d goal + h goal) ∧ (∀ i, d i ≠ 18446744073709551615 → d i + h i < d goal + h goal → s'.st i = 2) ∧
           (∀ i, s'.st i = 2 → i ≠ s0 → s'.st (s'.par i) = 2 ∧ s'.par i ∈ G.nb i ∧ d i = d (s'.par i) + G.k i) ∨
         e = 23 ∧ (m : Int) = budget)
  | 0, n, s, hI, hf => by
    have := cnt_le G.N s
    have := hI.cnt
    omega
  | f + 1, n, s, hI, hf => by
    have hcn := cnt_le G.N s
    have hc := hI.cnt
    rw [runA]
    cases hb : bestTo s h G.N with
    | none =>
      have hno := bestTo_none hb
      have hset : ∀ i, s.st i = 2 ↔ d i ≠ 18446744073709551615 := fun i => by
        constructor
        · intro q; exact (hI.inv.opn i (by omega)).1
        · intro q
          have hbd := hF.bd i
          rcases key_open hG hF hh hI.inv (d i).toNat i (by omega) q with q2 | ⟨y, y1, _, _⟩
          · exact q2
          · exact absurd y1 (hno y (hI.lt y (by omega)))
      refine ⟨22, n, s, rfl, Nat.le_refl _, by omega, .inl ⟨rfl, hI.cnt, hI.inv, ?_, hset⟩⟩
      apply Classical.byContradiction
      intro q
      exact hI.off ((hset goal).2 q)
    | some b =>
      obtain ⟨b1, b2, b3⟩ := bestTo_some hb
      obtain ⟨e1, e2⟩ := best_exact hG hF hh hI.inv hI.lt hb
      simp only
      by_cases hbu : (n : Int) = budget
      · rw [if_pos hbu]
        exact ⟨23, n, s, rfl, Nat.le_refl _, by omega, .inr (.inr ⟨rfl, hbu⟩)⟩
      · rw [if_neg hbu]
        have hcnt : cntA G.N (settleB s b) = n + 1 := by
          have := count_one (p := fun i => decide (s.st i = 2)) (q := fun i => decide ((settleB s b).st i = 2)) (b := b) (fun i => by simp [settle_two]) (by simp; omega) G.N b1
          unfold cntA
          rw [this]
          unfold cntA at hc
          omega
        have hcn2 := cnt_le G.N (settleB s b)
        by_cases hg : b = goal
        · rw [if_pos hg]
          subst hg
          have hdb := (hI.inv.opn b (by omega)).1
          refine ⟨0, n + 1, settleB s b, rfl, by omega, by omega, .inr (.inl ⟨rfl, by omega, hcnt, hdb, e1, (settle_two s b b).2 (.inl rfl), fun i hi => ?_, fun i hi hlt => ?_, fun i hi hne => ?_⟩)⟩
          · rcases (settle_two s b i).1 hi with rfl | q
            · exact ⟨hdb, Int.le_refl _⟩
            · exact ⟨(hI.inv.opn i (by omega)).1, hI.near hdb i q⟩
          · apply Classical.byContradiction
            intro q
            have q2 : s.st i ≠ 2 := fun z => q ((settle_two s b i).2 (.inr z))
            have := e2 i hi q2
            omega
          · have h0 : s.st i ≠ 0 := by
              rcases (settle_two s b i).1 hi with rfl | q <;> omega
            obtain ⟨p1, p2, p3⟩ := hI.inv.par i h0 hne
            refine ⟨(settle_two s b _).2 (.inr p1), p2, ?_⟩
            have : s.g i = d i := by
              rcases (settle_two s b i).1 hi with rfl | q
              · exact e1
              · exact hI.inv.set i q
            rw [← this]; exact p3
        · rw [if_neg hg]
          obtain ⟨e, m, s', q1, q2, q3, q4⟩ := run_end hG hF hh hnb budget f (n + 1) _ (runI_next hG hF hh hnb hI hb hg) (by omega)
          refine ⟨e, m, s', q1, by omega, q3, ?_⟩
          rcases q4 with q | ⟨q, q5, q6⟩ | q
          · exact .inl q
          · exact .inr (.inl ⟨q, by omega, q6⟩)
          · exact .inr (.inr q)
end
/-- With a budget of as many as are settled, or more, the same; with less the budget is spent. -/
theorem run_budget (k : Nat → Int) (nb : Nat → List Nat) (h : Nat → Int) (N goal : Nat) (B C : Int) : ∀ (f n : Nat) (s : AS) (e : Int) (m : Nat) (s' : AS), runA k nb h N goal B f n s = (e, m, s') → (n : Int) ≤ B → (n : Int) ≤ C → e ≠ 23 →
    ((m : Int) ≤ C → runA k nb h N goal C f n s = (e, m, s')) ∧ (C < (m : Int) → ∃ s2, runA k nb h N goal C f n s = (23, C.toNat, s2))
  | 0, n, s, e, m, s', hr, h1, h2, he => by
    rw [runA] at hr
    cases hr
    exact ⟨fun _ => by rw [runA], fun q => absurd q (by omega)⟩
  | f + 1, n, s, e, m, s', hr, h1, h2, he => by
    rw [runA] at hr ⊢
    cases hb : bestTo s h N with
    | none =>
      rw [hb] at hr
      cases hr
      exact ⟨fun _ => rfl, fun q => absurd q (by omega)⟩
    | some b =>
      rw [hb] at hr
      simp only at hr ⊢
      by_cases hB : (n : Int) = B
      · rw [if_pos hB] at hr
        cases hr
        exact absurd rfl he
      · rw [if_neg hB] at hr
        by_cases hg : b = goal
        · rw [if_pos hg] at hr
          cases hr
          refine ⟨fun q => by rw [if_neg (by omega), if_pos hg], fun q => ?_⟩
          have : (n : Int) = C := by omega
          rw [if_pos this]
          exact ⟨s, by rw [← this]; rfl⟩
        · rw [if_neg hg] at hr
          by_cases hC : (n : Int) = C
          · rw [if_pos hC]
            refine ⟨fun q => ?_, fun _ => ⟨s, by rw [← hC]; rfl⟩⟩
            exfalso
            have : ∀ (f n : Nat) (s : AS) (e : Int) (m : Nat) (s' : AS), runA k nb h N goal B f n s = (e, m, s') → n ≤ m := by
              intro f
              induction f with
              | zero => intro n s e m s' hr; rw [runA] at hr; cases hr; exact Nat.le_refl _
              | succ f ih =>
                intro n s e m s' hr
                rw [runA] at hr
                split at hr
                · cases hr; exact Nat.le_refl _
                · split at hr
                  · cases hr; exact Nat.le_refl _
                  · split at hr
                    · cases hr; omega
                    · have := ih _ _ _ _ _ hr; omega
            have := this _ _ _ _ _ _ hr
            omega
          · rw [if_neg hC, if_neg hg]
            exact run_budget k nb h N goal B C f (n + 1) _ e m s' hr (by omega) (by omega) he
end Go.Proofs.YtldpajfendkhbaaDoor

/- Cells by cells: a map in memory. -/
namespace Go.Proofs.YtldpajfendkhbaaDoor
open Go.RowKit Go.Maps Go.ChangeShapes Go.WideShapes

theorem Tryd.keyCell : Keyed Tryd.prog 28 := Keyed.of_law (deep_law_laid (show laidOutB Tryd.prog = true by kernel_rfl) (m := 2) (by omega) (of_decide_eq_true (by kernel_rfl)) (by kernel_rfl) (by kernel_rfl))
/-- What a cell reads as, where it is a key. -/
def keyC (c : IC) : Lit := .string (keyBytes [.int .i64 c.1, .int .i64 c.2])
set_option maxRecDepth 100000 in
theorem keyOf_cell (c : IC) (h : (Lit.int .i64 c.1).wf = true ∧ (Lit.int .i64 c.2).wf = true) : keyOf Tryd.prog 28 (.agg #[.int .i64 c.1, .int .i64 c.2]) = some (keyC c) := by
  have h1 : Tryd.prog.keyType 28 = true := by kernel_rfl
  have hs : ∃ n, Tryd.prog.types.size = n + 1 := ⟨Tryd.prog.types.size - 1, by kernel_rfl⟩
  obtain ⟨n, hn⟩ := hs
  have hf : (Value.agg #[.int .i64 c.1, .int .i64 c.2]).formed Tryd.prog 28 = true := by simp [Value.formed, Tryd.underlying28, show Tryd.prog.cellsOf 28 = 2 from by kernel_rfl]
  have hl : Tryd.prog.keyLits (n + 1 + 1) 28 [.int .i64 c.1, .int .i64 c.2] = some [.int .i64 c.1, .int .i64 c.2] := by
    simp [Program.keyLits, Tryd.underlying28, Tryd.underlying3, show Tryd.prog.cellsOf 28 = 2 from by kernel_rfl, show Tryd.prog.cellsOf 3 = 1 from by kernel_rfl, h.1, h.2]
  unfold keyOf
  rw [Tryd.underlying28]
  simp only [h1, hf, hn, Value.cells, hl]
  rfl
/-- Where cells came from, in memory: the map in block b, of n entries. -/
def cellR (v : Value) : Option (DataW Unit × List MemPlace) := match v with
  | .agg cs => match cs.toList with
    | [.int .i64 a, .int .i64 b] => some (.agg [.lit (.int .i64 a), .lit (.int .i64 b)], [])
    | _ => none
  | _ => none
theorem cellR_inv {v : Value} {z : DataW Unit × List MemPlace} (h : cellR v = some z) : ∃ a b, v = .agg #[.int .i64 a, .int .i64 b] ∧ z = (.agg [.lit (.int .i64 a), .lit (.int .i64 b)], []) := by
  unfold cellR at h
  split at h
  · rename_i cs
    split at h
    · rename_i a b e
      cases h
      exact ⟨a, b, by rw [show cs = cs.toList.toArray from by simp, e], rfl⟩
    · cases h
  · cases h
theorem zero_cell (w : World) : (zeroValue 28).run Tryd.prog w = .ok (.agg #[.int .i64 0, .int .i64 0]) w := by kernel_rfl
def datC (c : IC) : DataW Unit := .agg [.lit (.int .i64 c.1), .lit (.int .i64 c.2)]
def wfC (c : IC) : Prop := (Lit.int .i64 c.1).wf = true ∧ (Lit.int .i64 c.2).wf = true
def CameAt (W : World) (b n : Nat) (f : IC → Option IC) : Prop := ∃ D : DataW Unit, W.ownsMap Tryd.prog 28 cellR b n D ∧ Maps.size D = n ∧
  ∀ c : IC, wfC c → Maps.has D (keyC c) = (f c).isSome ∧ ∀ p, f c = some p → D.atKey (keyC c) (datC (0, 0)) = datC p
theorem CameAt.lt {W : World} {b n : Nat} {f : IC → Option IC} (h : CameAt W b n f) : b < W.heap.size := by
  obtain ⟨D, h, _⟩ := h; exact h.lt
theorem CameAt.keptS {S : Nat → Prop} {W W' : World} {b n : Nat} {f : IC → Option IC} (h : CameAt W b n f) (x : KeptS S W W') (hn : ¬ S b) : CameAt W' b n f := by
  obtain ⟨D, ⟨es, clock, h1, h2⟩, h3⟩ := h
  exact ⟨D, ⟨es, clock, (x.2 b (Array.getElem?_eq_some_iff.1 h1).1 hn).trans h1, h2⟩, h3⟩
theorem keyC_inj {c d : IC} (hc : wfC c) (hd : wfC d) (h : keyC c = keyC d) : c = d := by
  have h1 := keyOf_cell c hc
  have h2 := keyOf_cell d hd
  rw [← h] at h2
  have h3 := Tryd.keyCell.inj h1 h2
  have h4 := congrArg Array.toList (Value.agg.inj h3)
  simp at h4
  exact Prod.ext h4.1 h4.2
set_option maxRecDepth 100000 in
/-- From where a cell came. -/
theorem CameAt.look {W : World} {b n : Nat} {f : IC → Option IC} (h : CameAt W b n f) {c : IC} (hc : wfC c) :
    (Instr.lookup 78 (.map (some b)) (.agg #[.int .i64 c.1, .int .i64 c.2]) true).run Tryd.prog W = .ok (.tuple #[.agg #[.int .i64 ((f c).getD (0, 0)).1, .int .i64 ((f c).getD (0, 0)).2], .bool (f c).isSome]) W := by
  obtain ⟨D, hown, _, hD⟩ := h
  obtain ⟨h1, h2⟩ := hD c hc
  obtain ⟨v, ps, hrun, hv⟩ := hown.look_ok Tryd.keyCell Tryd.underlying78 (zero_cell W) (zd := datC (0, 0)) (zp := []) rfl (keyOf_cell c hc)
  obtain ⟨x, y, rfl, hz⟩ := cellR_inv hv
  have hz' := congrArg Prod.fst hz
  simp only at hz'
  rw [hrun, h1]
  cases e : f c with
  | none =>
    rw [e] at h1
    rw [atKey_of_not_has h1] at hz'
    injection hz' with q
    simp at q
    obtain ⟨q1, q2⟩ := q
    rw [← q1, ← q2]
    rfl
  | some p =>
    rw [h2 p e] at hz'
    injection hz' with q
    simp at q
    obtain ⟨q1, q2⟩ := q
    rw [← q1, ← q2]
    rfl
def updC (f : IC → Option IC) (c p : IC) : IC → Option IC := fun d => if d = c then some p else f d
set_option maxRecDepth 100000 in
/-- A cell came from another one. -/
theorem CameAt.store {W : World} {b n : Nat} {f : IC → Option IC} (h : CameAt W b n f) {c p : IC} (hc : wfC c) (hn : n < maxLen) :
    ∃ W', (Instr.mapUpdate 78 (.map (some b)) (.agg #[.int .i64 c.1, .int .i64 c.2]) (.agg #[.int .i64 p.1, .int .i64 p.2])).run Tryd.prog W = .ok () W' ∧ CameAt W' b (if (f c).isSome then n else n + 1) (updC f c p) ∧ W.mapTurned W' b := by
  obtain ⟨D, hown, hs, hD⟩ := h
  have hk : WideAt.IsKeyLit (keyC c) := Tryd.keyCell.key (keyOf_cell c hc)
  obtain ⟨W', hrun, h1, h2⟩ := hown.store Tryd.keyCell Tryd.underlying78 hn (keyOf_cell c hc) (d := datC p) (ps := []) (val := .agg #[.int .i64 p.1, .int .i64 p.2]) rfl
  have hsz := size_put (hown.tidy Tryd.keyCell) (k := keyC c) (datC p)
  rw [(hD c hc).1, hs] at hsz
  refine ⟨W', hrun, ⟨_, hsz ▸ own_tight h1, hsz, fun j hj => ?_⟩, h2⟩
  by_cases e : j = c
  · subst e
    rw [has_put_same hown.isMap hk, updC, if_pos rfl]
    refine ⟨rfl, fun q hq => ?_⟩
    cases hq
    exact atKey_put_same hown.isMap hk _ _
  · have hne : keyC j ≠ keyC c := fun h => e (keyC_inj hj hc h)
    rw [has_put_other hne, updC, if_neg e]
    refine ⟨(hD j hj).1, fun q hq => ?_⟩
    rw [atKey_put_other hne]
    exact (hD j hj).2 q hq
theorem came_new (W : World) : CameAt (W.alloc (.map #[] 0)) W.heap.size 0 (fun _ => none) :=
  ⟨.map [], World.ownsMap_made _ _ _ _, rfl, fun _ _ => ⟨rfl, fun _ h => by cases h⟩⟩
end Go.Proofs.YtldpajfendkhbaaDoor

/- A search's state, and the heap that holds what is open. -/
namespace Go.Proofs.YtldpajfendkhbaaDoor
open Go.RowKit

/-- One is reached at a number, from another one. -/
def reachS (s : AS) (b j : Nat) (x : Int) : AS := if s.st j = 0 ∨ s.st j = 1 ∧ x < s.g j then ⟨updF s.st j 1, updF s.g j x, updF s.par j b⟩ else s
theorem relax_reach (k : Nat → Int) (b : Nat) (s : AS) (j : Nat) : relaxA k b s j = reachS s b j (s.g b + k j) := rfl
/-- An open cell as a thing that waits. -/
def thA (A : Int) (g h : Nat → Int) (i : Nat) : Th := ⟨(i : Int), g i + h i, h i, (i : Int) / A, (i : Int) % A⟩
structure HeapR (A : Int) (h : Nat → Int) (N : Nat) (s : AS) (m : List Th) : Prop where
  nodup : (m.map Th.id).Nodup
  mem : ∀ t, t ∈ m ↔ ∃ i, i < N ∧ s.st i = 1 ∧ t = thA A s.g h i
section
variable {A : Int} {h : Nat → Int} {N : Nat} {s : AS} {m : List Th}
theorem thA_ahead (hA : 1 ≤ A) (g : Nat → Int) {i j : Nat} : aheadT (thA A g h i) (thA A g h j) = true ↔ lessA g h i j = true := by
  rw [aheadT_iff]
  unfold lessA thA
  rw [decide_eq_true_iff]
  simp only
  have key : ((i : Int) / A < (j : Int) / A ∨ (i : Int) / A = (j : Int) / A ∧ ((i : Int) % A < (j : Int) % A ∨ (i : Int) % A = (j : Int) % A ∧ (i : Int) < (j : Int))) ↔ i < j := by
    have e1 := Int.emod_add_mul_ediv (i : Int) A
    have e2 := Int.emod_add_mul_ediv (j : Int) A
    have p1 := Int.emod_nonneg (i : Int) (show A ≠ 0 by omega)
    have p2 := Int.emod_nonneg (j : Int) (show A ≠ 0 by omega)
    have q1 := Int.emod_lt_of_pos (i : Int) (show 0 < A by omega)
    have q2 := Int.emod_lt_of_pos (j : Int) (show 0 < A by omega)
    generalize (i : Int) / A = a at *
    generalize (j : Int) / A = b at *
    generalize (i : Int) % A = u at *
    generalize (j : Int) % A = v at *
    have hlt : ∀ a b u v : Int, a < b → u < A → 0 ≤ v → u + A * a < v + A * b := fun a b u v h1 h2 h3 => by
      have : A * (a + 1) ≤ A * b := Int.mul_le_mul_of_nonneg_left (by omega) (by omega)
      rw [Int.mul_add] at this
      omega
    constructor
    · rintro (h | ⟨h, h2⟩)
      · have := hlt a b u v h q1 p2
        omega
      · subst h
        omega
    · intro h
      by_cases e : a = b
      · subst e
        exact .inr ⟨rfl, by omega⟩
      · by_cases e2 : a < b
        · exact .inl e2
        · have := hlt b a v u (by omega) q2 p1
          omega
  rw [key]
theorem HeapR.find (hm : HeapR A h N s m) {i : Nat} (hi : i < N) : findT m (i : Int) = if s.st i = 1 then some (thA A s.g h i) else none := by
  by_cases e : s.st i = 1
  · rw [if_pos e]
    exact findT_some hm.nodup ((hm.mem _).2 ⟨i, hi, e, rfl⟩) rfl
  · rw [if_neg e]
    refine findT_none fun t ht q => ?_
    obtain ⟨j, _, j2, rfl⟩ := (hm.mem t).1 ht
    have : j = i := by have : (j : Int) = (i : Int) := q; omega
    subst this
    exact e j2
theorem HeapR.none (hm : HeapR A h N s m) : m = [] ↔ bestTo s h N = none := by
  constructor
  · intro e
    cases hb : bestTo s h N with
    | none => rfl
    | some b =>
      obtain ⟨b1, b2, _⟩ := bestTo_some hb
      have := (hm.mem _).2 ⟨b, b1, b2, rfl⟩
      rw [e] at this
      cases this
  · intro e
    have := bestTo_none e
    cases m with
    | nil => rfl
    | cons t l =>
      obtain ⟨i, i1, i2, _⟩ := (hm.mem t).1 (List.mem_cons_self ..)
      exact absurd i2 (this i i1)
theorem HeapR.first (hA : 1 ≤ A) (hm : HeapR A h N s m) {b : Nat} (hb : bestTo s h N = some b) : firstT m = thA A s.g h b := by
  obtain ⟨b1, b2, b3⟩ := bestTo_some hb
  refine firstT_eq ((hm.mem _).2 ⟨b, b1, b2, rfl⟩) fun x hx => ?_
  obtain ⟨i, i1, i2, rfl⟩ := (hm.mem x).1 hx
  rw [Bool.eq_false_iff]
  intro q
  rw [thA_ahead hA] at q
  rcases b3 i i1 i2 with rfl | q2
  · unfold lessA at q
    rw [decide_eq_true_iff] at q
    omega
  · have := lessA_tr q q2
    unfold lessA at this
    rw [decide_eq_true_iff] at this
    omega
theorem HeapR.pop (hA : 1 ≤ A) (hm : HeapR A h N s m) {b : Nat} (hb : bestTo s h N = some b) : HeapR A h N (settleB s b) (popM m) := by
  have hf := hm.first hA hb
  have hp : popM m = m.filter (fun x => decide (x.id ≠ (b : Int))) := by unfold popM; rw [hf]; rfl
  rw [hp]
  refine ⟨hm.nodup.sublist (List.Sublist.map _ List.filter_sublist), fun t => ?_⟩
  rw [List.mem_filter, decide_eq_true_iff]
  constructor
  · rintro ⟨h1, h2⟩
    obtain ⟨i, i1, i2, rfl⟩ := (hm.mem t).1 h1
    have hne : i ≠ b := fun q => h2 (by rw [q]; rfl)
    exact ⟨i, i1, by show updF s.st b 2 i = 1; rw [updF_other _ _ hne]; exact i2, rfl⟩
  · rintro ⟨i, i1, i2, rfl⟩
    have hst : updF s.st b 2 i = 1 := i2
    have hne : i ≠ b := fun q => by subst q; rw [updF_same] at hst; cases hst
    rw [updF_other _ _ hne] at hst
    exact ⟨(hm.mem _).2 ⟨i, i1, hst, rfl⟩, fun q => hne (by have : (i : Int) = (b : Int) := q; omega)⟩
theorem thA_other (g : Nat → Int) {i j : Nat} (x : Int) (hne : i ≠ j) : thA A (updF g j x) h i = thA A g h i := by
  unfold thA
  rw [updF_other _ _ hne]
theorem HeapR.push (hm : HeapR A h N s m) {b j : Nat} {x : Int} (hj : j < N) (h0 : s.st j = 0) : HeapR A h N (reachS s b j x) (m ++ [thA A (updF s.g j x) h j]) := by
  have hs : reachS s b j x = ⟨updF s.st j 1, updF s.g j x, updF s.par j b⟩ := if_pos (.inl h0)
  have hno : ∀ t ∈ m, t.id ≠ (j : Int) := fun t ht q => by
    obtain ⟨i, _, i2, rfl⟩ := (hm.mem t).1 ht
    have : i = j := by have : (i : Int) = (j : Int) := q; omega
    subst this
    omega
  rw [hs]
  refine ⟨?_, fun t => ?_⟩
  · rw [List.map_append, List.nodup_append]
    refine ⟨hm.nodup, by simp, fun a ha b hb q => ?_⟩
    obtain ⟨t, ht, rfl⟩ := List.mem_map.1 ha
    simp only [List.map_cons, List.map_nil, List.mem_singleton] at hb
    subst hb
    exact hno t ht q
  · rw [List.mem_append, List.mem_singleton]
    constructor
    · rintro (ht | rfl)
      · obtain ⟨i, i1, i2, rfl⟩ := (hm.mem t).1 ht
        have hne : i ≠ j := fun q => by subst q; omega
        exact ⟨i, i1, by show updF s.st j 1 i = 1; rw [updF_other _ _ hne]; exact i2, (thA_other _ _ hne).symm⟩
      · exact ⟨j, hj, updF_same _ _ _, rfl⟩
    · rintro ⟨i, i1, i2, rfl⟩
      have hst : updF s.st j 1 i = 1 := i2
      by_cases hne : i = j
      · subst hne; exact .inr rfl
      · rw [updF_other _ _ hne] at hst
        exact .inl ((hm.mem _).2 ⟨i, i1, hst, thA_other _ _ hne⟩)
theorem HeapR.lower (hm : HeapR A h N s m) {b j : Nat} {x : Int} (hj : j < N) (h1 : s.st j = 1) (hx : x < s.g j) : lowerM m (thA A (updF s.g j x) h j) = m.map (fun y => if y.id = (j : Int) then thA A (updF s.g j x) h j else y) ∧ lowerE m (thA A (updF s.g j x) h j) = 0 ∧
    HeapR A h N (reachS s b j x) (m.map (fun y => if y.id = (j : Int) then thA A (updF s.g j x) h j else y)) := by
  have hs : reachS s b j x = ⟨updF s.st j 1, updF s.g j x, updF s.par j b⟩ := if_pos (.inr ⟨h1, hx⟩)
  have hf : findT m (thA A (updF s.g j x) h j).id = some (thA A s.g h j) := by
    have := hm.find hj
    rw [if_pos h1] at this
    exact this
  have hl : lessK (thA A (updF s.g j x) h j) (thA A s.g h j) = true := by
    unfold lessK thA
    rw [updF_same]
    simp only
    rw [if_neg (by omega), decide_eq_true_iff]
    omega
  refine ⟨by unfold lowerM; rw [hf]; simp only; rw [if_pos hl]; rfl, by unfold lowerE; rw [hf]; simp only; rw [if_pos hl], ?_⟩
  rw [hs]
  refine ⟨?_, fun t => ?_⟩
  · rw [List.map_map]
    have : (m.map (Th.id ∘ fun y => if y.id = (j : Int) then thA A (updF s.g j x) h j else y)) = m.map Th.id := by
      refine List.map_congr_left fun y _ => ?_
      simp only [Function.comp]
      split
      · rename_i q; rw [q]; rfl
      · rfl
    rw [this]
    exact hm.nodup
  · rw [List.mem_map]
    constructor
    · rintro ⟨y, hy, rfl⟩
      obtain ⟨i, i1, i2, rfl⟩ := (hm.mem y).1 hy
      by_cases hne : i = j
      · subst hne
        rw [if_pos (show (thA A s.g h i).id = (i : Int) from rfl)]
        exact ⟨i, hj, updF_same _ _ _, rfl⟩
      · rw [if_neg (fun q => hne (by have : (i : Int) = (j : Int) := q; omega))]
        exact ⟨i, i1, by show updF s.st j 1 i = 1; rw [updF_other _ _ hne]; exact i2, (thA_other _ _ hne).symm⟩
    · rintro ⟨i, i1, i2, rfl⟩
      have hst : updF s.st j 1 i = 1 := i2
      by_cases hne : i = j
      · subst hne
        exact ⟨thA A s.g h i, (hm.mem _).2 ⟨i, i1, h1, rfl⟩, if_pos rfl⟩
      · rw [updF_other _ _ hne] at hst
        refine ⟨thA A s.g h i, (hm.mem _).2 ⟨i, i1, hst, rfl⟩, ?_⟩
        rw [if_neg (fun q => hne (by have : (i : Int) = (j : Int) := q; omega))]
        exact (thA_other _ _ hne).symm
theorem HeapR.len (hm : HeapR A h N s m) : m.length ≤ N := by
  have h1 : (m.map Th.id).length ≤ N := by
    have := nodup_lt_len N ((m.map Th.id).map Int.toNat) (by
      refine (List.pairwise_map.2 ?_)
      refine hm.nodup.imp_of_mem fun {a b} ha hb hne q => ?_
      obtain ⟨t, ht, rfl⟩ := List.mem_map.1 ha
      obtain ⟨u, hu, rfl⟩ := List.mem_map.1 hb
      obtain ⟨i, _, _, rfl⟩ := (hm.mem t).1 ht
      obtain ⟨j, _, _, rfl⟩ := (hm.mem u).1 hu
      apply hne
      have : i = j := q
      rw [this]) (fun x hx => by
      obtain ⟨a, ha, rfl⟩ := List.mem_map.1 hx
      obtain ⟨t, ht, rfl⟩ := List.mem_map.1 ha
      obtain ⟨i, i1, _, rfl⟩ := (hm.mem t).1 ht
      exact i1)
    rwa [List.length_map] at this
  simpa using h1
end
end Go.Proofs.YtldpajfendkhbaaDoor

/- A search by guess: what an open cell waits by; one is told to be reached. -/
namespace Go.Proofs.YtldpajfendkhbaaDoor
open Go.RowKit Go.Maps

/-- The walk from a cell to another one, without walls. -/
def guessI (c t : IC) : Int := apartI c.1 t.1 + apartI c.2 t.2
theorem guess_bd {c t : IC} (hc : plB c = true) (ht : plB t = true) : 0 ≤ guessI c t ∧ guessI c t ≤ 4194304 := by
  have h1 := plainB_iff.1 hc
  have h2 := plainB_iff.1 ht
  unfold guessI apartI
  omega

set_option maxRecDepth 100000 in
set_option maxHeartbeats 2000000 in
theorem skey_any (c t : IC) (g : Int) (w : World) (hc : plB c = true) (ht : plB t = true) (hg : 0 ≤ g) (hg2 : g ≤ 9223372036854775807) :
    Calls Tryd.prog 50 #[.agg #[.int .i64 c.1, .int .i64 c.2], .agg #[.int .i64 t.1, .int .i64 t.2], .int .u64 g] w fun e w' => e = .returned (.agg #[.int .u64 (g + guessI c t), .int .u64 (guessI c t), .int .i64 c.2, .int .i64 c.1]) ∧ Below w.heap.size w w' := by
  obtain ⟨b1, b2⟩ := guess_bd hc ht
  have e1 : IntKind.u64.wrap (guessI c t) = guessI c t := by rw [IntKind.wrap_u64]; omega
  have e2 : IntKind.u64.wrap (g + guessI c t) = g + guessI c t := by rw [IntKind.wrap_u64]; omega
  have HC := Lib.hid (fun w => (show Calls Tryd.prog 66 #[.agg #[.int .i64 c.1, .int .i64 c.2], .agg #[.int .i64 t.1, .int .i64 t.2]] w fun e w' => e = .returned (.tuple #[.int .i64 (guessI c t), .int .i64 0]) ∧ Below w.heap.size w w' from walk_yes c.1 c.2 t.1 t.2 w hc ht))
  generalize guessI c t = q at *
  clear hc ht hg hg2 b1 b2
  have hA := bl0 w
  go_enter Tryd.func50, Tryd.ntmps50
  go_wp2_with fail
  refine (HC.out _).mono ?_
  rintro e W1 ⟨rfl, hb⟩
  have hk : Below w.heap.size w W1 := by first | exact hb | exact bl_tr (bl_al (bl0 _) _) hb | exact bl_tr (bl_dr (bl_al (bl0 _) _)) hb | exact bl_tr (bl_al (bl_al (bl0 _) _) _) hb | exact bl_tr (bl_dr (bl_al (bl_al (bl0 _) _) _)) hb | exact bl_tr (bl_al (bl_al (bl_al (bl0 _) _) _) _) hb | exact bl_tr (bl_dr (bl_al (bl_al (bl_al (bl0 _) _) _) _)) hb | exact bl_tr (bl_al (bl_al (bl_al (bl_al (bl0 _) _) _) _) _) hb | exact bl_tr (bl_dr (bl_al (bl_al (bl_al (bl_al (bl0 _) _) _) _) _)) hb | exact bl_tr (bl_al (bl_al (bl_al (bl_al (bl_al (bl0 _) _) _) _) _) _) hb | exact bl_tr (bl_dr (bl_al (bl_al (bl_al (bl_al (bl_al (bl0 _) _) _) _) _) _)) hb | exact bl_tr (bl_al (bl_al (bl_al (bl_al (bl_al (bl_al (bl0 _) _) _) _) _) _) _) hb | exact bl_tr (bl_dr (bl_al (bl_al (bl_al (bl_al (bl_al (bl_al (bl0 _) _) _) _) _) _) _)) hb | exact bl_tr (bl_dr (bl0 _)) hb
  replace hA := bl_tr hA hk
  have x0 := cell_later hb (v := .int .i64 c.1) (a := ⟨w.heap.size, 0, none⟩) (by simp [go_sem])
  have x1 := cell_later hb (v := .int .i64 c.2) (a := ⟨w.heap.size, 1, none⟩) (by simp [go_sem])
  have k0 := cell_later hb (v := .int .u64 0) (a := ⟨w.heap.size + 1 + 1, 0, none⟩) (by simp [go_sem])
  have k1 := cell_later hb (v := .int .u64 0) (a := ⟨w.heap.size + 1 + 1, 1, none⟩) (by simp [go_sem])
  have k2 := cell_later hb (v := .int .i64 0) (a := ⟨w.heap.size + 1 + 1, 2, none⟩) (by simp [go_sem])
  have k3 := cell_later hb (v := .int .i64 0) (a := ⟨w.heap.size + 1 + 1, 3, none⟩) (by simp [go_sem])
  have f0 : W1.frozen? ⟨w.heap.size + 1 + 1, 0, none⟩ = false := (hb.frozen (p := ⟨w.heap.size + 1 + 1, 0, none⟩) (by simp <;> omega)).trans (by simp [go_sem])
  have f1 : W1.frozen? ⟨w.heap.size + 1 + 1, 1, none⟩ = false := (hb.frozen (p := ⟨w.heap.size + 1 + 1, 1, none⟩) (by simp <;> omega)).trans (by simp [go_sem])
  have f2 : W1.frozen? ⟨w.heap.size + 1 + 1, 2, none⟩ = false := (hb.frozen (p := ⟨w.heap.size + 1 + 1, 2, none⟩) (by simp <;> omega)).trans (by simp [go_sem])
  have f3 : W1.frozen? ⟨w.heap.size + 1 + 1, 3, none⟩ = false := (hb.frozen (p := ⟨w.heap.size + 1 + 1, 3, none⟩) (by simp <;> omega)).trans (by simp [go_sem])
  clear hb hk
  have zx0 := blk_lt x0
  have zx1 := blk_lt x1
  have zk0 := blk_lt k0
  have zk1 := blk_lt k1
  have zk2 := blk_lt k2
  have zk3 := blk_lt k3
  have HA := Lib.hid hA
  clear hA
  go_wp2
  refine bodyPost_ret (v := .agg #[.int .u64 (g + q), .int .u64 q, .int .i64 c.2, .int .i64 c.1]) (by simp [results, Tryd.results50, go_sem, k0, k1, k2, k3]) rfl ⟨rfl, ?_⟩
  exact bl_st (bl_st (bl_st (bl_st HA.out (by omega) _) (by omega) _) (by omega) _) (by omega) _

/-- A map of cells, of one's own. -/
def CameO (b n : Nat) (f : IC → Option IC) : Own where
  P W S := CameAt W b n f ∧ ∀ x, S x ↔ x = b
  lt h x hx := by
    obtain rfl := (h.2 x).1 hx
    exact h.1.lt
  keep h _ hk := by
    obtain ⟨⟨D, ⟨es, clock, h1, h2⟩, h3⟩, hs⟩ := h
    exact ⟨⟨D, ⟨es, clock, (hk _ ((hs _).2 rfl)).trans h1, h2⟩, h3⟩, hs⟩
section
variable {W : World} {B : Nat} {l1 l2 : List Own} {b n : Nat} {f : IC → Option IC}
theorem Sep.cameNew {l : List Own} (h : Sep W B l) : Sep (W.alloc (.map #[] 0)) B (l ++ [CameO W.heap.size 0 (fun _ => none)]) :=
  h.new (S := fun x => x = W.heap.size) (bl_al (bl0 W) _) ⟨came_new W, fun _ => Iff.rfl⟩ (fun k e => by rw [e]; exact Nat.le_refl _)
theorem Sep.came (h : Sep W B (l1 ++ CameO b n f :: l2)) : CameAt W b n f := by
  obtain ⟨S, h1, _⟩ := h.at
  exact h1.1
theorem Sep.store (h : Sep W B (l1 ++ CameO b n f :: l2)) {c p : IC} (hc : wfC c) (hn : n < maxLen) :
    ∃ W', (Instr.mapUpdate 78 (.map (some b)) (.agg #[.int .i64 c.1, .int .i64 c.2]) (.agg #[.int .i64 p.1, .int .i64 p.2])).run Tryd.prog W = .ok () W' ∧
      Sep W' B (l1 ++ CameO b (if (f c).isSome then n else n + 1) (updC f c p) :: l2) ∧ Below B W W' := by
  obtain ⟨S, h1, h2, h3⟩ := h.turn
  obtain ⟨W', hr, hc', ht⟩ := h1.1.store hc hn (p := p)
  have q := h3 W' S (CameO b (if (f c).isSome then n else n + 1) (updC f c p)) (.of_grown ht.grown (fun k e _ => by cases e; exact (h1.2 _).2 rfl)) ⟨hc', h1.2⟩ (fun _ h => .inl h)
  exact ⟨W', hr, q.1, q.2⟩
end
end Go.Proofs.YtldpajfendkhbaaDoor

/- A search by guess: one is told to be reached. -/
namespace Go.Proofs.YtldpajfendkhbaaDoor
open Go.RowKit Go.Maps

theorem Sep.cellAt {W : World} {B : Nat} {l1 l2 : List Own} {k : Nat} {cs : Array Value} {t : TypeId} (h : Sep W B (l1 ++ CellsO k cs t :: l2)) (i : Nat) (v : Value) (hv : cs[i]? = some v) : W.cell? ⟨k, i, none⟩ = some v := by
  simp [World.cell?, h.cells.1, hv]
/-- What waits and what came from where, of a search's state. -/
structure StarS (A H : Int) (t : IC) (N : Nat) (s : AS) (m : List Th) (n : Nat) (f : IC → Option IC) : Prop where
  heap : HeapR A (fun i => guessI (cellN A i) t) N s m
  came : ∀ c, onB A H c = true → f c = if s.st (numN A c) = 0 then none else some (cellN A (s.par (numN A c)))
  cnt : n = (List.range N).countP (fun i => decide (s.st i ≠ 0))
theorem on_wfC {A B : Int} {c : IC} (h : onB A B c = true) : wfC c := by
  obtain ⟨h1, h2, h3, h4, h5, h6, h7, h8⟩ := inB_iff.1 h
  exact ⟨WalkArith.wf_i64 (by omega), WalkArith.wf_i64 (by omega)⟩
theorem on_plB {A B : Int} {c : IC} (h : onB A B c = true) : plB c = true := by
  obtain ⟨h1, h2, h3, h4, h5, h6, h7, h8⟩ := inB_iff.1 h
  exact plainB_iff.2 ⟨by omega, by omega, by omega, by omega⟩

section
variable {A H : Int} {t : IC} {s : AS} {m : List Th} {n : Nat} {f : IC → Option IC} {b j : Nat} {x : Int}
/-- How a cell waits that is reached at a number. -/
def thC (t c : IC) (j : Nat) (x : Int) : Th := ⟨(j : Int), x + guessI c t, guessI c t, c.2, c.1⟩
theorem thC_eq (g : Nat → Int) : thC t (cellN A j) j x = thA A (updF g j x) (fun i => guessI (cellN A i) t) j := by
  unfold thC thA
  rw [updF_same]
  rfl
theorem came_upd (hm : mayB A H = true) (hj : (j : Int) < A * H) (hc : ∀ c, onB A H c = true → f c = if s.st (numN A c) = 0 then none else some (cellN A (s.par (numN A c)))) (c : IC) (ho : onB A H c = true) :
    updC f (cellN A j) (cellN A b) c = if updF s.st j 1 (numN A c) = 0 then none else some (cellN A (updF s.par j b (numN A c))) := by
  unfold updC
  by_cases e : c = cellN A j
  · subst e
    rw [if_pos rfl, numN_cell hm hj, updF_same, updF_same]
    rfl
  · have hne : numN A c ≠ j := fun q => e (by rw [← q, cellN_num ho])
    rw [if_neg e, updF_other _ _ hne, updF_other _ _ hne]
    exact hc c ho
theorem StarS.fresh (hR : StarS A H t (A * H).toNat s m n f) (hm : mayB A H = true) (hj : (j : Int) < A * H) (h0 : s.st j = 0) : StarS A H t (A * H).toNat (reachS s b j x) (m ++ [thC t (cellN A j) j x]) (n + 1) (updC f (cellN A j) (cellN A b)) := by
  have hs : reachS s b j x = ⟨updF s.st j 1, updF s.g j x, updF s.par j b⟩ := if_pos (.inl h0)
  refine ⟨?_, ?_, ?_⟩
  · rw [thC_eq s.g]
    exact hR.heap.push (by omega) h0
  · rw [hs]
    exact fun c ho => came_upd hm hj hR.came c ho
  · rw [hs, count_one (p := fun i => decide (s.st i ≠ 0)) (q := fun i => decide (updF s.st j 1 i ≠ 0)) (b := j) (fun i => ?_) (by simp [h0]) _ (by omega), hR.cnt]
    rw [decide_eq_true_iff, decide_eq_true_iff]
    by_cases e : i = j
    · subst e
      rw [updF_same]
      exact ⟨fun _ => .inl rfl, fun _ => by omega⟩
    · rw [updF_other _ _ e]
      exact ⟨.inr, fun h => h.resolve_left e⟩
theorem StarS.less (hR : StarS A H t (A * H).toNat s m n f) (hm : mayB A H = true) (hj : (j : Int) < A * H) (h1 : s.st j = 1) (hx : x < s.g j) : lowerE m (thC t (cellN A j) j x) = 0 ∧ StarS A H t (A * H).toNat (reachS s b j x) (lowerM m (thC t (cellN A j) j x)) n (updC f (cellN A j) (cellN A b)) := by
  have hs : reachS s b j x = ⟨updF s.st j 1, updF s.g j x, updF s.par j b⟩ := if_pos (.inr ⟨h1, hx⟩)
  obtain ⟨q1, q2, q3⟩ := hR.heap.lower (b := b) (j := j) (x := x) (by omega) h1 hx
  rw [thC_eq s.g]
  refine ⟨q2, ?_, ?_, ?_⟩
  · rw [q1]
    exact q3
  · rw [hs]
    exact fun c ho => came_upd hm hj hR.came c ho
  · rw [hs, hR.cnt]
    refine List.countP_congr fun i _ => ?_
    rw [decide_eq_true_iff, decide_eq_true_iff]
    by_cases e : i = j
    · subst e
      show s.st i ≠ 0 ↔ updF s.st i 1 i ≠ 0
      rw [updF_same]
      omega
    · show s.st i ≠ 0 ↔ updF s.st j 1 i ≠ 0
      rw [updF_other _ _ e]
theorem reach_no {s : AS} {b j : Nat} {x : Int} (h : ¬ (s.st j = 0 ∨ s.st j = 1 ∧ x < s.g j)) : reachS s b j x = s := if_neg h
theorem StarS.old (hR : StarS A H t (A * H).toNat s m n f) (hm : mayB A H = true) (hj : (j : Int) < A * H) : (f (cellN A j)).isSome = decide (s.st j ≠ 0) := by
  rw [hR.came _ (cellN_on hm hj), numN_cell hm hj]
  by_cases e : s.st j = 0 <;> simp [e]
theorem StarS.isOpen (hR : StarS A H t (A * H).toNat s m n f) (hj : (j : Int) < A * H) : (findT m (j : Int)).isSome = decide (s.st j = 1) := by
  rw [hR.heap.find (i := j) (by omega)]
  by_cases e : s.st j = 1 <;> simp [e]
theorem StarS.len (hR : StarS A H t (A * H).toNat s m n f) (hm : mayB A H = true) : m.length ≤ 65536 ∧ n ≤ 65536 := by
  obtain ⟨h1, h2, h3, h4⟩ := mayB_iff.1 hm
  have h5 : A * H ≤ 256 * H := Int.mul_le_mul_of_nonneg_right h2 (by omega)
  have h6 := hR.heap.len
  have h7 := hR.cnt
  have h8 := List.countP_le_length (p := fun i => decide (s.st i ≠ 0)) (l := List.range (A * H).toNat)
  rw [List.length_range] at h8
  omega
end

end Go.Proofs.YtldpajfendkhbaaDoor

/- A search by guess: the call that tells that one is reached. -/
namespace Go.Proofs.YtldpajfendkhbaaDoor
open Go.RowKit Go.Maps

set_option maxRecDepth 100000 in
set_option maxHeartbeats 4000000 in
theorem sreach_any {A H : Int} {a : Option Addr} {zn cap : Nat} {t : IC} {b j : Nat} {x : Int} {s : AS} {m : List Th} {n : Nat} {f : IC → Option IC} {p q zf zt zc zw : Nat} {t1 t2 t3 t4 : TypeId} {l : List Own} {B : Nat} {w : World}
    (hm : mayB A H = true) (hb : (b : Int) < A * H) (hj : (j : Int) < A * H) (ht : onB A H t = true) (hx : 0 ≤ x) (hx2 : x ≤ 4611686018427387904)
    (hS : Sep w B (HeapO p m :: CameO q n f :: CellsO zf #[.int .i64 A, .int .i64 H, .slice a zn cap] t1 :: CellsO zt #[.int .i64 t.1, .int .i64 t.2] t2 :: CellsO zc #[.map (some q)] t3 :: CellsO zw #[.pointer (some ⟨p, 0, none⟩)] t4 :: l))
    (hR : StarS A H t (A * H).toNat s m n f) :
    Calls Tryd.prog 49 #[.agg #[.int .i64 (cellN A b).1, .int .i64 (cellN A b).2], .agg #[.int .i64 (cellN A j).1, .int .i64 (cellN A j).2], .int .u64 x, .pointer (some ⟨zf, 0, none⟩), .pointer (some ⟨zt, 0, none⟩), .pointer (some ⟨zc, 0, none⟩), .pointer (some ⟨zw, 0, none⟩)] w fun e w' =>
      e = .returned (.tuple #[]) ∧ Below B w w' ∧ ∃ m' n' f', StarS A H t (A * H).toNat (reachS s b j x) m' n' f' ∧
        Sep w' B (HeapO p m' :: CameO q n' f' :: CellsO zf #[.int .i64 A, .int .i64 H, .slice a zn cap] t1 :: CellsO zt #[.int .i64 t.1, .int .i64 t.2] t2 :: CellsO zc #[.map (some q)] t3 :: CellsO zw #[.pointer (some ⟨p, 0, none⟩)] t4 :: l) := by
  have hoj := cellN_on hm hj
  have hnj := numN_int hoj
  rw [numN_cell hm hj] at hnj
  have S0 : Sep ((w.alloc (.cells #[.int .i64 (cellN A b).1, .int .i64 (cellN A b).2] 28)).alloc (.cells #[.int .i64 (cellN A j).1, .int .i64 (cellN A j).2] 28)) B (HeapO p m :: CameO q n f :: CellsO zf #[.int .i64 A, .int .i64 H, .slice a zn cap] t1 :: CellsO zt #[.int .i64 t.1, .int .i64 t.2] t2 :: CellsO zc #[.map (some q)] t3 :: CellsO zw #[.pointer (some ⟨p, 0, none⟩)] t4 :: ((l ++ [CellsO w.heap.size #[.int .i64 (cellN A b).1, .int .i64 (cellN A b).2] 28]) ++ [CellsO (w.alloc (.cells #[.int .i64 (cellN A b).1, .int .i64 (cellN A b).2] 28)).heap.size #[.int .i64 (cellN A j).1, .int .i64 (cellN A j).2] 28])) :=
    (hS.box _ _).box _ _
  rw [List.append_assoc, World.size_alloc] at S0
  have hAB : Below B w w := (bl0 w).mono hS.base
  obtain ⟨m1, m2⟩ := hR.len hm
  have wjn : (Lit.int .i64 (j : Int)).wf = true := WalkArith.wf_i64 (by have := area_bd hm; omega)
  obtain ⟨W0, hW0⟩ : ∃ W0, ((w.alloc (.cells #[.int .i64 (cellN A b).1, .int .i64 (cellN A b).2] 28)).alloc (.cells #[.int .i64 (cellN A j).1, .int .i64 (cellN A j).2] 28)) = W0 := ⟨_, rfl⟩
  have hA0 : Below w.heap.size w W0 := by rw [← hW0]; exact bl_al (bl_al (bl0 _) _) _
  rw [hW0] at S0
  have HD := Lib.hid (show ∀ (W' : World) m' n' f', Sep W' B (HeapO p m' :: CameO q n' f' :: CellsO zf #[.int .i64 A, .int .i64 H, .slice a zn cap] t1 :: CellsO zt #[.int .i64 t.1, .int .i64 t.2] t2 :: CellsO zc #[.map (some q)] t3 :: CellsO zw #[.pointer (some ⟨p, 0, none⟩)] t4 :: (l ++ ([CellsO w.heap.size #[.int .i64 (cellN A b).1, .int .i64 (cellN A b).2] 28] ++ [CellsO (w.heap.size + 1) #[.int .i64 (cellN A j).1, .int .i64 (cellN A j).2] 28]))) →
      Sep W' B (HeapO p m' :: CameO q n' f' :: CellsO zf #[.int .i64 A, .int .i64 H, .slice a zn cap] t1 :: CellsO zt #[.int .i64 t.1, .int .i64 t.2] t2 :: CellsO zc #[.map (some q)] t3 :: CellsO zw #[.pointer (some ⟨p, 0, none⟩)] t4 :: l) from by
    intro W' m' n' f' h
    have h2 := Sep.drop (l1 := HeapO p m' :: CameO q n' f' :: CellsO zf #[.int .i64 A, .int .i64 H, .slice a zn cap] t1 :: CellsO zt #[.int .i64 t.1, .int .i64 t.2] t2 :: CellsO zc #[.map (some q)] t3 :: CellsO zw #[.pointer (some ⟨p, 0, none⟩)] t4 :: l) h
    have h3 := Sep.drop (l1 := HeapO p m' :: CameO q n' f' :: CellsO zf #[.int .i64 A, .int .i64 H, .slice a zn cap] t1 :: CellsO zt #[.int .i64 t.1, .int .i64 t.2] t2 :: CellsO zc #[.map (some q)] t3 :: CellsO zw #[.pointer (some ⟨p, 0, none⟩)] t4 :: l) h2
    rw [List.append_nil] at h3
    exact h3)
  have HF := Lib.hid (show ∀ (W' : World) m' n' f', Sep W' B (HeapO p m' :: CameO q n' f' :: CellsO zf #[.int .i64 A, .int .i64 H, .slice a zn cap] t1 :: CellsO zt #[.int .i64 t.1, .int .i64 t.2] t2 :: CellsO zc #[.map (some q)] t3 :: CellsO zw #[.pointer (some ⟨p, 0, none⟩)] t4 :: (l ++ ([CellsO w.heap.size #[.int .i64 (cellN A b).1, .int .i64 (cellN A b).2] 28] ++ [CellsO (w.heap.size + 1) #[.int .i64 (cellN A j).1, .int .i64 (cellN A j).2] 28]))) →
      W'.cell? ⟨zf, 0, none⟩ = some (.int .i64 A) ∧ W'.cell? ⟨zf, 1, none⟩ = some (.int .i64 H) ∧ W'.cell? ⟨zt, 0, none⟩ = some (.int .i64 t.1) ∧ W'.cell? ⟨zt, 1, none⟩ = some (.int .i64 t.2) ∧ W'.cell? ⟨zc, 0, none⟩ = some (.map (some q)) ∧ W'.cell? ⟨zw, 0, none⟩ = some (.pointer (some ⟨p, 0, none⟩)) ∧
      W'.cell? ⟨w.heap.size, 0, none⟩ = some (.int .i64 (cellN A b).1) ∧ W'.cell? ⟨w.heap.size, 1, none⟩ = some (.int .i64 (cellN A b).2) ∧ W'.cell? ⟨w.heap.size + 1, 0, none⟩ = some (.int .i64 (cellN A j).1) ∧ W'.cell? ⟨w.heap.size + 1, 1, none⟩ = some (.int .i64 (cellN A j).2) from by
    intro W' m' n' f' h
    refine ⟨Sep.cellAt (l1 := [HeapO p m', CameO q n' f']) h 0 _ rfl, Sep.cellAt (l1 := [HeapO p m', CameO q n' f']) h 1 _ rfl,
      Sep.cellAt (l1 := [HeapO p m', CameO q n' f', CellsO zf #[.int .i64 A, .int .i64 H, .slice a zn cap] t1]) h 0 _ rfl, Sep.cellAt (l1 := [HeapO p m', CameO q n' f', CellsO zf #[.int .i64 A, .int .i64 H, .slice a zn cap] t1]) h 1 _ rfl,
      Sep.cellAt (l1 := [HeapO p m', CameO q n' f', CellsO zf #[.int .i64 A, .int .i64 H, .slice a zn cap] t1, CellsO zt #[.int .i64 t.1, .int .i64 t.2] t2]) h 0 _ rfl,
      Sep.cellAt (l1 := [HeapO p m', CameO q n' f', CellsO zf #[.int .i64 A, .int .i64 H, .slice a zn cap] t1, CellsO zt #[.int .i64 t.1, .int .i64 t.2] t2, CellsO zc #[.map (some q)] t3]) h 0 _ rfl, ?_, ?_, ?_, ?_⟩
    · exact Sep.cellAt (l1 := HeapO p m' :: CameO q n' f' :: CellsO zf #[.int .i64 A, .int .i64 H, .slice a zn cap] t1 :: CellsO zt #[.int .i64 t.1, .int .i64 t.2] t2 :: CellsO zc #[.map (some q)] t3 :: CellsO zw #[.pointer (some ⟨p, 0, none⟩)] t4 :: l) h 0 _ rfl
    · exact Sep.cellAt (l1 := HeapO p m' :: CameO q n' f' :: CellsO zf #[.int .i64 A, .int .i64 H, .slice a zn cap] t1 :: CellsO zt #[.int .i64 t.1, .int .i64 t.2] t2 :: CellsO zc #[.map (some q)] t3 :: CellsO zw #[.pointer (some ⟨p, 0, none⟩)] t4 :: l) h 1 _ rfl
    all_goals
      rw [← List.append_assoc] at h
    · exact Sep.cellAt (l1 := HeapO p m' :: CameO q n' f' :: CellsO zf #[.int .i64 A, .int .i64 H, .slice a zn cap] t1 :: CellsO zt #[.int .i64 t.1, .int .i64 t.2] t2 :: CellsO zc #[.map (some q)] t3 :: CellsO zw #[.pointer (some ⟨p, 0, none⟩)] t4 :: (l ++ _)) (l2 := []) h 0 _ rfl
    · exact Sep.cellAt (l1 := HeapO p m' :: CameO q n' f' :: CellsO zf #[.int .i64 A, .int .i64 H, .slice a zn cap] t1 :: CellsO zt #[.int .i64 t.1, .int .i64 t.2] t2 :: CellsO zc #[.map (some q)] t3 :: CellsO zw #[.pointer (some ⟨p, 0, none⟩)] t4 :: (l ++ _)) (l2 := []) h 1 _ rfl)
  generalize (l ++ ([CellsO w.heap.size #[.int .i64 (cellN A b).1, .int .i64 (cellN A b).2] 28] ++ [CellsO (w.heap.size + 1) #[.int .i64 (cellN A j).1, .int .i64 (cellN A j).2] 28])) = L at *
  generalize (CellsO zf #[.int .i64 A, .int .i64 H, .slice a zn cap] t1 :: CellsO zt #[.int .i64 t.1, .int .i64 t.2] t2 :: CellsO zc #[.map (some q)] t3 :: CellsO zw #[.pointer (some ⟨p, 0, none⟩)] t4 :: L) = T at S0 HF HD
  have HI := Lib.hid (fun w => (show Calls Tryd.prog 34 #[.agg #[.int .i64 A, .int .i64 H], .agg #[.int .i64 (cellN A j).1, .int .i64 (cellN A j).2]] w fun e w' => e = .returned (.tuple #[.int .i64 (j : Int), .int .i64 0]) ∧ Below w.heap.size w w' from hnj.1 ▸ index_yes _ _ _ _ w hoj))
  have HK := Lib.hid (fun w => skey_any (cellN A j) t x w (on_plB hoj) (on_plB ht) hx (by omega))
  have hkey : s.st j = 1 → keyA m (j : Int) = thC t (cellN A j) j (s.g j) := fun h1 => by
    have := hR.heap.find (i := j) (by omega)
    rw [if_pos h1] at this
    unfold keyA
    rw [this]
    rfl
  have hless : s.st j = 1 → lessK (thC t (cellN A j) j x) (keyA m (j : Int)) = decide (x < s.g j) := fun h1 => by
    rw [hkey h1]
    unfold lessK thC
    dsimp only
    by_cases e : x + guessI (cellN A j) t = s.g j + guessI (cellN A j) t
    · have : ¬ x < s.g j := by omega
      simp [e, this]
    · rw [if_neg e]
      exact decide_eq_decide.2 (by omega)
  have HY := fun (w : World) (h : Sep w B (HeapO p m :: CameO q n f :: T)) => key_sep (l1 := []) (j : Int) h wjn
  have hold := hR.old hm hj
  have hopen := hR.isOpen hj
  have HC := fun (w : World) (h : Sep w B (HeapO p m :: CameO q n f :: T)) => (Sep.came (l1 := [HeapO p m]) h).look (on_wfC hoj)
  generalize ho1 : (f (cellN A j)).isSome = o1 at hold HC
  generalize ho2 : (findT m (j : Int)).isSome = o2 at hopen HY
  generalize (f (cellN A j)).getD (0, 0) = d at HC
  have HL := Lib.hid (fun w => less_any (thC t (cellN A j) j x) (keyA m (j : Int)) w)
  have HP := Lib.hid (fun (w : World) (h : Sep w B (HeapO p m :: CameO q n f :: T)) => push_sep (l1 := []) (thC t (cellN A j) j x) h wjn (by omega))
  have HW := Lib.hid (fun (w : World) (h : Sep w B (HeapO p m :: CameO q n f :: T)) => lower_sep (l1 := []) (thC t (cellN A j) j x) h wjn (by omega))
  have HT := Lib.hid (fun (W : World) m' (h : Sep W B (HeapO p m' :: CameO q n f :: T)) => Sep.store (l1 := [HeapO p m']) h (on_wfC hoj) (p := cellN A b) (show n < maxLen by unfold maxLen; omega))
  have HX := Lib.hid hold
  have HO := Lib.hid hopen
  have HE := Lib.hid hless
  have HR := Lib.hid hR
  have HM := Lib.hid (And.intro hm hj)
  have H1 := Lib.hid ho1
  have H2 := Lib.hid ho2
  have H0 := Lib.hid hW0
  have HB := Lib.hid (hAB.trans (hA0.mono hS.base))
  have HYh := Lib.hid HY
  have HCh := Lib.hid HC
  have HS0 := Lib.hid S0
  have hfin : ∀ (W : World), Sep W B (HeapO p m :: CameO q n f :: T) → Below B w W → ¬ (s.st j = 0 ∨ s.st j = 1 ∧ x < s.g j) → Below B w W ∧ ∃ m' n' f', StarS A H t (A * H).toNat (reachS s b j x) m' n' f' ∧ Sep W B (HeapO p m' :: CameO q n' f' :: CellsO zf #[.int .i64 A, .int .i64 H, .slice a zn cap] t1 :: CellsO zt #[.int .i64 t.1, .int .i64 t.2] t2 :: CellsO zc #[.map (some q)] t3 :: CellsO zw #[.pointer (some ⟨p, 0, none⟩)] t4 :: l) :=
    fun W h1 h2 h3 => ⟨h2, _, _, _, by rw [reach_no h3]; exact HR.out, HD.out _ _ _ _ h1⟩
  have HN := Lib.hid hfin
  clear hfin hold hopen hless hR hm hj ho1 ho2 HY HC hnj hoj hx hx2 ht hb hkey m1 m2 wjn hW0 hAB hA0 hS
  obtain ⟨y0, y1, u0, u1, v0, r0, b0, b1, c0, c1⟩ := HF.out _ _ _ _ S0
  clear S0
  generalize hcj : cellN A j = cj at *
  have HQ := Lib.hid hcj
  clear hcj
  go_enter Tryd.func49, Tryd.ntmps49
  go_upto_region 1 with fail
  rw [H0.out]
  have hA := bl0 W0
  go_wp2_with fail
  refine (HI.out _).mono ?_
  rintro e W1 ⟨rfl, hb⟩
  have hk : Below W0.heap.size W0 W1 := by first | exact hb | exact bl_tr (bl_al (bl0 _) _) hb | exact bl_tr (bl_dr (bl_al (bl0 _) _)) hb | exact bl_tr (bl_al (bl_al (bl0 _) _) _) hb | exact bl_tr (bl_dr (bl_al (bl_al (bl0 _) _) _)) hb | exact bl_tr (bl_al (bl_al (bl_al (bl0 _) _) _) _) hb | exact bl_tr (bl_dr (bl_al (bl_al (bl_al (bl0 _) _) _) _)) hb | exact bl_tr (bl_al (bl_al (bl_al (bl_al (bl0 _) _) _) _) _) hb | exact bl_tr (bl_dr (bl_al (bl_al (bl_al (bl_al (bl0 _) _) _) _) _)) hb | exact bl_tr (bl_al (bl_al (bl_al (bl_al (bl_al (bl0 _) _) _) _) _) _) hb | exact bl_tr (bl_dr (bl_al (bl_al (bl_al (bl_al (bl_al (bl0 _) _) _) _) _) _)) hb | exact bl_tr (bl_al (bl_al (bl_al (bl_al (bl_al (bl_al (bl0 _) _) _) _) _) _) _) hb | exact bl_tr (bl_dr (bl_al (bl_al (bl_al (bl_al (bl_al (bl_al (bl0 _) _) _) _) _) _) _)) hb | exact bl_tr (bl_dr (bl0 _)) hb
  replace hA := bl_tr hA hk
  replace y0 := cell_later hk y0
  replace y1 := cell_later hk y1
  replace u0 := cell_later hk u0
  replace u1 := cell_later hk u1
  replace v0 := cell_later hk v0
  replace r0 := cell_later hk r0
  replace b0 := cell_later hk b0
  replace b1 := cell_later hk b1
  replace c0 := cell_later hk c0
  replace c1 := cell_later hk c1
  clear hb hk
  have zy0 := blk_lt y0
  have zy1 := blk_lt y1
  have zu0 := blk_lt u0
  have zu1 := blk_lt u1
  have zv0 := blk_lt v0
  have zr0 := blk_lt r0
  have zb0 := blk_lt b0
  have zb1 := blk_lt b1
  have zc0 := blk_lt c0
  have zc1 := blk_lt c1
  go_wp2_with fail
  refine (HK.out _).mono ?_
  rintro e W2 ⟨rfl, hb⟩
  have hk : Below W1.heap.size W1 W2 := by first | exact hb | exact bl_tr (bl_al (bl0 _) _) hb | exact bl_tr (bl_dr (bl_al (bl0 _) _)) hb | exact bl_tr (bl_al (bl_al (bl0 _) _) _) hb | exact bl_tr (bl_dr (bl_al (bl_al (bl0 _) _) _)) hb | exact bl_tr (bl_al (bl_al (bl_al (bl0 _) _) _) _) hb | exact bl_tr (bl_dr (bl_al (bl_al (bl_al (bl0 _) _) _) _)) hb | exact bl_tr (bl_al (bl_al (bl_al (bl_al (bl0 _) _) _) _) _) hb | exact bl_tr (bl_dr (bl_al (bl_al (bl_al (bl_al (bl0 _) _) _) _) _)) hb | exact bl_tr (bl_al (bl_al (bl_al (bl_al (bl_al (bl0 _) _) _) _) _) _) hb | exact bl_tr (bl_dr (bl_al (bl_al (bl_al (bl_al (bl_al (bl0 _) _) _) _) _) _)) hb | exact bl_tr (bl_al (bl_al (bl_al (bl_al (bl_al (bl_al (bl0 _) _) _) _) _) _) _) hb | exact bl_tr (bl_dr (bl_al (bl_al (bl_al (bl_al (bl_al (bl_al (bl0 _) _) _) _) _) _) _)) hb | exact bl_tr (bl_dr (bl0 _)) hb
  replace hA := bl_tr hA hk
  replace y0 := cell_later hk y0
  replace y1 := cell_later hk y1
  replace u0 := cell_later hk u0
  replace u1 := cell_later hk u1
  replace v0 := cell_later hk v0
  replace r0 := cell_later hk r0
  replace b0 := cell_later hk b0
  replace b1 := cell_later hk b1
  replace c0 := cell_later hk c0
  replace c1 := cell_later hk c1
  clear hb hk
  have zy0 := blk_lt y0
  have zy1 := blk_lt y1
  have zu0 := blk_lt u0
  have zu1 := blk_lt u1
  have zv0 := blk_lt v0
  have zr0 := blk_lt r0
  have zb0 := blk_lt b0
  have zb1 := blk_lt b1
  have zc0 := blk_lt c0
  have zc1 := blk_lt c1
  have S2 := HS0.out.below hA
  have hC := HCh.out _ (S2.below (bl_al (bl0 W2) (.cells #[.int .u64 (x + guessI cj t), .int .u64 (guessI cj t), .int .i64 cj.2, .int .i64 cj.1] 100)))
  go_wp2_with fail
  refine (HYh.out _ (S2.below (bl_al (bl_al (bl0 W2) _) _))).mono ?_
  rintro e W3 ⟨rfl, S3, hb⟩
  have hk : Below W2.heap.size W2 W3 := by first | exact hb | exact bl_tr (bl_al (bl0 _) _) hb | exact bl_tr (bl_dr (bl_al (bl0 _) _)) hb | exact bl_tr (bl_al (bl_al (bl0 _) _) _) hb | exact bl_tr (bl_dr (bl_al (bl_al (bl0 _) _) _)) hb | exact bl_tr (bl_al (bl_al (bl_al (bl0 _) _) _) _) hb | exact bl_tr (bl_dr (bl_al (bl_al (bl_al (bl0 _) _) _) _)) hb | exact bl_tr (bl_al (bl_al (bl_al (bl_al (bl0 _) _) _) _) _) hb | exact bl_tr (bl_dr (bl_al (bl_al (bl_al (bl_al (bl0 _) _) _) _) _)) hb | exact bl_tr (bl_al (bl_al (bl_al (bl_al (bl_al (bl0 _) _) _) _) _) _) hb | exact bl_tr (bl_dr (bl_al (bl_al (bl_al (bl_al (bl_al (bl0 _) _) _) _) _) _)) hb | exact bl_tr (bl_al (bl_al (bl_al (bl_al (bl_al (bl_al (bl0 _) _) _) _) _) _) _) hb | exact bl_tr (bl_dr (bl_al (bl_al (bl_al (bl_al (bl_al (bl_al (bl0 _) _) _) _) _) _) _)) hb | exact bl_tr (bl_dr (bl0 _)) hb
  replace hA := bl_tr hA hk
  replace y0 := cell_later hk y0
  replace y1 := cell_later hk y1
  replace u0 := cell_later hk u0
  replace u1 := cell_later hk u1
  replace v0 := cell_later hk v0
  replace r0 := cell_later hk r0
  replace b0 := cell_later hk b0
  replace b1 := cell_later hk b1
  replace c0 := cell_later hk c0
  replace c1 := cell_later hk c1
  have k0 := cell_later hb (v := .int .u64 (x + guessI cj t)) (a := ⟨W2.heap.size, 0, none⟩) (by simp [go_sem])
  have k1 := cell_later hb (v := .int .u64 (guessI cj t)) (a := ⟨W2.heap.size, 1, none⟩) (by simp [go_sem])
  have k2 := cell_later hb (v := .int .i64 cj.2) (a := ⟨W2.heap.size, 2, none⟩) (by simp [go_sem])
  have k3 := cell_later hb (v := .int .i64 cj.1) (a := ⟨W2.heap.size, 3, none⟩) (by simp [go_sem])
  clear hb hk
  have zy0 := blk_lt y0
  have zy1 := blk_lt y1
  have zu0 := blk_lt u0
  have zu1 := blk_lt u1
  have zv0 := blk_lt v0
  have zr0 := blk_lt r0
  have zb0 := blk_lt b0
  have zb1 := blk_lt b1
  have zc0 := blk_lt c0
  have zc1 := blk_lt c1
  have zk0 := blk_lt k0
  have zk1 := blk_lt k1
  have zk2 := blk_lt k2
  have zk3 := blk_lt k3
  clear hC S2
  go_upto_region 5 with fail
  have HB3 := Lib.hid (HB.out.trans (hA.mono HS0.out.base))
  clear hA
  by_cases e0 : s.st j = 0
  · have e1 : o1 = false := by rw [HX.out, e0]; rfl
    have e2 : o2 = false := by rw [HO.out, e0]; rfl
    have E1 := Lib.hid (H1.out.trans e1)
    have hpm : pushM m (thC t cj j x) = m ++ [thC t cj j x] := if_neg (by show ¬ (findT m (j : Int)).isSome = true; rw [H2.out, e2]; decide)
    have HPM := Lib.hid hpm
    have E0 := Lib.hid e0
    subst e1
    clear e0 e2 hpm H1
    go_wp2_with fail
    refine (HP.out _ (S3.below (bl_al (bl0 W3) _))).mono ?_
    rintro e W5 ⟨rfl, S5, hb5⟩
    rw [HPM.out] at S5
    obtain ⟨y0, y1, u0, u1, v0, r0, b0, b1, c0, c1⟩ := HF.out _ _ _ _ S5
    obtain ⟨W6, hrun, S6, hb6⟩ := HT.out _ _ S5
    rw [E1.out] at S6
    have H6 := Lib.hid S6
    have HB6 := Lib.hid ((HB3.out.trans ((bl_al (bl0 W3) (.cells #[.int .u64 (keyA m (j : Int)).F, .int .u64 (keyA m (j : Int)).H, .int .i64 (keyA m (j : Int)).Y, .int .i64 (keyA m (j : Int)).X] 100)).mono S3.base)).trans (hb5.trans hb6))
    clear S5 S6 hb5 hb6 S3
    go_wp2
    go_end0
    refine ⟨rfl, HB6.out, _, _, _, ?_, HD.out _ _ _ _ H6.out⟩
    have := HR.out.fresh (b := b) (x := x) HM.out.1 HM.out.2 E0.out
    rw [HQ.out] at this
    exact this
  · have e1 : o1 = true := by rw [HX.out]; exact decide_eq_true e0
    have E1 := Lib.hid (H1.out.trans e1)
    subst e1
    clear H1
    by_cases e2 : s.st j = 1
    · have e3 : o2 = true := by rw [HO.out]; exact decide_eq_true e2
      subst e3
      clear e0 H2
      have hl := HE.out e2
      by_cases e4 : x < s.g j
      · rw [decide_eq_true e4] at hl
        have HLT := Lib.hid hl
        obtain ⟨q1, q2⟩ := HR.out.less (b := b) (x := x) HM.out.1 HM.out.2 e2 e4
        rw [HQ.out] at q1 q2
        have Q1 := Lib.hid q1
        have Q2 := Lib.hid q2
        clear hl e2 e4 q1 q2
        go_wp2_with fail
        refine (HL.out _).mono ?_
        rintro e W4 ⟨rfl, hb4⟩
        rw [HLT.out]
        have S4 := (S3.below (bl_al (bl0 W3) _)).below hb4
        have hk := bl_tr (bl_al (bl0 W3) _) hb4
        replace k0 := cell_later hk k0
        replace k1 := cell_later hk k1
        replace k2 := cell_later hk k2
        replace k3 := cell_later hk k3
        have HB4 := Lib.hid (HB3.out.trans (hk.mono S3.base))
        obtain ⟨y0, y1, u0, u1, v0, r0, b0, b1, c0, c1⟩ := HF.out _ _ _ _ S4
        have H4 := Lib.hid S4
        clear S3 S4 hk hb4
        go_wp2_with fail
        refine (HW.out _ H4.out).mono ?_
        rintro e W5 ⟨rfl, S5, hb5⟩
        obtain ⟨y0, y1, u0, u1, v0, r0, b0, b1, c0, c1⟩ := HF.out _ _ _ _ S5
        obtain ⟨W6, hrun, S6, hb6⟩ := HT.out _ _ S5
        rw [E1.out] at S6
        have H6 := Lib.hid S6
        have HB6 := Lib.hid (HB4.out.trans (hb5.trans hb6))
        clear S5 S6 hb5 hb6 H4
        go_wp2
        go_end0
        exact ⟨rfl, HB6.out, _, _, _, Q2.out, HD.out _ _ _ _ H6.out⟩
      · rw [decide_eq_false e4] at hl
        have HLT := Lib.hid hl
        have E4 := Lib.hid (show ¬ (s.st j = 0 ∨ s.st j = 1 ∧ x < s.g j) by omega)
        clear hl e2 e4
        go_wp2_with fail
        refine (HL.out _).mono ?_
        rintro e W4 ⟨rfl, hb4⟩
        rw [HLT.out]
        have S4 := (S3.below (bl_al (bl0 W3) _)).below hb4
        have hk := bl_tr (bl_al (bl0 W3) _) hb4
        have HB4 := Lib.hid (HB3.out.trans (hk.mono S3.base))
        have H4 := Lib.hid S4
        clear S3 S4 hk hb4
        go_wp2
        exact bodyPost_ret (v := .tuple #[]) (by simp [results, Tryd.results49, go_sem]) rfl ⟨rfl, HN.out _ H4.out HB4.out E4.out⟩
    · have e3 : o2 = false := by rw [HO.out]; exact decide_eq_false e2
      subst e3
      have E4 := Lib.hid (show ¬ (s.st j = 0 ∨ s.st j = 1 ∧ x < s.g j) by omega)
      have H4 := Lib.hid (S3.below (bl_al (bl0 W3) (.cells #[.int .u64 (keyA m (j : Int)).F, .int .u64 (keyA m (j : Int)).H, .int .i64 (keyA m (j : Int)).Y, .int .i64 (keyA m (j : Int)).X] 100)))
      have HB4 := Lib.hid (HB3.out.trans ((bl_al (bl0 W3) (.cells #[.int .u64 (keyA m (j : Int)).F, .int .u64 (keyA m (j : Int)).H, .int .i64 (keyA m (j : Int)).Y, .int .i64 (keyA m (j : Int)).X] 100)).mono S3.base))
      clear S3 e0 e2 H2
      go_wp2
      exact bodyPost_ret (v := .tuple #[]) (by simp [results, Tryd.results49, go_sem]) rfl ⟨rfl, HN.out _ H4.out HB4.out E4.out⟩
end Go.Proofs.YtldpajfendkhbaaDoor

/- A search by guess: a cell's cost; the first that waits is taken. -/
namespace Go.Proofs.YtldpajfendkhbaaDoor
open Go.RowKit Go.Maps

set_option maxRecDepth 100000 in
set_option maxHeartbeats 2000000 in
theorem scost_any (A B : Int) (a : Option Addr) (cap : Nat) (zs : List Int) (c : IC) (w : World) (hr : RowH w a zs) (hin : AllH zs) (hi : onB A B c = true) (hn : (zs.length : Int) = A * B) :
    Calls Tryd.prog 22 #[.agg #[.int .i64 A, .int .i64 B, .slice a zs.length cap], .agg #[.int .i64 c.1, .int .i64 c.2]] w fun e w' => e = .returned (.int .u64 (zs.getD (numN A c) 0)) ∧ Below w.heap.size w w' := by
  obtain ⟨n1, n2⟩ := numN_int hi
  obtain ⟨z1, z2⟩ := getD_in hin (numN A c)
  have hl : numN A c < zs.length := by omega
  have hj0 : (0 : Int) ≤ (numN A c : Int) := by omega
  have hl2 : (numN A c : Int) < (zs.length : Int) := by omega
  have HC := Lib.hid (fun w => (show Calls Tryd.prog 34 #[.agg #[.int .i64 A, .int .i64 B], .agg #[.int .i64 c.1, .int .i64 c.2]] w fun e w' => e = .returned (.tuple #[.int .i64 (numN A c : Int), .int .i64 0]) ∧ Below w.heap.size w w' from n1.symm ▸ index_yes _ _ _ _ w hi))
  obtain ⟨gb, go, rfl, q⟩ := hr.cell hl
  rw [show zs[numN A c] = zs.getD (numN A c) 0 by rw [List.getD_eq_getElem?_getD, List.getElem?_eq_getElem hl]; rfl] at q
  generalize zs.getD (numN A c) 0 = z at *
  have e3 : IntKind.u64.wrap z = z := by rw [IntKind.wrap_u64]; omega
  clear hr hi hn z1 z2 hl n1 n2 hin
  generalize numN A c = j at *
  have hA := bl0 w
  have zq := blk_lt q
  go_enter Tryd.func22, Tryd.ntmps22
  go_wp2_with fail
  refine (HC.out _).mono ?_
  rintro e W1 ⟨rfl, hb⟩
  have hk : Below w.heap.size w W1 := by first | exact hb | exact bl_tr (bl_al (bl0 _) _) hb | exact bl_tr (bl_dr (bl_al (bl0 _) _)) hb | exact bl_tr (bl_al (bl_al (bl0 _) _) _) hb | exact bl_tr (bl_dr (bl_al (bl_al (bl0 _) _) _)) hb | exact bl_tr (bl_al (bl_al (bl_al (bl0 _) _) _) _) hb | exact bl_tr (bl_dr (bl_al (bl_al (bl_al (bl0 _) _) _) _)) hb | exact bl_tr (bl_al (bl_al (bl_al (bl_al (bl0 _) _) _) _) _) hb | exact bl_tr (bl_dr (bl_al (bl_al (bl_al (bl_al (bl0 _) _) _) _) _)) hb | exact bl_tr (bl_al (bl_al (bl_al (bl_al (bl_al (bl0 _) _) _) _) _) _) hb | exact bl_tr (bl_dr (bl_al (bl_al (bl_al (bl_al (bl_al (bl0 _) _) _) _) _) _)) hb | exact bl_tr (bl_al (bl_al (bl_al (bl_al (bl_al (bl_al (bl0 _) _) _) _) _) _) _) hb | exact bl_tr (bl_dr (bl_al (bl_al (bl_al (bl_al (bl_al (bl_al (bl0 _) _) _) _) _) _) _)) hb | exact bl_tr (bl_dr (bl0 _)) hb
  replace hA := bl_tr hA hk
  replace q := cell_later hk q
  have x0 := cell_later hb (v := .int .i64 A) (a := ⟨w.heap.size, 0, none⟩) (by simp [go_sem])
  have x1 := cell_later hb (v := .int .i64 B) (a := ⟨w.heap.size, 1, none⟩) (by simp [go_sem])
  have x2 := cell_later hb (v := .slice (some ⟨gb, go, none⟩) zs.length cap) (a := ⟨w.heap.size, 2, none⟩) (by simp [go_sem])
  clear hb hk
  have zq := blk_lt q
  have zx0 := blk_lt x0
  have zx1 := blk_lt x1
  have zx2 := blk_lt x2
  go_wp2
  go_ret
  exact ⟨rfl, hA⟩

theorem Sep.frozenAt {W : World} {B : Nat} {l1 l2 : List Own} {k : Nat} {cs : Array Value} {t : TypeId} (h : Sep W B (l1 ++ CellsO k cs t :: l2)) (i : Nat) : W.frozen? ⟨k, i, none⟩ = false := by
  simp [World.frozen?, h.cells.1]

set_option maxRecDepth 100000 in
set_option maxHeartbeats 2000000 in
theorem stake_any {A H : Int} {a : Option Addr} {zn cap : Nat} {m : List Th} {p b : Nat} {g h : Nat → Int} {B : Nat} {R : List Own} {w : World} (hm : mayB A H = true) (hb : (b : Int) < A * H) (hg : 0 ≤ g b) (hg2 : g b ≤ 4611686018427387904)
    (hf : firstT m = thA A g h b) (hl : m.length ≤ 65536) (hS : Sep w B (HeapO p m :: R)) :
    Calls Tryd.prog 38 #[.agg #[.int .i64 A, .int .i64 H, .slice a zn cap], .pointer (some ⟨p, 0, none⟩)] w fun e w' => e = .returned (.tuple #[.agg #[.int .i64 (cellN A b).1, .int .i64 (cellN A b).2], .int .u64 (g b)]) ∧ Sep w' B (HeapO p (popM m) :: R) ∧ Below B w w' := by
  have hbox := (hS.box #[.int .i64 A, .int .i64 H, .slice a zn cap] 26).box #[.int .i64 0, .int .i64 0] 28
  rw [World.size_alloc] at hbox
  obtain ⟨W0, hW0⟩ : ∃ W0, ((w.alloc (.cells #[.int .i64 A, .int .i64 H, .slice a zn cap] 26)).alloc (.cells #[.int .i64 0, .int .i64 0] 28)) = W0 := ⟨_, rfl⟩
  have hA0 : Below w.heap.size w W0 := by rw [← hW0]; exact bl_al (bl_al (bl0 _) _) _
  rw [hW0] at hbox
  have HB0 := Lib.hid (((bl0 w).mono hS.base).trans (hA0.mono hS.base))
  have HBw := Lib.hid hS.base
  have e0 : IntKind.u64.wrap (g b) = g b := by rw [IntKind.wrap_u64]; omega
  have HP := Lib.hid (show Calls Tryd.prog 55 #[.pointer (some ⟨p, 0, none⟩)] W0 fun e w' => e = .returned (.tuple #[.int .i64 (b : Int), .agg #[.int .u64 (g b + h b), .int .u64 (h b), .int .i64 ((b : Int) / A), .int .i64 ((b : Int) % A)], .bool (!m.isEmpty)]) ∧ Sep w' B (HeapO p (popM m) :: ((R ++ [CellsO w.heap.size #[.int .i64 A, .int .i64 H, .slice a zn cap] 26]) ++ [CellsO (w.heap.size + 1) #[.int .i64 0, .int .i64 0] 28])) ∧ Below B W0 w' by
    have := pop_sep (l1 := []) (l2 := ((R ++ [CellsO w.heap.size #[.int .i64 A, .int .i64 H, .slice a zn cap] 26]) ++ [CellsO (w.heap.size + 1) #[.int .i64 0, .int .i64 0] 28])) hbox (by omega)
    rw [hf] at this
    exact this)
  have HAT := Lib.hid (fun w => (show Calls Tryd.prog 56 #[.agg #[.int .i64 A, .int .i64 H], .int .i64 (b : Int)] w fun e w' => e = .returned (.tuple #[.agg #[.int .i64 (cellN A b).1, .int .i64 (cellN A b).2], .int .i64 0]) ∧ Below w.heap.size w w' from
    at_yes A H b w (by obtain ⟨h1, h2, h3, h4⟩ := mayB_iff.1 hm; exact atB_iff.2 ⟨h1, h2, h3, h4, by omega, by omega⟩)))
  have H0 := Lib.hid hW0
  clear hbox hS hm hb hg hg2 hf hl hA0 hW0
  generalize cellN A b = cb at *
  generalize g b = gv at *
  generalize h b = hv at *
  generalize (!m.isEmpty) = o at *
  go_enter Tryd.func38, Tryd.ntmps38
  go_upto_region 1 with fail
  rw [H0.out]
  go_wp2_with fail
  refine HP.out.mono ?_
  rintro e W1 ⟨rfl, S1, hb1⟩
  have x0 := Sep.cellAt (l1 := HeapO p (popM m) :: R) (l2 := [CellsO (w.heap.size + 1) #[.int .i64 0, .int .i64 0] 28]) (by rw [List.append_assoc] at S1; exact S1) 0 (.int .i64 A) rfl
  have x1 := Sep.cellAt (l1 := HeapO p (popM m) :: R) (l2 := [CellsO (w.heap.size + 1) #[.int .i64 0, .int .i64 0] 28]) (by rw [List.append_assoc] at S1; exact S1) 1 (.int .i64 H) rfl
  have S1' : Sep W1 B ((HeapO p (popM m) :: (R ++ [CellsO w.heap.size #[.int .i64 A, .int .i64 H, .slice a zn cap] 26])) ++ CellsO (w.heap.size + 1) #[.int .i64 0, .int .i64 0] 28 :: []) := S1
  have H1 := Lib.hid S1'
  have HB1 := Lib.hid (HB0.out.trans hb1)
  clear S1 S1' hb1 HP HB0
  have hA := bl0 W1
  have zx0 := blk_lt x0
  have zx2 := blk_lt (Sep.cellAt H1.out 0 (.int .i64 0) rfl)
  go_wp2_with fail
  refine (HAT.out _).mono ?_
  rintro e W2 ⟨rfl, hb⟩
  have hk : Below W1.heap.size W1 W2 := by first | exact hb | exact bl_tr (bl_al (bl0 _) _) hb | exact bl_tr (bl_dr (bl_al (bl0 _) _)) hb | exact bl_tr (bl_al (bl_al (bl0 _) _) _) hb | exact bl_tr (bl_dr (bl_al (bl_al (bl0 _) _) _)) hb | exact bl_tr (bl_al (bl_al (bl_al (bl0 _) _) _) _) hb | exact bl_tr (bl_dr (bl_al (bl_al (bl_al (bl0 _) _) _) _)) hb | exact bl_tr (bl_al (bl_al (bl_al (bl_al (bl0 _) _) _) _) _) hb | exact bl_tr (bl_dr (bl_al (bl_al (bl_al (bl_al (bl0 _) _) _) _) _)) hb | exact bl_tr (bl_al (bl_al (bl_al (bl_al (bl_al (bl0 _) _) _) _) _) _) hb | exact bl_tr (bl_dr (bl_al (bl_al (bl_al (bl_al (bl_al (bl0 _) _) _) _) _) _)) hb | exact bl_tr (bl_al (bl_al (bl_al (bl_al (bl_al (bl_al (bl0 _) _) _) _) _) _) _) hb | exact bl_tr (bl_dr (bl_al (bl_al (bl_al (bl_al (bl_al (bl_al (bl0 _) _) _) _) _) _) _)) hb | exact bl_tr (bl_dr (bl0 _)) hb
  replace hA := bl_tr hA hk
  replace x0 := cell_later hk x0
  replace x1 := cell_later hk x1
  have k0 := cell_later hb (v := .int .u64 (gv + hv)) (a := ⟨W1.heap.size, 0, none⟩) (by simp [go_sem])
  have k1 := cell_later hb (v := .int .u64 hv) (a := ⟨W1.heap.size, 1, none⟩) (by simp [go_sem])
  clear hb hk
  have zx0 := blk_lt x0
  have zx1 := blk_lt x1
  have zk0 := blk_lt k0
  have zk1 := blk_lt k1
  go_upto_region 3 with fail
  obtain ⟨W3, hW3⟩ : ∃ W3, W2.alloc (.cells #[.int .i64 cb.1, .int .i64 cb.2] 28) = W3 := ⟨_, rfl⟩
  have hk : Below W2.heap.size W2 W3 := by rw [← hW3]; exact bl_al (bl0 _) _
  have d0 : W3.cell? ⟨W2.heap.size, 0, none⟩ = some (.int .i64 cb.1) := by rw [← hW3]; simp [go_sem]
  have d1 : W3.cell? ⟨W2.heap.size, 1, none⟩ = some (.int .i64 cb.2) := by rw [← hW3]; simp [go_sem]
  rw [hW3]
  replace k0 := cell_later hk k0
  replace k1 := cell_later hk k1
  have hD := bl_dr (bl0 W3)
  have S3 := H1.out.below (bl_tr hA hk)
  have HB3 := Lib.hid (HB1.out.trans ((bl_tr hA hk).mono H1.out.base))
  have q0 := Sep.cellAt S3 0 (.int .i64 0) rfl
  have q1 := Sep.cellAt S3 1 (.int .i64 0) rfl
  have f0 := Sep.frozenAt S3 0
  have f1 := Sep.frozenAt S3 1
  have HS3 := Lib.hid S3
  clear S3 hA x0 x1 hk
  refine (wpIn_wide (n := 8)).1 ?_
  refine ordS_begin (S := (fun w' : World => w'.cell? ⟨W2.heap.size, 0, none⟩ = some (.int .i64 cb.1) ∧ w'.cell? ⟨W2.heap.size, 1, none⟩ = some (.int .i64 cb.2) ∧ w'.cell? ⟨W1.heap.size, 0, none⟩ = some (.int .u64 (gv + hv)) ∧ w'.cell? ⟨W1.heap.size, 1, none⟩ = some (.int .u64 hv))) (by kernel_rfl) ⟨cell_later hD d0, cell_later hD d1, cell_later hD k0, cell_later hD k1⟩ (fun hH => ?_)
  first
    | (refine' ordS_take (i := 0) (oi := { dst := some 24, op := Op.load 28 (Operand.tmp 9), type := 28, pos := _, after := #[], guard := none }) (v := _) rfl (by kernel_rfl) (by kernel_rfl) (by kernel_rfl) (by kernel_rfl) (fun _ _ _ h => h) (by assumption) (Or.inl ⟨by rfl, ?hy58⟩) (fun _ => rfl) ?rest58
       case hy58 => (intro w hSw; (try dsimp only at hSw); go_simp; try with_reducible rfl))
    | (refine ordS_take (i := 0) (oi := { dst := some 24, op := Op.load 28 (Operand.tmp 9), type := 28, pos := _, after := #[], guard := none }) (v := undef) rfl (by kernel_rfl) (by kernel_rfl) (by kernel_rfl) (by kernel_rfl) (fun _ _ _ h => h) (by assumption) (Or.inr ⟨by rfl, rfl⟩) (fun _ => rfl) ?_)
  try simp only [Act.put, List.setIfInBounds_toArray, List.set_cons_zero, List.set_cons_succ]
  first
    | (refine' ordS_take (i := 1) (oi := { dst := some 25, op := Op.fieldAddr 100 (Operand.tmp 7) 0, type := 0, pos := _, after := #[{ on := 6, ground := Ground.gcOnly Departure.lateStores }], guard := none }) (v := _) rfl (by kernel_rfl) (by kernel_rfl) (by kernel_rfl) (by kernel_rfl) (fun _ _ _ h => h) (by assumption) (Or.inl ⟨by rfl, ?hy59⟩) (fun _ => rfl) ?rest59
       case hy59 => (intro w hSw; (try dsimp only at hSw); go_simp; try with_reducible rfl))
    | (refine ordS_take (i := 1) (oi := { dst := some 25, op := Op.fieldAddr 100 (Operand.tmp 7) 0, type := 0, pos := _, after := #[{ on := 6, ground := Ground.gcOnly Departure.lateStores }], guard := none }) (v := undef) rfl (by kernel_rfl) (by kernel_rfl) (by kernel_rfl) (by kernel_rfl) (fun _ _ _ h => h) (by assumption) (Or.inr ⟨by rfl, rfl⟩) (fun _ => rfl) ?_)
  try simp only [Act.put, List.setIfInBounds_toArray, List.set_cons_zero, List.set_cons_succ]
  first
    | (refine' ordS_take (i := 2) (oi := { dst := some 26, op := Op.load 34 (Operand.tmp 25), type := 34, pos := _, after := #[{ on := 1, ground := Ground.data }, { on := 6, ground := Ground.gcOnly Departure.lateStores }], guard := none }) (v := _) rfl (by kernel_rfl) (by kernel_rfl) (by kernel_rfl) (by kernel_rfl) (fun _ _ _ h => h) (by assumption) (Or.inl ⟨by rfl, ?hy60⟩) (fun _ => rfl) ?rest60
       case hy60 => (intro w hSw; (try dsimp only at hSw); go_simp; try with_reducible rfl))
    | (refine ordS_take (i := 2) (oi := { dst := some 26, op := Op.load 34 (Operand.tmp 25), type := 34, pos := _, after := #[{ on := 1, ground := Ground.data }, { on := 6, ground := Ground.gcOnly Departure.lateStores }], guard := none }) (v := undef) rfl (by kernel_rfl) (by kernel_rfl) (by kernel_rfl) (by kernel_rfl) (fun _ _ _ h => h) (by assumption) (Or.inr ⟨by rfl, rfl⟩) (fun _ => rfl) ?_)
  try simp only [Act.put, List.setIfInBounds_toArray, List.set_cons_zero, List.set_cons_succ]
  first
    | (refine' ordS_take (i := 3) (oi := { dst := some 27, op := Op.fieldAddr 100 (Operand.tmp 7) 1, type := 0, pos := _, after := #[{ on := 6, ground := Ground.gcOnly Departure.lateStores }], guard := none }) (v := _) rfl (by kernel_rfl) (by kernel_rfl) (by kernel_rfl) (by kernel_rfl) (fun _ _ _ h => h) (by assumption) (Or.inl ⟨by rfl, ?hy61⟩) (fun _ => rfl) ?rest61
       case hy61 => (intro w hSw; (try dsimp only at hSw); go_simp; try with_reducible rfl))
    | (refine ordS_take (i := 3) (oi := { dst := some 27, op := Op.fieldAddr 100 (Operand.tmp 7) 1, type := 0, pos := _, after := #[{ on := 6, ground := Ground.gcOnly Departure.lateStores }], guard := none }) (v := undef) rfl (by kernel_rfl) (by kernel_rfl) (by kernel_rfl) (by kernel_rfl) (fun _ _ _ h => h) (by assumption) (Or.inr ⟨by rfl, rfl⟩) (fun _ => rfl) ?_)
  try simp only [Act.put, List.setIfInBounds_toArray, List.set_cons_zero, List.set_cons_succ]
  first
    | (refine' ordS_take (i := 4) (oi := { dst := some 28, op := Op.load 34 (Operand.tmp 27), type := 34, pos := _, after := #[{ on := 3, ground := Ground.data }, { on := 6, ground := Ground.gcOnly Departure.lateStores }], guard := none }) (v := _) rfl (by kernel_rfl) (by kernel_rfl) (by kernel_rfl) (by kernel_rfl) (fun _ _ _ h => h) (by assumption) (Or.inl ⟨by rfl, ?hy62⟩) (fun _ => rfl) ?rest62
       case hy62 => (intro w hSw; (try dsimp only at hSw); go_simp; try with_reducible rfl))
    | (refine ordS_take (i := 4) (oi := { dst := some 28, op := Op.load 34 (Operand.tmp 27), type := 34, pos := _, after := #[{ on := 3, ground := Ground.data }, { on := 6, ground := Ground.gcOnly Departure.lateStores }], guard := none }) (v := undef) rfl (by kernel_rfl) (by kernel_rfl) (by kernel_rfl) (by kernel_rfl) (fun _ _ _ h => h) (by assumption) (Or.inr ⟨by rfl, rfl⟩) (fun _ => rfl) ?_)
  try simp only [Act.put, List.setIfInBounds_toArray, List.set_cons_zero, List.set_cons_succ]
  first
    | (refine' ordS_take (i := 5) (oi := { dst := some 29, op := Op.binOp BinOp.sub 34 (Operand.tmp 26) (Operand.tmp 28) 34, type := 34, pos := _, after := #[{ on := 2, ground := Ground.data }, { on := 4, ground := Ground.data }, { on := 6, ground := Ground.gcOnly Departure.lateStores }], guard := none }) (v := _) rfl (by kernel_rfl) (by kernel_rfl) (by kernel_rfl) (by kernel_rfl) (fun _ _ _ h => h) (by assumption) (Or.inl ⟨by rfl, ?hy63⟩) (fun _ => rfl) ?rest63
       case hy63 => (intro w hSw; (try dsimp only at hSw); go_simp; try with_reducible rfl))
    | (refine ordS_take (i := 5) (oi := { dst := some 29, op := Op.binOp BinOp.sub 34 (Operand.tmp 26) (Operand.tmp 28) 34, type := 34, pos := _, after := #[{ on := 2, ground := Ground.data }, { on := 4, ground := Ground.data }, { on := 6, ground := Ground.gcOnly Departure.lateStores }], guard := none }) (v := undef) rfl (by kernel_rfl) (by kernel_rfl) (by kernel_rfl) (by kernel_rfl) (fun _ _ _ h => h) (by assumption) (Or.inr ⟨by rfl, rfl⟩) (fun _ => rfl) ?_)
  try simp only [Act.put, List.setIfInBounds_toArray, List.set_cons_zero, List.set_cons_succ]
  refine ordS_one (i := 6) (o := { dst := none, op := Op.store 28 (Operand.tmp 4) (Operand.tmp 24), type := 0, pos := _, after := #[{ on := 0, ground := Ground.data }, { on := 0, ground := Ground.phase }, { on := 1, ground := Ground.textOnly Departure.lateStores }, { on := 2, ground := Ground.textOnly Departure.lateStores }, { on := 3, ground := Ground.textOnly Departure.lateStores }, { on := 4, ground := Ground.textOnly Departure.lateStores }, { on := 5, ground := Ground.textOnly Departure.lateStores }], guard := none }) (by kernel_rfl) rfl (by rfl) (fun K hK => ?_)
  have zq := blk_lt q0
  go_simp
  have n3 : W1.heap.size ≠ w.heap.size + 1 := by omega
  have n4 : W2.heap.size ≠ w.heap.size + 1 := by omega
  have hH2 : (fun w' : World => w'.cell? ⟨W2.heap.size, 0, none⟩ = some (.int .i64 cb.1) ∧ w'.cell? ⟨W2.heap.size, 1, none⟩ = some (.int .i64 cb.2) ∧ w'.cell? ⟨W1.heap.size, 0, none⟩ = some (.int .u64 (gv + hv)) ∧ w'.cell? ⟨W1.heap.size, 1, none⟩ = some (.int .u64 hv)) ((W3.setCell ⟨w.heap.size + 1, 0, none⟩ (.int .i64 cb.1)).setCell ⟨w.heap.size + 1, 1, none⟩ (.int .i64 cb.2)).drew :=
    ⟨by simp [go_sem, d0], by simp [go_sem, d1], by simp [go_sem, k0], by simp [go_sem, k1]⟩
  refine hK _ _ hH2 ?_
  clear hH
  clear hK K
  try simp only [Act.put, List.setIfInBounds_toArray, List.set_cons_zero, List.set_cons_succ]
  first
    | (refine' ordS_take (i := 7) (oi := { dst := some 5, op := Op.assign (Operand.tmp 29), type := 34, pos := _, after := #[{ on := 5, ground := Ground.data }, { on := 6, ground := Ground.chain }, { on := 0, ground := Ground.phase }, { on := 1, ground := Ground.phase }, { on := 2, ground := Ground.phase }, { on := 3, ground := Ground.phase }, { on := 4, ground := Ground.phase }, { on := 5, ground := Ground.phase }, { on := 6, ground := Ground.phase }], guard := none }) (v := _) rfl (by kernel_rfl) (by kernel_rfl) (by kernel_rfl) (by kernel_rfl) (fun _ _ _ h => h) (by assumption) (Or.inl ⟨by rfl, ?hy64⟩) (fun _ => rfl) ?rest64
       case hy64 => (intro w hSw; (try dsimp only at hSw); go_simp; try with_reducible rfl))
    | (refine ordS_take (i := 7) (oi := { dst := some 5, op := Op.assign (Operand.tmp 29), type := 34, pos := _, after := #[{ on := 5, ground := Ground.data }, { on := 6, ground := Ground.chain }, { on := 0, ground := Ground.phase }, { on := 1, ground := Ground.phase }, { on := 2, ground := Ground.phase }, { on := 3, ground := Ground.phase }, { on := 4, ground := Ground.phase }, { on := 5, ground := Ground.phase }, { on := 6, ground := Ground.phase }], guard := none }) (v := undef) rfl (by kernel_rfl) (by kernel_rfl) (by kernel_rfl) (by kernel_rfl) (fun _ _ _ h => h) (by assumption) (Or.inr ⟨by rfl, rfl⟩) (fun _ => rfl) ?_)
  try simp only [Act.put, List.setIfInBounds_toArray, List.set_cons_zero, List.set_cons_succ]
  refine ordS_done (by kernel_rfl) ?_
  have HF := Lib.hid ((HS3.out.set 0 (.int .i64 cb.1)).set 1 (.int .i64 cb.2))
  have hz := HBw.out
  have HBF := Lib.hid ((HB3.out.setCell (p := ⟨w.heap.size + 1, 0, none⟩) (show B ≤ w.heap.size + 1 by omega) (.int .i64 cb.1)).setCell (p := ⟨w.heap.size + 1, 1, none⟩) (show B ≤ w.heap.size + 1 by omega) (.int .i64 cb.2))
  clear HS3 HB3 hH2 hD hz
  go_wp2
  refine bodyPost_ret (v := .tuple #[.agg #[.int .i64 cb.1, .int .i64 cb.2], .int .u64 gv]) (by simp [results, Tryd.results38, go_sem, q0, q1]) rfl ⟨rfl, ?_, HBF.out.drew⟩
  have h1 := Sep.drop (l2 := []) (HF.out.below (bl_dr (bl0 _)))
  rw [List.append_nil] at h1
  have h2 := Sep.drop (l1 := HeapO p (popM m) :: R) (l2 := []) h1
  rw [List.append_nil] at h2
  exact h2
end Go.Proofs.YtldpajfendkhbaaDoor

/- A search by guess: the way that is traced back. -/
namespace Go.Proofs.YtldpajfendkhbaaDoor
open Go.RowKit Go.Maps

set_option maxRecDepth 100000 in
/-- From where a cell came that is in. -/
theorem CameAt.get {W : World} {b n : Nat} {f : IC → Option IC} (h : CameAt W b n f) {c p : IC} (hc : wfC c) (hp : f c = some p) :
    (Instr.lookup 78 (.map (some b)) (.agg #[.int .i64 c.1, .int .i64 c.2]) false).run Tryd.prog W = .ok (.agg #[.int .i64 p.1, .int .i64 p.2]) W := by
  obtain ⟨D, hown, _, hD⟩ := h
  obtain ⟨h1, h2⟩ := hD c hc
  obtain ⟨v, ps, hrun, hv⟩ := hown.lookup Tryd.keyCell Tryd.underlying78 (zero_cell W) (zd := datC (0, 0)) (zp := []) rfl (keyOf_cell c hc)
  obtain ⟨x, y, rfl, hz⟩ := cellR_inv hv
  have hz' := congrArg Prod.fst hz
  simp only at hz'
  rw [hrun]
  rw [h2 p hp] at hz'
  injection hz' with q
  simp at q
  obtain ⟨q1, q2⟩ := q
  rw [← q1, ← q2]

def muT (n : Nat) : Value → Nat
  | .slice _ k _ => n - k
  | _ => 0

set_option maxRecDepth 100000 in
set_option maxHeartbeats 4000000 in
theorem strace_any (q n : Nat) (f : IC → Option IC) (L : List IC) (t0 fr : IC) (w : World) (hC : CameAt w q n f) (hL0 : L[0]? = some t0) (hend : ∀ (k : Nat) (c : IC), L[k]? = some c → (c = fr ↔ k + 1 = L.length)) (hnx : ∀ (k : Nat) (c : IC), L[k]? = some c → k + 1 < L.length → f c = L[k + 1]?) (hwf : ∀ (k : Nat) (c : IC), L[k]? = some c → wfC c) (hlen : L.length ≤ 65536) :
    Calls Tryd.prog 39 #[.map (some q), .agg #[.int .i64 fr.1, .int .i64 fr.2], .agg #[.int .i64 t0.1, .int .i64 t0.2]] w fun e w' => ∃ g cap, e = .returned (.slice (some ⟨g, 0, none⟩) L.length cap) ∧ w'.ownsRow w.heap.size 28 2 (.slice (some ⟨g, 0, none⟩) L.length cap) L.length (flatC L.reverse) ∧ Below w.heap.size w w' := by
  obtain ⟨i0, hi0, hz0, hz1, hz2⟩ := info_parts Tryd.infoCell
  have HC := Lib.hid hC
  have HE := Lib.hid hend
  have HX := Lib.hid hnx
  have HW := Lib.hid hwf
  have H0 := Lib.hid hL0
  clear hC hend hnx hwf hL0
  go_enter Tryd.func39, Tryd.ntmps39
  go_wp2
  go_loopw [7, 8] (fun v ap wr => ∃ (k : Nat) (c : IC) (z : Nat), L[k]? = some c ∧ ap = .pointer (some ⟨z, 0, none⟩) ∧ wr.cell? ⟨z, 0, none⟩ = some (.int .i64 c.1) ∧ wr.cell? ⟨z, 1, none⟩ = some (.int .i64 c.2) ∧ wr.frozen? ⟨z, 0, none⟩ = false ∧ wr.frozen? ⟨z, 1, none⟩ = false ∧ w.heap.size + 1 < z ∧ v.ownBlock ≠ some z ∧
    wr.ownsRow (w.heap.size + 1 + 1) 28 2 v (k + 1) (flatC (L.take (k + 1))) ∧ Below w.heap.size w wr ∧ wr.cell? ⟨w.heap.size, 0, none⟩ = some (.int .i64 fr.1) ∧ wr.cell? ⟨w.heap.size, 1, none⟩ = some (.int .i64 fr.2)) (fun v _ _ => muT L.length v)
  case atStart =>
    refine ⟨0, t0, w.heap.size + 1 + 1 + 1, H0.out, rfl, ?_, ?_, ?_, ?_, by omega, fun e => ?_, ?_, bl_al (bl_al (bl_al (bl_al (bl0 _) _) _) _) _, ?_, ?_⟩
    case refine_5 =>
      have h : w.heap.size + 1 + 1 = w.heap.size + 1 + 1 + 1 := Option.some.inj e
      omega
    case refine_6 =>
      have h1 : L.take (0 + 1) = [t0] := by
        have := H0.out
        cases L with
        | nil => simp at this
        | cons x l => simp at this; simp [this]
      rw [h1]
      have h2 : ((w.alloc (.cells #[.int .i64 fr.1, .int .i64 fr.2] 28)).alloc (.cells #[.int .i64 t0.1, .int .i64 t0.2] 28)).alloc (.cells #[.int .i64 t0.1, .int .i64 t0.2] 28) |>.ownsRow (w.heap.size + 1 + 1) 28 2 (.slice (some ⟨w.heap.size + 1 + 1, 0, none⟩) 1 1) 1 (flatC [t0]) := by
        refine ⟨rfl, .inr ⟨w.heap.size + 1 + 1, 1, #[.int .i64 t0.1, .int .i64 t0.2], rfl, Nat.le_refl _, ?_, Nat.le_refl _, by unfold maxLen; omega, rfl, rfl⟩⟩
        have := heap_alloc_new ((w.alloc (.cells #[.int .i64 fr.1, .int .i64 fr.2] 28)).alloc (.cells #[.int .i64 t0.1, .int .i64 t0.2] 28)) (.cells #[.int .i64 t0.1, .int .i64 t0.2] 28)
        simpa using this
      exact own_later h2 (bl_al (bl0 _) _)
    all_goals simp [go_sem]
  case round =>
    obtain ⟨k, c, z, hk, rfl, z0, z1, g0, g1, hz, hne, hown, hB, f0, f1⟩ := hrel
    have hcmp := fun w => eql_cell c fr w
    by_cases hl : k + 1 = L.length
    · have hc := (HE.out k c hk).2 hl
      rw [decide_eq_true hc] at hcmp
      obtain ⟨g, cap', hvv⟩ : ∃ g cap', u7 = .slice (some ⟨g, 0, none⟩) (k + 1) cap' := by
        rcases hown.2 with ⟨_, e⟩ | ⟨g', cap', cur, e, _⟩
        · omega
        · exact ⟨g', cap', e⟩
      subst hvv
      rw [hl, List.take_length] at hown
      have hcall := reverse_own (w.heap.size + 1 + 1) g cap' L.length L wr rfl (by omega) (by omega) hown
      have HL := Lib.hid hl
      rw [hl]
      have HB := Lib.hid hB
      clear hown hk hl hc hne hB HC HE HX HW H0
      go_wp2_with fail
      refine hcall.mono ?_
      rintro e w2 ⟨rfl, hown2, hb2⟩
      have HB2 := Lib.hid (HB.out.trans (hb2.mono (by omega)))
      have HOWN := Lib.hid (own_base hown2 (show w.heap.size ≤ w.heap.size + 1 + 1 by omega))
      clear hcall hown2 hb2
      go_wp2
      go_ret
      exact ⟨g, cap', rfl, HOWN.out, HB2.out⟩
    · have hc : ¬ c = fr := fun q => hl ((HE.out k c hk).1 q)
      rw [decide_eq_false hc] at hcmp
      have hk1 : k + 1 < L.length := by have := (List.getElem?_eq_some_iff.1 hk).1; omega
      obtain ⟨d, hd⟩ : ∃ d, L[k + 1]? = some d := ⟨_, List.getElem?_eq_getElem hk1⟩
      have hlook := ((HC.out.keptS (S := fun _ => False) (.of_below (hB.mono (Nat.zero_le _) |> fun h => hB)) id)).get (HW.out k c hk) ((HX.out k c hk hk1).trans hd)
      have hk1k := KeptS.of_grown (S := fun x => x = z) (hgrown_set wr z 0 (.int .i64 d.1)) (fun x e _ => by cases e; rfl)
      have hk2k := KeptS.of_grown (S := fun x => x = z) (hgrown_set (wr.setCell ⟨z, 0, none⟩ (.int .i64 d.1)) z 1 (.int .i64 d.2)) (fun x e _ => by cases e; rfl)
      have hnb : ∀ g, u7.ownBlock = some g → ¬ g = z := fun g hg e => hne (by rw [hg, e])
      have hown2 := hk2k.own (hk1k.own hown hnb) hnb
      have hB2 : Below w.heap.size w ((wr.setCell ⟨z, 0, none⟩ (.int .i64 d.1)).setCell ⟨z, 1, none⟩ (.int .i64 d.2)) := bl_st (bl_st hB (by omega) _) (by omega) _
      have zz := blk_lt z0
      have f0' := hk2k.cell (hk1k.cell f0 (by omega)) (by omega)
      have f1' := hk2k.cell (hk1k.cell f1 (by omega)) (by omega)
      go_upto_region 5 with fail
      obtain ⟨wc, hwc⟩ : ∃ wc, (wr.setCell ⟨z, 0, none⟩ (.int .i64 d.1)).setCell ⟨z, 1, none⟩ (.int .i64 d.2) = wc := ⟨_, rfl⟩
      have y0 : wc.cell? ⟨z, 0, none⟩ = some (.int .i64 d.1) := by rw [← hwc]; simp [go_sem, z0]
      have y1 : wc.cell? ⟨z, 1, none⟩ = some (.int .i64 d.2) := by rw [← hwc]; simp [go_sem, z1]
      rw [hwc] at hown2 hB2 f0' f1' ⊢
      have HCM := Lib.hid hcmp
      have HLK := Lib.hid hlook
      have HD := Lib.hid hd
      have HFS := Lib.hid (show flatC (L.take (k + 1 + 1)) = flatC (L.take (k + 1)) ++ [.int .i64 d.1, .int .i64 d.2] by
        have : L.take (k + 1 + 1) = L.take (k + 1) ++ [d] := by rw [List.take_add_one, hd]; rfl
        rw [this]
        exact flatC_snoc _ _)
      obtain ⟨gq, capq, hu7⟩ : ∃ g cap', u7 = .slice (some ⟨g, 0, none⟩) (k + 1) cap' := by
        rcases hown.2 with ⟨_, e⟩ | ⟨g', cap', cur, e, _⟩
        · omega
        · exact ⟨g', cap', e⟩
      have HM := Lib.hid (show muT L.length u7 = L.length - (k + 1) by rw [hu7]; rfl)
      have HNE := Lib.hid hne
      have hne' : some z ≠ u7.ownBlock := fun e => hne e.symm
      have hw0 : some w.heap.size ≠ u7.ownBlock := fun e => by have := (hown2.lt _ e.symm).1; omega
      have zy := blk_lt y0
      have HX1 := Lib.hid hk1
      clear hk1k hk2k hnb hcmp hlook hd hwc hown hB f0 f1 z0 z1 g0 g1 hc hl hk hne hk1 hu7
      go_wp2_with (at_builtin; refine wpList_append_own _ rfl _ _ 33 rfl (w.heap.size + 1 + 1) 28 i0 (.agg #[.int .i64 0, .int .i64 0]) 2 16 Tryd.underlying33 hi0 hz0 hz1 hz2 rfl (by decide) _ _ _ rfl (hown2.alloc _) ⟨wc.heap.size, 0, none⟩ 1 1 [.int .i64 d.1, .int .i64 d.2] rfl rfl ?c1 ?c2 ?c3 ?c4 ?c5 ?_)
      case c1 =>
        intro k u hu
        rw [hadd]
        rcases k with _ | _ | k
        · simp at hu; subst hu; simp [go_sem]
        · simp at hu; subst hu; simp [go_sem]
        · simp at hu
      case c2 =>
        intro u hu
        simp only [List.mem_cons, List.not_mem_nil, or_false] at hu
        rcases hu with rfl | rfl <;> rfl
      case c3 => have := HX1.out; unfold maxLen; omega
      case c4 => have := HX1.out; omega
      case c5 => have := hB2.size; simp; omega
      intro v' w5 hown' hgrow _
      have hB3 : Below w.heap.size w w5 := (bl_al hB2 _).grown hgrow (by have := hB2.size; simp; omega) (fun j hj => by have := (hown2.lt j hj).1; omega)
      rw [← HFS.out] at hown'
      have x0 := hgrow.cell (cell_later (bl_al (bl0 _) _) y0) hne'
      have x1 := hgrow.cell (cell_later (bl_al (bl0 _) _) y1) hne'
      have e0 := hgrow.cell (cell_later (bl_al (bl0 _) _) f0') hw0
      have e1 := hgrow.cell (cell_later (bl_al (bl0 _) _) f1') hw0
      have hzz := hgrow.size
      clear hgrow hown2 hne' hw0 hB2 y0 y1 f0' f1'
      have HO := Lib.hid hown'
      have HB := Lib.hid hB3
      clear hown' hB3
      go_wp2
      go_roundw
      case rel =>
        refine ⟨k + 1, d, w5.heap.size, HD.out, rfl, ?_, ?_, ?_, ?_, ?_, fun e => ?_, own_later HO.out (bl_al (bl0 _) _), bl_al HB.out _, cell_later (bl_al (bl0 _) _) e0, cell_later (bl_al (bl0 _) _) e1⟩
        case refine_5 => have := blk_lt x0; omega
        case refine_6 => have := (HO.out.lt _ e).2; omega
        all_goals simp [go_sem]
      case measure =>
        rcases HO.out.2 with ⟨_, e⟩ | ⟨g', cap', cur, e, _⟩
        · omega
        · have h1 := HX1.out
          show muT L.length v' < muT L.length u7
          rw [HM.out, e]
          show L.length - (k + 1 + 1) < L.length - (k + 1)
          omega
end Go.Proofs.YtldpajfendkhbaaDoor

/- A search by guess: the state that it begins with; the way that is traced, as numbers. -/
namespace Go.Proofs.YtldpajfendkhbaaDoor

def emptyA (s0 : Nat) : AS := ⟨fun _ => 0, fun _ => 0, fun _ => s0⟩
theorem updF_const {α : Type} (v : α) (j : Nat) : updF (fun _ => v) j v = fun _ => v := by
  funext i
  by_cases e : i = j
  · subst e; exact updF_same _ _ _
  · exact updF_other _ _ e
theorem start_reach (s0 : Nat) : reachS (emptyA s0) s0 s0 0 = startA s0 := by
  have : reachS (emptyA s0) s0 s0 0 = ⟨updF (fun _ => 0) s0 1, updF (fun _ => 0) s0 0, updF (fun _ => s0) s0 s0⟩ := if_pos (.inl rfl)
  rw [this, updF_const, updF_const]
  rfl
theorem StarS.nil (A H : Int) (t : IC) (N s0 : Nat) : StarS A H t N (emptyA s0) [] 0 (fun _ => none) := by
  refine ⟨⟨List.nodup_nil, fun t => ⟨fun h => (by cases h), fun ⟨i, _, h, _⟩ => absurd h (by show ¬ (0 : Nat) = 1; decide)⟩⟩, fun c _ => (if_pos rfl).symm, ?_⟩
  symm
  rw [List.countP_eq_zero]
  intro i _
  simp [emptyA]
/-- The way that is traced back from one that is reached. -/
structure ChainA (G : Gph) (s : AS) (s0 i : Nat) (L : List Nat) : Prop where
  head : ∃ l, L = i :: l
  stp : ∀ (k x : Nat), L[k]? = some x → s.st x ≠ 0 ∧ (x = s0 ↔ k + 1 = L.length) ∧ ∀ y, L[k + 1]? = some y → y = s.par x ∧ y ∈ G.nb x
  nd : L.Nodup
  le : ∀ x ∈ L, s.g x ≤ s.g i
  cost : (L.dropLast.map G.k).sum = s.g i
theorem chain_ex {G : Gph} {s0 : Nat} {d : Nat → Int} {s : AS} (hG : G.Ok) (hF : Far G s0 d) (hI : InvA G s0 d s) : ∀ (n i : Nat), s.st i ≠ 0 → s.g i ≤ (n : Int) → ∃ L, ChainA G s s0 i L := by
  intro n
  induction n with
  | zero =>
    intro i hi hn
    by_cases e : i = s0
    · subst e
      refine ⟨[i], ⟨⟨[], rfl⟩, fun k x hx => ?_, by simp, fun x hx => ?_, ?_⟩⟩
      · cases k with
        | zero => cases hx; exact ⟨hi, by simp, fun y hy => by simp at hy⟩
        | succ k => simp at hx
      · rw [List.mem_singleton.1 hx]; exact Int.le_refl _
      · rw [hI.src.2]; rfl
    · obtain ⟨p1, p2, p3⟩ := hI.par i hi e
      have := hG.pos1 (hF.opn (hI.opn i hi).1)
      have := hF.ge0 (s.par i)
      omega
  | succ n ih =>
    intro i hi hn
    by_cases e : i = s0
    · subst e
      refine ⟨[i], ⟨⟨[], rfl⟩, fun k x hx => ?_, by simp, fun x hx => ?_, ?_⟩⟩
      · cases k with
        | zero => cases hx; exact ⟨hi, by simp, fun y hy => by simp at hy⟩
        | succ k => simp at hx
      · rw [List.mem_singleton.1 hx]; exact Int.le_refl _
      · rw [hI.src.2]; rfl
    · obtain ⟨p1, p2, p3⟩ := hI.par i hi e
      have h1 := hG.pos1 (hF.opn (hI.opn i hi).1)
      have h2 := hI.set _ p1
      obtain ⟨L, q1, q2, q3, q4, q5⟩ := ih (s.par i) (by omega) (by omega)
      obtain ⟨l, rfl⟩ := q1
      refine ⟨i :: s.par i :: l, ⟨⟨_, rfl⟩, fun k x hx => ?_, ?_, fun x hx => ?_, ?_⟩⟩
      · cases k with
        | zero =>
          cases hx
          refine ⟨hi, ⟨fun h => absurd h e, fun h => by simp at h⟩, fun y hy => ?_⟩
          simp at hy
          subst hy
          exact ⟨rfl, p2⟩
        | succ k =>
          have := q2 k x (by simpa using hx)
          refine ⟨this.1, this.2.1.trans (by simp), fun y hy => this.2.2 y (by simpa using hy)⟩
      · rw [List.nodup_cons]
        refine ⟨fun hm => ?_, q3⟩
        have := q4 i hm
        omega
      · rcases List.mem_cons.1 hx with rfl | hx
        · exact Int.le_refl _
        · have := q4 x hx
          omega
      · have : (i :: s.par i :: l).dropLast = i :: (s.par i :: l).dropLast := rfl
        rw [this, List.map_cons, List.sum_cons, q5]
        omega
end Go.Proofs.YtldpajfendkhbaaDoor

/- A search by guess: the closure is made. -/
namespace Go.Proofs.YtldpajfendkhbaaDoor
open Go.RowKit Go.Maps

set_option maxRecDepth 100000 in
set_option maxHeartbeats 2000000 in
theorem sreacher_any {A H : Int} {a : Option Addr} {zn cap : Nat} {t : IC} {p q B : Nat} {w : World} {R : List Own} (hS : Sep w B R) :
    Calls Tryd.prog 36 #[.agg #[.int .i64 A, .int .i64 H, .slice a zn cap], .agg #[.int .i64 t.1, .int .i64 t.2], .pointer (some ⟨p, 0, none⟩), .map (some q)] w fun e w' =>
      ∃ zf zt zc zw, e = .returned (.func (.func 49) #[] #[.pointer (some ⟨zf, 0, none⟩), .pointer (some ⟨zt, 0, none⟩), .pointer (some ⟨zc, 0, none⟩), .pointer (some ⟨zw, 0, none⟩)]) ∧
        Sep w' B ((((R ++ [CellsO zf #[.int .i64 A, .int .i64 H, .slice a zn cap] 26]) ++ [CellsO zt #[.int .i64 t.1, .int .i64 t.2] 28]) ++ [CellsO zw #[.pointer (some ⟨p, 0, none⟩)] 76]) ++ [CellsO zc #[.map (some q)] 78]) ∧ Below w.heap.size w w' := by
  have S1 := Lib.hid ((((hS.box #[.int .i64 A, .int .i64 H, .slice a zn cap] 26).box #[.int .i64 t.1, .int .i64 t.2] 28).box #[.pointer (some ⟨p, 0, none⟩)] 76).box #[.map (some q)] 78)
  clear hS
  go_enter Tryd.func36, Tryd.ntmps36
  go_wp2
  go_ret
  exact ⟨_, _, _, _, rfl, by have := S1.out; simpa only [World.size_alloc] using this, bl_al (bl_al (bl_al (bl_al (bl0 _) _) _) _) _⟩
end Go.Proofs.YtldpajfendkhbaaDoor

/- The cells beside one, as a row. -/
namespace Go.Proofs.YtldpajfendkhbaaDoor
open Go.RowKit

def flatP : List (Int × Int) → List Value
  | [] => []
  | p :: ps => .int .i64 p.1 :: .int .i64 p.2 :: flatP ps
theorem flatP_len : ∀ ps : List (Int × Int), (flatP ps).length = ps.length * 2
  | [] => rfl
  | p :: ps => by simp [flatP, flatP_len ps]; omega
theorem flatP_append : ∀ ps qs : List (Int × Int), flatP (ps ++ qs) = flatP ps ++ flatP qs
  | [], qs => rfl
  | p :: ps, qs => by simp [flatP, flatP_append ps qs]
def stepE (d : Int) : Int := if d < 0 ∨ 4 ≤ d then 1 else 10
theorem stepE_ne (d : Int) : (stepE d == 0) = false := by unfold stepE; split <;> decide
theorem step_not (W H X Y d : Int) (w : World) (hs : Stp w) (hi : inB W H X Y = true) (hn : ¬ (0 ≤ d ∧ d < 4 ∧ inB W H (X + dxI d) (Y + dyI d) = true)) :
    Calls Tryd.prog 58 #[.agg #[.int .i64 W, .int .i64 H], .agg #[.int .i64 X, .int .i64 Y], .int .i64 d] w fun e w' => e = .returned (.tuple #[.agg #[.int .i64 0, .int .i64 0], .int .i64 (stepE d)]) ∧ Below w.heap.size w w' := by
  by_cases hd : d < 0 ∨ 4 ≤ d
  · have h := step_arg W H X Y d w hd
    simpa [stepE, hd] using h
  · have hj : inB W H (X + dxI d) (Y + dyI d) = false := by
      cases h : inB W H (X + dxI d) (Y + dyI d)
      · rfl
      · exact absurd ⟨by omega, by omega, h⟩ hn
    have h := step_out W H X Y d w hs (by omega) (by omega) hi hj
    simpa [stepE, hd] using h
theorem step_to (W H X Y d U V : Int) (w : World) (hs : Stp w) (h0 : 0 ≤ d) (h4 : d < 4) (hi : inB W H X Y = true) (hx : X + dxI d = U) (hy : Y + dyI d = V) (hj : inB W H U V = true) :
    Calls Tryd.prog 58 #[.agg #[.int .i64 W, .int .i64 H], .agg #[.int .i64 X, .int .i64 Y], .int .i64 d] w fun e w' => e = .returned (.tuple #[.agg #[.int .i64 U, .int .i64 V], .int .i64 0]) ∧ Below w.heap.size w w' := by
  subst hx hy
  exact step_yes W H X Y d w hs h0 h4 hi hj
def nbP (W H X Y : Int) : Nat → List (Int × Int)
  | 0 => []
  | k + 1 => nbP W H X Y k ++ if inB W H (X + dxI k) (Y + dyI k) = true then [(X + dxI k, Y + dyI k)] else []
theorem nbP_len (W H X Y : Int) : ∀ k, (nbP W H X Y k).length ≤ k
  | 0 => by simp [nbP]
  | k + 1 => by
    have := nbP_len W H X Y k
    simp only [nbP, List.length_append]
    split <;> simp <;> omega
theorem nbP_in {W H X Y U T : Int} {k : Nat} (hU : X + dxI k = U) (hT : Y + dyI k = T) (h : inB W H U T = true) : nbP W H X Y (k + 1) = nbP W H X Y k ++ [(U, T)] := by
  subst hU hT
  simp [nbP, h]
theorem nbP_out {W H X Y : Int} {k : Nat} (h : ¬ inB W H (X + dxI k) (Y + dyI k) = true) : nbP W H X Y (k + 1) = nbP W H X Y k := by
  simp [nbP, h]
theorem nb_own {w : World} {B : Nat} {v : Value} {W H X Y U T : Int} {k : Nat} (hU : X + dxI k = U) (hT : Y + dyI k = T) (h : inB W H U T = true)
    (ho : w.ownsRow B 28 2 v ((nbP W H X Y k).length + 1) (flatP (nbP W H X Y k) ++ [.int .i64 U, .int .i64 T])) : w.ownsRow B 28 2 v (nbP W H X Y (k + 1)).length (flatP (nbP W H X Y (k + 1))) := by
  rw [nbP_in hU hT h, flatP_append, List.length_append]
  exact ho
theorem nb_own' {w : World} {B : Nat} {v : Value} {W H X Y : Int} {k : Nat} (h : ¬ inB W H (X + dxI k) (Y + dyI k) = true)
    (ho : w.ownsRow B 28 2 v (nbP W H X Y k).length (flatP (nbP W H X Y k))) : w.ownsRow B 28 2 v (nbP W H X Y (k + 1)).length (flatP (nbP W H X Y (k + 1))) := by
  rw [nbP_out h]
  exact ho
theorem two_new2 (w : World) (o : Obj) (a b : Value) (t : TypeId) : ∀ j u, [a, b][j]? = some u → ((w.alloc o).alloc (.cells #[a, b] t)).cell? ((⟨w.heap.size + 1, 0, none⟩ : Addr).add j) = some u := by
  have := cell_two_new (w.alloc o) a b t
  simpa using this

set_option maxRecDepth 100000 in
set_option maxHeartbeats 3200000 in
theorem beside_yes (W H X Y : Int) (w : World) (hs : Stp w) (hi : inB W H X Y = true) :
    Calls Tryd.prog 40 #[.agg #[.int .i64 W, .int .i64 H], .agg #[.int .i64 X, .int .i64 Y]] w fun e w' => ∃ v, e = .returned (.tuple #[v, .int .i64 0]) ∧ w'.ownsRow w.heap.size 28 2 v (nbP W H X Y 4).length (flatP (nbP W H X Y 4)) ∧ Below w.heap.size w w' := by
  obtain ⟨i0, hi0, hz0, hz1, hz2⟩ := info_parts Tryd.infoCell
  have hA := bl0 w
  go_enter Tryd.func40, Tryd.ntmps40
  go_wp2_with fail
  refine (in_any _ _ _ _ _).mono ?_
  rintro e w1 ⟨rfl, hb⟩
  have hk : Below w.heap.size w w1 := by first | exact hb | exact bl_tr (bl_al (bl0 _) _) hb | exact bl_tr (bl_dr (bl_al (bl0 _) _)) hb | exact bl_tr (bl_al (bl_al (bl0 _) _) _) hb | exact bl_tr (bl_dr (bl_al (bl_al (bl0 _) _) _)) hb | exact bl_tr (bl_al (bl_al (bl_al (bl0 _) _) _) _) hb | exact bl_tr (bl_dr (bl_al (bl_al (bl_al (bl0 _) _) _) _)) hb | exact bl_tr (bl_al (bl_al (bl_al (bl_al (bl0 _) _) _) _) _) hb | exact bl_tr (bl_dr (bl_al (bl_al (bl_al (bl_al (bl0 _) _) _) _) _)) hb | exact bl_tr (bl_al (bl_al (bl_al (bl_al (bl_al (bl0 _) _) _) _) _) _) hb | exact bl_tr (bl_dr (bl_al (bl_al (bl_al (bl_al (bl_al (bl0 _) _) _) _) _) _)) hb | exact bl_tr (bl_al (bl_al (bl_al (bl_al (bl_al (bl_al (bl0 _) _) _) _) _) _) _) hb | exact bl_tr (bl_dr (bl_al (bl_al (bl_al (bl_al (bl_al (bl_al (bl0 _) _) _) _) _) _) _)) hb | exact bl_tr (bl_dr (bl0 _)) hb
  replace hA := bl_tr hA hk
  have s0 := cell_later hb (v := .int .i64 W) (a := ⟨w.heap.size, 0, none⟩) (by simp [go_sem])
  have s1 := cell_later hb (v := .int .i64 H) (a := ⟨w.heap.size, 1, none⟩) (by simp [go_sem])
  have a0 := cell_later hb (v := .int .i64 X) (a := ⟨w.heap.size + 1, 0, none⟩) (by simp [go_sem])
  have a1 := cell_later hb (v := .int .i64 Y) (a := ⟨w.heap.size + 1, 1, none⟩) (by simp [go_sem])
  clear hb hk
  have zs0 := blk_lt s0
  have zs1 := blk_lt s1
  have za0 := blk_lt a0
  have za1 := blk_lt a1
  go_wp2
  go_loopw [6, 14] (fun v i wr => ∃ k : Nat, k ≤ 4 ∧ i = .int .i64 k ∧ wr.ownsRow (w.heap.size + 2) 28 2 v (nbP W H X Y k).length (flatP (nbP W H X Y k)) ∧ Below w.heap.size w wr ∧
      wr.cell? ⟨w.heap.size, 0, none⟩ = some (.int .i64 W) ∧ wr.cell? ⟨w.heap.size, 1, none⟩ = some (.int .i64 H) ∧ wr.cell? ⟨w.heap.size + 1, 0, none⟩ = some (.int .i64 X) ∧ wr.cell? ⟨w.heap.size + 1, 1, none⟩ = some (.int .i64 Y)) (fun _ i _ => 4 - (intOf i).toNat)
  case atStart => exact ⟨0, by omega, rfl, World.ownsRow_nil _ _ _ _, hA, s0, s1, a0, a1⟩
  case round =>
    obtain ⟨k, hk, rfl, hown, hB, q0, q1, b0, b1⟩ := hrel
    clear hA s0 s1 a0 a1 zs0 zs1 za0 za1
    have hlen := nbP_len W H X Y k
    by_cases hlt : k < 4
    · have hlt' : (k : Int) < 4 := by omega
      have hk0 : (0 : Int) ≤ (k : Int) := by omega
      have hne0 : some w.heap.size ≠ Value.ownBlock u6 := fun e => by have := (hown.lt _ e.symm).1; omega
      have hne1 : some (w.heap.size + 1) ≠ Value.ownBlock u6 := fun e => by have := (hown.lt _ e.symm).1; omega
      have hlo := fun r hr => (hown.lt r hr).1
      by_cases hy : inB W H (X + dxI k) (Y + dyI k) = true
      · obtain ⟨U, hU⟩ : ∃ U, X + dxI k = U := ⟨_, rfl⟩
        obtain ⟨T, hT⟩ : ∃ T, Y + dyI k = T := ⟨_, rfl⟩
        rw [hU, hT] at hy
        have HU := Lib.hid hU
        have HT := Lib.hid hT
        clear hU hT
        go_wp2_with fail
        refine (step_to _ _ _ _ _ U T _ (hs.below hB) hk0 hlt' hi HU.out HT.out hy).mono ?_
        rintro e w2 ⟨rfl, hb⟩
        have hown2 := own_later hown hb
        have hB2 := bl_tr hB hb
        have q0' := cell_later hb q0
        have q1' := cell_later hb q1
        have b0' := cell_later hb b0
        have b1' := cell_later hb b1
        have hz2' := blk_lt b0'
        clear hb hown q0 q1 b0 b1
        go_wp2_with (at_builtin; refine wpList_append_own _ rfl _ _ 33 rfl (w.heap.size + 2) 28 i0 (.agg #[.int .i64 0, .int .i64 0]) 2 16 Tryd.underlying33 hi0 hz0 hz1 hz2 rfl (by decide) _ _ _ rfl ((hown2.alloc _).alloc _) ⟨w2.heap.size + 1, 0, none⟩ 1 1 [.int .i64 U, .int .i64 T] rfl rfl ?c1 ?c2 ?c3 ?c4 ?c5 ?_)
        case c1 => exact two_new2 _ _ _ _ _
        case c2 => intro u hu; simp at hu; rcases hu with rfl | rfl <;> rfl
        case c3 => unfold maxLen; omega
        case c4 => omega
        case c5 => simp; omega
        intro v' w3 hown' hgrow _
        have hB3 : Below w.heap.size w w3 := (bl_al (bl_al hB2 _) _).grown hgrow (by simp; omega) (fun r hr => by have := hlo r hr; omega)
        have n0 := hgrow.cell (cell_later (bl_al (bl_al (bl0 _) _) _) q0') hne0
        have n1 := hgrow.cell (cell_later (bl_al (bl_al (bl0 _) _) _) q1') hne0
        have n2 := hgrow.cell (cell_later (bl_al (bl_al (bl0 _) _) _) b0') hne1
        have n3 := hgrow.cell (cell_later (bl_al (bl_al (bl0 _) _) _) b1') hne1
        have hown3 := nb_own HU.out HT.out hy hown'
        clear hgrow hown' hown2 q0' q1' b0' b1' hB2 hz2' hne0 hne1 hlo hlen
        go_wp2
        go_roundw
        case rel => exact ⟨k + 1, by omega, by go_num, hown3, hB3, n0, n1, n2, n3⟩
        case measure => simp [intOf]; omega
      · have he := stepE_ne k
        go_wp2_with fail
        refine (step_not _ _ _ _ _ _ (hs.below hB) hi (fun h => hy h.2.2)).mono ?_
        rintro e w2 ⟨rfl, hb⟩
        have hown2 := nb_own' hy (own_later hown hb)
        have hB2 := bl_tr hB hb
        have q0' := cell_later hb q0
        have q1' := cell_later hb q1
        have b0' := cell_later hb b0
        have b1' := cell_later hb b1
        clear hb hown q0 q1 b0 b1 hne0 hne1 hlo hlen
        go_wp2
        go_roundw
        case rel => exact ⟨k + 1, by omega, by go_num, hown2.alloc _, bl_al hB2 _, cell_later (bl_al (bl0 _) _) q0', cell_later (bl_al (bl0 _) _) q1', cell_later (bl_al (bl0 _) _) b0', cell_later (bl_al (bl0 _) _) b1'⟩
        case measure => simp [intOf]; omega
    · obtain rfl : k = 4 := by omega
      go_wp2
      go_ret2
      exact ⟨_, rfl, own_base hown (by omega), hB⟩

end Go.Proofs.YtldpajfendkhbaaDoor

/- A search by guess: a cell is settled, those beside it are told one by one. -/
namespace Go.Proofs.YtldpajfendkhbaaDoor

theorem reach_self {s : AS} {b j : Nat} {x : Int} (h : s.st b = 2) : (reachS s b j x).st b = 2 ∧ (reachS s b j x).g b = s.g b := by
  unfold reachS
  split
  · rename_i hc
    have hne : b ≠ j := fun e => by subst e; omega
    exact ⟨by show updF s.st j 1 b = 2; rw [updF_other _ _ hne]; exact h, updF_other _ _ hne⟩
  · exact ⟨h, rfl⟩
theorem fold_reach (k : Nat → Int) (b : Nat) (g : Int) : ∀ (l : List Nat) (s : AS), s.st b = 2 → s.g b = g → l.foldl (relaxA k b) s = l.foldl (fun s j => reachS s b j (g + k j)) s
  | [], _, _, _ => rfl
  | j :: l, s, h1, h2 => by
    obtain ⟨q1, q2⟩ := reach_self (j := j) (x := g + k j) h1
    rw [List.foldl_cons, List.foldl_cons, relax_reach, h2]
    exact fold_reach k b g l _ q1 (q2.trans h2)
/-- A cell beside one is told, if it is no wall. -/
def tellC (A : Int) (zs : List Int) (b : Nat) (g : Int) (s : AS) (c : IC) : AS := if zs.getD (numN A c) 0 = 0 then s else reachS s b (numN A c) (g + zs.getD (numN A c) 0)
/-- The numbers of those beside one that are no walls, in their order. -/
def nbS (A H : Int) (zs : List Int) (i : Nat) : List Nat := ((nbP A H (cellN A i).1 (cellN A i).2 4).map (numN A)).filter (fun j => decide (zs.getD j 0 ≠ 0))
theorem fold_tell (A : Int) (zs : List Int) (b : Nat) (g : Int) : ∀ (l : List IC) (s : AS), ((l.map (numN A)).filter (fun j => decide (zs.getD j 0 ≠ 0))).foldl (fun s j => reachS s b j (g + zs.getD j 0)) s = l.foldl (tellC A zs b g) s
  | [], _ => rfl
  | c :: l, s => by
    rw [List.map_cons, List.filter_cons, List.foldl_cons]
    by_cases e : zs.getD (numN A c) 0 = 0
    · have h : tellC A zs b g s c = s := if_pos e
      rw [h, if_neg (by simpa using e)]
      exact fold_tell A zs b g l s
    · have h : tellC A zs b g s c = reachS s b (numN A c) (g + zs.getD (numN A c) 0) := if_neg e
      rw [h, if_pos (by simpa using e), List.foldl_cons]
      exact fold_tell A zs b g l _
theorem settle_cells (A H : Int) (zs : List Int) (s : AS) (b : Nat) : settleA (fun j => zs.getD j 0) (nbS A H zs b) s b = (nbP A H (cellN A b).1 (cellN A b).2 4).foldl (tellC A zs b (s.g b)) (settleB s b) := by
  unfold settleA nbS
  rw [fold_reach (fun j => zs.getD j 0) b (s.g b) _ (settleB s b) (updF_same _ _ _) rfl]
  exact fold_tell A zs b (s.g b) _ _
/-- The first that waits is taken. -/
theorem StarS.settle {A H : Int} {t : IC} {N : Nat} {s : AS} {m : List Th} {n : Nat} {f : IC → Option IC} {b : Nat} (hA : 1 ≤ A) (hR : StarS A H t N s m n f) (hb : bestTo s (fun i => guessI (cellN A i) t) N = some b) : StarS A H t N (settleB s b) (popM m) n f := by
  obtain ⟨b1, b2, _⟩ := bestTo_some hb
  have key : ∀ i, updF s.st b 2 i = 0 ↔ s.st i = 0 := fun i => by
    by_cases e : i = b
    · subst e; rw [updF_same]; omega
    · rw [updF_other _ _ e]
  refine ⟨hR.heap.pop hA hb, fun c hc => ?_, ?_⟩
  · rw [hR.came c hc]
    show _ = if updF s.st b 2 (numN A c) = 0 then none else some (cellN A (s.par (numN A c)))
    by_cases e : s.st (numN A c) = 0
    · rw [if_pos e, if_pos ((key _).2 e)]
    · rw [if_neg e, if_neg (fun q => e ((key _).1 q))]
  · rw [hR.cnt]
    refine List.countP_congr fun i _ => ?_
    rw [decide_eq_true_iff, decide_eq_true_iff]
    exact (not_congr (key i)).symm
end Go.Proofs.YtldpajfendkhbaaDoor

/- A search by guess: its things of one's own, in the order that the closure's contract wants. -/
namespace Go.Proofs.YtldpajfendkhbaaDoor
open Go.RowKit Go.Maps

theorem perm_six {α : Type} (X : List α) (a b c d e g : α) : ((((((X ++ [a]) ++ [b]) ++ [c]) ++ [d]) ++ [e]) ++ [g]).Perm (a :: b :: c :: d :: g :: e :: X) := by
  have h : (((((X ++ [a]) ++ [b]) ++ [c]) ++ [d]) ++ [e]) ++ [g] = X ++ [a, b, c, d, e, g] := by simp
  rw [h]
  refine List.perm_append_comm.trans ?_
  exact ((((List.Perm.swap g e X).cons d).cons c).cons b).cons a
/-- The heap, the map and the closure's boxes at the head. -/
theorem Sep.search {W : World} {B : Nat} {X : List Own} {a b c d e g : Own} (h : Sep W B ((((((X ++ [a]) ++ [b]) ++ [c]) ++ [d]) ++ [e]) ++ [g])) : Sep W B (a :: b :: c :: d :: g :: e :: X) := h.perm (perm_six X a b c d e g)
end Go.Proofs.YtldpajfendkhbaaDoor

/- A search by guess: the guess goes down no faster than a step costs; those beside a cell; a field is its own cut; the field as a graph for the search. -/
namespace Go.Proofs.YtldpajfendkhbaaDoor

theorem cutL_all {A B : Int} {zs : List Int} (hm : mayB A B = true) (hn : (zs.length : Int) = A * B) : cutL A (0, 0, A, B) zs = zs := by
  refine List.ext_getElem (cutL_len _ _ _) fun i h1 h2 => ?_
  have hl : i < zs.length := h2
  have h := cutL_at A (0, 0, A, B) zs i
  have hin : inBx (0, 0, A, B) (cellN A i) = true := by
    obtain ⟨a1, a2, a3, a4⟩ := mayB_iff.1 hm
    have ho := cellN_on hm (show (i : Int) < A * B by omega)
    obtain ⟨b1, b2, b3, b4, b5, b6, b7, b8⟩ := inB_iff.1 ho
    show hasB 0 0 A B (cellN A i).1 (cellN A i).2 = true
    exact hasB_iff.2 ⟨rightB_iff.2 ⟨by omega, by omega, by omega, by omega, by omega, by omega, by omega, by omega⟩, by omega, by omega, by omega, by omega⟩
  rw [if_pos hin] at h
  rw [List.getD_eq_getElem?_getD, List.getElem?_eq_getElem h1, List.getD_eq_getElem?_getD, List.getElem?_eq_getElem h2] at h
  exact h
theorem gphB_all {A B : Int} {zs : List Int} (hm : mayB A B = true) (hn : (zs.length : Int) = A * B) : gphB A B (0, 0, A, B) zs = gph A B zs := by
  unfold gphB
  rw [cutL_all hm hn]
theorem apart_near {a b d : Int} (h1 : -1 ≤ d) (h2 : d ≤ 1) : apartI (a + d) b ≤ apartI a b + (if d = 0 then 0 else 1) := by
  unfold apartI
  split <;> omega
theorem guess_step (c t : IC) {d : Int} (h0 : 0 ≤ d) (h3 : d ≤ 3) : guessI (stepI c d) t ≤ guessI c t + 1 := by
  have hd : d = 0 ∨ d = 1 ∨ d = 2 ∨ d = 3 := by omega
  obtain ⟨x, y⟩ := c
  unfold guessI stepI apartI
  rcases hd with rfl | rfl | rfl | rfl <;> simp [dxI, dyI] <;> omega
theorem guess_k {A H : Int} {zs : List Int} (hm : mayB A H = true) (hn : (zs.length : Int) = A * H) (hz : AllH zs) (t : IC) : ∀ i j, (gph A H zs).opn i → (gph A H zs).opn j → j ∈ (gph A H zs).nb i → guessI (cellN A j) t ≤ guessI (cellN A i) t + (gph A H zs).k i := fun i j hi _ hj => by
  obtain ⟨d, d0, d3, ho, rfl⟩ := mem_nbL.1 hj
  rw [cellN_num ho]
  have := guess_step (cellN A i) t d0 d3
  have := (gph_ok hm hn hz).pos1 hi
  omega
theorem nbP_nbL (A H : Int) (i : Nat) : (nbP A H (cellN A i).1 (cellN A i).2 4).map (numN A) = nbL A H i := by
  unfold nbL
  have key : ∀ (k : Nat) (d : Int), (k : Int) = d → ((if inB A H ((cellN A i).1 + dxI k) ((cellN A i).2 + dyI k) = true then [((cellN A i).1 + dxI k, (cellN A i).2 + dyI k)] else []) : List IC).map (numN A) = (nbD A H i d).toList := fun k d e => by
    subst e
    unfold nbD onB stepI
    simp only
    split <;> rfl
  have k0 := key 0 0 rfl
  have k1 := key 1 1 rfl
  have k2 := key 2 2 rfl
  have k3 := key 3 3 rfl
  simp only [nbP, List.map_append, List.nil_append]
  rw [k0, k1, k2, k3]
  simp only [List.filterMap_cons, List.filterMap_nil]
  cases nbD A H i 0 <;> cases nbD A H i 1 <;> cases nbD A H i 2 <;> cases nbD A H i 3 <;> rfl
theorem nbS_mem {A H : Int} {zs : List Int} (hn : (zs.length : Int) = A * H) (b j : Nat) : j ∈ nbS A H zs b ↔ j ∈ (gph A H zs).nb b ∧ (gph A H zs).opn j := by
  have := mem_nbO (i := b) (j := j) hn
  unfold nbO at this
  unfold nbS
  rw [nbP_nbL]
  exact this
end Go.Proofs.YtldpajfendkhbaaDoor

/- A search by guess: star.search. -/
namespace Go.Proofs.YtldpajfendkhbaaDoor
open Go.RowKit Go.Maps

/-- How a search ends: as the run by its mathematics does. -/
def SearchR (A H : Int) (zs : List Int) (s0 goal : Nat) (budget : Int) (B : Nat) (e : Ending) (W : World) : Prop :=
  ∃ (E : Int) (M : Nat) (S' : AS), runA (fun j => zs.getD j 0) (nbS A H zs) (fun i => guessI (cellN A i) (cellN A goal)) zs.length goal budget (zs.length + 1) 0 (startA s0) = (E, M, S') ∧
    (E ≠ 0 → e = .returned (.tuple #[.agg #[.slice none 0 0, .int .u64 0, .int .i64 M], .int .i64 E])) ∧
    (E = 0 → ∃ L g cap, ChainA (gph A H zs) S' s0 goal L ∧ (∀ x ∈ L, x < zs.length) ∧ e = .returned (.tuple #[.agg #[.slice (some ⟨g, 0, none⟩) L.length cap, .int .u64 (S'.g goal), .int .i64 M], .int .i64 0]) ∧ W.ownsRow B 28 2 (.slice (some ⟨g, 0, none⟩) L.length cap) L.length (flatC (L.reverse.map (cellN A))))

/-- The state as the search goes on, and that it ends as the whole run does. -/
structure SeI (A H : Int) (zs : List Int) (s0 goal : Nat) (budget : Int) (d : Nat → Int) (R : Int × Nat × AS) (n : Nat) (s : AS) : Prop where
  run : RunI (gph A H zs) s0 d (fun i => guessI (cellN A i) (cellN A goal)) goal n s
  is : runA (fun j => zs.getD j 0) (nbS A H zs) (fun i => guessI (cellN A i) (cellN A goal)) zs.length goal budget (zs.length + 1 - n) n s = R
theorem SeI.le {A H : Int} {zs : List Int} {s0 goal : Nat} {budget : Int} {d : Nat → Int} {R : Int × Nat × AS} {n : Nat} {s : AS} (h : SeI A H zs s0 goal budget d R n s) : n ≤ zs.length := by
  have h1 := h.run.cnt
  have h2 := cnt_le (gph A H zs).N s
  rw [h1] at h2
  exact h2
theorem SeI.none {A H : Int} {zs : List Int} {s0 goal : Nat} {budget : Int} {d : Nat → Int} {R : Int × Nat × AS} {n : Nat} {s : AS} (h : SeI A H zs s0 goal budget d R n s) (hb : bestTo s (fun i => guessI (cellN A i) (cellN A goal)) zs.length = none) : R = (22, n, s) := by
  have hl := h.le
  have := h.is
  rw [show zs.length + 1 - n = (zs.length - n) + 1 by omega, runA, hb] at this
  exact this.symm
theorem SeI.spent {A H : Int} {zs : List Int} {s0 goal : Nat} {budget : Int} {d : Nat → Int} {R : Int × Nat × AS} {n b : Nat} {s : AS} (h : SeI A H zs s0 goal budget d R n s) (hb : bestTo s (fun i => guessI (cellN A i) (cellN A goal)) zs.length = some b) (hs : (n : Int) = budget) : R = (23, n, s) := by
  have hl := h.le
  have := h.is
  rw [show zs.length + 1 - n = (zs.length - n) + 1 by omega, runA, hb] at this
  simp only [if_pos hs] at this
  exact this.symm
theorem SeI.goal {A H : Int} {zs : List Int} {s0 goal : Nat} {budget : Int} {d : Nat → Int} {R : Int × Nat × AS} {n : Nat} {s : AS} (h : SeI A H zs s0 goal budget d R n s) (hb : bestTo s (fun i => guessI (cellN A i) (cellN A goal)) zs.length = some goal) (hs : (n : Int) ≠ budget) : R = (0, n + 1, settleB s goal) := by
  have hl := h.le
  have := h.is
  rw [show zs.length + 1 - n = (zs.length - n) + 1 by omega, runA, hb] at this
  simp only [if_neg hs] at this
  exact this.symm
theorem SeI.next {A H : Int} {zs : List Int} {s0 goal : Nat} {budget : Int} {d : Nat → Int} {R : Int × Nat × AS} {n b : Nat} {s : AS} (hm : mayB A H = true) (hn : (zs.length : Int) = A * H) (hz : AllH zs) (hF : Far (gph A H zs) s0 d) (h : SeI A H zs s0 goal budget d R n s) (hb : bestTo s (fun i => guessI (cellN A i) (cellN A goal)) zs.length = some b) (hs : (n : Int) ≠ budget) (hg : b ≠ goal) :
    SeI A H zs s0 goal budget d R (n + 1) (settleA (fun j => zs.getD j 0) (nbS A H zs b) s b) := by
  have hl := h.le
  have := h.is
  rw [show zs.length + 1 - n = (zs.length - n) + 1 by omega, runA, hb] at this
  simp only [if_neg hs, if_neg hg] at this
  refine ⟨runI_next (gph_ok hm hn hz) hF (guess_k hm hn hz _) (fun b _ j => nbS_mem hn b j) h.run hb hg, ?_⟩
  rw [show zs.length + 1 - (n + 1) = zs.length - n by omega]
  exact this
theorem ChainA.settle {G : Gph} {s : AS} {s0 i b : Nat} {L : List Nat} (h : ChainA G s s0 i L) : ChainA G (settleB s b) s0 i L := by
  refine ⟨h.head, fun k x hx => ?_, h.nd, h.le, h.cost⟩
  obtain ⟨h1, h2⟩ := h.stp k x hx
  refine ⟨?_, h2⟩
  show updF s.st b 2 x ≠ 0
  by_cases e : x = b
  · subst e; rw [updF_same]; decide
  · rw [updF_other _ _ e]; exact h1
/-- The numbers G stay small. -/
theorem SeI.small {A H : Int} {zs : List Int} {s0 goal : Nat} {budget : Int} {d : Nat → Int} {R : Int × Nat × AS} {n : Nat} {s : AS} (hF : Far (gph A H zs) s0 d) (hz : AllH zs) (h : SeI A H zs s0 goal budget d R n s) {i : Nat} (hi : s.st i ≠ 0) : 0 ≤ s.g i ∧ s.g i ≤ 4295032831 := by
  have h1 := h.run.inv
  by_cases e : i = s0
  · subst e
    rw [h1.src.2]
    omega
  · obtain ⟨p1, p2, p3⟩ := h1.par i hi e
    have h2 := hF.bd (s.par i)
    have h3 := (h1.opn (s.par i) (by omega)).1
    have h4 : 0 ≤ (gph A H zs).k i ∧ (gph A H zs).k i ≤ 65535 := getD_in hz i
    omega
theorem nbP_on {A H X Y : Int} (hm : mayB A H = true) : ∀ (k : Nat) (c : IC), c ∈ nbP A H X Y k → onB A H c = true
  | 0, c, h => by cases h
  | k + 1, c, h => by
    rw [nbP] at h
    rcases List.mem_append.1 h with h | h
    · exact nbP_on hm k c h
    · split at h
      · rename_i ho
        rw [List.mem_singleton.1 h]
        exact ho
      · cases h
theorem tell_next (A : Int) (zs : List Int) (b : Nat) (g : Int) (s : AS) {Q : List IC} {k : Nat} {c : IC} (hc : Q[k]? = some c) : (Q.take (k + 1)).foldl (tellC A zs b g) s = tellC A zs b g ((Q.take k).foldl (tellC A zs b g) s) c := by
  have : Q.take (k + 1) = Q.take k ++ [c] := by rw [List.take_add_one, hc]; rfl
  rw [this, List.foldl_append]
  rfl
theorem Sep.newRow {W W' : World} {B : Nat} {l : List Own} {e : TypeId} {size n : Nat} {v : Value} {xs : List Value} (h : Sep W B l) (b : Below W.heap.size W W') (ho : W'.ownsRow W.heap.size e size v n xs) : Sep W' B (l ++ [RowO e size v n xs]) :=
  h.new (S := fun k => v.ownBlock = some k) b ⟨own_base ho (Nat.zero_le _), fun _ => Iff.rfl⟩ (fun k hk => (ho.lt k hk).1)
theorem flatP_flatC : ∀ ps : List IC, flatP ps = flatC ps
  | [] => rfl
  | p :: ps => by rw [flatP, flatP_flatC ps, flatC_cons]
/-- The way that is traced, as cells. -/
theorem chain_cells {A H : Int} {zs : List Int} {t : IC} {s : AS} {m : List Th} {n1 : Nat} {f : IC → Option IC} {s0 i : Nat} {L : List Nat} (hm : mayB A H = true) (hn : (zs.length : Int) = A * H) (hlt : ∀ i, s.st i ≠ 0 → i < zs.length) (hC : ChainA (gph A H zs) s s0 i L) (hR : StarS A H t (A * H).toNat s m n1 f) (hs0 : (s0 : Int) < A * H) :
    (L.map (cellN A))[0]? = some (cellN A i) ∧ (∀ (k : Nat) (c : IC), (L.map (cellN A))[k]? = some c → (c = cellN A s0 ↔ k + 1 = (L.map (cellN A)).length)) ∧ (∀ (k : Nat) (c : IC), (L.map (cellN A))[k]? = some c → k + 1 < (L.map (cellN A)).length → f c = (L.map (cellN A))[k + 1]?) ∧
      (∀ (k : Nat) (c : IC), (L.map (cellN A))[k]? = some c → wfC c) ∧ (L.map (cellN A)).length ≤ 65536 ∧ 1 ≤ L.length ∧ ∀ x ∈ L, (x : Int) < A * H := by
  have hat : ∀ (k : Nat) (c : IC), (L.map (cellN A))[k]? = some c → ∃ x, L[k]? = some x ∧ c = cellN A x ∧ (x : Int) < A * H := fun k c hc => by
    rw [List.getElem?_map] at hc
    cases hx : L[k]? with
    | none => rw [hx] at hc; cases hc
    | some x =>
      rw [hx] at hc
      exact ⟨x, rfl, (Option.some.inj hc).symm, by have := hlt x (hC.stp k x hx).1; omega⟩
  have hmem : ∀ x ∈ L, x < zs.length := fun x hx => by
    obtain ⟨k, hk⟩ := List.getElem?_of_mem hx
    exact hlt x (hC.stp k x hk).1
  refine ⟨?_, fun k c hc => ?_, fun k c hc hk => ?_, fun k c hc => ?_, ?_, ?_, fun x hx => by have := hmem x hx; omega⟩
  · obtain ⟨l, rfl⟩ := hC.head
    rfl
  · obtain ⟨x, hx, rfl, hxl⟩ := hat k c hc
    have h2 := (hC.stp k x hx).2.1
    rw [List.length_map, ← h2]
    exact ⟨fun e => by rw [← numN_cell hm hxl, e, numN_cell hm hs0], fun e => by rw [e]⟩
  · obtain ⟨x, hx, rfl, hxl⟩ := hat k c hc
    rw [List.length_map] at hk
    obtain ⟨h1, _, h3⟩ := hC.stp k x hx
    obtain ⟨y, hy⟩ : ∃ y, L[k + 1]? = some y := ⟨_, List.getElem?_eq_getElem hk⟩
    rw [hR.came _ (cellN_on hm hxl), numN_cell hm hxl, if_neg h1, List.getElem?_map, hy, (h3 y hy).1]
    rfl
  · obtain ⟨x, hx, rfl, hxl⟩ := hat k c hc
    exact on_wfC (cellN_on hm hxl)
  · rw [List.length_map]
    have h1 := nodup_lt_len _ L hC.nd hmem
    have := area_bd hm
    omega
  · obtain ⟨l, rfl⟩ := hC.head
    simp
end Go.Proofs.YtldpajfendkhbaaDoor

/- A search by guess: star.search, the walk. -/
namespace Go.Proofs.YtldpajfendkhbaaDoor
open Go.RowKit Go.Maps

set_option maxRecDepth 100000 in
set_option maxHeartbeats 4000000 in
theorem ssearch_any (A H : Int) (a : Option Addr) (cap : Nat) (zs : List Int) (s0 goal : Nat) (budget : Int) (d : Nat → Int) (w : World) (hr : RowH w a zs) (hz : AllH zs) (hst : Stp w) (hm : mayB A H = true) (hn : (zs.length : Int) = A * H) (hs0 : (s0 : Int) < A * H) (hgl : (goal : Int) < A * H) (hF : Far (gph A H zs) s0 d) (ho : zs.getD s0 0 ≠ 0) :
    Calls Tryd.prog 23 #[.agg #[.int .i64 A, .int .i64 H, .slice a zs.length cap], .agg #[.int .i64 (cellN A s0).1, .int .i64 (cellN A s0).2], .agg #[.int .i64 (cellN A goal).1, .int .i64 (cellN A goal).2], .int .i64 budget] w fun e w' => SearchR A H zs s0 goal budget w.heap.size e w' ∧ Below w.heap.size w w' := by
  have hS := (((Sep.nil (W := w) (B := w.heap.size) (Nat.le_refl _)).box #[.int .i64 A, .int .i64 H, .slice a zs.length cap] 26).box #[.int .i64 (cellN A s0).1, .int .i64 (cellN A s0).2] 28).box #[.int .i64 (cellN A goal).1, .int .i64 (cellN A goal).2] 28
  have hS2 := hS.box #[.slice none 0 0, .int .u64 0, .int .i64 0] 36
  simp only [World.size_alloc, List.nil_append, List.cons_append] at hS2
  have HS := Lib.hid hS2
  obtain ⟨R, hR⟩ : ∃ R, runA (fun j => zs.getD j 0) (nbS A H zs) (fun i => guessI (cellN A i) (cellN A goal)) zs.length goal budget (zs.length + 1) 0 (startA s0) = R := ⟨_, rfl⟩
  have HSE := Lib.hid (show SeI A H zs s0 goal budget d R 0 (startA s0) from ⟨runI_start hF ⟨(by show s0 < zs.length; omega), ho⟩, hR⟩)
  have HPO := Lib.hid (show ∀ e W, (∃ (E : Int) (M : Nat) (S' : AS), R = (E, M, S') ∧ (E ≠ 0 → e = .returned (.tuple #[.agg #[.slice none 0 0, .int .u64 0, .int .i64 M], .int .i64 E])) ∧
    (E = 0 → ∃ L g cap, ChainA (gph A H zs) S' s0 goal L ∧ (∀ x ∈ L, x < zs.length) ∧ e = .returned (.tuple #[.agg #[.slice (some ⟨g, 0, none⟩) L.length cap, .int .u64 (S'.g goal), .int .i64 M], .int .i64 0]) ∧ W.ownsRow w.heap.size 28 2 (.slice (some ⟨g, 0, none⟩) L.length cap) L.length (flatC (L.reverse.map (cellN A))))) → SearchR A H zs s0 goal budget w.heap.size e W from fun e W h => by
      unfold SearchR
      rw [hR]
      exact h)
  have HNX := Lib.hid (fun (n b : Nat) (s : AS) => SeI.next (goal := goal) (budget := budget) (R := R) (n := n) (b := b) (s := s) hm hn hz hF)
  have HSM := Lib.hid (fun (n i : Nat) (s : AS) (h : SeI A H zs s0 goal budget d R n s) (hi : s.st i ≠ 0) => h.small hF hz hi)
  have HCH := Lib.hid (fun (n i : Nat) (s : AS) (h : SeI A H zs s0 goal budget d R n s) (hi : s.st i ≠ 0) => chain_ex (gph_ok hm hn hz) hF h.run.inv (s.g i).toNat i hi (by have := (h.small hF hz hi).1; omega))
  have HRH := Lib.hid (fun W (h : Below w.heap.size w W) => hr.below h)
  have HST := Lib.hid (fun W (h : Below w.heap.size w W) => hst.below h)
  have HCO := Lib.hid (fun W (c : IC) (hc : onB A H c = true) (h : RowH W a zs) => scost_any A H a cap zs c W h hz hc hn)
  have HBE := Lib.hid (fun W (c : IC) (hc : onB A H c = true) (h : Stp W) => beside_yes A H c.1 c.2 W h hc)
  have HM := Lib.hid hm
  have HN := Lib.hid hn
  have HZ := Lib.hid hz
  have HG := Lib.hid (And.intro hs0 hgl)
  have HNN := Lib.hid (show (A * H).toNat = zs.length by omega)
  clear hS hS2 hR hF ho hst hr
  go_enter Tryd.func23, Tryd.ntmps23
  go_wp2_with fail
  refine (new_sep HS.out).mono ?_
  rintro e W1 ⟨p, rfl, S1, hb1⟩
  have x0 := Sep.cellAt (l1 := []) S1 0 (.int .i64 A) rfl
  have x1 := Sep.cellAt (l1 := []) S1 1 (.int .i64 H) rfl
  have x2 := Sep.cellAt (l1 := []) S1 2 (.slice a zs.length cap) rfl
  have y0 := Sep.cellAt (l1 := [_]) S1 0 (.int .i64 (cellN A s0).1) rfl
  have y1 := Sep.cellAt (l1 := [_]) S1 1 (.int .i64 (cellN A s0).2) rfl
  have z0 := Sep.cellAt (l1 := [_, _]) S1 0 (.int .i64 (cellN A goal).1) rfl
  have z1 := Sep.cellAt (l1 := [_, _]) S1 1 (.int .i64 (cellN A goal).2) rfl
  have zx0 := blk_lt x0
  have zy0 := blk_lt y0
  have zz0 := blk_lt z0
  have HB1 := Lib.hid hb1
  have S2 := S1.cameNew
  have HX := Lib.hid (sreacher_any (A := A) (H := H) (a := a) (zn := zs.length) (cap := cap) (t := cellN A goal) (p := p) (q := W1.heap.size) S2)
  clear S1 S2 hb1 hs0 hgl hm hn hz
  have hmm := @run_makeMap Tryd.prog
  go_wp2_with fail
  refine HX.out.mono ?_
  rintro e W2 ⟨zf, zt, zc, zw, rfl, S3, hb3⟩
  have S4 := S3.search
  have HR := Lib.hid (sreach_any (b := s0) (j := s0) (x := 0) HM.out HG.out.1 HG.out.1 (cellN_on HM.out HG.out.2) (by omega) (by omega) S4 (StarS.nil A H (cellN A goal) (A * H).toNat s0))
  have hb3' := bl_tr (bl_al (bl0 W1) _) hb3
  have HB3 := Lib.hid hb3'
  clear S3 S4 HX
  replace x0 := cell_later hb3' x0
  replace x1 := cell_later hb3' x1
  replace x2 := cell_later hb3' x2
  replace y0 := cell_later hb3' y0
  replace y1 := cell_later hb3' y1
  replace z0 := cell_later hb3' z0
  replace z1 := cell_later hb3' z1
  clear hb3 hb3'
  go_wp2_with fail
  refine HR.out.mono ?_
  rintro e W3 ⟨rfl, hb4, m1, n1, f1, R1, S5⟩
  rw [start_reach] at R1
  clear x0 x1 x2 y0 y1 z0 z1 zx0 zy0 zz0 HR
  have HA3 := Lib.hid (show Below w.heap.size w W3 from (((bl_al (bl_al (bl_al (bl_al (bl0 w) _) _) _) _).trans (HB1.out.mono (by simp only [World.size_alloc]; omega))).trans (HB3.out.mono (by have := HB1.out.size; simp only [World.size_alloc] at this; omega))).trans hb4)
  obtain ⟨T, hT⟩ : ∃ T, CellsO zf #[.int .i64 A, .int .i64 H, .slice a zs.length cap] 26 :: CellsO zt #[.int .i64 (cellN A goal).1, .int .i64 (cellN A goal).2] 28 :: CellsO zc #[.map (some W1.heap.size)] 78 :: CellsO zw #[.pointer (some ⟨p, 0, none⟩)] 76 :: [CellsO w.heap.size #[.int .i64 A, .int .i64 H, .slice a zs.length cap] 26, CellsO (w.heap.size + 1) #[.int .i64 (cellN A s0).1, .int .i64 (cellN A s0).2] 28, CellsO (w.heap.size + 1 + 1) #[.int .i64 (cellN A goal).1, .int .i64 (cellN A goal).2] 28, CellsO (w.heap.size + 1 + 1 + 1) #[.slice none 0 0, .int .u64 0, .int .i64 0] 36] = T := ⟨_, rfl⟩
  have hS5 : Sep W3 w.heap.size (HeapO p m1 :: CameO W1.heap.size n1 f1 :: (T ++ [])) := by
    rw [List.append_nil, ← hT]
    exact S5
  have HRE := Lib.hid (show ∀ (W : World) (m : List Th) (n : Nat) (f : IC → Option IC) (s : AS) (b j : Nat) (x : Int) (L' : List Own), Sep W w.heap.size (HeapO p m :: CameO W1.heap.size n f :: (T ++ L')) → StarS A H (cellN A goal) (A * H).toNat s m n f → (b : Int) < A * H → (j : Int) < A * H → 0 ≤ x → x ≤ 4611686018427387904 →
      Calls Tryd.prog 49 #[.agg #[.int .i64 (cellN A b).1, .int .i64 (cellN A b).2], .agg #[.int .i64 (cellN A j).1, .int .i64 (cellN A j).2], .int .u64 x, .pointer (some ⟨zf, 0, none⟩), .pointer (some ⟨zt, 0, none⟩), .pointer (some ⟨zc, 0, none⟩), .pointer (some ⟨zw, 0, none⟩)] W fun e w' =>
      e = .returned (.tuple #[]) ∧ Below w.heap.size W w' ∧ ∃ m' n' f', StarS A H (cellN A goal) (A * H).toNat (reachS s b j x) m' n' f' ∧ Sep w' w.heap.size (HeapO p m' :: CameO W1.heap.size n' f' :: (T ++ L')) from by
    intro W m n f s b j x L' h hR hb hj hx hx2
    subst hT
    exact sreach_any HM.out hb hj (cellN_on HM.out HG.out.2) hx hx2 h hR)
  have HFB := Lib.hid (show ∀ (W : World) (o1 o2 : Own) (L' : List Own), Sep W w.heap.size (o1 :: o2 :: (T ++ L')) →
      (W.cell? ⟨w.heap.size, 0, none⟩ = some (.int .i64 A) ∧ W.cell? ⟨w.heap.size, 1, none⟩ = some (.int .i64 H) ∧ W.cell? ⟨w.heap.size, 2, none⟩ = some (.slice a zs.length cap)) ∧ (W.cell? ⟨w.heap.size + 1, 0, none⟩ = some (.int .i64 (cellN A s0).1) ∧ W.cell? ⟨w.heap.size + 1, 1, none⟩ = some (.int .i64 (cellN A s0).2)) ∧
      (W.cell? ⟨w.heap.size + 1 + 1, 0, none⟩ = some (.int .i64 (cellN A goal).1) ∧ W.cell? ⟨w.heap.size + 1 + 1, 1, none⟩ = some (.int .i64 (cellN A goal).2)) ∧
      (W.cell? ⟨w.heap.size + 1 + 1 + 1, 0, none⟩ = some (.slice none 0 0) ∧ W.cell? ⟨w.heap.size + 1 + 1 + 1, 1, none⟩ = some (.int .u64 0) ∧ W.cell? ⟨w.heap.size + 1 + 1 + 1, 2, none⟩ = some (.int .i64 0) ∧ W.frozen? ⟨w.heap.size + 1 + 1 + 1, 0, none⟩ = false ∧ W.frozen? ⟨w.heap.size + 1 + 1 + 1, 1, none⟩ = false ∧ W.frozen? ⟨w.heap.size + 1 + 1 + 1, 2, none⟩ = false) from by
    intro W o1 o2 L' h
    subst hT
    refine ⟨⟨Sep.cellAt (l1 := [o1, o2, _, _, _, _]) h 0 _ rfl, Sep.cellAt (l1 := [o1, o2, _, _, _, _]) h 1 _ rfl, Sep.cellAt (l1 := [o1, o2, _, _, _, _]) h 2 _ rfl⟩,
      ⟨Sep.cellAt (l1 := [o1, o2, _, _, _, _, _]) h 0 _ rfl, Sep.cellAt (l1 := [o1, o2, _, _, _, _, _]) h 1 _ rfl⟩, ⟨Sep.cellAt (l1 := [o1, o2, _, _, _, _, _, _]) h 0 _ rfl, Sep.cellAt (l1 := [o1, o2, _, _, _, _, _, _]) h 1 _ rfl⟩,
      ⟨Sep.cellAt (l1 := [o1, o2, _, _, _, _, _, _, _]) h 0 _ rfl, Sep.cellAt (l1 := [o1, o2, _, _, _, _, _, _, _]) h 1 _ rfl, Sep.cellAt (l1 := [o1, o2, _, _, _, _, _, _, _]) h 2 _ rfl, Sep.frozenAt (l1 := [o1, o2, _, _, _, _, _, _, _]) h 0, Sep.frozenAt (l1 := [o1, o2, _, _, _, _, _, _, _]) h 1, Sep.frozenAt (l1 := [o1, o2, _, _, _, _, _, _, _]) h 2⟩⟩)
  have HS5 := Lib.hid hS5
  have HR1 := Lib.hid R1
  clear S5 hS5 R1 hT hb4 hmm
  go_wp2_with fail
  go_loopw [13, 14, 15, 16, 17, 19, 20] (fun nv _ _ _ _ _ _ wr => ∃ (n : Nat) (s : AS) (m : List Th) (n1 : Nat) (f : IC → Option IC), nv = .int .i64 n ∧ Hid (SeI A H zs s0 goal budget d R n s) ∧ Hid (StarS A H (cellN A goal) (A * H).toNat s m n1 f) ∧ Hid (Sep wr w.heap.size (HeapO p m :: CameO W1.heap.size n1 f :: (T ++ []))) ∧ Hid (Below w.heap.size w wr)) (fun nv _ _ _ _ _ _ _ => zs.length - (intOf nv).toNat)
  case atStart => exact ⟨0, startA s0, m1, n1, f1, rfl, HSE, HR1, HS5, HA3⟩
  case round =>
    obtain ⟨n, s, m, n1, f, rfl, HI, HR, HS, HB⟩ := hrel
    obtain ⟨⟨x0, x1, x2⟩, ⟨y0, y1⟩, ⟨z0, z1⟩, r0, r1, r2, q0, q1, q2⟩ := HFB.out _ _ _ _ HS.out
    have zx0 := blk_lt x0
    have zy0 := blk_lt y0
    have zz0 := blk_lt z0
    have zr0 := blk_lt r0
    have HLE := Lib.hid (HR.out.len HM.out).1
    cases hb : bestTo s (fun i => guessI (cellN A i) (cellN A goal)) zs.length with
    | none =>
      have hm0 : m = [] := HR.out.heap.none.2 (by rw [HNN.out]; exact hb)
      subst hm0
      have HRN := Lib.hid (HI.out.none hb)
      have HLN := Lib.hid (len_sep (l1 := []) HS.out)
      clear hb
      go_wp2_with fail
      refine HLN.out.mono ?_
      rintro e w2 ⟨rfl, hw⟩
      subst hw
      go_wp2
      refine bodyPost_ret (v := .tuple #[.agg #[.slice none 0 0, .int .u64 0, .int .i64 n], .int .i64 22]) (by simp [results, Tryd.results23, go_sem, r0, r1, r2]) rfl ⟨HPO.out _ _ ⟨22, n, s, HRN.out, fun _ => rfl, fun h => absurd h (by decide)⟩, ?_⟩
      exact bl_st (bl_st (bl_st HB.out (by omega) _) (by omega) _) (by omega) _
    | some b =>
      obtain ⟨b1, b2, b3⟩ := bestTo_some hb
      have hl0 : ((m.length : Int) == 0) = false := by
        rw [beq_eq_false_iff_ne]
        intro q
        have h0 : m = [] := List.eq_nil_of_length_eq_zero (by omega)
        have := HR.out.heap.none.1 h0
        rw [HNN.out, hb] at this
        cases this
      have hA1 : 1 ≤ A := (mayB_iff.1 HM.out).1
      have hfirst := HR.out.heap.first hA1 (by rw [HNN.out]; exact hb)
      have hsm := HSM.out n b s HI.out (by omega)
      have hbA : (b : Int) < A * H := by have := HN.out; omega
      have HLN := Lib.hid (len_sep (l1 := []) HS.out)
      have HTK := Lib.hid (fun W (h : Sep W w.heap.size (HeapO p m :: CameO W1.heap.size n1 f :: (T ++ []))) => stake_any (a := a) (zn := zs.length) (cap := cap) HM.out hbA hsm.1 (by omega) hfirst HLE.out h)
      have HBS := Lib.hid hb
      have HBA := Lib.hid hbA
      have HGB := Lib.hid hsm
      have HST2 := Lib.hid (HR.out.settle hA1 (by rw [HNN.out]; exact hb))
      clear b1 b3 hfirst hsm hbA hb hA1
      by_cases hbu : (n : Int) = budget
      · have HRN := Lib.hid (HI.out.spent HBS.out hbu)
        have hbq : ((n : Int) == budget) = true := by rw [beq_iff_eq]; exact hbu
        clear hbu
        go_wp2_with fail
        refine HLN.out.mono ?_
        rintro e w2 ⟨rfl, hw⟩
        subst hw
        go_wp2
        refine bodyPost_ret (v := .tuple #[.agg #[.slice none 0 0, .int .u64 0, .int .i64 n], .int .i64 23]) (by simp [results, Tryd.results23, go_sem, r0, r1, r2]) rfl ⟨HPO.out _ _ ⟨23, n, s, HRN.out, fun _ => rfl, fun h => absurd h (by decide)⟩, ?_⟩
        exact bl_st (bl_st (bl_st HB.out (by omega) _) (by omega) _) (by omega) _
      · have hbq : ((n : Int) == budget) = false := by rw [beq_eq_false_iff_ne]; exact hbu
        have HBU := Lib.hid hbu
        clear hbu
        go_wp2_with fail
        refine HLN.out.mono ?_
        rintro e w2 ⟨rfl, hw⟩
        subst hw
        go_wp2_with fail
        refine (HTK.out _ HS.out).mono ?_
        rintro e w3 ⟨rfl, S3, hb3⟩
        clear x0 x1 x2 y0 y1 z0 z1 r0 r1 r2 q0 q1 q2 zx0 zy0 zz0 zr0 hl0 hbq
        have HB3' := Lib.hid (HB.out.trans hb3)
        have HS3 := Lib.hid S3
        have SB := Lib.hid (S3.box #[.int .i64 (cellN A b).1, .int .i64 (cellN A b).2] 28)
        clear hb3 S3
        go_upto_region 12 with fail
        obtain ⟨W4, hW4⟩ : ∃ W4, w3.alloc (.cells #[.int .i64 (cellN A b).1, .int .i64 (cellN A b).2] 28) = W4 := ⟨_, rfl⟩
        have S4 : Sep W4 w.heap.size (HeapO p (popM m) :: CameO W1.heap.size n1 f :: (T ++ [CellsO w3.heap.size #[.int .i64 (cellN A b).1, .int .i64 (cellN A b).2] 28])) := by
          have := SB.out
          rw [hW4] at this
          simpa only [List.append_nil, List.cons_append] using this
        have HB4 := Lib.hid (show Below w.heap.size w W4 from by rw [← hW4]; exact bl_al HB3'.out _)
        rw [hW4]
        have HFC := Lib.hid (show ∀ (W : World) (m' : List Th) (n' : Nat) (f' : IC → Option IC) (L' : List Own), Sep W w.heap.size (HeapO p m' :: CameO W1.heap.size n' f' :: (T ++ CellsO w3.heap.size #[.int .i64 (cellN A b).1, .int .i64 (cellN A b).2] 28 :: L')) → W.cell? ⟨w3.heap.size, 0, none⟩ = some (.int .i64 (cellN A b).1) ∧ W.cell? ⟨w3.heap.size, 1, none⟩ = some (.int .i64 (cellN A b).2) from fun W m' n' f' L' h => ⟨Sep.cellAt (l1 := HeapO p m' :: CameO W1.heap.size n' f' :: T) h 0 _ rfl, Sep.cellAt (l1 := HeapO p m' :: CameO W1.heap.size n' f' :: T) h 1 _ rfl⟩)
        obtain ⟨a0, a1⟩ := HFC.out _ _ _ _ _ S4
        obtain ⟨⟨x0, x1, x2⟩, ⟨y0, y1⟩, ⟨z0, z1⟩, r0, r1, r2, q0, q1, q2⟩ := HFB.out _ _ _ _ S4
        have zx0 := blk_lt x0
        have zy0 := blk_lt y0
        have zz0 := blk_lt z0
        have zr0 := blk_lt r0
        have za0 := blk_lt a0
        have HS4 := Lib.hid S4
        clear S4 SB hW4
        have hcmp := fun w => eql_cell (cellN A b) (cellN A goal) w
        by_cases hg : b = goal
        · rw [decide_eq_true (by rw [hg])] at hcmp
          subst hg
          obtain ⟨L, hL⟩ := HCH.out n b s HI.out (by omega)
          obtain ⟨c1, c2, c3, c4, c5, c6, c7⟩ := chain_cells HM.out HN.out HI.out.run.lt hL HR.out HG.out.1
          have HTR := Lib.hid (fun W (h : CameAt W W1.heap.size n1 f) => strace_any W1.heap.size n1 f (L.map (cellN A)) (cellN A b) (cellN A s0) W h c1 c2 c3 c4 c5)
          have HCA := Lib.hid (Sep.came (l1 := [HeapO p (popM m)]) HS4.out)
          have HRN := Lib.hid (HI.out.goal HBS.out HBU.out)
          have HCL := Lib.hid hL
          have HLT7 := Lib.hid (show ∀ x ∈ L, x < zs.length from fun x hx => by have := c7 x hx; have := HN.out; omega)
          clear c1 c2 c3 c4 c5 c6 c7 hL
          go_wp2_with fail
          refine (HTR.out _ HCA.out).mono ?_
          rintro e w5 ⟨g, cap', rfl, hown, hb5⟩
          rw [List.length_map, ← List.map_reverse] at hown
          rw [List.length_map]
          replace r0 := cell_later hb5 r0
          replace r1 := cell_later hb5 r1
          replace r2 := cell_later hb5 r2
          have hz5 := hb5.size
          have zr5 := blk_lt r0
          have hgw := (hown.lt g rfl).1
          have hw1 : IntKind.i64.wrap ((n : Int) + 1) = ((n + 1 : Nat) : Int) := by rw [IntWalk.i64_in _ (by have := HI.out.le; have := HN.out; have := area_bd HM.out; omega)]; omega
          have HB5 := Lib.hid (HB4.out.trans (hb5.mono HS4.out.base))
          have hk : ∀ (W : World) (o : Nat) (v : Value), W.ownsRow w.heap.size 28 2 (.slice (some ⟨g, 0, none⟩) L.length cap') L.length (flatC (L.reverse.map (cellN A))) → (W.setCell ⟨w.heap.size + 1 + 1 + 1, o, none⟩ v).ownsRow w.heap.size 28 2 (.slice (some ⟨g, 0, none⟩) L.length cap') L.length (flatC (L.reverse.map (cellN A))) := fun W o v h =>
            (KeptS.of_grown (S := fun x => x = w.heap.size + 1 + 1 + 1) (hgrown_set W (w.heap.size + 1 + 1 + 1) o v) (fun x e _ => by cases e; rfl)).own h (fun r hr q => by
              have : some g = some r := hr
              cases this
              omega)
          have HOW := Lib.hid (hk _ 2 (.int .i64 (n + 1 : Nat)) (hk _ 1 (.int .u64 (s.g b)) (hk _ 0 (.slice (some ⟨g, 0, none⟩) L.length cap') (own_base hown (show w.heap.size ≤ W4.heap.size by omega)))))
          obtain ⟨_, _, _, _, _, _, q0, q1, q2⟩ := HFB.out _ _ _ _ (HS4.out.below hb5)
          clear hown hk hgw x0 x1 x2 y0 y1 z0 z1 a0 a1 hb5
          go_wp2
          refine bodyPost_ret (v := .tuple #[.agg #[.slice (some ⟨g, 0, none⟩) L.length cap', .int .u64 (s.g b), .int .i64 (n + 1 : Nat)], .int .i64 0]) (by simp [results, Tryd.results23, go_sem, r0, r1, r2]) rfl ⟨HPO.out _ _ ⟨0, n + 1, settleB s b, HRN.out, fun h => absurd rfl h, fun _ => ⟨L, g, cap', HCL.out.settle, HLT7.out, rfl, HOW.out⟩⟩, ?_⟩
          exact bl_st (bl_st (bl_st HB5.out (by omega) _) (by omega) _) (by omega) _
        · rw [decide_eq_false (fun q => hg (by rw [← numN_cell HM.out HBA.out, q, numN_cell HM.out HG.out.2]))] at hcmp
          have HGL := Lib.hid hg
          have hon := cellN_on HM.out HBA.out
          have HBD := Lib.hid (HBE.out W4 (cellN A b) hon (HST.out _ HB4.out))
          clear hg
          go_wp2_with fail
          refine HBD.out.mono ?_
          rintro e w5 ⟨v, rfl, hown, hb5⟩
          obtain ⟨Q, hQ⟩ : ∃ Q, nbP A H (cellN A b).1 (cellN A b).2 4 = Q := ⟨_, rfl⟩
          have HQ := Lib.hid hQ
          have HQO := Lib.hid (show ∀ c ∈ Q, onB A H c = true from fun c hc => by rw [← hQ] at hc; exact nbP_on HM.out 4 c hc)
          have HQL := Lib.hid (show Q.length ≤ 4 by rw [← hQ]; exact nbP_len _ _ _ _ 4)
          rw [hQ, flatP_flatC] at hown
          have HNS := Lib.hid (show settleA (fun j => zs.getD j 0) (nbS A H zs b) s b = Q.foldl (tellC A zs b (s.g b)) (settleB s b) by rw [settle_cells, hQ])
          obtain ⟨ga, cap5, rfl, hga⟩ : ∃ ga cap5, v = .slice ga Q.length cap5 ∧ (Q.length = 0 ∨ ∃ g, ga = some ⟨g, 0, none⟩) := by
            rcases hown.2 with ⟨q, e⟩ | ⟨g', cap', cur, e, _⟩
            · exact ⟨none, 0, by rw [q, e], .inl e⟩
            · exact ⟨_, _, e, .inr ⟨g', rfl⟩⟩
          have S5 := HS4.out.newRow hb5 hown
          have HS5' := Lib.hid (show Sep w5 w.heap.size (HeapO p (popM m) :: CameO W1.heap.size n1 f :: (T ++ CellsO w3.heap.size #[.int .i64 (cellN A b).1, .int .i64 (cellN A b).2] 28 :: [RowO 28 2 (.slice ga Q.length cap5) Q.length (flatC Q)])) from by simpa only [List.append_assoc, List.cons_append, List.nil_append] using S5)
          have HB5 := Lib.hid (HB4.out.trans (hb5.mono HS4.out.base))
          clear hown hb5 S5 hQ hon x0 x1 x2 y0 y1 z0 z1 a0 a1 r0 r1 r2 q0 q1 q2 zx0 zy0 zz0 zr0 za0 hcmp
          go_wp2_with fail
          go_loopw [19, 20, 72] (fun _ _ kv wr => ∃ (k : Nat) (m' : List Th) (n' : Nat) (f' : IC → Option IC), kv = .int .i64 k ∧ k ≤ Q.length ∧ Hid (StarS A H (cellN A goal) (A * H).toNat ((Q.take k).foldl (tellC A zs b (s.g b)) (settleB s b)) m' n' f') ∧ Hid (Sep wr w.heap.size (HeapO p m' :: CameO W1.heap.size n' f' :: (T ++ CellsO w3.heap.size #[.int .i64 (cellN A b).1, .int .i64 (cellN A b).2] 28 :: [RowO 28 2 (.slice ga Q.length cap5) Q.length (flatC Q)]))) ∧ Hid (Below w.heap.size w wr)) (fun _ _ kv _ => Q.length - (intOf kv).toNat)
          case atStart => exact ⟨0, popM m, n1, f, rfl, Nat.zero_le _, HST2, HS5', HB5⟩
          case round =>
            obtain ⟨k, m', n', f', rfl, hk, HRk, HSk, HBk⟩ := hrel
            by_cases hlt : k < Q.length
            · have hlt2 : (k : Int) < (Q.length : Int) := by omega
              have hk0 : (0 : Int) ≤ (k : Int) := by omega
              have hwk : IntKind.i64.wrap ((k : Int) + 1) = (k : Int) + 1 := by rw [IntWalk.i64_in _ (by have := HQL.out; omega)]
              obtain ⟨g5, rfl⟩ : ∃ g, ga = some ⟨g, 0, none⟩ := hga.resolve_left (by omega)
              obtain ⟨c, hc⟩ : ∃ c, Q[k]? = some c := ⟨_, List.getElem?_eq_getElem hlt⟩
              have hcon := HQO.out c (List.mem_of_getElem? hc)
              obtain ⟨fq0, fq1⟩ := flatC_at Q k c hc
              have hrow := (Sep.row (l1 := HeapO p m' :: CameO W1.heap.size n' f' :: (T ++ [CellsO w3.heap.size #[.int .i64 (cellN A b).1, .int .i64 (cellN A b).2] 28])) (l2 := []) (by have := HSk.out; simpa only [List.append_assoc, List.cons_append, List.nil_append] using this)).1
              have e0 := hrow _ _ fq0
              have e1 := hrow _ _ fq1
              have hnx := tell_next A zs b (s.g b) (settleB s b) hc
              obtain ⟨j, hj⟩ : ∃ j, numN A c = j := ⟨_, rfl⟩
              have hcj : c = cellN A j := by rw [← hj]; exact (cellN_num hcon).symm
              have hjA : (j : Int) < A * H := by rw [← hj]; have := numN_int hcon; omega
              have HCC := Lib.hid (fun W h => HCO.out W c hcon h)
              rw [hj] at HCC
              have hkk := getD_in HZ.out j
              obtain ⟨K, hK⟩ : ∃ K, zs.getD j 0 = K := ⟨_, rfl⟩
              rw [hK] at HCC hkk
              obtain ⟨sk, hsk⟩ : ∃ sk, (Q.take k).foldl (tellC A zs b (s.g b)) (settleB s b) = sk := ⟨_, rfl⟩
              rw [hsk] at hnx
              have htl : tellC A zs b (s.g b) sk c = if K = 0 then sk else reachS sk b j (s.g b + K) := by unfold tellC; rw [hj, hK]
              rw [htl] at hnx
              have HRk' := HRk.out
              rw [hsk] at HRk'
              have HRS := Lib.hid HRk'
              have HNX2 := Lib.hid hnx
              have HJA := Lib.hid hjA
              have HKK := Lib.hid hkk
              obtain ⟨⟨x0, x1, x2⟩, ⟨y0, y1⟩, ⟨z0, z1⟩, r0, r1, r2, q0, q1, q2⟩ := HFB.out _ _ _ _ HSk.out
              obtain ⟨a0, a1⟩ := HFC.out _ _ _ _ _ HSk.out
              have zx0 := blk_lt x0
              have za0 := blk_lt a0
              have ze0 := blk_lt e0
              have hal := bl_al (bl0 wr) (.cells #[.int .i64 (cellN A j).1, .int .i64 (cellN A j).2] 28)
              subst hcj
              clear hrow fq0 fq1 hc hcon hj hjA hkk hK htl hnx HRk' hsk y0 y1 z0 z1 r0 r1 r2 q0 q1 q2
              have HRw := Lib.hid (HRH.out _ (bl_al HBk.out (.cells #[.int .i64 (cellN A j).1, .int .i64 (cellN A j).2] 28)))
              go_wp2_with fail
              refine (HCC.out _ HRw.out).mono ?_
              rintro e w7 ⟨rfl, hb7⟩
              have hb9 := bl_tr hal hb7
              have d0 : w7.cell? ⟨wr.heap.size, 0, none⟩ = some (.int .i64 (cellN A j).1) := cell_later hb7 (by simp [go_sem])
              have d1 : w7.cell? ⟨wr.heap.size, 1, none⟩ = some (.int .i64 (cellN A j).2) := cell_later hb7 (by simp [go_sem])
              have HS7 := Lib.hid (HSk.out.below hb9)
              have HB7 := Lib.hid (HBk.out.trans (hb9.mono HSk.out.base))
              replace a0 := cell_later hb9 a0
              replace a1 := cell_later hb9 a1
              have zd0 := blk_lt d0
              have za1 := blk_lt a0
              clear x0 x1 x2 e0 e1 zx0 ze0 hal hb7 hb9 za0 HRw
              by_cases hK0 : K = 0
              · have hnx := HNX2.out
                rw [if_pos hK0] at hnx
                have HR9 := Lib.hid (show StarS A H (cellN A goal) (A * H).toNat ((Q.take (k + 1)).foldl (tellC A zs b (s.g b)) (settleB s b)) m' n' f' by rw [hnx]; exact HRS.out)
                have hKb : (K != (0 : Int)) = false := by rw [hK0]; rfl
                clear hnx hK0
                go_wp2_with fail
                go_roundw
                case rel => exact ⟨k + 1, m', n', f', by go_num, by omega, HR9, HS7, HB7⟩
                case measure => simp [intOf]; omega
              · have hnx := HNX2.out
                rw [if_neg hK0] at hnx
                have hKb : (K != (0 : Int)) = true := by rw [bne_iff_ne]; exact hK0
                have hgb := HGB.out
                have hkk := HKK.out
                have hgw : IntKind.u64.wrap (s.g b + K) = s.g b + K := by rw [IntKind.wrap_u64]; omega
                have HRX := Lib.hid (HRE.out w7 m' n' f' sk b j (s.g b + K) _ HS7.out HRS.out HBA.out HJA.out (by omega) (by omega))
                have HNX3 := Lib.hid hnx
                clear hnx hK0 hgb hkk
                go_wp2_with fail
                refine HRX.out.mono ?_
                rintro e w8 ⟨rfl, hb8, m8, n8, f8, hR8, S8⟩
                have HR8 := Lib.hid (show StarS A H (cellN A goal) (A * H).toNat ((Q.take (k + 1)).foldl (tellC A zs b (s.g b)) (settleB s b)) m8 n8 f8 by rw [HNX3.out]; exact hR8)
                have HS8 := Lib.hid S8
                have HB8 := Lib.hid (HB7.out.trans hb8)
                clear hR8 S8 hb8 a0 a1 d0 d1 zd0 za1
                go_wp2_with fail
                go_roundw
                case rel => exact ⟨k + 1, m8, n8, f8, by go_num, by omega, HR8, HS8, HB8⟩
                case measure => simp [intOf]; omega
            · obtain rfl : k = Q.length := by omega
              have hge : ¬ (Q.length : Int) < (Q.length : Int) := by omega
              have hRk := HRk.out
              rw [List.take_length, ← HNS.out] at hRk
              have HI2 := Lib.hid (HNX.out n b s HI.out HBS.out HBU.out HGL.out)
              have HR2 := Lib.hid hRk
              have HS2 := Lib.hid (show Sep wr w.heap.size (HeapO p m' :: CameO W1.heap.size n' f' :: (T ++ [])) by
                have h1 := Sep.drop (l1 := HeapO p m' :: CameO W1.heap.size n' f' :: T) HSk.out
                exact Sep.drop (l1 := HeapO p m' :: CameO W1.heap.size n' f' :: T) h1)
              have hle := HI2.out.le
              have hw1 : IntKind.i64.wrap ((n : Int) + 1) = (n : Int) + 1 := by rw [IntWalk.i64_in _ (by have := HN.out; have := area_bd HM.out; omega)]
              clear hRk hlt
              go_wp2_with fail
              go_roundw
              case rel => exact ⟨n + 1, _, m', n', f', by go_num, HI2, HR2, HS2, HBk⟩
              case measure => simp [intOf]; omega
end Go.Proofs.YtldpajfendkhbaaDoor
