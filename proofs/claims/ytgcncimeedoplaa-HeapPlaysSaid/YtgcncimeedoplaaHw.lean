/- Heap's laws: the order in which things come out. -/
import Derived.Test.YtgcncimeedoplaaHu
namespace Go.Proofs.Ytgcncimeedoplaa
open Go.RowKit Go.Maps

/-- What n Pops take, one behind the other. -/
def outN : Nat → List Th → List Th
  | 0, _ => []
  | n + 1, m => if m.isEmpty then [] else firstT m :: outN n (popM m)
theorem pop_perm {m : List Th} (hn : (m.map Th.id).Nodup) (h0 : m ≠ []) : (firstT m :: popM m).Perm m := by
  obtain ⟨h1, _⟩ := firstT_least m h0
  obtain ⟨l1, l2, e⟩ := List.append_of_mem h1
  generalize ht : firstT m = t at *
  have e2 : popM m = l1 ++ l2 := by
    unfold popM
    rw [ht]
    have hnd := hn
    rw [e] at hnd ⊢
    rw [List.map_append, List.map_cons, List.nodup_append] at hnd
    obtain ⟨_, n2, n3⟩ := hnd
    rw [List.nodup_cons] at n2
    rw [List.filter_append, List.filter_cons]
    simp only [ne_eq, not_true_eq_false, decide_false, Bool.false_eq_true, if_false]
    rw [List.filter_eq_self.2, List.filter_eq_self.2]
    · intro x hx
      exact decide_eq_true fun e3 => n2.1 (List.mem_map.2 ⟨x, hx, e3⟩)
    · intro x hx
      exact decide_eq_true fun e3 => n3 x.id (List.mem_map.2 ⟨x, hx, rfl⟩) t.id (by simp) e3
  rw [e2, e]
  exact List.perm_middle.symm
theorem out_all : ∀ (n : Nat) (m : List Th), m.length ≤ n → (m.map Th.id).Nodup → (outN n m).Perm m ∧ (outN n m).Pairwise (fun x y => aheadT y x = false)
  | 0, m, h, _ => by
    have e := List.eq_nil_of_length_eq_zero (Nat.le_zero.1 h)
    subst e
    exact ⟨List.Perm.refl _, List.Pairwise.nil⟩
  | n + 1, [], _, _ => ⟨List.Perm.refl _, List.Pairwise.nil⟩
  | n + 1, a :: l, h, hn => by
    have hp := pop_perm hn (by simp)
    have hl := hp.length_eq
    simp only [List.length_cons] at hl h
    obtain ⟨ih1, ih2⟩ := out_all n (popM (a :: l)) (by omega) (pop_nodup hn)
    obtain ⟨_, f2⟩ := firstT_least (a :: l) (by simp)
    rw [outN]
    simp only [List.isEmpty_cons, Bool.false_eq_true, if_false]
    refine ⟨(ih1.cons _).trans hp, ih2.cons ?_⟩
    intro y hy
    exact f2 y (pop_mem (ih1.mem_iff.1 hy)).1
theorem sorted_one {l1 l2 : List Th} (hp : l1.Perm l2) (h1 : l1.Pairwise (fun x y => aheadT y x = false)) (h2 : l2.Pairwise (fun x y => aheadT y x = false)) : l1 = l2 :=
  List.Perm.eq_of_pairwise (fun _ _ _ _ k1 k2 => ahead_total k2 k1) h1 h2 hp
/-- In whatever order they were put in. -/
theorem out_perm {m m' : List Th} {n : Nat} (h : m.length ≤ n) (hn : (m.map Th.id).Nodup) (hp : m.Perm m') : outN n m = outN n m' := by
  obtain ⟨a1, a2⟩ := out_all n m h hn
  obtain ⟨b1, b2⟩ := out_all n m' (by rw [← hp.length_eq]; exact h) ((hp.map Th.id).nodup_iff.1 hn)
  exact sorted_one (a1.trans (hp.trans b1.symm)) a2 b2

/-! ### Where one stands in a row -/
def posN (d : Int) (l : List Int) : Nat → Int
  | 0 => -1
  | k + 1 => if l.getD k 0 = d then k else posN d l k
theorem posN_at {d : Int} {l1 l2 : List Int} (h2 : d ∉ l2) : ∀ k, k ≤ l2.length → posN d (l1 ++ d :: l2) (l1.length + 1 + k) = l1.length
  | 0, _ => by
    rw [Nat.add_zero, posN, if_pos]
    simp [List.getD_eq_getElem?_getD]
  | k + 1, h => by
    rw [← Nat.add_assoc, posN, if_neg, posN_at h2 k (by omega)]
    intro e
    apply h2
    have e2 : (l1 ++ d :: l2)[l1.length + 1 + k]? = l2[k]? := by
      rw [List.getElem?_append_right (by omega), show l1.length + 1 + k - l1.length = k + 1 by omega, List.getElem?_cons_succ]
    rw [List.getD_eq_getElem?_getD, e2, List.getElem?_eq_getElem (by omega), Option.getD_some] at e
    rw [← e]
    exact List.getElem_mem _
theorem filter_one {α : Type} {p : α → Bool} {l1 l2 : List α} {t : α} (h : p t = false) (h1 : ∀ x ∈ l1, p x = true) (h2 : ∀ x ∈ l2, p x = true) : (l1 ++ t :: l2).filter p = l1 ++ l2 := by
  rw [List.filter_append, List.filter_cons, h]
  simp only [Bool.false_eq_true, if_false]
  rw [List.filter_eq_self.2 h1, List.filter_eq_self.2 h2]
/-- Of two rows that are the same but for one thing, which is ahead of where it was. -/
theorem sooner {x y : List Th} {d : Int} (hx : x.Pairwise (fun x y => aheadT y x = false)) (hy : y.Pairwise (fun x y => aheadT y x = false)) (nx : (x.map Th.id).Nodup) (ny : (y.map Th.id).Nodup)
    {t t' : Th} (ht : t ∈ x) (ht' : t' ∈ y) (hd : t.id = d) (hd' : t'.id = d) (ha : aheadT t' t = true) (hp : (x.filter (fun z => decide (z.id ≠ d))).Perm (y.filter (fun z => decide (z.id ≠ d)))) :
    x.filter (fun z => decide (z.id ≠ d)) = y.filter (fun z => decide (z.id ≠ d)) ∧ ∃ at_ to_ : Nat, posN d (x.map Th.id) x.length = at_ ∧ posN d (y.map Th.id) y.length = to_ ∧ to_ ≤ at_ := by
  have heq := sorted_one hp (hx.filter _) (hy.filter _)
  refine ⟨heq, ?_⟩
  obtain ⟨x1, x2, ex⟩ := List.append_of_mem ht
  obtain ⟨y1, y2, ey⟩ := List.append_of_mem ht'
  have key : ∀ {l : List Th} {u : Th} {l1 l2 : List Th}, (l.map Th.id).Nodup → l = l1 ++ u :: l2 → u.id = d → (∀ z ∈ l1, decide (z.id ≠ d) = true) ∧ (∀ z ∈ l2, decide (z.id ≠ d) = true) ∧ posN d (l.map Th.id) l.length = l1.length := by
    intro l u l1 l2 hn e hu
    rw [e, List.map_append, List.map_cons, List.nodup_append] at hn
    obtain ⟨_, n2, n3⟩ := hn
    rw [List.nodup_cons] at n2
    have m2 : d ∉ l2.map Th.id := by rw [← hu]; exact n2.1
    refine ⟨fun z hz => decide_eq_true fun e3 => n3 z.id (List.mem_map.2 ⟨z, hz, rfl⟩) u.id (by simp) (e3.trans hu.symm), fun z hz => decide_eq_true fun e3 => m2 (List.mem_map.2 ⟨z, hz, e3⟩), ?_⟩
    have := posN_at (l1 := l1.map Th.id) m2 l2.length (by simp)
    rw [e, List.map_append, List.map_cons, hu]
    simp only [List.length_append, List.length_cons, List.length_map] at this ⊢
    rw [← this]
    congr 1
    omega
  obtain ⟨a1, a2, a3⟩ := key nx ex hd
  obtain ⟨b1, b2, b3⟩ := key ny ey hd'
  refine ⟨x1.length, y1.length, a3, b3, ?_⟩
  have e1 : x.filter (fun z => decide (z.id ≠ d)) = x1 ++ x2 := by rw [ex]; exact filter_one (by simp [hd]) a1 a2
  have e2 : y.filter (fun z => decide (z.id ≠ d)) = y1 ++ y2 := by rw [ey]; exact filter_one (by simp [hd']) b1 b2
  rw [e1, e2] at heq
  by_cases hc : y1.length ≤ x1.length
  · exact hc
  · exfalso
    have hlen := congrArg List.length heq
    simp only [List.length_append] at hlen
    -- the first thing behind it in x stands ahead of it in y
    cases x2 with
    | nil => simp at hlen; omega
    | cons z x2 =>
      have hz1 : (x1 ++ z :: x2)[x1.length]? = some z := by simp
      rw [heq, List.getElem?_append_left (by omega)] at hz1
      have hzy : z ∈ y1 := List.mem_of_getElem? hz1
      rw [ex, List.pairwise_append, List.pairwise_cons] at hx
      rw [ey, List.pairwise_append] at hy
      have q1 := hx.2.1.1 z (by simp)
      have q2 := hy.2.2 z hzy t' (by simp)
      have hzd := of_decide_eq_true (b1 z hzy)
      by_cases q3 : aheadT z t' = true
      · rw [ahead_trans q3 ha] at q1; cases q1
      · have := ahead_total (by simpa using q3) q2
        rw [this] at hzd
        exact hzd hd'
end Go.Proofs.Ytgcncimeedoplaa
