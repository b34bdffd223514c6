/- Things of one's own, each with its blocks, none with another one's. -/
import Derived.Test.YtofpoenehdmkpaaDoorHa
namespace Go.Proofs.YtofpoenehdmkpaaDoor
open Go.RowKit

/-- What holds of a world and of its blocks S, and hangs on these alone. -/
structure Own where
  P : World → (Nat → Prop) → Prop
  lt : ∀ {W : World} {S : Nat → Prop}, P W S → ∀ k, S k → k < W.heap.size
  keep : ∀ {W W' : World} {S : Nat → Prop}, P W S → Below 0 W W' → (∀ k, S k → W'.heap[k]? = W.heap[k]?) → P W' S

/-- All of a list hold, each of blocks of its own, from block B on. -/
def Sep (W : World) (B : Nat) (l : List Own) : Prop :=
  B ≤ W.heap.size ∧ ∃ Z : List (Own × (Nat → Prop)), Z.map Prod.fst = l ∧ (∀ z ∈ Z, z.1.P W z.2 ∧ ∀ k, z.2 k → B ≤ k) ∧ Z.Pairwise (fun x y => ∀ k, x.2 k → ¬ y.2 k)

theorem Sep.base {W : World} {B : Nat} {l : List Own} (h : Sep W B l) : B ≤ W.heap.size := h.1
theorem Sep.nil {W : World} {B : Nat} (h : B ≤ W.heap.size) : Sep W B [] := ⟨h, [], rfl, (fun _ h => by cases h), List.Pairwise.nil⟩
theorem Sep.below {W W' : World} {B : Nat} {l : List Own} (h : Sep W B l) (b : Below W.heap.size W W') : Sep W' B l := by
  obtain ⟨h0, Z, h1, h2, h3⟩ := h
  exact ⟨Nat.le_trans h0 b.size, Z, h1, fun z hz => ⟨z.1.keep (h2 z hz).1 (b.mono (Nat.zero_le _)) fun k hk => b.block k (z.1.lt (h2 z hz).1 k hk), (h2 z hz).2⟩, h3⟩
/-- One of them is turned: the others stay. -/
theorem Sep.turn {W : World} {B : Nat} {l1 l2 : List Own} {o : Own} (h : Sep W B (l1 ++ o :: l2)) :
    ∃ S, o.P W S ∧ (∀ k, S k → B ≤ k ∧ k < W.heap.size) ∧ ∀ (W' : World) (S' : Nat → Prop) (o' : Own), KeptS S W W' → o'.P W' S' → (∀ k, S' k → S k ∨ W.heap.size ≤ k) → Sep W' B (l1 ++ o' :: l2) ∧ Below B W W' := by
  obtain ⟨h0, Z, h1, h2, h3⟩ := h
  obtain ⟨Z1, Zr, rfl, e1, e2⟩ := List.map_eq_append_iff.1 h1
  obtain ⟨z, Z2, rfl, e3, e4⟩ := List.map_eq_cons_iff.1 e2
  obtain ⟨hz1, hz2⟩ := h2 z (by simp)
  rw [e3] at hz1
  refine ⟨z.2, hz1, fun k hk => ⟨hz2 k hk, o.lt hz1 k hk⟩, fun W' S' o' hk hP hS => ?_⟩
  rw [List.pairwise_append, List.pairwise_cons] at h3
  obtain ⟨p1, ⟨p2, p3⟩, p4⟩ := h3
  have hkeep : ∀ y ∈ Z1 ++ Z2, (∀ k, y.2 k → ¬ z.2 k) ∧ (∀ k, y.2 k → ¬ S' k) ∧ (∀ k, S' k → ¬ y.2 k) ∧ y.1.P W' y.2 ∧ ∀ k, y.2 k → B ≤ k := by
    intro y hy
    have hy' : y ∈ Z1 ++ z :: Z2 := by
      rcases List.mem_append.1 hy with h | h
      · exact List.mem_append_left _ h
      · exact List.mem_append_right _ (List.mem_cons_of_mem _ h)
    obtain ⟨q1, q2⟩ := h2 y hy'
    have hyz : ∀ k, y.2 k → ¬ z.2 k := by
      rcases List.mem_append.1 hy with h | h
      · exact p4 y h z (by simp)
      · exact fun k hk hz => p2 y h k hz hk
    have hys : ∀ k, y.2 k → ¬ S' k := fun k hk hs => by
      rcases hS k hs with h | h
      · exact hyz k hk h
      · have := y.1.lt q1 k hk; omega
    exact ⟨hyz, hys, fun k hs hk => hys k hk hs, y.1.keep q1 hk.1 fun k hk' => hk.2 k (y.1.lt q1 k hk') (hyz k hk'), q2⟩
  refine ⟨⟨Nat.le_trans h0 hk.1.size, Z1 ++ (o', S') :: Z2, by simp [e1, e4], ?_, ?_⟩, hk.to_below (fun k hkB hz => by have := hz2 k hz; omega) h0⟩
  · intro y hy
    rcases List.mem_append.1 hy with h | h
    · exact (hkeep y (List.mem_append_left _ h)).2.2.2
    · rcases List.mem_cons.1 h with rfl | h
      · refine ⟨hP, fun k hk' => ?_⟩
        rcases hS k hk' with h | h
        · exact hz2 k h
        · omega
      · exact (hkeep y (List.mem_append_right _ h)).2.2.2
  · rw [List.pairwise_append, List.pairwise_cons]
    refine ⟨p1, ⟨fun y hy => (hkeep y (List.mem_append_right _ hy)).2.2.1, p3⟩, fun x hx y hy => ?_⟩
    rcases List.mem_cons.1 hy with rfl | hy
    · exact (hkeep x (List.mem_append_left _ hx)).2.1
    · exact p4 x hx y (by simp [hy])
/-- A new one. -/
theorem Sep.new {W W' : World} {B : Nat} {l : List Own} (h : Sep W B l) (b : Below W.heap.size W W') {o : Own} {S : Nat → Prop} (hP : o.P W' S) (hS : ∀ k, S k → W.heap.size ≤ k) : Sep W' B (l ++ [o]) := by
  have hlt : ∀ (z : Own × (Nat → Prop)), z.1.P W z.2 → ∀ k, z.2 k → ¬ S k := fun z hz k hk hs => by
    have := z.1.lt hz k hk
    have := hS k hs
    omega
  have h' := h
  obtain ⟨h0, Z, h1, h2, h3⟩ := h
  refine ⟨Nat.le_trans h0 b.size, Z ++ [(o, S)], by simp [h1], ?_, ?_⟩
  · intro y hy
    rcases List.mem_append.1 hy with hy | hy
    · exact ⟨y.1.keep (h2 y hy).1 (b.mono (Nat.zero_le _)) fun k hk => b.block k (y.1.lt (h2 y hy).1 k hk), (h2 y hy).2⟩
    · rcases List.mem_singleton.1 hy with rfl
      exact ⟨hP, fun k hk => Nat.le_trans h0 (hS k hk)⟩
  · rw [List.pairwise_append]
    refine ⟨h3, by simp, fun x hx y hy => ?_⟩
    rcases List.mem_singleton.1 hy with rfl
    exact hlt x (h2 x hx).1
/-- One is read. -/
theorem Sep.at {W : World} {B : Nat} {l1 l2 : List Own} {o : Own} (h : Sep W B (l1 ++ o :: l2)) : ∃ S, o.P W S ∧ ∀ k, S k → B ≤ k ∧ k < W.heap.size := by
  obtain ⟨S, h1, h2, _⟩ := h.turn
  exact ⟨S, h1, h2⟩
/-- One is left out. -/
theorem Sep.drop {W : World} {B : Nat} {l1 l2 : List Own} {o : Own} (h : Sep W B (l1 ++ o :: l2)) : Sep W B (l1 ++ l2) := by
  obtain ⟨h0, Z, h1, h2, h3⟩ := h
  obtain ⟨Z1, Zr, rfl, e1, e2⟩ := List.map_eq_append_iff.1 h1
  obtain ⟨z, Z2, rfl, e3, e4⟩ := List.map_eq_cons_iff.1 e2
  refine ⟨h0, Z1 ++ Z2, by simp [e1, e4], fun y hy => h2 y ?_, h3.sublist ?_⟩
  · rcases List.mem_append.1 hy with h | h
    · exact List.mem_append_left _ h
    · exact List.mem_append_right _ (List.mem_cons_of_mem _ h)
  · exact List.Sublist.append (List.Sublist.refl _) (List.sublist_cons_self _ _)

/-- A row of one's own. -/
def RowO (e : TypeId) (size : Nat) (v : Value) (n : Nat) (xs : List Value) : Own where
  P W S := W.ownsRow 0 e size v n xs ∧ ∀ k, S k ↔ v.ownBlock = some k
  lt h k hk := (h.1.lt k ((h.2 k).1 hk)).2
  keep {W W' S} h b hk := by
    refine ⟨⟨h.1.1, ?_⟩, h.2⟩
    rcases h.1.2 with q | ⟨g, cap, cur, h1, h2, h3, h4⟩
    · exact .inl q
    · exact .inr ⟨g, cap, cur, h1, h2, (hk g ((h.2 g).2 (by rw [h1]; rfl))).trans h3, h4⟩
end Go.Proofs.YtofpoenehdmkpaaDoor
