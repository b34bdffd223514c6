/- FogMerges: what the law's loop needs of the two fogs. -/
import Derived.Test.YtccokdfkmppohaaBi
namespace Go.Proofs.Ytccokdfkmppohaa
open Go.RowKit Go.Shelf

theorem RFogAt.keptT {W W' : World} {B g h n cap g2 h2 : Nat} {X Y : Int} {rs : List Int} {k : Int} (m : RFogAt W B g X Y (.slice (some ⟨h, 0, none⟩) n cap) rs k) (x : KeptT g2 h2 W W') (e1 : g ≠ g2) (e2 : g ≠ h2) (e3 : h ≠ g2) (e4 : h ≠ h2) : RFogAt W' B g X Y (.slice (some ⟨h, 0, none⟩) n cap) rs k := by
  obtain ⟨m1, m2, m3⟩ := m
  refine ⟨m1, (x.2 g (Array.getElem?_eq_some_iff.1 m2).1 e1 e2).trans m2, m3.1, ?_⟩
  rcases m3.2 with h | ⟨g', cap', cur, h1, h2', h3, h4⟩
  · exact .inl h
  · cases h1
    exact .inr ⟨_, _, cur, rfl, h2', (x.2 _ (Array.getElem?_eq_some_iff.1 h3).1 e3 e4).trans h3, h4⟩
theorem RowQ.keptT {W W' : World} {q g h : Nat} {bs : List Bool} (m : RowQ W q bs) (x : KeptT g h W W') (h1 : q ≠ g) (h2 : q ≠ h) : RowQ W' q bs := (x.2 q (Array.getElem?_eq_some_iff.1 m).1 h1 h2).trans m
theorem RowQ.below {W W' : World} {q : Nat} {bs : List Bool} (m : RowQ W q bs) (x : Below W.heap.size W W') : RowQ W' q bs := (x.block q (Array.getElem?_eq_some_iff.1 m).1).trans m
/-- All that is known behind looks is a cost. -/
theorem allK_foldL {X Y : Int} : ∀ (ls : List LookD) (s : List (Option Int) × Int), (∀ l ∈ ls, AllH l.fs) → AllK s.1 → AllK (ls.foldl (stepL X Y) s).1
  | [], _, _, h => h
  | l :: ls, _, hu, h => allK_foldL ls _ (fun y hy => hu y (List.mem_cons_of_mem _ hy)) (allK_look (hu l List.mem_cons_self) h)
theorem allK_looks {X Y : Int} {ls : List LookD} (hu : ∀ l ∈ ls, AllH l.fs) : AllK (looksL X Y ls).1 := allK_foldL ls _ hu (allK_none _)
/-- What the law wants of a cell: the reference's cost of it. -/
theorem known_cost {X Y x y : Int} {ms : List (Option Int)} (hi : inB X Y x y = true) (hl : (ms.length : Int) = X * Y) : numC X (x, y) < ms.length ∧ (costR ms).getD (numC X (x, y)) 0 = (knA X Y x y ms).getD (-1) := by
  obtain ⟨h1, _⟩ := num_bd (c := (x, y)) (n := ms.length) hi hl
  refine ⟨h1, ?_⟩
  rw [costR_at h1]
  unfold knA
  rw [if_pos hi, List.getElem?_eq_getElem h1]
  rfl
theorem known_off {X Y x y : Int} {ms : List (Option Int)} (hi : inB X Y x y = false) : knA X Y x y ms = none := by
  unfold knA
  rw [if_neg (by rw [hi]; decide)]
theorem known_in {X Y x y : Int} {ms : List (Option Int)} (h : AllK ms) {z : Int} (hk : knA X Y x y ms = some z) : inH z := by
  unfold knA at hk
  split at hk
  · cases hm : ms[numC X (x, y)]? with
    | none => rw [hm] at hk; cases hk
    | some o =>
      rw [hm, Option.getD_some] at hk
      subst hk
      exact h z (List.mem_of_getElem? hm)
  · cases hk
theorem rfnew_row (X Y : Int) (w : World) (hm : mayB X Y = true) (n : Nat) (hn : (n : Int) = X * Y) :
    Calls Try.prog 7 #[.agg #[.int .i64 X, .int .i64 Y]] w fun e w' => ∃ g h cap, e = .returned (.pointer (some ⟨g, 0, none⟩)) ∧ RFogAt w' w.heap.size g X Y (.slice (some ⟨h, 0, none⟩) n cap) (List.replicate n (-1)) 0 ∧ Below w.heap.size w w' :=
  (rfnew_yes X Y w hm n hn).mono fun e w' ⟨g, v, he, hf, hb⟩ => by
    have hpos := area_bd hm
    have hf2 := hf
    rcases hf.2.2.2 with ⟨_, h0⟩ | ⟨h, cap, cur, rfl, _⟩
    · simp at h0; omega
    · rw [List.length_replicate] at hf2
      exact ⟨g, h, cap, he, hf2, hb⟩
/-- Two looks beside one another: what the law's two fogs hold behind the first k looks. -/
def MergesI (w : World) (B2 g h N gr hr capr : Nat) (X Y x y : Int) (ls : List LookD) (k : Nat) (W : World) : Prop :=
  FogAt W w.heap.size g h N X Y (looksL X Y (ls.take k)).1 (looksL X Y (ls.take k)).2 ∧ RFogAt W B2 gr X Y (.slice (some ⟨hr, 0, none⟩) N capr) (costR (looksL X Y (ls.take k)).1) (looksL X Y (ls.take k)).2 ∧ Below w.heap.size w W ∧
    W.cell? ⟨w.heap.size, 0, none⟩ = some (.int .i64 X) ∧ W.cell? ⟨w.heap.size, 1, none⟩ = some (.int .i64 Y) ∧ W.cell? ⟨w.heap.size + 1, 0, none⟩ = some (.int .i64 x) ∧ W.cell? ⟨w.heap.size + 1, 1, none⟩ = some (.int .i64 y)
end Go.Proofs.Ytccokdfkmppohaa
