/- Cache's laws: rows of acts; what a row of keys tells. -/
import Derived.Test.YtbmpgafndpdnbaaEl
import Derived.Test.YtbmpgafndpdnbaaEm
namespace Go.Proofs.Ytbmpgafndpdnbaa
open Go.RowKit Go.Maps

/-- A call. -/
structure AT where
  d : Int
  k : Int
  v : Int
instance : Inhabited AT := ⟨⟨0, 0, 0⟩⟩
abbrev atA (l : List AT) (j : Nat) : AT := l.getD j default
/-- A row of calls. -/
def RowA (W : World) (a : Option Addr) (ks : List AT) : Prop :=
  ks = [] ∨ ∃ b o, a = some ⟨b, o, none⟩ ∧ ∀ (i : Nat) k, ks[i]? = some k → W.cell? ⟨b, o + i * 3, none⟩ = some (.int .i64 k.d) ∧ W.cell? ⟨b, o + i * 3 + 1, none⟩ = some (.int .i64 k.k) ∧ W.cell? ⟨b, o + i * 3 + 2, none⟩ = some (.int .i64 k.v)
theorem RowA.below {W W' : World} {a : Option Addr} {ks : List AT} (h : RowA W a ks) (hb : Below W.heap.size W W') : RowA W' a ks := by
  rcases h with h | ⟨b, o, h1, h2⟩
  · exact .inl h
  · exact .inr ⟨b, o, h1, fun i z hz => ⟨cell_later hb (h2 i z hz).1, cell_later hb (h2 i z hz).2.1, cell_later hb (h2 i z hz).2.2⟩⟩
theorem RowA.at {W : World} {a : Option Addr} {ks : List AT} (h : RowA W a ks) {k : Nat} {z : AT} (hk : ks[k]? = some z) : ∃ b o, a = some ⟨b, o, none⟩ ∧ W.cell? ⟨b, o + k * 3, none⟩ = some (.int .i64 z.d) ∧ W.cell? ⟨b, o + k * 3 + 1, none⟩ = some (.int .i64 z.k) ∧ W.cell? ⟨b, o + k * 3 + 2, none⟩ = some (.int .i64 z.v) := by
  rcases h with rfl | ⟨b, o, h1, h2⟩
  · simp at hk
  · exact ⟨b, o, h1, h2 k _ hk⟩
theorem RowI.take {W : World} {a : Option Addr} {is : List Int} (h : RowI W a is) (n : Nat) : RowI W a (is.take n) := by
  rcases h with rfl | ⟨g, o, e, h⟩
  · exact .inl (by simp)
  · refine .inr ⟨g, o, e, fun i z hz => h i z ?_⟩
    rw [List.getElem?_take] at hz
    split at hz
    · exact hz
    · cases hz
theorem RowI.cell {W : World} {g o : Nat} {is : List Int} (h : RowI W (some ⟨g, o, none⟩) is) {i : Nat} {z : Int} (hz : is[i]? = some z) : W.cell? ⟨g, o + i, none⟩ = some (.int .i64 z) := by
  rcases h with rfl | ⟨g', o', e, h⟩
  · simp at hz
  · cases e; exact h i z hz
/-- A row in a block of its own. -/
theorem row_cell {W : World} {B g n c : Nat} {l1 l2 : List Own} {is : List Int} (h : Sep W B (l1 ++ RowO 3 1 (.slice (some ⟨g, 0, none⟩) n c) n (cellsI is) :: l2)) (hn : is.length = n) {i : Nat} {z : Int} (hz : is[i]? = some z) : W.cell? ⟨g, i, none⟩ = some (.int .i64 z) := by
  have := (h.rowI hn).cell hz
  rwa [Nat.zero_add] at this
end Go.Proofs.Ytbmpgafndpdnbaa
