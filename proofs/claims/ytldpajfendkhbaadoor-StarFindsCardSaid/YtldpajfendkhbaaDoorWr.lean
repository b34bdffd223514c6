/- Rows of cells in memory; a row of one's own that grows within a loop over an iterator. -/
import Derived.Test.YtldpajfendkhbaaDoorWb
import Derived.Test.YtldpajfendkhbaaDoorRo
import Derived.OwnWalk
import Derived.Laws.OwnMore
import Derived.Lib.Hide
import Derived.RangeFuncBox
namespace Go.Proofs.YtldpajfendkhbaaDoor
open Go.RowKit Go.Shelf

/-- A row of cells in memory. -/
def RowC (W : World) (a : Option Addr) (zs : List (Int × Int)) : Prop :=
  zs = [] ∨ ∃ b o, a = some ⟨b, o, none⟩ ∧ ∀ i z, zs[i]? = some z → W.cell? ⟨b, o + i * 2, none⟩ = some (.int .i64 z.1) ∧ W.cell? ⟨b, o + i * 2 + 1, none⟩ = some (.int .i64 z.2)
theorem RowC.below {W W' : World} {a : Option Addr} {zs : List (Int × Int)} (h : RowC W a zs) (hb : Below W.heap.size W W') : RowC W' a zs := by
  rcases h with h | ⟨b, o, h1, h2⟩
  · exact .inl h
  · exact .inr ⟨b, o, h1, fun i z hz => ⟨cell_later hb (h2 i z hz).1, cell_later hb (h2 i z hz).2⟩⟩
theorem RowC.cell {W : World} {a : Option Addr} {zs : List (Int × Int)} (h : RowC W a zs) {k : Nat} (hk : k < zs.length) : ∃ b o, a = some ⟨b, o, none⟩ ∧ W.cell? ⟨b, o + k * 2, none⟩ = some (.int .i64 zs[k].1) ∧ W.cell? ⟨b, o + k * 2 + 1, none⟩ = some (.int .i64 zs[k].2) := by
  rcases h with rfl | ⟨b, o, h1, h2⟩
  · simp at hk
  · exact ⟨b, o, h1, (h2 k _ (List.getElem?_eq_getElem hk)).1, (h2 k _ (List.getElem?_eq_getElem hk)).2⟩
def flatC (zs : List (Int × Int)) : List Value := zs.flatMap (fun z => [.int .i64 z.1, .int .i64 z.2])
theorem flatC_snoc (zs : List (Int × Int)) (z : Int × Int) : flatC (zs ++ [z]) = flatC zs ++ [.int .i64 z.1, .int .i64 z.2] := by simp [flatC, List.flatMap_append]
theorem flatC_at : ∀ (zs : List (Int × Int)) (i : Nat) (z : Int × Int), zs[i]? = some z → (flatC zs)[i * 2]? = some (.int .i64 z.1) ∧ (flatC zs)[i * 2 + 1]? = some (.int .i64 z.2)
  | [], i, z, h => by simp at h
  | y :: zs, 0, z, h => by simp at h; subst h; simp [flatC]
  | y :: zs, i + 1, z, h => by
    have := flatC_at zs i z (by simpa using h)
    have e : flatC (y :: zs) = .int .i64 y.1 :: .int .i64 y.2 :: flatC zs := rfl
    rw [e, show (i + 1) * 2 = i * 2 + 1 + 1 by omega]
    simpa using this
theorem rowC_of_own {w : World} {base : Nat} {v : Value} {zs : List (Int × Int)} (h : w.ownsRow base 28 2 v zs.length (flatC zs)) : ∃ a cap, v = .slice a zs.length cap ∧ RowC w a zs := by
  have hown := h
  rcases h.2 with ⟨rfl, h0⟩ | ⟨g, cap, cur, rfl, hb, hg, _⟩
  · refine ⟨none, 0, by rw [h0], .inl (List.eq_nil_of_length_eq_zero h0)⟩
  · refine ⟨_, cap, rfl, .inr ⟨g, 0, rfl, fun i z hz => ?_⟩⟩
    obtain ⟨e0, e1⟩ := flatC_at zs i z hz
    have a0 := hown.cells (g := g) rfl _ _ e0
    have a1 := hown.cells (g := g) rfl _ _ e1
    rw [addr_add] at a0 a1
    rw [Nat.zero_add] at a0 a1 ⊢
    exact ⟨a0, a1⟩
theorem Tryd.infoCell : (Tryd.prog.info? 28).map (fun i => (i.zero, i.size, i.bytes)) = some (some (.agg #[.int .i64 0, .int .i64 0]), 2, 16) := by kernel_rfl


/-- What such a loop holds: its row, in a box m; what lies below p lies as it lay. -/
def RowI (p : Nat) (w : World) (m : Nat) (pre : List (Int × Int)) (W : World) : Prop := Below p w W ∧ ∃ v, Boxed W m 33 v ∧ W.ownsRow m 28 2 v pre.length (flatC pre) ∧ True
theorem rowI_own {p n₁ : Nat} {w : World} (hn : p ≤ n₁) (hp : p ≤ w.heap.size) (m : Nat) : OwnFrom n₁ (RowI p w m) := fun s C D row hs hg hr =>
  ⟨hs.1.grown hg (Nat.le_trans hp hs.1.size) (fun r e => Nat.le_trans hn (hr r e).1), holdsRow_own m m 33 28 2 (fun s : List (Int × Int) => s.length) flatC (fun _ _ => True) s C D row hs.2 hg (fun r e => (hr r e).2)⟩
theorem rowI_abp {p c : Nat} {w : World} {m : Nat} (hc : p + c ≤ m) (hp : p ≤ w.heap.size) : AbP p c (RowI p w m) := by
  rintro s A B row ⟨hb, v, hv, hr, _⟩ hg hrow
  refine ⟨hb.grown hg (Nat.le_trans hp hb.size) (fun r e => (hrow r e).1), v, hv.kept hg (fun e => ?_), hr.kept hg ?_, trivial⟩
  · have := (hrow m e.symm).2.1
    omega
  · rcases hr.2 with ⟨rfl, _⟩ | ⟨g, cap, cur, rfl, hgm, _⟩
    · exact .inl rfl
    · refine .inr fun e => ?_
      have := (hrow g (by simpa [Value.ownBlock] using e.symm)).2.1
      omega
end Go.Proofs.YtldpajfendkhbaaDoor
