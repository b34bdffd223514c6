/- FogMerges: what is explored is what the reference has seen. -/
import Derived.Test.YtccokdfkmppohaaBj
import Derived.Test.YtccokdfkmppohaaQ2
namespace Go.Proofs.Ytccokdfkmppohaa
open Go.RowKit Go.Shelf

theorem ones_range {X Y : Int} {bs : List Nat} {N : Nat} (g : Good X Y bs) (hN : (N : Int) = X * Y) : ones bs = (List.range N).countP (fun i => bitAt bs i) := by
  have h1 := numsOf_len bs g.2.2.1
  rw [numsOf_range, List.length_map] at h1
  have hle : N ≤ bs.length * 8 := by have := g.2.1; omega
  have h2 : ((List.range (bs.length * 8)).filter (fun i => bitAt bs i)).length = ((List.range N).filter (fun i => bitAt bs i)).length := by
    obtain ⟨d, hd⟩ : ∃ d, bs.length * 8 = N + d := ⟨bs.length * 8 - N, by omega⟩
    rw [hd, List.range_add, List.filter_append, List.length_append]
    have h3 : ((List.range d).map (N + ·)).filter (fun i => bitAt bs i) = [] := by
      rw [List.filter_eq_nil_iff]
      intro i hi
      obtain ⟨j, _, rfl⟩ := List.mem_map.1 hi
      rw [g.2.2.2 (N + j) (by omega)]
      decide
    rw [h3]; simp
  rw [← h1, h2, List.countP_eq_length_filter]
theorem some_range (l : List (Option Int)) : ∀ k, k ≤ l.length → (l.take k).countP Option.isSome = (List.range k).countP (fun i => (l[i]?).join.isSome)
  | 0, _ => rfl
  | k + 1, h => by
    have hk : k < l.length := h
    rw [List.take_succ_eq_append_getElem hk, List.range_succ, List.countP_append, List.countP_append, some_range l k (by omega)]
    congr 1
    rw [List.countP_singleton, List.countP_singleton, List.getElem?_eq_getElem hk]
    rfl
theorem seen_some {ms : List (Option Int)} (hk : AllK ms) : seenR (costR ms) = ms.countP Option.isSome := by
  unfold seenR costR
  rw [List.countP_map]
  refine List.countP_congr (fun o ho => ?_)
  cases o with
  | none => simp
  | some z => have := (hk z ho).1; simp [this]
theorem expl_bit {X Y : Int} {ms : List (Option Int)} (hm : mayB X Y = true) (hl : (ms.length : Int) = X * Y) {i : Nat} (hi : i < ms.length) : bitAt (explK ms (List.replicate ((X * Y + 7) / 8).toNat 0) ms.length) i = (ms[i]?).join.isSome := by
  rw [Bool.eq_iff_iff, expl_bits (good_zero0 hm) hl i _ (Nat.le_refl _), bit_zero]
  simp [hi]
theorem seen_expl {X Y : Int} {ms : List (Option Int)} (hm : mayB X Y = true) (hl : (ms.length : Int) = X * Y) (hk : AllK ms) : ones (explK ms (List.replicate ((X * Y + 7) / 8).toNat 0) ms.length) = seenR (costR ms) := by
  have g := Good.explK (good_zero0 hm) hl ms.length (Nat.le_refl _)
  have h := some_range ms ms.length (Nat.le_refl _)
  rw [List.take_length] at h
  rw [ones_range g hl, seen_some hk, h]
  refine List.countP_congr (fun i hi => ?_)
  rw [expl_bit hm hl (List.mem_range.1 hi)]
/-- Has of a cell by its number, and the reference's cost of it. -/
theorem has_num (b h : Nat) (X Y : Int) (ms : List (Option Int)) (i : Nat) (w : World) (hm : mayB X Y = true) (hl : (ms.length : Int) = X * Y) (hk : AllK ms) (hi : i < ms.length)
    (hmk : MaskAt w b h X Y (explK ms (List.replicate ((X * Y + 7) / 8).toNat 0) ms.length)) :
    Calls Try.prog 22 #[.pointer (some ⟨b, 0, none⟩), .agg #[.int .i64 ((i : Int) % X), .int .i64 ((i : Int) / X)]] w fun e w' => e = .returned (.bool (decide (0 ≤ (costR ms).getD i 0))) ∧ Below w.heap.size w w' := by
  obtain ⟨a1, a2, _⟩ := atC_num (i := i) hm (by omega)
  refine (has_yes b h X Y _ _ _ w hmk (Good.explK (good_zero0 hm) hl ms.length (Nat.le_refl _)) a1).mono fun e w' ⟨he, hb⟩ => ⟨?_, hb⟩
  have e1 : ((atC X i).2 * X + (atC X i).1).toNat = i := a2
  rw [he, e1, expl_bit hm hl hi, cost_sign hk hi, List.getElem?_eq_getElem hi]
  rfl
end Go.Proofs.Ytccokdfkmppohaa
