/- Cache of names: the calls, of one cache among other things; pairs and names that are the same. -/
import Derived.Test.YtbmpgafndpdnbaaEmf
import Derived.Test.YtbmpgafndpdnbaaEu
import Derived.ChangeKeysEq
namespace Go.Proofs.Ytbmpgafndpdnbaa
open Go.RowKit Go.Maps

theorem neq_nmk (k : Int) (w : World) : (binOp .neq 56 (nmV k) (nmV k)).run Try.prog w = .ok (.bool false) w := by
  rw [run_neq_struct, eql_nmI, decide_eq_true rfl]
  rfl
set_option maxRecDepth 100000 in
set_option maxHeartbeats 1600000 in
theorem neq_znn (w : World) : (binOp .neq 56 zN zN).run Try.prog w = .ok (.bool false) w := by
  have u0 := Try.underlying56
  have u1 := Try.underlying3
  have u2 := Try.underlying9
  go_simp
theorem eq_nmk (k : Int) (w : World) : (Op.equalIn 10000 56 (nmV k) (nmV k)).run Try.prog w = .ok true w := by rw [eql_nmI, decide_eq_true rfl]
set_option maxRecDepth 100000 in
set_option maxHeartbeats 1600000 in
theorem eq_znn (w : World) : (Op.equalIn 10000 56 zN zN).run Try.prog w = .ok true w := by
  have u0 := Try.underlying56
  have u1 := Try.underlying3
  have u2 := Try.underlying9
  go_simp
theorem eql_i9 (x : Int) (w : World) : (Op.equalIn 9999 3 (.int .i64 x) (.int .i64 x)).run Try.prog w = .ok true w := by
  have u1 := Try.underlying3
  go_simp
set_option maxRecDepth 100000 in
set_option maxHeartbeats 1600000 in
theorem eq_prk (x : Int) (w : World) : (Op.equalIn 10000 57 (pairV x) (pairV x)).run Try.prog w = .ok true w := by
  obtain ⟨i0, hi, hz0, hz1, hz2⟩ := info_parts Try.infoI
  have p0 : ∀ (x0 x1 : Value) w, (part 3 #[x0, x1] (0 * Try.prog.cellsOf 3)).run Try.prog w = .ok x0 w := fun _ _ w => by kernel_rfl
  have p1 : ∀ (x0 x1 : Value) w, (part 3 #[x0, x1] (1 * Try.prog.cellsOf 3)).run Try.prog w = .ok x1 w := fun _ _ w => by kernel_rfl
  have p2 := p1
  simp only [Nat.one_mul] at p2
  rw [show (10000 : Nat) = 9999 + 1 from rfl, run_equalIn_array w 9999 _ _ Try.underlying57 hi]
  simp only [show List.range 2 = [0, 1] from rfl, Op.eqItems, Sem.run_bind, p0, Result.andThen_ok, eql_i9]
  simp [p2, eql_i9]
theorem neq_prk (x : Int) (w : World) : (binOp .neq 57 (pairV x) (pairV x)).run Try.prog w = .ok (.bool false) w := by
  rw [run_neq_struct, eq_prk]
  rfl

section
variable {w : World} {B : Nat} {l1 l2 : List Own} {p : Nat} {r : Int} {m : List IT}
theorem new_s2 {l : List Own} (h : Sep w B l) (hr : 1 ≤ r ∧ r ≤ 16) : Calls Try.prog 27 #[.int .i64 r] w fun e w' => ∃ p, e = .returned (.tuple #[.pointer (some ⟨p, 0, none⟩), .int .i64 0]) ∧ Sep w' B (l ++ [CO Try.c2 p r []]) ∧ Below w.heap.size w w' :=
  (new_c2 r hr w).mono fun _ _ ⟨he, ht⟩ => ⟨_, he, (h.made ht).1, (h.made ht).2⟩
theorem put_s2 (k x : Int) (h : Sep w B (l1 ++ CO Try.c2 p r m :: l2)) (hm : m.length ≤ 1000) (hr : 1 ≤ r) :
    Calls Try.prog 31 #[.pointer (some ⟨p, 0, none⟩), nmV k, pairV x] w fun e w' => e = .returned (.tuple #[goneN r k m, .bool (fullB r k m)]) ∧ Sep w' B (l1 ++ CO Try.c2 p r (putM r k x m) :: l2) ∧ Below B w w' :=
  h.op (fun S hS => put_c2 k x p r m S w hS hm hr)
theorem get_s2 (k : Int) (h : Sep w B (l1 ++ CO Try.c2 p r m :: l2)) (hm : m.length ≤ 1000) :
    Calls Try.prog 28 #[.pointer (some ⟨p, 0, none⟩), nmV k] w fun e w' => e = .returned (.tuple #[pairV (peekV k m), .bool (findI k m).isSome]) ∧ Sep w' B (l1 ++ CO Try.c2 p r (getM k m) :: l2) ∧ Below B w w' :=
  h.op (fun S hS => get_c2 k p r m S w hS hm)
theorem peek_s2 (k : Int) (h : Sep w B (l1 ++ CO Try.c2 p r m :: l2)) (hm : m.length ≤ 1000) :
    Calls Try.prog 30 #[.pointer (some ⟨p, 0, none⟩), nmV k] w fun e w' => e = .returned (.tuple #[pairV (peekV k m), .bool (findI k m).isSome]) ∧ Sep w' B (l1 ++ CO Try.c2 p r m :: l2) ∧ Below w.heap.size w w' := by
  obtain ⟨S, h1, _⟩ := h.at
  exact (peek_c2 k p r m S w h1 hm).mono fun _ _ ⟨he, hb⟩ => ⟨he, h.below hb, hb⟩
theorem keys_s2 (h : Sep w B (l1 ++ CO Try.c2 p r m :: l2)) (hm : m.length ≤ 1000) :
    Calls Try.prog 32 #[.pointer (some ⟨p, 0, none⟩)] w fun e w' => ∃ g, e = .returned (.slice (some ⟨g, 0, none⟩) m.length m.length) ∧ Sep w' B (l1 ++ CO Try.c2 p r m :: (l2 ++ [NO g m])) ∧ Below w.heap.size w w' := by
  obtain ⟨S, h1, _⟩ := h.at
  exact (keys_c2 p r m S w h1 hm).mono fun _ _ ⟨g, he, ht⟩ => ⟨g, he, by simpa using (h.made ht).1, (h.made ht).2⟩
theorem NO.at {g k : Nat} {x : IT} (h : Sep w B (l1 ++ NO g m :: l2)) (hx : m[k]? = some x) : w.cell? ⟨g, k * 2, none⟩ = some (.int .i64 x.1) ∧ w.cell? ⟨g, k * 2 + 1, none⟩ = some (.string keyT) := by
  obtain ⟨q0, q1⟩ := flatE_at (namesOf m) k (x.1, keyT) (by simp [hx])
  exact ⟨h.row.1 _ _ q0, h.row.1 _ _ q1⟩
theorem KO.at {g k : Nat} {x : IT} (h : Sep w B (l1 ++ KO g m :: l2)) (hx : m[k]? = some x) : w.cell? ⟨g, k, none⟩ = some (.int .i64 x.1) :=
  h.row.1 k _ (by simp [cellsI, hx])
/-- The key that is gone, as a name. -/
theorem goneN_agg (r k : Int) (m : List IT) : ∃ (gk : Int) (gs : ByteArray), goneN r k m = .agg #[.int .i64 gk, .string gs] ∧ (fullB r k m = true → gk = goneK r k m ∧ gs = keyT) ∧ (fullB r k m = false → gk = 0 ∧ gs = ⟨#[]⟩) := by
  cases e : fullB r k m with
  | true => exact ⟨goneK r k m, keyT, by simp [goneN, e], fun _ => ⟨rfl, rfl⟩, fun h => by simp at h⟩
  | false => exact ⟨0, ⟨#[]⟩, by simp [goneN, e], fun h => by simp at h, fun _ => ⟨rfl, rfl⟩⟩
end
theorem ordS_pair {F : Fence} {n : Nat} {P : Program} {ops : Array Oper} {Q : Exit → Act → World → Prop} {md : Region.Mode} {S : World → Prop} {i j : Nat} {o o2 : Oper} {k : Nat} {l : Array Bool} {a : Act} {w : World} (hr : Region.ready md ops l = [i, j]) (ho : ops[i]? = some o) (hw : Region.wanted o (yielded ops a.tmps) = true) (ho2 : ops[j]? = some o2) (hw2 : Region.wanted o2 (yielded ops a.tmps) = true)
    (h : ∀ K : Act → World → Prop, (∀ a1 w1, S w1 → OrdS F n P md ops Q S k (l.setIfInBounds i true) a1 w1 → K a1 w1) → Oper.wpIn F n P o a w K Q)
    (h2 : ∀ K : Act → World → Prop, (∀ a1 w1, S w1 → OrdS F n P md ops Q S k (l.setIfInBounds j true) a1 w1 → K a1 w1) → Oper.wpIn F n P o2 a w K Q) : OrdS F n P md ops Q S (k + 1) l a w := by
  refine ⟨fun h0 => absurd (hr.symm.trans h0) (by simp), fun x hx => ?_⟩
  rw [hr] at hx
  rcases List.mem_cons.1 hx with rfl | hx
  · refine wpOpIn_step ho fun K' hK' => ?_
    rw [if_pos hw]
    exact h K' fun a1 w1 hs hrest => hK' a1 w1 ⟨hs, hrest⟩
  · obtain rfl := List.mem_singleton.1 hx
    refine wpOpIn_step ho2 fun K' hK' => ?_
    rw [if_pos hw2]
    exact h2 K' fun a1 w1 hs hrest => hK' a1 w1 ⟨hs, hrest⟩
end Go.Proofs.Ytbmpgafndpdnbaa
