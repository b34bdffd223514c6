/- Heap: the first thing; Pop. -/
import Derived.Test.YtofpoenehdmkpaaDoorHj
namespace Go.Proofs.YtofpoenehdmkpaaDoor
open Go.RowKit Go.Maps

/-- The first thing of some. -/
def firstT : List Th → Th
  | [] => default
  | t :: l => if l.isEmpty then t else if aheadT (firstT l) t then firstT l else t
def popM (m : List Th) : List Th := m.filter (fun x => decide (x.id ≠ (firstT m).id))
theorem firstT_least : ∀ m : List Th, m ≠ [] → firstT m ∈ m ∧ ∀ x ∈ m, aheadT x (firstT m) = false
  | [], h => absurd rfl h
  | [t], _ => ⟨by simp [firstT], fun x hx => by simp [firstT] at hx ⊢; rw [hx]; exact ahead_irr _⟩
  | t :: u :: l, _ => by
    obtain ⟨h1, h2⟩ := firstT_least (u :: l) (by simp)
    rw [firstT]
    simp only [List.isEmpty_cons, Bool.false_eq_true, if_false]
    split
    · rename_i ha
      refine ⟨List.mem_cons_of_mem _ h1, fun x hx => ?_⟩
      rcases List.mem_cons.1 hx with rfl | hx
      · exact ahead_asymm ha
      · exact h2 x hx
    · rename_i ha
      refine ⟨by simp, fun x hx => ?_⟩
      rcases List.mem_cons.1 hx with rfl | hx
      · exact ahead_irr _
      · exact ahead_le (by simpa using ha) (h2 x hx)
theorem firstT_eq {m : List Th} {t : Th} (h : t ∈ m) (hl : ∀ x ∈ m, aheadT x t = false) : firstT m = t := by
  obtain ⟨h1, h2⟩ := firstT_least m (fun e => by rw [e] at h; cases h)
  exact ahead_total (hl _ h1) (h2 _ h)
theorem HI.firstT {s : HS} {m : List Th} (h : HI s m) (h0 : m ≠ []) : atT s.ts 0 = Proofs.YtofpoenehdmkpaaDoor.firstT m := by
  obtain ⟨h1, h2⟩ := h.first h0
  exact (firstT_eq h1 h2).symm

theorem own_take {W : World} {e : TypeId} {size g n cap : Nat} {xs : List Value} (h : W.ownsRow 0 e size (.slice (some ⟨g, 0, none⟩) n cap) n xs) {k : Nat} (hk : k ≤ n) :
    W.ownsRow 0 e size (.slice (some ⟨g, 0, none⟩) k cap) k (xs.take (k * size)) := by
  have hl := h.1
  have hks : k * size ≤ n * size := Nat.mul_le_mul_right _ hk
  refine ⟨by rw [List.length_take]; omega, ?_⟩
  rcases h.2 with ⟨q, _⟩ | ⟨g', cap', cur, q, h2, h3, h4, h5, h6, h7⟩
  · cases q
  · cases q
    refine .inr ⟨g, cap, cur, rfl, h2, h3, by omega, h5, h6, ?_⟩
    rw [← h7, List.take_take]
    congr 1
    omega
/-- The last thing is cut off. -/
theorem heap_cut {W : World} {p b g cap : Nat} {s : HS} (h : HeapAt W 0 p b (.slice (some ⟨g, 0, none⟩) s.ts.length cap) s) (k : Nat) (hk : k ≤ s.ts.length) :
    HeapAt (W.setCell ⟨p, 0, none⟩ (.slice (some ⟨g, 0, none⟩) k cap)) 0 p b (.slice (some ⟨g, 0, none⟩) k cap) ⟨s.ts.take k, s.f, s.n⟩ ∧ KeptS (fun x => x = p) W (W.setCell ⟨p, 0, none⟩ (.slice (some ⟨g, 0, none⟩) k cap)) := by
  have hgp : g ≠ p := fun e => h.gp (by rw [e]; rfl)
  have hbp : b ≠ p := h.pb.symm
  have q := hgrown_set W p 0 (.slice (some ⟨g, 0, none⟩) k cap)
  have k1 : KeptS (fun x => x = p) W (W.setCell ⟨p, 0, none⟩ (.slice (some ⟨g, 0, none⟩) k cap)) := .of_grown q (fun x e _ => by cases e; rfl)
  have hlt : (s.ts.take k).length = k := by rw [List.length_take]; omega
  refine ⟨⟨by simpa using hset_same W p 0 _ 135 (.slice (some ⟨g, 0, none⟩) k cap) h.hp, ?_, h.pl.keptS k1 hbp, fun x hx => h.wf x (List.mem_of_mem_take hx), Nat.zero_le _, Nat.zero_le _⟩, k1⟩
  rw [hlt, flatT_take]
  exact k1.own (own_take h.row hk) (fun x e => by simp only [Value.ownBlock, Option.some.injEq] at e; subst e; exact hgp)

/-- All five numbers of a thing, in a block. -/
structure BoxT (W : World) (k : Nat) (t : Th) : Prop where
  t0 : W.cell? ⟨k, 0, none⟩ = some (.int .i64 t.id)
  t1 : W.cell? ⟨k, 1, none⟩ = some (.int .u64 t.F)
  t2 : W.cell? ⟨k, 2, none⟩ = some (.int .u64 t.H)
  t3 : W.cell? ⟨k, 3, none⟩ = some (.int .i64 t.Y)
  t4 : W.cell? ⟨k, 4, none⟩ = some (.int .i64 t.X)
theorem BoxT.below {W W' : World} {k : Nat} {t : Th} (h : BoxT W k t) (b : Below W.heap.size W W') : BoxT W' k t := ⟨cell_later b h.t0, cell_later b h.t1, cell_later b h.t2, cell_later b h.t3, cell_later b h.t4⟩
theorem BoxT.kept {W W' : World} {S : Nat → Prop} {k : Nat} {t : Th} (h : BoxT W k t) (b : KeptS S W W') (hn : ¬ S k) : BoxT W' k t := ⟨b.cell h.t0 hn, b.cell h.t1 hn, b.cell h.t2 hn, b.cell h.t3 hn, b.cell h.t4 hn⟩

set_option maxRecDepth 100000 in
set_option maxHeartbeats 1600000 in
theorem hpop_none (p : Nat) (S : Nat → Prop) (w : World) (h : (HeapO p []).P w S) :
    Calls Tryd.prog 61 #[.pointer (some ⟨p, 0, none⟩)] w fun e w' => e = .returned (.tuple #[.int .i64 0, .agg #[.int .u64 0, .int .u64 0, .int .i64 0, .int .i64 0], .bool false]) ∧ Below w.heap.size w w' := by
  have hA := bl_al (bl0 w) (.cells #[.int .u64 0, .int .u64 0, .int .i64 0, .int .i64 0] 101)
  have hcall := hlen_any p [] S _ ((HeapO p []).keep h (hA.mono (Nat.zero_le _)) (fun k hk => hA.block k ((HeapO p []).lt h k hk)))
  go_enter Tryd.func61, Tryd.ntmps61
  go_wp2_with fail
  refine hcall.mono ?_
  rintro e w' ⟨rfl, rfl⟩
  go_wp2
  exact bodyPost_ret (v := .tuple #[.int .i64 0, .agg #[.int .u64 0, .int .u64 0, .int .i64 0, .int .i64 0], .bool false]) (by simp [results, Tryd.results61, go_sem]) rfl ⟨rfl, hA⟩
set_option maxRecDepth 100000 in
set_option maxHeartbeats 1600000 in
theorem hpop_nil (w : World) :
    Calls Tryd.prog 61 #[.pointer none] w fun e w' => e = .returned (.tuple #[.int .i64 0, .agg #[.int .u64 0, .int .u64 0, .int .i64 0, .int .i64 0], .bool false]) ∧ Below w.heap.size w w' := by
  have hA := bl_al (bl0 w) (.cells #[.int .u64 0, .int .u64 0, .int .i64 0, .int .i64 0] 101)
  go_enter Tryd.func61, Tryd.ntmps61
  go_wp2_with fail
  refine (hlen_nil _).mono ?_
  rintro e w' ⟨rfl, rfl⟩
  go_wp2
  exact bodyPost_ret (v := .tuple #[.int .i64 0, .agg #[.int .u64 0, .int .u64 0, .int .i64 0, .int .i64 0], .bool false]) (by simp [results, Tryd.results61, go_sem]) rfl ⟨rfl, hA⟩
end Go.Proofs.YtofpoenehdmkpaaDoor
