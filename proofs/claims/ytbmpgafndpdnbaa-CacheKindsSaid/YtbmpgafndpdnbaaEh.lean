/- Cache: Put. -/
import Derived.Test.YtbmpgafndpdnbaaEf
namespace Go.Proofs.Ytbmpgafndpdnbaa
open Go.RowKit Go.Maps

/-- Where a key's thing is put; what is there then; what is gone for it. -/
def fullB (r k : Int) (m : List IT) : Bool := (findI k m).isNone && decide ((m.length : Int) = r)
def placeI (r k : Int) (m : List IT) : Nat := match findI k m with | some i => i | none => if (m.length : Int) = r then m.length - 1 else m.length
def putM (r k x : Int) (m : List IT) : List IT := leadL (placeI r k m) (k, x) m
def goneK (r k : Int) (m : List IT) : Int := if fullB r k m then (atI m (m.length - 1)).1 else 0

/-- One that is new leads. -/
theorem co_puts {c : CTy} {w W : World} {p g cap i b : Nat} {L : List (Nat × IT)} {r : Int} {x : IT} (h : CAt c w p (.slice (some ⟨g, 0, none⟩) L.length cap) L r) (hi : i < L.length) (hb : w.heap.size ≤ b)
    (hx : W.heap[b]? = some (.cells (c.cf x).toArray c.hT (0, 0)))
    (ho : W.ownsRow 0 c.pT 1 (.slice (some ⟨g, 0, none⟩) L.length cap) L.length (leadL i (ptrV b) (L.map (fun y => ptrV y.1)))) (hk : KeptS (fun k => k = g) w W) :
    CAt c W p (.slice (some ⟨g, 0, none⟩) L.length cap) (leadL i (b, x) L) r := by
  have hlen : (leadL i (b, x) L).length = L.length := leadL_len hi
  have hgp : p ≠ g := fun e => h.gp (by rw [e]; rfl)
  have hsub : ∀ z ∈ L.eraseIdx i, z ∈ L := fun z hz => List.mem_of_mem_eraseIdx hz
  have hlt : ∀ z ∈ L, z.1 < w.heap.size := fun z hz => h.lt (.inr (.inr ⟨z, hz, rfl⟩))
  have hg := h.rowlt (g := g) rfl
  refine ⟨?_, ?_, ?_, ?_, ?_, h.gp, ?_⟩
  · exact (hk.2 p (h.lt (.inl rfl)) hgp).trans h.hp
  · rw [hlen, leadL_map]; exact ho
  · intro z hz
    rcases List.mem_cons.1 hz with rfl | hz
    · exact hx
    · have hz' := hsub z hz
      exact (hk.2 z.1 (hlt z hz') (fun e => h.gb z hz' (by rw [e]; rfl))).trans (h.th z hz')
  · unfold leadL
    rw [List.map_cons, List.nodup_cons]
    refine ⟨fun hm => ?_, (h.nd.sublist ((List.eraseIdx_sublist L i).map _))⟩
    obtain ⟨z, hz, e⟩ := List.mem_map.1 hm
    have := hlt z (hsub z hz)
    simp only at e
    omega
  · intro z hz
    rcases List.mem_cons.1 hz with rfl | hz
    · have := h.lt (.inl rfl); simp only; omega
    · exact h.pb z (hsub z hz)
  · intro z hz
    rcases List.mem_cons.1 hz with rfl | hz
    · intro e
      simp only [Value.ownBlock, Option.some.injEq] at e
      omega
    · exact h.gb z (hsub z hz)
/-- A cache whose row has room for one more. -/
structure CMid (c : CTy) (W : World) (p : Nat) (v : Value) (L : List (Nat × IT)) (r : Int) : Prop where
  hp : W.heap[p]? = some (.cells #[.int .i64 r, v] c.T (0, 0))
  row : W.ownsRow 0 c.pT 1 v (L.length + 1) (L.map (fun y => ptrV y.1) ++ [.pointer none])
  th : ∀ y ∈ L, W.heap[y.1]? = some (.cells (c.cf y.2).toArray c.hT (0, 0))
  nd : (L.map Prod.fst).Nodup
  pb : ∀ y ∈ L, y.1 ≠ p
  gp : v.ownBlock ≠ some p
  gb : ∀ y ∈ L, v.ownBlock ≠ some y.1
theorem co_grown {c : CTy} {w W : World} {p : Nat} {v v' : Value} {L : List (Nat × IT)} {r : Int} (h : CAt c w p v L r) (ho : W.ownsRow 0 c.pT 1 v' (L.length + 1) (L.map (fun y => ptrV y.1) ++ [.pointer none]))
    (hg : w.grownBy W v.ownBlock) (hl : v'.ownBlock = v.ownBlock ∨ v'.ownBlock = some w.heap.size) :
    CMid c (W.setCell ⟨p, 1, none⟩ v') p v' L r ∧ KeptS (CB p v L) w (W.setCell ⟨p, 1, none⟩ v') ∧ W.cell? ⟨p, 1, none⟩ = some v ∧ W.frozen? ⟨p, 1, none⟩ = false := by
  have hpW := h.lt (.inl rfl)
  have hlt : ∀ z ∈ L, z.1 < w.heap.size := fun z hz => h.lt (.inr (.inr ⟨z, hz, rfl⟩))
  have hp1 : W.heap[p]? = some (.cells #[.int .i64 r, v] c.T (0, 0)) := (hg.block p hpW (fun e => h.gp e.symm)).trans h.hp
  have hgp : v'.ownBlock ≠ some p := by
    rcases hl with e | e
    · rw [e]; exact h.gp
    · rw [e]; intro e2; have := Option.some.inj e2; omega
  have hgb : ∀ y ∈ L, v'.ownBlock ≠ some y.1 := by
    intro y hy
    rcases hl with e | e
    · rw [e]; exact h.gb y hy
    · rw [e]; intro e2; have := hlt y hy; have := Option.some.inj e2; omega
  have hsame := hset_same W p 1 #[.int .i64 r, v] c.T v' hp1
  refine ⟨⟨by simpa using hsame, ?_, ?_, h.nd, h.pb, hgp, hgb⟩, ?_, by simp [World.cell?, hp1], by simp [World.frozen?, hp1]⟩
  · refine ⟨ho.1, ?_⟩
    rcases ho.2 with e | ⟨g, cap, cur, e, hB, h3, h4⟩
    · exact .inl e
    · refine .inr ⟨g, cap, cur, e, hB, ?_, h4⟩
      have hgp' : g ≠ p := fun e2 => hgp (by rw [e, ← e2]; rfl)
      exact (Below.heap_setCell _ _ _ g (show g ≠ p from hgp')).trans h3
  · intro y hy
    exact (Below.heap_setCell _ _ _ y.1 (show y.1 ≠ p from h.pb y hy)).trans ((hg.block y.1 (hlt y hy) (fun e => h.gb y hy e.symm)).trans (h.th y hy))
  · exact (KeptS.of_grown (S := CB p v L) hg (fun k e _ => .inr (.inl e))).trans (T := CB p v L) (.of_grown (hgrown_set W p 1 v') (fun k e _ => by cases e; exact .inl rfl)) (fun _ _ h => h)
theorem leadL_last {α : Type} (t u : α) (l : List α) : leadL l.length t (l ++ [u]) = t :: l := by
  unfold leadL
  rw [List.eraseIdx_append_of_length_le (Nat.le_refl _), Nat.sub_self]
  simp
theorem co_more {c : CTy} {w W : World} {p g cap b : Nat} {L : List (Nat × IT)} {r : Int} {x : IT} (h : CMid c w p (.slice (some ⟨g, 0, none⟩) (L.length + 1) cap) L r) (hb : w.heap.size ≤ b)
    (hx : W.heap[b]? = some (.cells (c.cf x).toArray c.hT (0, 0)))
    (ho : W.ownsRow 0 c.pT 1 (.slice (some ⟨g, 0, none⟩) (L.length + 1) cap) (L.length + 1) (leadL L.length (ptrV b) (L.map (fun y => ptrV y.1) ++ [.pointer none]))) (hk : KeptS (fun k => k = g) w W) :
    CAt c W p (.slice (some ⟨g, 0, none⟩) (L.length + 1) cap) ((b, x) :: L) r := by
  have hgp : p ≠ g := fun e => h.gp (by rw [e]; rfl)
  have hpw := (Array.getElem?_eq_some_iff.1 h.hp).1
  have hlt : ∀ z ∈ L, z.1 < w.heap.size := fun z hz => (Array.getElem?_eq_some_iff.1 (h.th z hz)).1
  have hg := (h.row.lt g rfl).2
  refine ⟨?_, ?_, ?_, ?_, ?_, h.gp, ?_⟩
  · exact (hk.2 p hpw hgp).trans h.hp
  · have e : leadL L.length (ptrV b) (L.map (fun y => ptrV y.1) ++ [.pointer none]) = ((b, x) :: L).map (fun y => ptrV y.1) := by
      have := leadL_last (ptrV b) (.pointer none) (L.map (fun y => ptrV y.1))
      rw [List.length_map] at this
      rw [this]; rfl
    rw [e] at ho
    exact ho
  · intro z hz
    rcases List.mem_cons.1 hz with rfl | hz
    · exact hx
    · exact (hk.2 z.1 (hlt z hz) (fun e => h.gb z hz (by rw [e]; rfl))).trans (h.th z hz)
  · rw [List.map_cons, List.nodup_cons]
    refine ⟨fun hm => ?_, h.nd⟩
    obtain ⟨z, hz, e⟩ := List.mem_map.1 hm
    have := hlt z hz
    simp only at e
    omega
  · intro z hz
    rcases List.mem_cons.1 hz with rfl | hz
    · simp only; omega
    · exact h.pb z hz
  · intro z hz
    rcases List.mem_cons.1 hz with rfl | hz
    · intro e
      simp only [Value.ownBlock, Option.some.injEq] at e
      omega
    · exact h.gb z hz
end Go.Proofs.Ytbmpgafndpdnbaa
