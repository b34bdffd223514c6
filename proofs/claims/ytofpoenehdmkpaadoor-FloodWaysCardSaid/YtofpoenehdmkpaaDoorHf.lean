/- Heap: a heap of things, New, Len, Key, Push. -/
import Derived.Test.YtofpoenehdmkpaaDoorHe
import Derived.Test.YtofpoenehdmkpaaDoorEa
import Derived.Maps.AppendAt
namespace Go.Proofs.YtofpoenehdmkpaaDoor
open Go.RowKit Go.Maps

/-- S's blocks, and new ones, hold another thing. -/
def Turned (S : Nat → Prop) (w w' : World) (o : Own) : Prop := KeptS S w w' ∧ ∃ S', o.P w' S' ∧ ∀ k, S' k → S k ∨ w.heap.size ≤ k
theorem Turned.below {S : Nat → Prop} {w w' w2 : World} {o : Own} (h : Turned S w w' o) (b : Below w'.heap.size w' w2) : Turned S w w2 o := by
  obtain ⟨h1, S', h2, h3⟩ := h
  exact ⟨h1.below b, S', o.keep h2 (b.mono (Nat.zero_le _)) (fun k hk => b.block k (o.lt h2 k hk)), h3⟩
/-- A call turns one of several. -/
theorem Sep.op {w : World} {B : Nat} {l1 l2 : List Own} {o : Own} (h : Sep w B (l1 ++ o :: l2)) {P : Program} {f : Nat} {args : Array Value} {Q : Ending → Prop} {o' : Own}
    (hc : ∀ S, o.P w S → Calls P f args w fun e w' => Q e ∧ Turned S w w' o') : Calls P f args w fun e w' => Q e ∧ Sep w' B (l1 ++ o' :: l2) ∧ Below B w w' := by
  obtain ⟨S, h1, _, h3⟩ := h.turn
  refine (hc S h1).mono fun e w' ⟨hq, hk, S', hp, hs⟩ => ⟨hq, h3 w' S' o' hk hp hs⟩
/-- A call makes one more. -/
theorem Sep.made {w : World} {B : Nat} {l : List Own} (h : Sep w B l) {w' : World} {o : Own} (ht : Turned (fun _ => False) w w' o) : Sep w' B (l ++ [o]) ∧ Below w.heap.size w w' := by
  obtain ⟨hk, S', hp, hs⟩ := ht
  have hb : Below w.heap.size w w' := hk.to_below (fun _ _ h => h) (Nat.le_refl _)
  exact ⟨h.new hb hp (fun k hk => (hs k hk).resolve_left (fun h => h)), hb⟩

theorem HeapAt.low {W : World} {B p b : Nat} {v : Value} {s : HS} (h : HeapAt W B p b v s) : HeapAt W 0 p b v s :=
  ⟨h.hp, hown_base h.row (Nat.zero_le _), h.pl, h.wf, Nat.zero_le _, Nat.zero_le _⟩
theorem HeapAt.keep {W W' : World} {B p b : Nat} {v : Value} {s : HS} (h : HeapAt W B p b v s) (hk : ∀ k, HB p b v k → W'.heap[k]? = W.heap[k]?) : HeapAt W' B p b v s := by
  refine ⟨(hk p (.inl rfl)).trans h.hp, ⟨h.row.1, ?_⟩, ?_, h.wf, h.bp, h.bb⟩
  · rcases h.row.2 with q | ⟨g, cap, cur, h1, h2, h3, h4⟩
    · exact .inl q
    · exact .inr ⟨g, cap, cur, h1, h2, (hk g (.inr (.inr (by rw [h1]; rfl)))).trans h3, h4⟩
  · obtain ⟨D, ⟨es, clock, h1, h2⟩, h3⟩ := h.pl
    exact ⟨D, ⟨es, clock, (hk b (.inr (.inl rfl))).trans h1, h2⟩, h3⟩
/-- A heap of things, behind a pointer p. -/
def HeapO (p : Nat) (m : List Th) : Own where
  P W S := ∃ b v s, HeapAt W 0 p b v s ∧ HI s m ∧ ∀ k, S k ↔ HB p b v k
  lt h k hk := by
    obtain ⟨b, v, s, h1, _, h2⟩ := h
    exact (h1.lt k ((h2 k).1 hk)).2
  keep h _ hk := by
    obtain ⟨b, v, s, h1, h2, h3⟩ := h
    exact ⟨b, v, s, h1.keep (fun k q => hk k ((h3 k).2 q)), h2, h3⟩

/-- All numbers of things are numbers that a machine holds. -/
theorem heap_wf {W : World} {S : Nat → Prop} {p : Nat} {m : List Th} (h : (HeapO p m).P W S) : ∀ t ∈ m, wfT t := by
  obtain ⟨b, v, s, h1, h2, _⟩ := h
  exact fun t ht => h1.wf t (h2.pm.mem_iff.2 ht)

theorem heap_new (W : World) : Turned (fun _ => False) W ((W.alloc (.map #[] 0)).alloc (.cells #[.slice none 0 0, .map (some W.heap.size)] 135)) (HeapO (W.heap.size + 1) []) := by
  have hb := bl_al (bl_al (bl0 W) (.map #[] 0)) (.cells #[.slice none 0 0, .map (some W.heap.size)] 135)
  have hb2 := bl_al (bl0 (W.alloc (.map #[] 0))) (.cells #[.slice none 0 0, .map (some W.heap.size)] 135)
  refine ⟨.of_below hb, HB (W.heap.size + 1) W.heap.size (.slice none 0 0), ⟨W.heap.size, .slice none 0 0, ⟨[], fun _ => none, 0⟩, ⟨?_, World.ownsRow_nil _ _ _ _, (places_new W).below hb2, (fun t h => by cases h), Nat.zero_le _, Nat.zero_le _⟩, HI.nil, fun _ => Iff.rfl⟩, ?_⟩
  · have h := heap_alloc_new (W.alloc (.map #[] 0)) (.cells #[.slice none 0 0, .map (some W.heap.size)] 135)
    rw [World.size_alloc] at h
    exact h
  · rintro k (rfl | rfl | e)
    · exact .inr (by omega)
    · exact .inr (Nat.le_refl _)
    · cases e

set_option maxRecDepth 100000 in
set_option maxHeartbeats 1600000 in
theorem hnew_any (w : World) :
    Calls Tryd.prog 59 #[] w fun e w' => e = .returned (.pointer (some ⟨w.heap.size + 1, 0, none⟩)) ∧ Turned (fun _ => False) w w' (HeapO (w.heap.size + 1) []) := by
  have HN := Lib.hid (heap_new w)
  have hmm := @run_makeMap Tryd.prog
  go_enter Tryd.func59, Tryd.ntmps59
  go_wp2
  go_ret
  exact ⟨rfl, HN.out⟩

set_option maxRecDepth 100000 in
set_option maxHeartbeats 1600000 in
theorem hlen_any (p : Nat) (m : List Th) (S : Nat → Prop) (w : World) (h : (HeapO p m).P w S) :
    Calls Tryd.prog 70 #[.pointer (some ⟨p, 0, none⟩)] w fun e w' => e = .returned (.int .i64 (m.length : Nat)) ∧ w' = w := by
  obtain ⟨b, v, s, h1, h2, _⟩ := h
  obtain ⟨a, cap, rfl⟩ := h1.any
  have c0 := h1.c0
  have hl := h2.len
  rw [hl] at c0
  clear h1 h2 hl
  go_enter Tryd.func70, Tryd.ntmps70
  go_wp2
  go_ret
  exact ⟨rfl, rfl⟩
set_option maxRecDepth 100000 in
set_option maxHeartbeats 1600000 in
theorem hlen_nil (w : World) :
    Calls Tryd.prog 70 #[.pointer none] w fun e w' => e = .returned (.int .i64 0) ∧ w' = w := by
  go_enter Tryd.func70, Tryd.ntmps70
  go_wp2
  go_ret
  exact ⟨rfl, rfl⟩
end Go.Proofs.YtofpoenehdmkpaaDoor
