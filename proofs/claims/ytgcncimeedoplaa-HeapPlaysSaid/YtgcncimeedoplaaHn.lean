/- Heap: Clone. -/
import Derived.Test.YtgcncimeedoplaaHl
import Derived.Shelf.SlMaps.Clone
namespace Go.Proofs.Ytgcncimeedoplaa
open Go.RowKit Go.Maps

set_option maxRecDepth 100000 in
set_option maxHeartbeats 2000000 in
theorem pclone_any (b n : Nat) (f : Int → Option Nat) (w : World) (h : PlacesAt w b n f) :
    Calls Try.prog 30 #[.map (some b)] w fun e w' => e = .returned (.map (some w.heap.size)) ∧ PlacesAt w' w.heap.size n f ∧ Below w.heap.size w w' := by
  obtain ⟨D, ⟨es, clock, hb, F, hs, hD⟩, h2⟩ := h
  have hq := fun w => run_eql_map_nil_sl (P := Try.prog) w 63 _ _ (some b) Try.underlying63
  have hEnd : PlacesAt (w.alloc (.map es clock)) w.heap.size n f := ⟨D, ⟨es, clock, heap_alloc_new _ _, F, hs, hD⟩, h2⟩
  have HEnd := Lib.hid hEnd
  clear hEnd h2
  go_enter Try.func30, Try.ntmps30
  go_wp2
  rw [run_callFunc_extern Try.func34 (by kernel_rfl) (by kernel_rfl) (by kernel_rfl) (e := Extern.MapsClone.clone) (by kernel_rfl), run_maps_clone_sl w 63 hb]
  simp only [Result.andThen]
  rw [Oper.upon_value]
  go_wp2
  rw [run_typeAssert_map_sl _ 63 _ _ _ _ Try.underlying63]
  simp only [Result.andThen]
  rw [Oper.upon_value]
  go_wp2
  go_ret
  exact ⟨rfl, HEnd.out, bl_al (bl0 _) _⟩

theorem hown_empty {w : World} {B : Nat} (t : TypeId) (hB : B ≤ w.heap.size) : (w.alloc (.cells #[] t)).ownsRow B t 5 (.slice (some ⟨w.heap.size, 0, none⟩) 0 0) 0 [] :=
  ⟨rfl, .inr ⟨w.heap.size, 0, #[], rfl, hB, heap_alloc_new w _, Nat.le_refl _, Nat.zero_le _, rfl, rfl⟩⟩
set_option maxRecDepth 100000 in
set_option maxHeartbeats 1600000 in
theorem eql_nilT (b o n c : Nat) (w : World) : (binOp .eql 64 (.slice (some ⟨b, o, none⟩) n c) (.slice none 0 0)).run Try.prog w = .ok (.bool false) w := by
  kernel_rfl
set_option maxRecDepth 100000 in
set_option maxHeartbeats 1600000 in
theorem eql_nilTT (w : World) : (binOp .eql 64 (.slice none 0 0) (.slice none 0 0)).run Try.prog w = .ok (.bool true) w := by
  kernel_rfl
set_option maxRecDepth 100000 in
set_option maxHeartbeats 2000000 in
theorem tclone_any (v : Value) (ts : List Th) (w : World) (h : w.ownsRow 0 69 5 v ts.length (flatT ts)) (hl : ts.length ≤ 1048576) :
    Calls Try.prog 29 #[v] w fun e w' => ∃ a c, e = .returned (.slice a ts.length c) ∧ w'.ownsRow w.heap.size 69 5 (.slice a ts.length c) ts.length (flatT ts) ∧ Below w.heap.size w w' := by
  obtain ⟨i0, hi, hz0, hz1, hz2⟩ := info_parts Try.infoT
  have hb1 := bl_al (bl0 w) (.cells #[] 69)
  have hown0 := hown_empty (w := w) (B := w.heap.size) 69 (Nat.le_refl _)
  rcases h.2 with ⟨rfl, e⟩ | ⟨g, cap, cur, rfl, hB, hg, hc1, hc2, hc3, hc4⟩
  · have ets : ts = [] := List.eq_nil_of_length_eq_zero e
    subst ets
    have hnil := fun w => eql_nilTT w
    clear hown0 hi
    go_enter Try.func29, Try.ntmps29
    go_wp2
    go_ret
    exact ⟨none, 0, rfl, World.ownsRow_nil _ _ _ _, bl0 _⟩
  · have hnil := eql_nilT g 0 ts.length cap w
    have hcells := h.cells (g := g) rfl
    go_enter Try.func29, Try.ntmps29
    go_wp2_with (at_builtin; refine wpList_append_own _ rfl _ _ 64 rfl w.heap.size 69 i0 (.agg #[.int .i64 0, .int .u64 0, .int .u64 0, .int .i64 0, .int .i64 0]) 5 40 Try.underlying64 hi hz0 hz1 hz2 rfl (by decide) _ _ _ rfl hown0 ⟨g, 0, none⟩ ts.length cap (flatT ts) rfl ?c0 ?c1 ?c2 ?c3 ?c4 ?c5 ?_)
    case c0 => exact flatT_len ts
    case c1 =>
      intro j u hj
      exact cell_later hb1 (hcells j u hj)
    case c2 => exact flatT_one ts
    case c3 => unfold maxLen; omega
    case c4 => omega
    case c5 => rw [World.size_alloc]; omega
    intro v' w1 hown' hgrow _
    have hB1 : Below w.heap.size w w1 := hb1.grown hgrow (by rw [World.size_alloc]; omega) (fun j hj => by simp [Value.ownBlock] at hj; omega)
    obtain ⟨a, c, rfl⟩ : ∃ a c, v' = .slice a ts.length c := by
      rcases hown'.2 with ⟨e1, e2⟩ | ⟨g', c', cur', e1, _⟩
      · exact ⟨none, 0, by rw [e1, show ts.length = 0 by omega]⟩
      · exact ⟨_, c', e1⟩
    have HO := Lib.hid hown'
    have HB := Lib.hid hB1
    clear hown' hgrow hB1
    go_wp2
    go_ret
    exact ⟨a, c, rfl, HO.out, HB.out⟩

theorem heap_cloned {w W2 W3 : World} {S : Nat → Prop} {m : List Th} {p b : Nat} {v v' : Value} {s : HS} (h : HeapAt w 0 p b v s) (hi : HI s m) (hb : Below w.heap.size w W2) (ho : W2.ownsRow w.heap.size 69 5 v' s.ts.length (flatT s.ts)) (hb3 : Below W2.heap.size W2 W3) {q : Nat} (hq : W2.heap.size ≤ q) (hpl : PlacesAt W3 q s.n s.f) :
    Turned S w (W3.alloc (.cells #[v', .map (some q)] 66)) (HeapO W3.heap.size m) := by
  have hall := bl_al (bl_tr hb hb3) (.cells #[v', .map (some q)] 66)
  have ho3 : W3.ownsRow w.heap.size 69 5 v' s.ts.length (flatT s.ts) := (KeptS.of_below (S := fun _ => False) hb3).own ho (fun _ _ h => h)
  have h1 := hb.size
  have h2 := hb3.size
  refine ⟨.of_below hall, HB W3.heap.size q v', ⟨q, v', s, ⟨heap_alloc_new _ _, hown_base ((KeptS.of_below (S := fun _ => False) (bl_al (bl0 W3) _)).own ho3 (fun _ _ h => h)) (Nat.zero_le _), hpl.below (bl_al (bl0 _) _), h.wf, Nat.zero_le _, Nat.zero_le _⟩, hi, fun _ => Iff.rfl⟩, ?_⟩
  rintro k (rfl | rfl | e)
  · exact .inr (by omega)
  · exact .inr (by omega)
  · exact .inr (ho3.lt k e).1

set_option maxRecDepth 100000 in
set_option maxHeartbeats 4000000 in
theorem hclone_any (p : Nat) (m : List Th) (S : Nat → Prop) (w : World) (h : (HeapO p m).P w S) (hm : m.length ≤ 1000000) :
    Calls Try.prog 24 #[.pointer (some ⟨p, 0, none⟩)] w fun e w' => ∃ q, e = .returned (.pointer (some ⟨q, 0, none⟩)) ∧ Turned (fun _ => False) w w' (HeapO q m) := by
  obtain ⟨b, v, s, h1, h2, h3⟩ := h
  have hsb : s.ts.length ≤ 1048576 := by rw [h2.len]; omega
  have c0 := h1.c0
  have c1 := h1.c1
  have hrow := h1.row
  have hpl := h1.pl
  go_enter Try.func24, Try.ntmps24
  go_wp2
  have hB := bl_dr (bl0 w)
  go_region_held3 (fun w' => w'.cell? ⟨p, 0, none⟩ = some v ∧ w'.cell? ⟨p, 1, none⟩ = some (.map (some b)))
    (first | exact ⟨cell_later hB c0, cell_later hB c1⟩ | exact ⟨cell_later (bl_al hB _) c0, cell_later (bl_al hB _) c1⟩)
    (first
      | ((go_at_call 29; (with_reducible refine (tclone_any v s.ts _ ((KeptS.of_below (S := fun _ => False) hB).own hrow (fun _ _ h => h)) hsb).mono ?_); rintro e W2 ⟨va, vc, rfl, hown, hb⟩; replace hB := bl_tr hB hb; clear hb))
      | ((go_at_call 30; (with_reducible refine (pclone_any b s.n s.f _ (hpl.below hB)).mono ?_); rintro e W3 ⟨rfl, hpl3, hb3⟩; have hB2 := Lib.hid hB; replace hB := bl_tr hB hb3)))
  all_goals
    have hEnd := heap_cloned (S := fun _ => False) h1 h2 hB2.out (hown_base hown (Nat.le_refl _)) hb3 (Nat.le_refl _) hpl3
    have HEnd := Lib.hid hEnd
    clear hEnd hB hB2 hb3 hpl3 hown hpl hrow c0 c1
    go_wp2
    go_ret
    exact ⟨_, rfl, HEnd.out⟩
set_option maxRecDepth 100000 in
set_option maxHeartbeats 1600000 in
theorem hclone_nil (w : World) :
    Calls Try.prog 24 #[.pointer none] w fun e w' => e = .returned (.pointer none) ∧ w' = w := by
  go_enter Try.func24, Try.ntmps24
  go_wp2
  go_ret
  exact ⟨rfl, rfl⟩
set_option maxRecDepth 100000 in
set_option maxHeartbeats 1600000 in
theorem hpush_nil (i : Int) (a : Th) (w : World) :
    Calls Try.prog 14 #[.pointer none, .int .i64 i, .agg #[.int .u64 a.F, .int .u64 a.H, .int .i64 a.Y, .int .i64 a.X]] w fun e w' => e = .returned (.int .i64 2) ∧ Below w.heap.size w w' := by
  go_enter Try.func14, Try.ntmps14
  go_wp2
  go_ret
  exact ⟨rfl, bl_al (bl0 _) _⟩
set_option maxRecDepth 100000 in
set_option maxHeartbeats 1600000 in
theorem hlower_nil (i : Int) (a : Th) (w : World) :
    Calls Try.prog 16 #[.pointer none, .int .i64 i, .agg #[.int .u64 a.F, .int .u64 a.H, .int .i64 a.Y, .int .i64 a.X]] w fun e w' => e = .returned (.int .i64 2) ∧ Below w.heap.size w w' := by
  go_enter Try.func16, Try.ntmps16
  go_wp2
  go_ret
  exact ⟨rfl, bl_al (bl0 _) _⟩
end Go.Proofs.Ytgcncimeedoplaa
