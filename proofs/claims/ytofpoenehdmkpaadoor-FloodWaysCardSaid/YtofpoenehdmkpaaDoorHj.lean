/- Heap: Lower. -/
import Derived.Test.YtofpoenehdmkpaaDoorHi
namespace Go.Proofs.YtofpoenehdmkpaaDoor
open Go.RowKit Go.Maps

/-- What Lower answers, and what is in then. -/
def lowerE (m : List Th) (t : Th) : Int := match findT m t.id with | none => 14 | some x => if lessK t x then 0 else 1
def lowerM (m : List Th) (t : Th) : List Th := match findT m t.id with | none => m | some x => if lessK t x then m.map (fun y => if y.id = t.id then t else y) else m

set_option maxRecDepth 100000 in
set_option maxHeartbeats 4000000 in
theorem hlower_any (p : Nat) (m : List Th) (t : Th) (S : Nat → Prop) (w : World) (h : (HeapO p m).P w S) (ht : wfT t) (hm : m.length ≤ 1000000) :
    Calls Tryd.prog 88 #[.pointer (some ⟨p, 0, none⟩), .int .i64 t.id, .agg #[.int .u64 t.F, .int .u64 t.H, .int .i64 t.Y, .int .i64 t.X]] w fun e w' => e = .returned (.int .i64 (lowerE m t)) ∧ Turned S w w' (HeapO p (lowerM m t)) := by
  have h' := h
  obtain ⟨b, v, s, h1, h2, h3⟩ := h
  have hf := h2.find t.id
  have hA := bl_al (bl0 w) (.cells #[.int .u64 t.F, .int .u64 t.H, .int .i64 t.Y, .int .i64 t.X] 101)
  have h1' := h1.below hA
  have hlook := h1'.pl.look ht
  have c1 := h1.c1
  have zc1 := blk_lt c1
  unfold lowerE lowerM
  cases e : s.f t.id with
  | none =>
    rw [e] at hf hlook
    rw [← hf]
    simp only [Option.map_none]
    have HT := Lib.hid (heap_there h' hA)
    clear h1 h2 h' h1' hf hA h3
    go_enter Tryd.func88, Tryd.ntmps88
    go_wp2
    go_ret
    exact ⟨rfl, HT.out⟩
  | some q =>
    rw [e] at hf hlook
    rw [← hf]
    simp only [Option.map_some]
    obtain ⟨hq1, hq2⟩ := h2.pf.some e
    obtain ⟨g, cap, rfl⟩ := h1.slice (by omega)
    have hq0 : (0 : Int) ≤ (q : Int) := by omega
    have hqi : (q : Int) < (s.ts.length : Int) := by omega
    have c0 := h1.c0
    obtain ⟨y0, y1, y2, y3, y4⟩ := h1.at hq1
    have hsb : s.ts.length ≤ 1000000 := by rw [h2.len]; exact hm
    have hsnb : s.n ≤ 1000000 := by rw [h2.pf.n]; exact hsb
    have hE := e
    have HH2 := Lib.hid h2
    generalize hx : atT s.ts q = x at *
    have HX := Lib.hid hx
    obtain ⟨W, hW⟩ : ∃ W, w.alloc (.cells #[.int .u64 t.F, .int .u64 t.H, .int .i64 t.Y, .int .i64 t.X] 101) = W := ⟨_, rfl⟩
    rw [hW] at hA hlook h1'
    have x0 : W.cell? ⟨w.heap.size, 0, none⟩ = some (.int .u64 t.F) := by rw [← hW]; simp [go_sem]
    have x1 : W.cell? ⟨w.heap.size, 1, none⟩ = some (.int .u64 t.H) := by rw [← hW]; simp [go_sem]
    have x2 : W.cell? ⟨w.heap.size, 2, none⟩ = some (.int .i64 t.Y) := by rw [← hW]; simp [go_sem]
    have x3 : W.cell? ⟨w.heap.size, 3, none⟩ = some (.int .i64 t.X) := by rw [← hW]; simp [go_sem]
    replace c0 := cell_later hA c0
    replace y1 := cell_later hA y1
    replace y2 := cell_later hA y2
    replace y3 := cell_later hA y3
    replace y4 := cell_later hA y4
    replace c1 := cell_later hA c1
    clear h2 hf hx e y0 zc1 h1'
    cases hls : lessK t x
    · simp only [Bool.false_eq_true, if_false]
      have hB := bl_dr (bl0 W)
      go_enter Tryd.func88, Tryd.ntmps88
      go_upto_region 3 with fail
      clear hW
      go_upto_region 6 with fail
      go_region_held3 (fun w' => w'.cell? ⟨p, 0, none⟩ = some (.slice (some ⟨g, 0, none⟩) s.ts.length cap) ∧ w'.cell? ⟨g, q * 5 + 1, none⟩ = some (.int .u64 x.F) ∧ w'.cell? ⟨g, q * 5 + 2, none⟩ = some (.int .u64 x.H) ∧ w'.cell? ⟨g, q * 5 + 3, none⟩ = some (.int .i64 x.Y) ∧ w'.cell? ⟨g, q * 5 + 4, none⟩ = some (.int .i64 x.X) ∧ w'.cell? ⟨w.heap.size, 0, none⟩ = some (.int .u64 t.F) ∧ w'.cell? ⟨w.heap.size, 1, none⟩ = some (.int .u64 t.H) ∧ w'.cell? ⟨w.heap.size, 2, none⟩ = some (.int .i64 t.Y) ∧ w'.cell? ⟨w.heap.size, 3, none⟩ = some (.int .i64 t.X))
        (exact ⟨cell_later hB c0, cell_later hB y1, cell_later hB y2, cell_later hB y3, cell_later hB y4, cell_later hB x0, cell_later hB x1, cell_later hB x2, cell_later hB x3⟩)
        ((go_at_call 87; (with_reducible refine (less_any t x _).mono ?_); rintro e W2 ⟨rfl, hb⟩; replace hB := bl_tr hB hb; clear hb))
      all_goals
        have HT := Lib.hid (heap_there h' (bl_tr hA hB))
        clear hB
        go_wp2
        go_ret
        exact ⟨rfl, HT.out⟩
    · simp only [if_true]
      have hB := bl_dr (bl0 W)
      go_enter Tryd.func88, Tryd.ntmps88
      go_upto_region 3 with fail
      clear hW
      go_upto_region 6 with fail
      go_region_held3 (fun w' => w'.cell? ⟨p, 0, none⟩ = some (.slice (some ⟨g, 0, none⟩) s.ts.length cap) ∧ w'.cell? ⟨g, q * 5 + 1, none⟩ = some (.int .u64 x.F) ∧ w'.cell? ⟨g, q * 5 + 2, none⟩ = some (.int .u64 x.H) ∧ w'.cell? ⟨g, q * 5 + 3, none⟩ = some (.int .i64 x.Y) ∧ w'.cell? ⟨g, q * 5 + 4, none⟩ = some (.int .i64 x.X) ∧ w'.cell? ⟨w.heap.size, 0, none⟩ = some (.int .u64 t.F) ∧ w'.cell? ⟨w.heap.size, 1, none⟩ = some (.int .u64 t.H) ∧ w'.cell? ⟨w.heap.size, 2, none⟩ = some (.int .i64 t.Y) ∧ w'.cell? ⟨w.heap.size, 3, none⟩ = some (.int .i64 t.X))
        (exact ⟨cell_later hB c0, cell_later hB y1, cell_later hB y2, cell_later hB y3, cell_later hB y4, cell_later hB x0, cell_later hB x1, cell_later hB x2, cell_later hB x3⟩)
        ((go_at_call 87; (with_reducible refine (less_any t x _).mono ?_); rintro e W2 ⟨rfl, hb⟩; replace hB := bl_tr hB hb; clear hb))
      all_goals
        have hAB := bl_tr hA hB
        have hH2 := h1.below hAB
        have hcall := rise_any 0 p b g cap s q t _ hH2 hq1 (by omega) (by omega) ht
        replace x0 := cell_later hB x0
        replace x1 := cell_later hB x1
        replace x2 := cell_later hB x2
        replace x3 := cell_later hB x3
        have HF := Lib.hid (HH2.out.lower hE (by rw [HX.out]; exact hls))
        have HAB := Lib.hid hAB
        clear hH2 hB hA hAB c0 y1 y2 y3 y4 hlook c1 hls
        go_wp2_with fail
        refine hcall.mono ?_
        rintro e W3 ⟨rfl, hH3, hk3⟩
        have hEnd : Turned S w W3 (HeapO p (m.map (fun y => if y.id = t.id then t else y))) := by
          refine ⟨((KeptS.of_below HAB.out).trans hk3 (fun _ _ h => h)).wide (fun k h => (h3 k).2 h), S, ⟨b, _, _, hH3, HF.out, h3⟩, fun k hk => .inl hk⟩
        have HEnd := Lib.hid hEnd
        clear hEnd hH3 hk3 HF hcall x0 x1 x2 x3
        go_wp2
        go_ret
        exact ⟨rfl, HEnd.out⟩
end Go.Proofs.YtofpoenehdmkpaaDoor
