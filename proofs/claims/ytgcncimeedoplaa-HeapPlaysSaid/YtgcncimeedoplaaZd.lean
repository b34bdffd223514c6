/- Heap's laws: the reference's Lower. -/
import Derived.Test.YtgcncimeedoplaaZc
namespace Go.Proofs.Ytgcncimeedoplaa
open Go.RowKit Go.Maps

theorem ids_inj {m : List Th} (hn : (m.map Th.id).Nodup) {i j : Nat} (hi : i < m.length) (hj : j < m.length) (e : (atT m i).id = (atT m j).id) : i = j := by
  have hp := List.pairwise_iff_getElem.1 hn
  have ei : atT m i = m[i] := by simp [atT, List.getD_eq_getElem?_getD, hi]
  have ej : atT m j = m[j] := by simp [atT, List.getD_eq_getElem?_getD, hj]
  rw [ei, ej] at e
  rcases Nat.lt_trichotomy i j with h | h | h
  · exact absurd (by rw [List.getElem_map, List.getElem_map]; exact e) (hp i j (by simpa using hi) (by simpa using hj) h)
  · exact h
  · exact absurd (by rw [List.getElem_map, List.getElem_map]; exact e.symm) (hp j i (by simpa using hj) (by simpa using hi) h)
theorem setM_map {m : List Th} (hn : (m.map Th.id).Nodup) {k : Nat} (hk : k < m.length) {t : Th} (e : (atT m k).id = t.id) : m.map (fun y => if y.id = t.id then t else y) = m.set k t := by
  refine List.ext_getElem (by simp) fun j h1 h2 => ?_
  have hj : j < m.length := by simpa using h1
  have ej : atT m j = m[j] := by simp [atT, List.getD_eq_getElem?_getD, hj]
  rw [List.getElem_map, List.getElem_set]
  by_cases hjk : k = j
  · subst hjk
    rw [if_pos rfl, if_pos (by rw [← ej]; exact e)]
  · rw [if_neg hjk, if_neg]
    intro h
    exact hjk (ids_inj hn hk hj (by rw [e, ej, h]))
theorem set_ids {m : List Th} {k : Nat} (hk : k < m.length) {t : Th} (e : (atT m k).id = t.id) : (m.set k t).map Th.id = m.map Th.id := by
  refine List.ext_getElem (by simp) fun j h1 h2 => ?_
  have ek : atT m k = m[k] := by simp [atT, List.getD_eq_getElem?_getD, hk]
  rw [List.getElem_map, List.getElem_map, List.getElem_set]
  by_cases hjk : k = j
  · subst hjk
    rw [if_pos rfl, ← ek, e]
  · rw [if_neg hjk]

set_option maxRecDepth 100000 in
set_option maxHeartbeats 4000000 in
theorem lower_ref {w : World} {B : Nat} {p : Nat} {u v : Value} {m : List Th} {l : List Own} (t : Th) (h : Sep w B (RefL p u v m l)) (hm : m.length ≤ 1000) (hn : (m.map Th.id).Nodup) :
    Calls Try.prog 17 #[.pointer (some ⟨p, 0, none⟩), .int .i64 t.id, .agg #[.int .u64 t.F, .int .u64 t.H, .int .i64 t.Y, .int .i64 t.X]] w fun e w' => e = .returned (.int .i64 (lowerE m t)) ∧ (∃ u' v', Sep w' B (RefL p u' v' (lowerM m t) l)) ∧ Below B w w' := by
  have hbase := h.base
  have hA := (bl_al (bl0 w) (.cells #[.int .u64 t.F, .int .u64 t.H, .int .i64 t.Y, .int .i64 t.X] 28)).mono hbase
  replace h := h.box #[.int .u64 t.F, .int .u64 t.H, .int .i64 t.Y, .int .i64 t.X] 28
  obtain ⟨b, hb0⟩ : ∃ b, w.heap.size = b := ⟨_, rfl⟩
  rw [hb0] at h
  replace h : Sep (w.alloc (.cells #[.int .u64 t.F, .int .u64 t.H, .int .i64 t.Y, .int .i64 t.X] 28)) B (RefL p u v m (l ++ [CellsO b #[.int .u64 t.F, .int .u64 t.H, .int .i64 t.Y, .int .i64 t.X] 28])) := h
  have hcall := find_ref t.id h hm
  go_enter Try.func17, Try.ntmps17
  go_wp2_with fail
  refine hcall.mono ?_
  rintro e w2 ⟨r, rfl, hF, hb⟩
  have hA2 := hA.trans (hb.mono h.base)
  have h2 := h.below hb
  clear hcall hb h hA
  have HS : Hid (∀ W, Sep W B (RefL p u v m (l ++ [CellsO b #[.int .u64 t.F, .int .u64 t.H, .int .i64 t.Y, .int .i64 t.X] 28])) → Sep W B (RefL p u v m l)) := Lib.hid (fun W hW => by
    have := Sep.drop (l1 := CellsO p #[u, v] 39 :: RowO 3 1 u m.length (cellsI (m.map Th.id)) :: RowO 28 4 v m.length (flatK m) :: l) (l2 := []) hW
    rwa [List.append_nil] at this)
  rcases hF with ⟨rfl, hf⟩ | ⟨k, rfl, hk, hki, hf⟩
  · have HE : Hid (lowerE m t = 14 ∧ lowerM m t = m) := Lib.hid ⟨by unfold lowerE; rw [hf], by unfold lowerM; rw [hf]⟩
    have HA := Lib.hid hA2
    have H2 := Lib.hid (HS.out _ h2)
    clear h2 hA2 hf
    have hneg : decide ((-1 : Int) < 0) = true := by decide
    go_wp2
    go_ret
    exact ⟨by rw [HE.out.1]; try rfl, ⟨u, v, by rw [HE.out.2]; exact H2.out⟩, HA.out⟩
  · have hk0 : (0 : Int) ≤ (k : Int) := by omega
    have hkI : (k : Int) < (m.length : Int) := by omega
    obtain ⟨ru, capu, rfl, hru⟩ := Sep.shape (l1 := [CellsO p #[u, v] 39]) h2
    obtain ⟨rv, capv, rfl, hrv⟩ := Sep.shape (l1 := [CellsO p #[.slice ru m.length capu, v] 39, RowO 3 1 (.slice ru m.length capu) m.length (cellsI (m.map Th.id))]) h2
    obtain ⟨g, rfl⟩ : ∃ g, rv = some ⟨g, 0, none⟩ := by
      rcases hrv with ⟨_, e, _⟩ | h
      · omega
      · exact h
    clear hrv hru
    obtain ⟨rc, _⟩ := Sep.cells (l1 := []) h2
    obtain ⟨rb, _⟩ := Sep.cells (l1 := CellsO p #[.slice ru m.length capu, .slice (some ⟨g, 0, none⟩) m.length capv] 39 :: RowO 3 1 (.slice ru m.length capu) m.length (cellsI (m.map Th.id)) :: RowO 28 4 (.slice (some ⟨g, 0, none⟩) m.length capv) m.length (flatK m) :: l) (l2 := []) h2
    have c1 : w2.cell? ⟨p, 1, none⟩ = some (.slice (some ⟨g, 0, none⟩) m.length capv) := by simp [World.cell?, rc]
    have b0 : w2.cell? ⟨b, 0, none⟩ = some (.int .u64 t.F) := by simp [World.cell?, rb]
    have b1 : w2.cell? ⟨b, 1, none⟩ = some (.int .u64 t.H) := by simp [World.cell?, rb]
    have b2 : w2.cell? ⟨b, 2, none⟩ = some (.int .i64 t.Y) := by simp [World.cell?, rb]
    have b3 : w2.cell? ⟨b, 3, none⟩ = some (.int .i64 t.X) := by simp [World.cell?, rb]
    obtain ⟨hrow, _, hgB, _, _⟩ := Sep.row (l1 := [CellsO p #[.slice ru m.length capu, .slice (some ⟨g, 0, none⟩) m.length capv] 39, RowO 3 1 (.slice ru m.length capu) m.length (cellsI (m.map Th.id))]) h2
    obtain ⟨e0, e1, e2, e3⟩ := flatK_at m k hk
    have y0 := hrow _ _ e0
    have y1 := hrow _ _ e1
    have y2 := hrow _ _ e2
    have y3 := hrow _ _ e3
    have HKI := Lib.hid hki
    have HMAP := Lib.hid (setM_map hn hk hki)
    have HIDS := Lib.hid (set_ids hk hki)
    have HFK := Lib.hid (fun t' => flatK_set m k t' hk)
    obtain ⟨x, hx⟩ : ∃ x, atT m k = x := ⟨_, rfl⟩
    rw [hx] at y0 y1 y2 y3 hf
    have HFX := Lib.hid hf
    clear rc rb hrow e0 e1 e2 e3 hx hf hki hn
    have hB := bl_dr (bl0 w2)
    go_upto_region 4 with fail
    go_region_held3 (fun w' => w'.cell? ⟨p, 1, none⟩ = some (.slice (some ⟨g, 0, none⟩) m.length capv) ∧ w'.cell? ⟨b, 0, none⟩ = some (.int .u64 t.F) ∧ w'.cell? ⟨b, 1, none⟩ = some (.int .u64 t.H) ∧ w'.cell? ⟨b, 2, none⟩ = some (.int .i64 t.Y) ∧ w'.cell? ⟨b, 3, none⟩ = some (.int .i64 t.X) ∧ w'.cell? ⟨g, k * 4, none⟩ = some (.int .u64 x.F) ∧ w'.cell? ⟨g, k * 4 + 1, none⟩ = some (.int .u64 x.H) ∧ w'.cell? ⟨g, k * 4 + 2, none⟩ = some (.int .i64 x.Y) ∧ w'.cell? ⟨g, k * 4 + 3, none⟩ = some (.int .i64 x.X))
      (exact ⟨cell_later hB c1, cell_later hB b0, cell_later hB b1, cell_later hB b2, cell_later hB b3, cell_later hB y0, cell_later hB y1, cell_later hB y2, cell_later hB y3⟩)
      ((go_at_call 10; (with_reducible refine (rless_any t x _).mono ?_); rintro e W2 ⟨rfl, hb⟩; replace hB := bl_tr hB hb; clear hb))
    all_goals
      have h5 := h2.below hB
      have hA5 := hA2.trans (hB.mono h2.base)
      have HFX2 := HFX.out
      cases hs : lessK t x
      · have HE : Hid (lowerE m t = 1 ∧ lowerM m t = m) := Lib.hid ⟨by unfold lowerE; rw [HFX2]; simp only [hs]; rfl, by unfold lowerM; rw [HFX2]; simp only [hs]; rfl⟩
        have HA := Lib.hid hA5
        have H2 := Lib.hid (HS.out _ h5)
        clear h2 hA2 h5 hA5 hB HFX2
        go_wp2
        go_ret
        exact ⟨by rw [HE.out.1]; try rfl, ⟨_, _, by rw [HE.out.2]; exact H2.out⟩, HA.out⟩
      · have HE : Hid (lowerE m t = 0 ∧ lowerM m t = m.set k t) := Lib.hid ⟨by unfold lowerE; rw [HFX2]; simp only [hs]; rfl, by unfold lowerM; rw [HFX2]; simp only [hs, if_true]; exact HMAP.out⟩
        replace c1 := cell_later hB c1
        replace b0 := cell_later hB b0
        replace b1 := cell_later hB b1
        replace b2 := cell_later hB b2
        replace b3 := cell_later hB b3
        replace y0 := cell_later hB y0
        replace y1 := cell_later hB y1
        replace y2 := cell_later hB y2
        replace y3 := cell_later hB y3
        clear h2 hA2 HFX2 hs
        clear hB
        go_upto_region 6 with fail
        have hD := bl_dr (bl0 W2)
        have h6 := h5.below hD
        have hA6 := hA5.trans (hD.mono h5.base)
        replace c1 := cell_later hD c1
        replace b0 := cell_later hD b0
        replace b1 := cell_later hD b1
        replace b2 := cell_later hD b2
        replace b3 := cell_later hD b3
        replace y0 := cell_later hD y0
        replace y1 := cell_later hD y1
        replace y2 := cell_later hD y2
        replace y3 := cell_later hD y3
        obtain ⟨_, hfz6, _, _, _⟩ := Sep.row (l1 := [CellsO p #[.slice ru m.length capu, .slice (some ⟨g, 0, none⟩) m.length capv] 39, RowO 3 1 (.slice ru m.length capu) m.length (cellsI (m.map Th.id))]) h5
        have f0 := hfz6 (k * 4)
        have f1 := hfz6 (k * 4 + 1)
        have f2 := hfz6 (k * 4 + 2)
        have f3 := hfz6 (k * 4 + 3)
        have h7 := Sep.rowset (l1 := [CellsO p #[.slice ru m.length capu, .slice (some ⟨g, 0, none⟩) m.length capv] 39, RowO 3 1 (.slice ru m.length capu) m.length (cellsI (m.map Th.id))]) h5 (k * 4) (.int .u64 t.F)
        replace h7 := Sep.rowset (l1 := [CellsO p #[.slice ru m.length capu, .slice (some ⟨g, 0, none⟩) m.length capv] 39, RowO 3 1 (.slice ru m.length capu) m.length (cellsI (m.map Th.id))]) h7 (k * 4 + 1) (.int .u64 t.H)
        replace h7 := Sep.rowset (l1 := [CellsO p #[.slice ru m.length capu, .slice (some ⟨g, 0, none⟩) m.length capv] 39, RowO 3 1 (.slice ru m.length capu) m.length (cellsI (m.map Th.id))]) h7 (k * 4 + 2) (.int .i64 t.Y)
        replace h7 := Sep.rowset (l1 := [CellsO p #[.slice ru m.length capu, .slice (some ⟨g, 0, none⟩) m.length capv] 39, RowO 3 1 (.slice ru m.length capu) m.length (cellsI (m.map Th.id))]) h7 (k * 4 + 3) (.int .i64 t.X)
        rw [← HFK.out t] at h7
        have q0 := hgrown_set W2 g (k * 4) (.int .u64 t.F)
        have q1 := q0.trans (hgrown_set _ g (k * 4 + 1) (.int .u64 t.H))
        have q2 := q1.trans (hgrown_set _ g (k * 4 + 2) (.int .i64 t.Y))
        have q3 := q2.trans (hgrown_set _ g (k * 4 + 3) (.int .i64 t.X))
        have hA7' := hA5.grown q3 h5.base (fun j e => by cases e; exact hgB)
        have hA7 := hA7'.trans ((bl_dr (bl0 _)).mono h7.base)
        replace h7 := h7.below (bl_dr (bl0 _))
        have H7 := Lib.hid h7
        have HA7 := Lib.hid hA7
        have hS6 : (fun w' : World => w'.cell? ⟨p, 1, none⟩ = some (.slice (some ⟨g, 0, none⟩) m.length capv) ∧ w'.cell? ⟨b, 0, none⟩ = some (.int .u64 t.F) ∧ w'.cell? ⟨b, 1, none⟩ = some (.int .u64 t.H) ∧ w'.cell? ⟨b, 2, none⟩ = some (.int .i64 t.Y) ∧ w'.cell? ⟨b, 3, none⟩ = some (.int .i64 t.X)) W2.drew := ⟨c1, b0, b1, b2, b3⟩
        clear hD h5 hA5 h7 hA7 hA7' q0 q1 q2 q3 hfz6 hA6 h6
        refine (wpIn_wide (n := 11)).1 ?_
        refine ordZ_begin (z := 7) (S := (fun w' : World => w'.cell? ⟨p, 1, none⟩ = some (.slice (some ⟨g, 0, none⟩) m.length capv) ∧ w'.cell? ⟨b, 0, none⟩ = some (.int .u64 t.F) ∧ w'.cell? ⟨b, 1, none⟩ = some (.int .u64 t.H) ∧ w'.cell? ⟨b, 2, none⟩ = some (.int .i64 t.Y) ∧ w'.cell? ⟨b, 3, none⟩ = some (.int .i64 t.X))) (by kernel_rfl) hS6 (fun hH => ?_)
        first
          | (refine' ordZ_take (i := 0) (oi := { dst := some 23, op := Op.move (Operand.tmp 0), type := 35, pos := _, after := #[], guard := none }) (v := _) rfl (by kernel_rfl) (by kernel_rfl) (by kernel_rfl) (by kernel_rfl) (fun _ _ _ h => h) (by assumption) (by kernel_rfl) (by decide) (by rfl) (Or.inl ⟨by rfl, ?hy1⟩) (fun _ => rfl) ?rest1
             case hy1 => (intro w hSw; (try dsimp only at hSw); go_simp; try with_reducible rfl))
          | (refine ordZ_take (i := 0) (oi := { dst := some 23, op := Op.move (Operand.tmp 0), type := 35, pos := _, after := #[], guard := none }) (v := undef) rfl (by kernel_rfl) (by kernel_rfl) (by kernel_rfl) (by kernel_rfl) (fun _ _ _ h => h) (by assumption) (by kernel_rfl) (by decide) (by rfl) (Or.inr ⟨by rfl, rfl⟩) (fun _ => rfl) ?_)
        try simp only [Act.put, List.setIfInBounds_toArray, List.set_cons_zero, List.set_cons_succ]
        first
          | (refine' ordZ_take (i := 1) (oi := { dst := some 24, op := Op.nilCheck (Operand.tmp 23), type := 0, pos := _, after := #[{ on := 0, ground := Ground.data }], guard := none }) (v := _) rfl (by kernel_rfl) (by kernel_rfl) (by kernel_rfl) (by kernel_rfl) (fun _ _ _ h => h) (by assumption) (by kernel_rfl) (by decide) (by rfl) (Or.inl ⟨by rfl, ?hy2⟩) (fun _ => rfl) ?rest2
             case hy2 => (intro w hSw; (try dsimp only at hSw); go_simp; try with_reducible rfl))
          | (refine ordZ_take (i := 1) (oi := { dst := some 24, op := Op.nilCheck (Operand.tmp 23), type := 0, pos := _, after := #[{ on := 0, ground := Ground.data }], guard := none }) (v := undef) rfl (by kernel_rfl) (by kernel_rfl) (by kernel_rfl) (by kernel_rfl) (fun _ _ _ h => h) (by assumption) (by kernel_rfl) (by decide) (by rfl) (Or.inr ⟨by rfl, rfl⟩) (fun _ => rfl) ?_)
        try simp only [Act.put, List.setIfInBounds_toArray, List.set_cons_zero, List.set_cons_succ]
        first
          | (refine' ordZ_take (i := 2) (oi := { dst := some 25, op := Op.fieldAddr 39 (Operand.tmp 24) 1, type := 0, pos := _, after := #[{ on := 1, ground := Ground.data }], guard := none }) (v := _) rfl (by kernel_rfl) (by kernel_rfl) (by kernel_rfl) (by kernel_rfl) (fun _ _ _ h => h) (by assumption) (by kernel_rfl) (by decide) (by rfl) (Or.inl ⟨by rfl, ?hy3⟩) (fun _ => rfl) ?rest3
             case hy3 => (intro w hSw; (try dsimp only at hSw); go_simp; try with_reducible rfl))
          | (refine ordZ_take (i := 2) (oi := { dst := some 25, op := Op.fieldAddr 39 (Operand.tmp 24) 1, type := 0, pos := _, after := #[{ on := 1, ground := Ground.data }], guard := none }) (v := undef) rfl (by kernel_rfl) (by kernel_rfl) (by kernel_rfl) (by kernel_rfl) (fun _ _ _ h => h) (by assumption) (by kernel_rfl) (by decide) (by rfl) (Or.inr ⟨by rfl, rfl⟩) (fun _ => rfl) ?_)
        try simp only [Act.put, List.setIfInBounds_toArray, List.set_cons_zero, List.set_cons_succ]
        first
          | (refine' ordZ_take (i := 3) (oi := { dst := some 26, op := Op.load 37 (Operand.tmp 25), type := 37, pos := _, after := #[{ on := 2, ground := Ground.data }], guard := none }) (v := _) rfl (by kernel_rfl) (by kernel_rfl) (by kernel_rfl) (by kernel_rfl) (fun _ _ _ h => h) (by assumption) (by kernel_rfl) (by decide) (by rfl) (Or.inl ⟨by rfl, ?hy4⟩) (fun _ => rfl) ?rest4
             case hy4 => (intro w hSw; (try dsimp only at hSw); go_simp; try with_reducible rfl))
          | (refine ordZ_take (i := 3) (oi := { dst := some 26, op := Op.load 37 (Operand.tmp 25), type := 37, pos := _, after := #[{ on := 2, ground := Ground.data }], guard := none }) (v := undef) rfl (by kernel_rfl) (by kernel_rfl) (by kernel_rfl) (by kernel_rfl) (fun _ _ _ h => h) (by assumption) (by kernel_rfl) (by decide) (by rfl) (Or.inr ⟨by rfl, rfl⟩) (fun _ => rfl) ?_)
        try simp only [Act.put, List.setIfInBounds_toArray, List.set_cons_zero, List.set_cons_succ]
        first
          | (refine' ordZ_take (i := 4) (oi := { dst := some 27, op := Op.move (Operand.tmp 7), type := 3, pos := _, after := #[], guard := none }) (v := _) rfl (by kernel_rfl) (by kernel_rfl) (by kernel_rfl) (by kernel_rfl) (fun _ _ _ h => h) (by assumption) (by kernel_rfl) (by decide) (by rfl) (Or.inl ⟨by rfl, ?hy5⟩) (fun _ => rfl) ?rest5
             case hy5 => (intro w hSw; (try dsimp only at hSw); go_simp; try with_reducible rfl))
          | (refine ordZ_take (i := 4) (oi := { dst := some 27, op := Op.move (Operand.tmp 7), type := 3, pos := _, after := #[], guard := none }) (v := undef) rfl (by kernel_rfl) (by kernel_rfl) (by kernel_rfl) (by kernel_rfl) (fun _ _ _ h => h) (by assumption) (by kernel_rfl) (by decide) (by rfl) (Or.inr ⟨by rfl, rfl⟩) (fun _ => rfl) ?_)
        try simp only [Act.put, List.setIfInBounds_toArray, List.set_cons_zero, List.set_cons_succ]
        first
          | (refine' ordZ_take (i := 5) (oi := { dst := some 28, op := Op.load 28 (Operand.tmp 5), type := 28, pos := _, after := #[], guard := none }) (v := _) rfl (by kernel_rfl) (by kernel_rfl) (by kernel_rfl) (by kernel_rfl) (fun _ _ _ h => h) (by assumption) (by kernel_rfl) (by decide) (by rfl) (Or.inl ⟨by rfl, ?hy6⟩) (fun _ => rfl) ?rest6
             case hy6 => (intro w hSw; (try dsimp only at hSw); go_simp; try with_reducible rfl))
          | (refine ordZ_take (i := 5) (oi := { dst := some 28, op := Op.load 28 (Operand.tmp 5), type := 28, pos := _, after := #[], guard := none }) (v := undef) rfl (by kernel_rfl) (by kernel_rfl) (by kernel_rfl) (by kernel_rfl) (fun _ _ _ h => h) (by assumption) (by kernel_rfl) (by decide) (by rfl) (Or.inr ⟨by rfl, rfl⟩) (fun _ => rfl) ?_)
        try simp only [Act.put, List.setIfInBounds_toArray, List.set_cons_zero, List.set_cons_succ]
        refine ordZ_one (i := 6) (o := { dst := some 29, op := Op.indexAddr 37 (Operand.tmp 26) (Operand.tmp 27), type := 0, pos := _, after := #[{ on := 3, ground := Ground.data }, { on := 4, ground := Ground.data }, { on := 0, ground := Ground.phase }, { on := 1, ground := Ground.phase }, { on := 2, ground := Ground.phase }, { on := 3, ground := Ground.phase }, { on := 4, ground := Ground.phase }, { on := 5, ground := Ground.phase }], guard := none }) (by kernel_rfl) rfl (by rfl) (fun K hK => ?_)
        go_simp
        refine hK _ _ (fun _ => hS6) ?_
        clear hK K
        try simp only [Act.put, List.setIfInBounds_toArray, List.set_cons_zero, List.set_cons_succ]
        refine ordZ_one (i := 7) (o := { dst := none, op := Op.store 28 (Operand.tmp 29) (Operand.tmp 28), type := 0, pos := _, after := #[{ on := 6, ground := Ground.data }, { on := 5, ground := Ground.data }, { on := 0, ground := Ground.phase }, { on := 1, ground := Ground.phase }, { on := 2, ground := Ground.phase }, { on := 3, ground := Ground.phase }, { on := 4, ground := Ground.phase }, { on := 5, ground := Ground.phase }], guard := none }) (by kernel_rfl) rfl (by rfl) (fun K hK => ?_)
        go_simp
        refine hK _ _ (fun h => by cases h) ?_
        clear hK K hS6 hH
        try simp only [Act.put, List.setIfInBounds_toArray, List.set_cons_zero, List.set_cons_succ]
        refine ordZ_done (by kernel_rfl) ?_
        generalize hW8 : World.drew _ = W8
        have H8 : Hid (Sep W8 B (RefL p (.slice ru m.length capu) (.slice (some ⟨g, 0, none⟩) m.length capv) (m.set k t) l)) := Lib.hid (by
          have h8 := H7.out
          rw [hW8] at h8
          have h9 := Sep.drop (l1 := CellsO p #[.slice ru m.length capu, .slice (some ⟨g, 0, none⟩) m.length capv] 39 :: RowO 3 1 (.slice ru m.length capu) m.length (cellsI (m.map Th.id)) :: RowO 28 4 (.slice (some ⟨g, 0, none⟩) m.length capv) m.length (flatK (m.set k t)) :: l) (l2 := []) h8
          rw [List.append_nil] at h9
          unfold RefL
          rw [List.length_set, HIDS.out]
          exact h9)
        have HA8 : Hid (Below B w W8) := Lib.hid (by have h8 := HA7.out; rw [hW8] at h8; exact h8)
        clear hW8 H7 HA7 f0 f1 f2 f3 c1 b0 b1 b2 b3 y0 y1 y2 y3
        go_wp2
        go_ret
        exact ⟨by rw [HE.out.1]; try rfl, ⟨_, _, by rw [HE.out.2]; exact H8.out⟩, HA8.out⟩
end Go.Proofs.Ytgcncimeedoplaa
