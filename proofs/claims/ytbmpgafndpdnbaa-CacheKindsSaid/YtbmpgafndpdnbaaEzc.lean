/- Cache: the reference: first, Get, Put. -/
import Derived.Test.YtbmpgafndpdnbaaEzb
import Derived.Laws.AppendOwnNone
namespace Go.Proofs.Ytbmpgafndpdnbaa
open Go.RowKit Go.Maps

/-- The reference's cache: its block, its row. -/
abbrev RC (q : Nat) (r : Int) (v : Value) (m : List IT) (l : List Own) : List Own := RO q r v :: TO v m :: l
theorem RC.cells {W : World} {B q : Nat} {r : Int} {v : Value} {m : List IT} {l : List Own} (h : Sep W B (RC q r v m l)) : W.cell? ⟨q, 0, none⟩ = some (.int .i64 r) ∧ W.cell? ⟨q, 1, none⟩ = some v ∧ W.frozen? ⟨q, 1, none⟩ = false ∧ B ≤ q := by
  obtain ⟨h1, h2⟩ := Sep.cells (l1 := []) h
  exact ⟨by simp [World.cell?, h1], by simp [World.cell?, h1], by simp [World.frozen?, h1], h2⟩
theorem RC.row {W : World} {B q : Nat} {r : Int} {v : Value} {m : List IT} {l : List Own} (h : Sep W B (RC q r v m l)) : ∃ a cap, v = .slice a m.length cap ∧ m.length ≤ cap ∧ RowT W a m := TO.row (l1 := [RO q r v]) h
/-- Another row is the cache's. -/
theorem RC.put {W : World} {B q : Nat} {r : Int} {v v' : Value} {m m' : List IT} {l : List Own} (h : Sep W B (RC q r v m l ++ [TO v' m'])) : Sep (W.setCell ⟨q, 1, none⟩ v') B (RC q r v' m' l) := by
  have h1 := Sep.set (l1 := []) h 1 v'
  have h2 : Sep (W.setCell ⟨q, 1, none⟩ v') B ([RO q r v'] ++ TO v m :: (l ++ [TO v' m'])) := h1
  have h3 := h2.drop
  -- the new row lies at the end: it is taken to its place
  obtain ⟨h0, Z, e1, e2, e3⟩ := h3
  have hp : List.Perm ([RO q r v'] ++ (l ++ [TO v' m'])) (RC q r v' m' l) := by
    refine List.Perm.cons _ ?_
    exact List.perm_append_singleton _ _
  obtain ⟨Z', hz1, hz2⟩ : ∃ Z', Z'.map Prod.fst = RC q r v' m' l ∧ List.Perm Z Z' := by
    rw [← e1] at hp
    match Z, e1, hp with
    | [], e1, _ => cases e1
    | z :: Zs, e1, hp =>
      rw [List.map_cons, List.singleton_append, List.cons.injEq] at e1
      obtain ⟨f1, f2⟩ := e1
      obtain ⟨Za, Zb, rfl, g1, g2⟩ := List.map_eq_append_iff.1 f2
      obtain ⟨zb, rfl, g3⟩ : ∃ zb, Zb = [zb] ∧ zb.1 = TO v' m' := by
        match Zb, g2 with
        | [], g2 => cases g2
        | [zb], g2 => exact ⟨zb, rfl, by simpa using g2⟩
        | _ :: _ :: _, g2 => (rw [List.map_cons, List.map_cons] at g2; injection g2 with _ g3; cases g3)
      exact ⟨z :: zb :: Za, by simp [f1, g1, g3], List.Perm.cons _ (List.perm_append_singleton _ _)⟩
  refine ⟨h0, Z', hz1, fun z hz => e2 z (hz2.mem_iff.2 hz), ?_⟩
  refine (hz2.pairwise_iff (fun {x y} hxy k hk hy => hxy k hy hk)).1 e3
set_option maxRecDepth 100000 in
set_option maxHeartbeats 4000000 in
/-- A thing ahead of a row: that is what the cache has then. -/
theorem rfirst_any {B q : Nat} {r : Int} {v : Value} {m : List IT} {l : List Own} (x : IT) (sa : Option Addr) (scap : Nat) (s : List IT) (w : World) (h : Sep w B (RC q r v m l)) (hs : s.length ≤ 900) (hr : RowT w sa s) (hn : sa = none → scap = 0) :
    Calls Try.prog 39 #[.pointer (some ⟨q, 0, none⟩), .agg #[.int .i64 x.1, .int .i64 x.2], .slice sa s.length scap] w fun e w' => e = .returned (.tuple #[]) ∧ (∃ v', Sep w' B (RC q r v' (x :: s) l)) ∧ Below B w w' := by
  have hb1 := bl_al (bl0 w) (.cells #[.int .i64 x.1, .int .i64 x.2] 39)
  have hb2 := bl_al hb1 (.cells #[.int .i64 x.1, .int .i64 x.2] 39)
  obtain ⟨W1, hW1⟩ : ∃ W1, w.alloc (.cells #[.int .i64 x.1, .int .i64 x.2] 39) = W1 := ⟨_, rfl⟩
  have hz : W1.heap.size = w.heap.size + 1 := by rw [← hW1]; simp
  rw [hW1] at hb1 hb2
  have hS2 : Sep (W1.alloc (.cells #[.int .i64 x.1, .int .i64 x.2] 39)) B (RC q r v m l ++ [TO (.slice (some ⟨W1.heap.size, 0, none⟩) 1 1) [x]]) :=
    (h.below hb1).new (S := fun k => k = W1.heap.size) (bl_al (bl0 W1) _) ⟨⟨rfl, .inr ⟨W1.heap.size, 1, _, rfl, Nat.zero_le _, heap_alloc_new W1 _, Nat.le_refl _, by unfold maxLen; decide, rfl, rfl⟩⟩, fun k => by simp only [Value.ownBlock, Option.some.injEq]; exact eq_comm⟩ (fun k e => by rw [e]; exact Nat.le_refl _)
  have hr2 := hr.below hb2
  obtain ⟨W2, hW2⟩ : ∃ W2, W1.alloc (.cells #[.int .i64 x.1, .int .i64 x.2] 39) = W2 := ⟨_, rfl⟩
  rw [hW2] at hS2 hr2 hb2
  have HS2 := Lib.hid hS2
  have HR2 := Lib.hid hr2
  have HB2 := Lib.hid hb2
  have HBB := Lib.hid h.base
  clear h hr hS2 hr2 hb1 hb2
  have x0 : W1.cell? ⟨w.heap.size, 0, none⟩ = some (.int .i64 x.1) := by rw [← hW1]; simp [go_sem]
  have x1 : W1.cell? ⟨w.heap.size, 1, none⟩ = some (.int .i64 x.2) := by rw [← hW1]; simp [go_sem]
  have zx := blk_lt x0
  obtain ⟨q0, q1, q2, q3⟩ := RC.cells (l := l ++ [TO (.slice (some ⟨W1.heap.size, 0, none⟩) 1 1) [x]]) HS2.out
  have zq := blk_lt q0
  cases sa with
  | none =>
    obtain rfl := hn rfl
    have hs0 : s = [] := by
      rcases HR2.out with e | ⟨g, e, _⟩
      · exact e
      · cases e
    subst hs0
    have HT := Lib.hid (RC.put HS2.out)
    have HBE : Hid (Below B w (W2.setCell ⟨q, 1, none⟩ (.slice (some ⟨W1.heap.size, 0, none⟩) 1 1))) := Lib.hid ((HB2.out.mono HBB.out).setCell (p := ⟨q, 1, none⟩) q3 _)
    rw [hz] at HT HBE
    go_enter Try.func39, Try.ntmps39
    go_wp2
    go_end0
    exact ⟨rfl, ⟨_, HT.out⟩, HBE.out⟩
  | some sg =>
    rw [hz] at HS2
    have hS := HS2.out
    go_enter Try.func39, Try.ntmps39
    go_wp2_with (at_builtin; refine append_its (W := W2) rfl _ _ rfl (l1 := RC q r v m l) (l2 := []) (m := [x]) (n := s) (B := B) hS (by simp) (by omega) (by rfl) sg scap (by rfl) HR2.out ?_)
    intro v' W3 h3 hb3
    obtain ⟨va, vc, rfl, _, _⟩ := TO.row (l1 := RC q r v m l) (l2 := []) h3
    obtain ⟨p0, p1, p2, p3⟩ := RC.cells (l := l ++ [TO (.slice va (x :: s).length vc) (x :: s)]) h3
    have HT := Lib.hid (RC.put h3)
    have HBE : Hid (Below B w (W3.setCell ⟨q, 1, none⟩ (.slice va (x :: s).length vc))) := Lib.hid (((HB2.out.mono HBB.out).trans hb3).setCell (p := ⟨q, 1, none⟩) q3 _)
    have zp := blk_lt p0
    have hll : (x :: s).length = s.length + 1 := rfl
    rw [hll] at HT HBE ⊢
    clear h3 hb3 hS
    go_wp2
    go_end0
    exact ⟨rfl, ⟨_, HT.out⟩, HBE.out⟩
theorem RC.nilv {W : World} {B q cap : Nat} {r : Int} {m : List IT} {l : List Own} (h : Sep W B (RC q r (.slice none m.length cap) m l)) : cap = 0 := by
  rcases (Sep.own (l1 := [RO q r (.slice none m.length cap)]) h).2 with ⟨e, _⟩ | ⟨g, c, cur, e, _⟩
  · injection e
  · cases e
theorem TO.nilv {W : World} {B cap n : Nat} {m : List IT} {l1 l2 : List Own} (h : Sep W B (l1 ++ TO (.slice none n cap) m :: l2)) : cap = 0 := by
  rcases h.own.2 with ⟨e, _⟩ | ⟨g, c, cur, e, _⟩
  · injection e
  · cases e
set_option maxRecDepth 100000 in
set_option maxHeartbeats 4000000 in
theorem rget_any {B q : Nat} {r : Int} {v : Value} {m : List IT} {l : List Own} (k : Int) (w : World) (h : Sep w B (RC q r v m l)) (hm : m.length ≤ 800) :
    Calls Try.prog 13 #[.pointer (some ⟨q, 0, none⟩), .int .i64 k] w fun e w' => e = .returned (.tuple #[.int .i64 (peekV k m), .bool (findI k m).isSome]) ∧ (∃ v', Sep w' B (RC q r v' (getM k m) l)) ∧ Below B w w' := by
  obtain ⟨a, cap, rfl, _, hrow⟩ := RC.row h
  obtain ⟨q0, q1, q2, q3⟩ := RC.cells h
  have hfind := rfind_any k q a cap m w (by omega) q1 hrow
  have zq := blk_lt q0
  unfold peekV getM
  cases e : findI k m with
  | none =>
    rw [e] at hfind
    have HS := Lib.hid h
    clear h hrow e
    go_enter Try.func13, Try.ntmps13
    go_wp2_with fail
    refine hfind.mono ?_
    rintro e w2 ⟨rfl, rfl⟩
    clear hfind
    try dsimp only [idxV]
    go_wp2
    go_ret2
    exact ⟨rfl, ⟨_, HS.out⟩, (bl0 w).mono HS.out.base⟩
  | some i =>
    rw [e] at hfind
    obtain ⟨hi, _, _⟩ := findI_some e
    have hx := atI_get hi
    obtain ⟨x, hxx⟩ : ∃ x, atI m i = x := ⟨_, rfl⟩
    rw [hxx] at hx
    dsimp only
    rw [hxx]
    obtain ⟨g, rfl, d0, d1⟩ := hrow.at hx
    have zd := blk_lt d0
    have hi0 : (0 : Int) ≤ (i : Int) := by omega
    have hi1 : (i : Int) < (m.length : Int) := by omega
    have hi2 : ¬ (i : Int) < 0 := by omega
    have HS := Lib.hid h
    have HI := Lib.hid hi
    have HXX := Lib.hid hx
    clear h hrow e hx hi hxx
    go_enter Try.func13, Try.ntmps13
    go_wp2_with fail
    refine hfind.mono ?_
    rintro e w2 ⟨rfl, rfl⟩
    clear hfind
    try dsimp only [idxV]
    go_upto_region 5 with fail
    obtain ⟨W1, hW1⟩ : ∃ W1, w.alloc (.cells #[.int .i64 x.1, .int .i64 x.2] 39) = W1 := ⟨_, rfl⟩
    have hb1 : Below w.heap.size w W1 := by rw [← hW1]; exact bl_al (bl0 w) _
    have x0 : W1.cell? ⟨w.heap.size, 0, none⟩ = some (.int .i64 x.1) := by rw [← hW1]; simp [go_sem]
    have x1 : W1.cell? ⟨w.heap.size, 1, none⟩ = some (.int .i64 x.2) := by rw [← hW1]; simp [go_sem]
    have hsb : Sep W1 B ((RC q r (.slice (some ⟨g, 0, none⟩) m.length cap) m l) ++ [CellsO w.heap.size #[.int .i64 x.1, .int .i64 x.2] 39]) := by rw [← hW1]; exact HS.out.box _ _
    rw [hW1]
    clear hW1 d0 d1 zd q0 q1 q2
    have hD := bl_dr (bl0 W1)
    have hsd := hsb.below hD
    have hwo := rwithout_any i q (some ⟨g, 0, none⟩) cap m W1.drew (by omega) HI.out (RC.cells (l := l ++ [_]) hsd).2.1 (by obtain ⟨a9, c9, e9, _, hr9⟩ := RC.row (l := l ++ [_]) hsd; injection e9 with f1 f2 f3; rw [f1]; exact hr9)
    have HSD := Lib.hid hsd
    have HBD := Lib.hid ((bl_tr hb1 hD).mono HS.out.base)
    clear hsb hsd hb1
    refine (wpIn_wide (n := 11)).1 ?_
    refine ordS_begin (S := (fun w' : World => w'.cell? ⟨w.heap.size, 0, none⟩ = some (.int .i64 x.1) ∧ w'.cell? ⟨w.heap.size, 1, none⟩ = some (.int .i64 x.2))) (by kernel_rfl) ⟨cell_later hD x0, cell_later hD x1⟩ (fun hH => ?_)
    refine' ordS_take (i := 0) (oi := { dst := some 20, op := Op.move (Operand.tmp 0), type := 29, pos := _, after := #[], guard := none }) (v := _) rfl (by kernel_rfl) (by kernel_rfl) (by kernel_rfl) (by kernel_rfl) (fun _ _ _ h => h) (by assumption) (Or.inl ⟨by rfl, ?hy1⟩) (fun _ => rfl) ?rest1
    case hy1 => (intro w hSw; (try dsimp only at hSw); go_simp; try with_reducible rfl)
    try simp only [Act.put, List.setIfInBounds_toArray, List.set_cons_zero, List.set_cons_succ]
    refine' ordS_take (i := 1) (oi := { dst := some 21, op := Op.load 39 (Operand.tmp 7), type := 39, pos := _, after := #[], guard := none }) (v := _) rfl (by kernel_rfl) (by kernel_rfl) (by kernel_rfl) (by kernel_rfl) (fun _ _ _ h => h) (by assumption) (Or.inl ⟨by rfl, ?hy2⟩) (fun _ => rfl) ?rest2
    case hy2 => (intro w hSw; (try dsimp only at hSw); go_simp; try with_reducible rfl)
    try simp only [Act.put, List.setIfInBounds_toArray, List.set_cons_zero, List.set_cons_succ]
    refine' ordS_take (i := 2) (oi := { dst := some 22, op := Op.move (Operand.tmp 0), type := 29, pos := _, after := #[], guard := none }) (v := _) rfl (by kernel_rfl) (by kernel_rfl) (by kernel_rfl) (by kernel_rfl) (fun _ _ _ h => h) (by assumption) (Or.inl ⟨by rfl, ?hy3⟩) (fun _ => rfl) ?rest3
    case hy3 => (intro w hSw; (try dsimp only at hSw); go_simp; try with_reducible rfl)
    try simp only [Act.put, List.setIfInBounds_toArray, List.set_cons_zero, List.set_cons_succ]
    refine' ordS_take (i := 3) (oi := { dst := some 23, op := Op.move (Operand.tmp 6), type := 3, pos := _, after := #[], guard := none }) (v := _) rfl (by kernel_rfl) (by kernel_rfl) (by kernel_rfl) (by kernel_rfl) (fun _ _ _ h => h) (by assumption) (Or.inl ⟨by rfl, ?hy4⟩) (fun _ => rfl) ?rest4
    case hy4 => (intro w hSw; (try dsimp only at hSw); go_simp; try with_reducible rfl)
    try simp only [Act.put, List.setIfInBounds_toArray, List.set_cons_zero, List.set_cons_succ]
    refine ordS_one (i := 4) (o := { dst := some 24, op := Op.call { callee := Callee.value (Operand.func 40), args := #[Operand.tmp 22, Operand.tmp 23], argTypes := #[29, 3] }, type := 30, pos := _, after := #[{ on := 2, ground := Ground.data }, { on := 3, ground := Ground.data }], guard := none }) (by kernel_rfl) rfl (by rfl) (fun K hK => ?_)
    go_simp
    refine ⟨trivial, ?_⟩
    refine callsIn_wide.2 (hwo.mono ?_)
    rintro e W2 ⟨v2, rfl, ht⟩
    obtain ⟨hs2, hb2⟩ := HSD.out.made ht
    have y0 := cell_later (bl_tr hD hb2) x0
    have y1 := cell_later (bl_tr hD hb2) x1
    refine hK _ _ ⟨y0, y1⟩ ?_
    clear hK K hH x0 x1 hD ht hwo
    try simp only [Act.put, List.setIfInBounds_toArray, List.set_cons_zero, List.set_cons_succ]
    obtain ⟨va, vc, rfl, _, hvr⟩ := TO.row (l1 := RC q r (.slice (some ⟨g, 0, none⟩) m.length cap) m (l ++ [CellsO w.heap.size #[.int .i64 x.1, .int .i64 x.2] 39])) (l2 := []) (by simpa using hs2)
    have hel : (m.eraseIdx i).length ≤ m.length := List.length_eraseIdx_le _ _
    have hfi := rfirst_any (l := l ++ [CellsO w.heap.size #[.int .i64 x.1, .int .i64 x.2] 39, TO (.slice va (m.eraseIdx i).length vc) (m.eraseIdx i)]) x va vc (m.eraseIdx i) W2 (by simpa using hs2) (by omega) hvr (fun e => by subst e; exact TO.nilv (l1 := RC q r (.slice (some ⟨g, 0, none⟩) m.length cap) m (l ++ [CellsO w.heap.size #[.int .i64 x.1, .int .i64 x.2] 39])) (l2 := []) (by simpa using hs2))
    have HB2 := Lib.hid (HBD.out.trans (hb2.mono (by have := HSD.out.base; exact this)))
    clear hs2 hb2 hvr
    refine ordS_one (i := 5) (o := { dst := some 25, op := Op.call { callee := Callee.value (Operand.func 39), args := #[Operand.tmp 20, Operand.tmp 21, Operand.tmp 24], argTypes := #[29, 39, 30] }, type := 0, pos := _, after := #[{ on := 0, ground := Ground.data }, { on := 1, ground := Ground.data }, { on := 4, ground := Ground.data }, { on := 4, ground := Ground.chain }], guard := none }) (by kernel_rfl) rfl (by rfl) (fun K hK => ?_)
    go_simp
    refine ⟨trivial, ?_⟩
    refine callsIn_wide.2 (hfi.mono ?_)
    rintro e W3 ⟨rfl, ⟨v3, hs3⟩, hb3⟩
    have hcb : W3.heap[w.heap.size]? = some (.cells #[.int .i64 x.1, .int .i64 x.2] 39 (0, 0)) := (Sep.cells (l1 := RC q r v3 (x :: m.eraseIdx i) l) (l2 := [TO (.slice va (m.eraseIdx i).length vc) (m.eraseIdx i)]) (by simpa using hs3)).1
    have z0 : W3.cell? ⟨w.heap.size, 0, none⟩ = some (.int .i64 x.1) := by simp [World.cell?, hcb]
    have z1 : W3.cell? ⟨w.heap.size, 1, none⟩ = some (.int .i64 x.2) := by simp [World.cell?, hcb]
    refine hK _ _ ⟨z0, z1⟩ ?_
    have HF : Hid (Sep W3 B (RC q r v3 (leadL i x m) l)) := Lib.hid (by
      have h1 : Sep W3 B (RC q r v3 (x :: m.eraseIdx i) l ++ CellsO w.heap.size #[.int .i64 x.1, .int .i64 x.2] 39 :: [TO (.slice va (m.eraseIdx i).length vc) (m.eraseIdx i)]) := by simpa using hs3
      have h2 := h1.drop
      have h3 : Sep W3 B (RC q r v3 (x :: m.eraseIdx i) l ++ TO (.slice va (m.eraseIdx i).length vc) (m.eraseIdx i) :: []) := h2
      have h4 := h3.drop
      rw [List.append_nil] at h4
      exact h4)
    have HBF := Lib.hid (HB2.out.trans hb3)
    have zz := blk_lt z1
    clear hK K y0 y1 z0 hs3 hb3 hcb hfi HSD
    try simp only [Act.put, List.setIfInBounds_toArray, List.set_cons_zero, List.set_cons_succ]
    refine ordS_done (by kernel_rfl) ?_
    go_wp2
    go_ret2
    exact ⟨rfl, ⟨_, HF.out⟩, HBF.out⟩
end Go.Proofs.Ytbmpgafndpdnbaa
