/- Heap: the calls, of one heap among others; the chapter's examples. -/
import Derived.Test.YtgcncimeedoplaaHn
namespace Go.Proofs.Ytgcncimeedoplaa
open Go.RowKit Go.Maps

/-- A block of one's own. -/
def CellsO (k : Nat) (cs : Array Value) (t : TypeId) : Own where
  P W S := W.heap[k]? = some (.cells cs t (0, 0)) ∧ ∀ x, S x ↔ x = k
  lt h x hx := by
    obtain rfl := (h.2 x).1 hx
    exact (Array.getElem?_eq_some_iff.1 h.1).1
  keep h _ hk := ⟨(hk _ ((h.2 _).2 rfl)).trans h.1, h.2⟩
theorem Sep.box {W : World} {B : Nat} {l : List Own} (h : Sep W B l) (cs : Array Value) (t : TypeId) : Sep (W.alloc (.cells cs t)) B (l ++ [CellsO W.heap.size cs t]) :=
  h.new (S := fun x => x = W.heap.size) (bl_al (bl0 W) _) ⟨heap_alloc_new _ _, fun _ => Iff.rfl⟩ (fun k e => by rw [e]; exact Nat.le_refl _)
theorem Sep.cells {W : World} {B : Nat} {l1 l2 : List Own} {k : Nat} {cs : Array Value} {t : TypeId} (h : Sep W B (l1 ++ CellsO k cs t :: l2)) : W.heap[k]? = some (.cells cs t (0, 0)) ∧ B ≤ k := by
  obtain ⟨S, h1, h2⟩ := h.at
  exact ⟨h1.1, (h2 k ((h1.2 k).2 rfl)).1⟩

section
variable {w : World} {B : Nat} {l1 l2 : List Own} {p : Nat} {m : List Th}
theorem new_sep {l : List Own} (h : Sep w B l) : Calls Try.prog 13 #[] w fun e w' => ∃ p, e = .returned (.pointer (some ⟨p, 0, none⟩)) ∧ Sep w' B (l ++ [HeapO p []]) ∧ Below w.heap.size w w' :=
  (hnew_any w).mono fun _ _ ⟨he, ht⟩ => ⟨_, he, (h.made ht).1, (h.made ht).2⟩
theorem push_sep (t : Th) (h : Sep w B (l1 ++ HeapO p m :: l2)) (ht : wfT t) (hm : m.length ≤ 1000000) :
    Calls Try.prog 14 #[.pointer (some ⟨p, 0, none⟩), .int .i64 t.id, .agg #[.int .u64 t.F, .int .u64 t.H, .int .i64 t.Y, .int .i64 t.X]] w fun e w' => e = .returned (.int .i64 (pushE m t.id)) ∧ Sep w' B (l1 ++ HeapO p (pushM m t) :: l2) ∧ Below B w w' :=
  h.op (fun S hS => hpush_any p m t S w hS ht hm)
theorem lower_sep (t : Th) (h : Sep w B (l1 ++ HeapO p m :: l2)) (ht : wfT t) (hm : m.length ≤ 1000000) :
    Calls Try.prog 16 #[.pointer (some ⟨p, 0, none⟩), .int .i64 t.id, .agg #[.int .u64 t.F, .int .u64 t.H, .int .i64 t.Y, .int .i64 t.X]] w fun e w' => e = .returned (.int .i64 (lowerE m t)) ∧ Sep w' B (l1 ++ HeapO p (lowerM m t) :: l2) ∧ Below B w w' :=
  h.op (fun S hS => hlower_any p m t S w hS ht hm)
theorem pop_sep (h : Sep w B (l1 ++ HeapO p m :: l2)) (hm : m.length ≤ 1000000) :
    Calls Try.prog 18 #[.pointer (some ⟨p, 0, none⟩)] w fun e w' => e = .returned (.tuple #[.int .i64 (firstT m).id, .agg #[.int .u64 (firstT m).F, .int .u64 (firstT m).H, .int .i64 (firstT m).Y, .int .i64 (firstT m).X], .bool (!m.isEmpty)]) ∧ Sep w' B (l1 ++ HeapO p (popM m) :: l2) ∧ Below B w w' :=
  h.op (fun S hS => hpop_any p m S w hS hm)
theorem clone_sep (h : Sep w B (l1 ++ HeapO p m :: l2)) (hm : m.length ≤ 1000000) :
    Calls Try.prog 24 #[.pointer (some ⟨p, 0, none⟩)] w fun e w' => ∃ q, e = .returned (.pointer (some ⟨q, 0, none⟩)) ∧ Sep w' B ((l1 ++ HeapO p m :: l2) ++ [HeapO q m]) ∧ Below w.heap.size w w' := by
  obtain ⟨S, h1, _⟩ := h.at
  exact (hclone_any p m S w h1 hm).mono fun _ _ ⟨q, he, ht⟩ => ⟨q, he, (h.made ht).1, (h.made ht).2⟩
theorem len_sep (h : Sep w B (l1 ++ HeapO p m :: l2)) : Calls Try.prog 23 #[.pointer (some ⟨p, 0, none⟩)] w fun e w' => e = .returned (.int .i64 (m.length : Nat)) ∧ w' = w := by
  obtain ⟨S, h1, _⟩ := h.at
  exact hlen_any p m S w h1
theorem key_sep (x : Int) (h : Sep w B (l1 ++ HeapO p m :: l2)) (hx : (Lit.int .i64 x).wf = true) :
    Calls Try.prog 21 #[.pointer (some ⟨p, 0, none⟩), .int .i64 x] w fun e w' => e = .returned (.tuple #[.agg #[.int .u64 (keyA m x).F, .int .u64 (keyA m x).H, .int .i64 (keyA m x).Y, .int .i64 (keyA m x).X], .bool (findT m x).isSome]) ∧ Sep w' B (l1 ++ HeapO p m :: l2) ∧ Below w.heap.size w w' := by
  obtain ⟨S, h1, _⟩ := h.at
  exact (hkey_any p m x S w h1 hx).mono fun _ _ ⟨he, hb⟩ => ⟨he, h.below hb, hb⟩
end

set_option maxRecDepth 100000 in
set_option maxHeartbeats 4000000 in
theorem hawake (w : World) : Calls Try.prog 12 #[] w fun e w' => e = .returned (.bool true) ∧ Below w.heap.size w w' := by
  have h0 : Sep w w.heap.size [] := Sep.nil (Nat.le_refl _)
  go_enter Try.func12, Try.ntmps12
  go_wp2_with fail
  refine (new_sep h0).mono ?_
  rintro e w1 ⟨p, rfl, h1, hA⟩
  have hcall := push_sep (l1 := []) (l2 := []) ⟨5, 3, 0, 0, 0⟩ h1 (by rfl) (by simp)
  rw [show pushE [] (Th.id ⟨5, 3, 0, 0, 0⟩) = 0 from by decide, show pushM [] ⟨5, 3, 0, 0, 0⟩ = [⟨5, 3, 0, 0, 0⟩] from by decide] at hcall
  try dsimp only at hcall
  go_wp2_with fail
  refine hcall.mono ?_
  rintro e w2 ⟨rfl, h2, b⟩
  replace hA := hA.trans b
  clear b h1
  clear hcall
  have hcall := push_sep (l1 := []) (l2 := []) ⟨9, 3, 0, 0, 0⟩ h2 (by rfl) (by simp)
  rw [show pushE [⟨5, 3, 0, 0, 0⟩] (Th.id ⟨9, 3, 0, 0, 0⟩) = 0 from by decide, show pushM [⟨5, 3, 0, 0, 0⟩] ⟨9, 3, 0, 0, 0⟩ = [⟨5, 3, 0, 0, 0⟩, ⟨9, 3, 0, 0, 0⟩] from by decide] at hcall
  try dsimp only at hcall
  go_wp2_with fail
  refine hcall.mono ?_
  rintro e w3 ⟨rfl, h3, b⟩
  replace hA := hA.trans b
  clear b h2
  clear hcall
  have hcall := push_sep (l1 := []) (l2 := []) ⟨2, 4, 0, 0, 0⟩ h3 (by rfl) (by simp)
  rw [show pushE [⟨5, 3, 0, 0, 0⟩, ⟨9, 3, 0, 0, 0⟩] (Th.id ⟨2, 4, 0, 0, 0⟩) = 0 from by decide, show pushM [⟨5, 3, 0, 0, 0⟩, ⟨9, 3, 0, 0, 0⟩] ⟨2, 4, 0, 0, 0⟩ = [⟨5, 3, 0, 0, 0⟩, ⟨9, 3, 0, 0, 0⟩, ⟨2, 4, 0, 0, 0⟩] from by decide] at hcall
  try dsimp only at hcall
  go_wp2_with fail
  refine hcall.mono ?_
  rintro e w4 ⟨rfl, h4, b⟩
  replace hA := hA.trans b
  clear b h3
  clear hcall
  have hcall := clone_sep (l1 := []) (l2 := []) h4 (by simp)
  try dsimp only at hcall
  go_wp2_with fail
  refine hcall.mono ?_
  rintro e w5 ⟨q, rfl, h5, b⟩
  replace hA := bl_tr hA b
  clear b h4
  clear hcall
  have hcall := lower_sep (l1 := [HeapO p [⟨5, 3, 0, 0, 0⟩, ⟨9, 3, 0, 0, 0⟩, ⟨2, 4, 0, 0, 0⟩]]) (l2 := []) ⟨2, 3, 0, -1, 0⟩ h5 (by rfl) (by simp)
  rw [show lowerE [⟨5, 3, 0, 0, 0⟩, ⟨9, 3, 0, 0, 0⟩, ⟨2, 4, 0, 0, 0⟩] ⟨2, 3, 0, -1, 0⟩ = 0 from by decide, show lowerM [⟨5, 3, 0, 0, 0⟩, ⟨9, 3, 0, 0, 0⟩, ⟨2, 4, 0, 0, 0⟩] ⟨2, 3, 0, -1, 0⟩ = [⟨5, 3, 0, 0, 0⟩, ⟨9, 3, 0, 0, 0⟩, ⟨2, 3, 0, -1, 0⟩] from by decide] at hcall
  try dsimp only at hcall
  go_wp2_with fail
  refine hcall.mono ?_
  rintro e w6 ⟨rfl, h6, b⟩
  replace hA := hA.trans b
  clear b h5
  clear hcall
  have hcall := pop_sep (l1 := []) (l2 := [HeapO q [⟨5, 3, 0, 0, 0⟩, ⟨9, 3, 0, 0, 0⟩, ⟨2, 3, 0, -1, 0⟩]]) h6 (by simp)
  rw [show firstT [⟨5, 3, 0, 0, 0⟩, ⟨9, 3, 0, 0, 0⟩, ⟨2, 4, 0, 0, 0⟩] = ⟨5, 3, 0, 0, 0⟩ from by decide, show popM [⟨5, 3, 0, 0, 0⟩, ⟨9, 3, 0, 0, 0⟩, ⟨2, 4, 0, 0, 0⟩] = [⟨9, 3, 0, 0, 0⟩, ⟨2, 4, 0, 0, 0⟩] from by decide, show (!([⟨5, 3, 0, 0, 0⟩, ⟨9, 3, 0, 0, 0⟩, ⟨2, 4, 0, 0, 0⟩] : List Th).isEmpty) = true from by decide] at hcall
  try dsimp only at hcall
  go_wp2_with fail
  refine hcall.mono ?_
  rintro e w7 ⟨rfl, h7, b⟩
  replace hA := hA.trans b
  replace h7 := h7.box #[.int .u64 3, .int .u64 0, .int .i64 0, .int .i64 0] 24
  replace hA := bl_al hA (.cells #[.int .u64 3, .int .u64 0, .int .i64 0, .int .i64 0] 24)
  clear b h6
  clear hcall
  have hcall := pop_sep (l1 := []) (l2 := [HeapO q [⟨5, 3, 0, 0, 0⟩, ⟨9, 3, 0, 0, 0⟩, ⟨2, 3, 0, -1, 0⟩], CellsO w7.heap.size #[.int .u64 3, .int .u64 0, .int .i64 0, .int .i64 0] 24]) h7 (by simp)
  rw [show firstT [⟨9, 3, 0, 0, 0⟩, ⟨2, 4, 0, 0, 0⟩] = ⟨9, 3, 0, 0, 0⟩ from by decide, show popM [⟨9, 3, 0, 0, 0⟩, ⟨2, 4, 0, 0, 0⟩] = [⟨2, 4, 0, 0, 0⟩] from by decide, show (!([⟨9, 3, 0, 0, 0⟩, ⟨2, 4, 0, 0, 0⟩] : List Th).isEmpty) = true from by decide] at hcall
  try dsimp only at hcall
  go_wp2_with fail
  refine hcall.mono ?_
  rintro e w8 ⟨rfl, h8, b⟩
  replace hA := hA.trans b
  replace h8 := h8.box #[.int .u64 3, .int .u64 0, .int .i64 0, .int .i64 0] 24
  replace hA := bl_al hA (.cells #[.int .u64 3, .int .u64 0, .int .i64 0, .int .i64 0] 24)
  clear b h7
  clear hcall
  have hcall := pop_sep (l1 := [HeapO p [⟨2, 4, 0, 0, 0⟩]]) (l2 := [CellsO w7.heap.size #[.int .u64 3, .int .u64 0, .int .i64 0, .int .i64 0] 24, CellsO w8.heap.size #[.int .u64 3, .int .u64 0, .int .i64 0, .int .i64 0] 24]) h8 (by simp)
  rw [show firstT [⟨5, 3, 0, 0, 0⟩, ⟨9, 3, 0, 0, 0⟩, ⟨2, 3, 0, -1, 0⟩] = ⟨2, 3, 0, -1, 0⟩ from by decide, show popM [⟨5, 3, 0, 0, 0⟩, ⟨9, 3, 0, 0, 0⟩, ⟨2, 3, 0, -1, 0⟩] = [⟨5, 3, 0, 0, 0⟩, ⟨9, 3, 0, 0, 0⟩] from by decide, show (!([⟨5, 3, 0, 0, 0⟩, ⟨9, 3, 0, 0, 0⟩, ⟨2, 3, 0, -1, 0⟩] : List Th).isEmpty) = true from by decide] at hcall
  try dsimp only at hcall
  go_wp2_with fail
  refine hcall.mono ?_
  rintro e w9 ⟨rfl, h9, b⟩
  replace hA := hA.trans b
  obtain ⟨r7, _⟩ := Sep.cells (l1 := [HeapO p [⟨2, 4, 0, 0, 0⟩], HeapO q [⟨5, 3, 0, 0, 0⟩, ⟨9, 3, 0, 0, 0⟩]]) (l2 := [CellsO w8.heap.size #[.int .u64 3, .int .u64 0, .int .i64 0, .int .i64 0] 24]) h9
  clear b h8 h9
  clear hcall
  have y0 : w9.cell? ⟨w7.heap.size, 0, none⟩ = some (.int .u64 3) := by simp [World.cell?, r7]
  have y1 : w9.cell? ⟨w7.heap.size, 1, none⟩ = some (.int .u64 0) := by simp [World.cell?, r7]
  have y2 : w9.cell? ⟨w7.heap.size, 2, none⟩ = some (.int .i64 0) := by simp [World.cell?, r7]
  have y3 : w9.cell? ⟨w7.heap.size, 3, none⟩ = some (.int .i64 0) := by simp [World.cell?, r7]
  have zy := blk_lt y0
  have HA := Lib.hid hA
  clear hA r7
  go_wp2
  go_ret
  exact ⟨rfl, bl_al HA.out _⟩
end Go.Proofs.Ytgcncimeedoplaa
