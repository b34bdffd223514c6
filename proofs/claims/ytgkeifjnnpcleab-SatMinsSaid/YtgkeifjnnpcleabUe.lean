/- Package sat: rows that a closure tells; Join. -/
import Derived.Test.YtgkeifjnnpcleabUc
import Derived.Shelf.Abstract
import Derived.Deep.OwnRows
import Derived.Laws.CopyOwn
namespace Go.Proofs.Ytgkeifjnnpcleab
open Go.RowKit

theorem Try.infoU64 : (Try.prog.info? 23).map (fun i => (i.zero, i.size, i.bytes)) = some (some (.int .u64 0), 1, 8) := by kernel_rfl
theorem made_eq (n : Nat) (v : Value) : madeCells #[v] n = Array.replicate n v := by
  apply Array.ext
  · simp [madeCells]
  · intro i h1 h2
    simp [madeCells, Nat.mod_one]
theorem make_u64 (n : Nat) (hn : n ≤ 1048576) (w : World) : (Instr.makeSlice 22 (.int .i64 (n : Int)) (.int .i64 (n : Int))).run Try.prog w = .ok (.slice (some ⟨w.heap.size, 0, none⟩) n n) (w.alloc (.cells (Array.replicate n (Value.int .u64 0)) 23)) := by
  have := run_make_row' (P := Try.prog) 22 23 (.int .u64 0) 8 Try.underlying22 Try.infoU64 rfl .i64 .i64 n (by omega) (by omega) w
  rw [made_eq] at this
  exact this

/-- The first k costs told, and the others 0. -/
def RowTo (W : World) (g n k : Nat) (f : Nat → Int) : Prop := W.heap[g]? = some (.cells ((List.range n).map (fun j => Value.int .u64 (if j < k then f j else 0))).toArray 23 (0, 0))
theorem rowTo_zero {w : World} {n : Nat} (f : Nat → Int) : RowTo (w.alloc (.cells (Array.replicate n (Value.int .u64 0)) 23)) w.heap.size n 0 f := by
  unfold RowTo
  rw [heap_alloc_new]
  congr 2
  apply Array.ext
  · simp
  · intro i h1 h2
    simp
theorem RowTo.succ {W : World} {g n k : Nat} {f : Nat → Int} (h : RowTo W g n k f) : RowTo (W.setCell ⟨g, k, none⟩ (.int .u64 (f k))) g n (k + 1) f := by
  unfold RowTo at *
  rw [heap_setCell_same _ _ _ _ _ _ h, List.setIfInBounds_toArray]
  congr 3
  refine List.ext_getElem (by simp) fun i h1 h2 => ?_
  simp only [List.getElem_set, List.getElem_map, List.getElem_range]
  by_cases e : k = i
  · subst e; simp
  · rw [if_neg e]
    by_cases h : i < k
    · rw [if_pos h, if_pos (by omega)]
    · rw [if_neg h, if_neg (by omega)]
theorem RowTo.cell {W : World} {g n k j : Nat} {f : Nat → Int} (h : RowTo W g n k f) (hj : j < n) : W.cell? ⟨g, j, none⟩ = some (.int .u64 (if j < k then f j else 0)) := by
  simp [World.cell?, show W.heap[g]? = _ from h, hj]
theorem RowTo.fz {W : World} {g n k j : Nat} {f : Nat → Int} (h : RowTo W g n k f) : W.frozen? ⟨g, j, none⟩ = false := by
  simp [World.frozen?, show W.heap[g]? = _ from h]
theorem RowTo.below {W W' : World} {g n k : Nat} {f : Nat → Int} (h : RowTo W g n k f) (hb : Below W.heap.size W W') : RowTo W' g n k f := (hb.block g (Array.getElem?_eq_some_iff.1 h).1).trans h
theorem RowTo.row {W : World} {g n : Nat} {f : Nat → Int} (h : RowTo W g n n f) : RowU W (some ⟨g, 0, none⟩) ((List.range n).map f) := by
  refine .inr ⟨g, 0, rfl, fun i z hz => ?_⟩
  rw [List.getElem?_map, Option.map_eq_some_iff] at hz
  obtain ⟨j, hj, rfl⟩ := hz
  have hi : i < n := by have := (List.getElem?_eq_some_iff.1 hj).1; simpa using this
  obtain rfl : i = j := by simpa [hi] using hj
  rw [Nat.zero_add, h.cell hi, if_pos hi]

set_option maxHeartbeats 800000 in
theorem row_any (F : FuncId) (cap : Array Value) (n : Nat) (f : Nat → Int) (w : World) (hn : n ≤ 1048576) (hF : ∀ args w, (callFunc F args).run Try.prog w = .ok (.enter F args) w)
    (hat : ∀ (k : Nat) (W : World), k < n → Below w.heap.size w W → Calls Try.prog F (#[.int .i64 (k : Int)] ++ cap) W fun e W' => e = .returned (.int .u64 (f k)) ∧ Below W.heap.size W W') :
    Calls Try.prog 25 #[.int .i64 (n : Int), .func (.func F) #[] cap] w fun e w' => e = .returned (.slice (some ⟨w.heap.size, 0, none⟩) n n) ∧ RowU w' (some ⟨w.heap.size, 0, none⟩) ((List.range n).map f) ∧ Below w.heap.size w w' := by
  have hmk := fun w => make_u64 n hn w
  have hn2 : (n : Int) ≤ 1048576 := by omega
  have HAT := Lib.hid hat
  clear hat
  have h0 := rowTo_zero (w := w) (n := n) f
  have HR := Lib.hid h0
  clear h0
  go_enter Try.func25, Try.ntmps25
  go_wp2
  obtain ⟨g, hg⟩ : ∃ g, w.heap.size = g := ⟨_, rfl⟩
  have hB0 : Below g w (w.alloc (.cells (Array.replicate n (Value.int .u64 0)) 23)) := by rw [← hg]; exact bl_al (bl0 w) _
  rw [hg] at HR
  have HG := Lib.hid hg
  rw [hg]
  clear hg hmk
  go_loopw [11] (fun i wr => ∃ k : Nat, k ≤ n ∧ i = .int .i64 k ∧ RowTo wr g n k f ∧ Below g w wr) (fun i _ => n - (intOf i).toNat)
  case atStart => exact ⟨0, Nat.zero_le _, rfl, HR.out, hB0⟩
  case round =>
    clear hB0 HR
    obtain ⟨k, hk, rfl, hrow, hB⟩ := hrel
    by_cases hlt : k < n
    · have hlt2 : (k : Int) < (n : Int) := by omega
      have hk0 : (0 : Int) ≤ (k : Int) := by omega
      have HB := Lib.hid hB
      have HRW := Lib.hid hrow
      clear hB hrow
      go_wp2_with fail
      refine (HAT.out k _ hlt (by rw [HG.out]; exact HB.out)).mono ?_
      rintro e W2 ⟨rfl, hb⟩
      have hr2 := HRW.out.below hb
      have q := hr2.cell hlt
      have fz := hr2.fz (j := k)
      have HR2 := Lib.hid hr2
      have HB2 := Lib.hid (HB.out.trans (hb.mono (by rw [← HG.out]; exact HB.out.size)))
      clear hb HRW HB hr2
      go_wp2
      go_roundw
      case rel => exact ⟨k + 1, by omega, by go_num, HR2.out.succ, HB2.out.setCell (p := ⟨g, k, none⟩) (Nat.le_refl _) _⟩
      case measure => simp [intOf]; omega
    · obtain rfl : k = n := by omega
      have hge : (k : Int) ≤ (k : Int) := by omega
      go_wp2
      go_ret
      rw [HG.out]
      exact ⟨rfl, hrow.row, hB⟩
end Go.Proofs.Ytgkeifjnnpcleab
