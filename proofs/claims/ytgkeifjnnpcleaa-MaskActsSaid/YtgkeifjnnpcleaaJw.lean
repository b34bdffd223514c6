/- The document's answer for sets: a new set. -/
import Derived.Test.YtgkeifjnnpcleaaKe
import Derived.Test.YtgkeifjnnpcleaaRa
namespace Go.Proofs.Ytgkeifjnnpcleaa
open Go.RowKit

/-- A set of the reference: its size, and of each cell whether it is in. -/
def RefAt (W : World) (b h : Nat) (X Y : Int) (fs : List Bool) : Prop :=
  W.heap[b]? = some (.cells #[.int .i64 X, .int .i64 Y, .slice (some ⟨h, 0, none⟩) fs.length fs.length] 79 (0, 0)) ∧
  W.heap[h]? = some (.cells (fs.map Value.bool).toArray 4 (0, 0))
theorem Try.infoBool : (Try.prog.info? 4).map (fun i => (i.zero, i.size, i.bytes)) = some (some (.bool false), 1, 1) := by kernel_rfl
theorem make_bool (n : Nat) (hn : n ≤ 1048576) (w : World) : (Instr.makeSlice 77 (.int .i64 (n : Int)) (.int .i64 (n : Int))).run Try.prog w = .ok (.slice (some ⟨w.heap.size, 0, none⟩) n n) (w.alloc (.cells (Array.replicate n (Value.bool false)) 4)) := by
  have := run_make_row' (P := Try.prog) 77 4 (.bool false) 1 Try.underlying77 Try.infoBool rfl .i64 .i64 n (by omega) (by omega) w
  rw [made_eq] at this
  exact this

set_option maxHeartbeats 1600000 in
theorem rnew_no (X Y : Int) (w : World) (hm : mayB X Y = false) :
    Calls Try.prog 12 #[.agg #[.int .i64 X, .int .i64 Y]] w fun e w' => e = .returned (.pointer none) ∧ Below w.heap.size w w' := by
  go_enter Try.func12, Try.ntmps12
  go_wp2_with (go_at_call 39; refine (rmay_any _ _ _).mono ?_; rintro e w' ⟨rfl, hb⟩; obtain ⟨hc, hf⟩ := bcell hb)
  go_ret
  exact ⟨rfl, bl_tr (bl_al (bl0 _) _) hb⟩

set_option maxHeartbeats 1600000 in
theorem rnew_yes (X Y : Int) (w : World) (hm : mayB X Y = true) :
    Calls Try.prog 12 #[.agg #[.int .i64 X, .int .i64 Y]] w fun e w' => ∃ b h, e = .returned (.pointer (some ⟨b, 0, none⟩)) ∧ RefAt w' b h X Y (List.replicate (X * Y).toNat false) ∧ w.heap.size ≤ b ∧ w.heap.size ≤ h ∧ b ≠ h ∧ Below w.heap.size w w' := by
  obtain ⟨h1, h2, h3, h4⟩ := mayB_iff.1 hm
  obtain ⟨m1, m2⟩ : 0 ≤ X * Y ∧ X * Y ≤ 65536 := ⟨Int.mul_nonneg (by omega) (by omega), by have a : X * Y ≤ 256 * Y := Int.mul_le_mul_of_nonneg_right h2 (by omega); omega⟩
  obtain ⟨n, hn⟩ : ∃ n : Nat, (n : Int) = X * Y := ⟨(X * Y).toNat, by omega⟩
  have hmk := fun w => make_bool n (by omega) w
  have hw : IntKind.i64.wrap (X * Y) = X * Y := IntWalk.i64_in _ (by omega)
  rw [hn] at hmk
  have HN := Lib.hid (show (X * Y).toNat = n by omega)
  go_enter Try.func12, Try.ntmps12
  clear hn
  go_wp2_with (go_at_call 39; refine (rmay_any _ _ _).mono ?_; rintro e w' ⟨rfl, hb⟩; obtain ⟨hc, hf⟩ := bcell hb)
  have c0 : w'.cell? ⟨w.heap.size, 0, none⟩ = some (.int .i64 X) := (hc _ _ (by simp)).trans (by simp [go_sem])
  have c1 : w'.cell? ⟨w.heap.size, 1, none⟩ = some (.int .i64 Y) := (hc _ _ (by simp)).trans (by simp [go_sem])
  have hbw := bl_tr (bl_al (bl0 w) _) hb
  clear hc hf hb
  have z0 := blk_lt c0
  have z1 : w.heap.size < w'.heap.size + 1 := by omega
  have hA := bl_dr (bl0 w')
  go_region_held3 (fun w2 => w2.cell? ⟨w.heap.size, 0, none⟩ = some (.int .i64 X) ∧ w2.cell? ⟨w.heap.size, 1, none⟩ = some (.int .i64 Y))
    (first | exact ⟨cell_later hA c0, cell_later hA c1⟩ | exact ⟨cell_later (bl_al hA _) c0, cell_later (bl_al hA _) c1⟩ | exact ⟨cell_later (bl_al (bl_al hA _) _) c0, cell_later (bl_al (bl_al hA _) _) c1⟩)
    (fail)
  go_wp2
  go_ret
  have h9 := hbw.size
  refine ⟨w'.heap.size + 1, w'.heap.size, rfl, ?_, by omega, by omega, by omega, bl_dr (bl_al (bl_al hbw _) _)⟩
  rw [HN.out]
  refine ⟨?_, ?_⟩
  · rw [List.length_replicate]
    have h := heap_alloc_new (w'.alloc (.cells (Array.replicate n (Value.bool false)) 4)) (.cells #[.int .i64 X, .int .i64 Y, .slice (some ⟨w'.heap.size, 0, none⟩) n n] 79)
    rw [World.size_alloc] at h
    exact h
  · show ((w'.alloc (.cells (Array.replicate n (Value.bool false)) 4)).alloc _).heap[w'.heap.size]? = _
    rw [Below.heap_alloc _ _ _ (by simp), heap_alloc_new]
    simp
end Go.Proofs.Ytgkeifjnnpcleaa
