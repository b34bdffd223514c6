/- Package mask: New, Bytes, Clone. -/
import Derived.Test.YtgkeifjnnpcleaaKc
import Derived.OwnWalk
import Derived.Deep.OwnRows
import Derived.Laws.CopyOwn
namespace Go.Proofs.Ytgkeifjnnpcleaa
open Go.RowKit

set_option maxHeartbeats 1600000 in
theorem new_no (X Y : Int) (w : World) (hm : mayB X Y = false) :
    Calls Try.prog 11 #[.agg #[.int .i64 X, .int .i64 Y]] w fun e w' => e = .returned (.tuple #[.pointer none, .int .i64 10]) ∧ Below w.heap.size w w' := by
  have hA := bl0 w
  go_enter Try.func11, Try.ntmps11
  go_wp2_with (go_at_call 27; refine (may_any _ _ _).mono ?_; rintro e w' ⟨rfl, hb⟩; obtain ⟨hc, hf⟩ := bcell hb)
  go_ret2
  exact ⟨rfl, bl_tr (bl_al (bl0 _) _) hb⟩

theorem Try.infoU8 : (Try.prog.info? 5).map (fun i => (i.zero, i.size, i.bytes)) = some (some (.int .u8 0), 1, 1) := by kernel_rfl
theorem made_eq (n : Nat) (v : Value) : madeCells #[v] n = Array.replicate n v := by
  apply Array.ext
  · simp [madeCells]
  · intro i h1 h2
    simp [madeCells, Nat.mod_one]
theorem make_u8 (n : Nat) (hn : n ≤ 1048576) (w : World) : (Instr.makeSlice 46 (.int .i64 (n : Int)) (.int .i64 (n : Int))).run Try.prog w = .ok (.slice (some ⟨w.heap.size, 0, none⟩) n n) (w.alloc (.cells (Array.replicate n (Value.int .u8 0)) 5)) := by
  have := run_make_row' (P := Try.prog) 46 5 (.int .u8 0) 1 Try.underlying46 Try.infoU8 rfl .i64 .i64 n (by omega) (by omega) w
  rw [made_eq] at this
  exact this

set_option maxHeartbeats 1600000 in
theorem new_yes (X Y : Int) (w : World) (hm : mayB X Y = true) :
    Calls Try.prog 11 #[.agg #[.int .i64 X, .int .i64 Y]] w fun e w' => ∃ b h, e = .returned (.tuple #[.pointer (some ⟨b, 0, none⟩), .int .i64 0]) ∧ MaskAt w' b h X Y (List.replicate ((X * Y + 7) / 8).toNat 0) ∧ w.heap.size ≤ b ∧ w.heap.size ≤ h ∧ b ≠ h ∧ Below w.heap.size w w' := by
  obtain ⟨h1, h2, h3, h4⟩ := mayB_iff.1 hm
  obtain ⟨m1, m2⟩ : 0 ≤ X * Y ∧ X * Y ≤ 65536 := ⟨Int.mul_nonneg (by omega) (by omega), by have a : X * Y ≤ 256 * Y := Int.mul_le_mul_of_nonneg_right h2 (by omega); omega⟩
  obtain ⟨n, hn⟩ : ∃ n : Nat, (n : Int) = (X * Y + 7) / 8 := ⟨((X * Y + 7) / 8).toNat, by omega⟩
  have hmk := fun w => make_u8 n (by omega) w
  rw [hn] at hmk
  have HN := Lib.hid (show ((X * Y + 7) / 8).toNat = n by omega)
  go_enter Try.func11, Try.ntmps11
  clear hn
  go_wp2_with (go_at_call 27; refine (may_any _ _ _).mono ?_; rintro e w' ⟨rfl, hb⟩; obtain ⟨hc, hf⟩ := bcell hb)
  have c0 : w'.cell? ⟨w.heap.size, 0, none⟩ = some (.int .i64 X) := (hc _ _ (by simp)).trans (by simp [go_sem])
  have c1 : w'.cell? ⟨w.heap.size, 1, none⟩ = some (.int .i64 Y) := (hc _ _ (by simp)).trans (by simp [go_sem])
  have hbw := bl_tr (bl_al (bl0 w) _) hb
  clear hc hf hb
  have hA := bl_dr (bl0 w')
  go_region_held3 (fun w2 => w2.cell? ⟨w.heap.size, 0, none⟩ = some (.int .i64 X) ∧ w2.cell? ⟨w.heap.size, 1, none⟩ = some (.int .i64 Y))
    (first | exact ⟨cell_later hA c0, cell_later hA c1⟩ | exact ⟨cell_later (bl_al hA _) c0, cell_later (bl_al hA _) c1⟩ | exact ⟨cell_later (bl_al (bl_al hA _) _) c0, cell_later (bl_al (bl_al hA _) _) c1⟩)
    ((go_at_call 40; refine (length_any _ _ _ hm).mono ?_; rintro e W2 ⟨rfl, hb⟩; replace hA := bl_tr hA hb; clear hb))
  go_wp2
  go_ret2
  have hsz := bl_tr hbw hA
  have h9 := hsz.size
  refine ⟨W2.heap.size + 1, W2.heap.size, rfl, ?_, by omega, by omega, by omega, bl_al (bl_al hsz _) _⟩
  rw [HN.out]
  refine ⟨?_, ?_⟩
  · rw [List.length_replicate]
    have h := heap_alloc_new (W2.alloc (.cells (Array.replicate n (Value.int .u8 0)) 5)) (.cells #[.int .i64 X, .int .i64 Y, .slice (some ⟨W2.heap.size, 0, none⟩) n n] 76)
    rw [World.size_alloc] at h
    exact h
  · rw [Below.heap_alloc _ _ _ (by simp), heap_alloc_new]
    simp

/-- copy of as many bytes as there is room for. -/
theorem copy_all (V : World) (g h c : Nat) (cs : List Value) (cur : Array Value) (hcur : cur.size = cs.length) (hg : V.heap[g]? = some (.cells cur 5 (0, 0))) (hh : ∀ (j : Nat) u, cs[j]? = some u → V.cell? ⟨h, j, none⟩ = some u) (h1 : ∀ v ∈ cs, v.oneCell' = true) :
    (Builtin.copy_ #[46, 46] 3 #[.slice (some ⟨g, 0, none⟩) cs.length c, .slice (some ⟨h, 0, none⟩) cs.length cs.length]).run Try.prog V = .ok (goInt cs.length) (V.setRow g cs.toArray) := by
  have hs : (Try.prog.info? 5).map (·.size) = some 1 := by kernel_rfl
  have hadd : ∀ j, (⟨h, 0, none⟩ : Addr).add j = ⟨h, j, none⟩ := fun j => by unfold Addr.add; split <;> simp_all
  have := run_copy_row (P := Try.prog) V 46 46 3 5 g 0 cs.length c ⟨h, 0, none⟩ cs.length cs.length cur 5 cs Try.underlying46 hs hg (by simp) (fun j u hu => by rw [hadd]; exact hh j u hu) (by omega) h1
  rw [this]
  congr 3
  simp [← hcur]

set_option maxHeartbeats 1600000 in
theorem bytes_any (b h : Nat) (X Y : Int) (bs : List Nat) (w : World) (hm : MaskAt w b h X Y bs) (hl : bs.length ≤ 65536) :
    Calls Try.prog 23 #[.pointer (some ⟨b, 0, none⟩)] w fun e w' => e = .returned (.slice (some ⟨w.heap.size, 0, none⟩) bs.length bs.length) ∧
      w'.heap[w.heap.size]? = some (.cells (bs.map (fun x : Nat => Value.int .u8 (x : Int))).toArray 5 (0, 0)) ∧ Below w.heap.size w w' := by
  have c2 := hm.c2
  have z0 := hm.lt.1
  have z1 := hm.lt.2
  have hl2 : (bs.length : Int) ≤ 65536 := by omega
  have hmk := fun w => make_u8 bs.length (by omega) w
  have hnew : (w.alloc (.cells (Array.replicate bs.length (Value.int .u8 0)) 5)).heap[w.heap.size]? = some (.cells (Array.replicate bs.length (Value.int .u8 0)) 5 (0, 0)) := heap_alloc_new w _
  have hcp := copy_all (w.alloc (.cells (Array.replicate bs.length (Value.int .u8 0)) 5)) w.heap.size h bs.length (bs.map (fun x : Nat => Value.int .u8 (x : Int))) _ (by simp) hnew (fun j u hu => by
      have hb := (hm.below (bl_al (bl0 w) (.cells (Array.replicate bs.length (Value.int .u8 0)) 5)))
      rw [List.getElem?_map, Option.map_eq_some_iff] at hu
      obtain ⟨x, hx, rfl⟩ := hu
      exact hb.at hx) (fun v hv => by
      obtain ⟨x, _, rfl⟩ := List.mem_map.1 hv
      rfl)
  rw [List.length_map] at hcp
  have hrow : ((w.alloc (.cells (Array.replicate bs.length (Value.int .u8 0)) 5)).setRow w.heap.size (bs.map (fun x : Nat => Value.int .u8 (x : Int))).toArray).heap[w.heap.size]? = some (.cells (bs.map (fun x : Nat => Value.int .u8 (x : Int))).toArray 5 (0, 0)) := setRow_heap _ _ _ _ _ _ hnew
  have HR := Lib.hid hrow
  clear hrow hnew hm
  generalize (bs.map (fun x : Nat => Value.int .u8 (x : Int))).toArray = vs at hcp HR
  go_enter Try.func23, Try.ntmps23
  go_wp2
  go_ret
  refine ⟨rfl, HR.out, ?_⟩
  exact below_setRow (bl_al (bl0 w) _) (Nat.le_refl _) _
end Go.Proofs.Ytgkeifjnnpcleaa
