/- Heap's laws: what comes out, one behind the other. -/
import Derived.Test.YtgcncimeedoplaaHs
namespace Go.Proofs.Ytgcncimeedoplaa
open Go.RowKit Go.Maps

theorem pop_len : ∀ {m : List Th} {t : Th}, (m.map Th.id).Nodup → t ∈ m → (m.filter (fun x => decide (x.id ≠ t.id))).length + 1 = m.length
  | [], _, _, h => by cases h
  | a :: m, t, hn, h => by
    by_cases e : a.id = t.id
    · have ha : t = a := by
        rcases List.mem_cons.1 h with h | h
        · exact h
        · rw [List.map_cons, List.nodup_cons] at hn
          exact absurd (List.mem_map.2 ⟨t, h, e.symm⟩) hn.1
      subst ha
      rw [filter_tail hn]
      simp
    · have hm : t ∈ m := by
        rcases List.mem_cons.1 h with h | h
        · exact absurd (by rw [h]) e
        · exact h
      rw [List.map_cons, List.nodup_cons] at hn
      have ih := pop_len hn.2 hm
      rw [List.filter_cons, if_pos (by simpa using e)]
      simp only [List.length_cons]
      omega
theorem pop_nodup {m : List Th} (h : (m.map Th.id).Nodup) : ((popM m).map Th.id).Nodup := h.sublist (List.Sublist.map _ List.filter_sublist)
theorem pop_mem {m : List Th} {x : Th} (h : x ∈ popM m) : x ∈ m ∧ x.id ≠ (firstT m).id := by
  have := List.mem_filter.1 h
  exact ⟨this.1, of_decide_eq_true this.2⟩
theorem pop_none (m : List Th) : findT (popM m) (firstT m).id = none := findT_none fun _ ht => (pop_mem ht).2
theorem ahead_less {a b : Th} (h : aheadT a b = false) : lessK a b = false ∧ (sameK a b = true → b.id ≤ a.id) := by
  rw [← Bool.not_eq_true, aheadT_iff] at h
  rw [← Bool.not_eq_true, less_iff]
  refine ⟨by omega, fun hs => ?_⟩
  have := of_decide_eq_true hs
  omega

/-- What holds as things come out. -/
structure PopI (qs : List Th) (k : Nat) (m : List Th) (cs : List Bool) (last : Th) : Prop where
  len : m.length + k = qs.length
  mem : ∀ x ∈ m, ∃ i : Nat, i < qs.length ∧ x = withId i (atT qs i) ∧ cs.getD i false = false
  cl : cs.length = qs.length
  nd : (m.map Th.id).Nodup
  srt : 0 < k → ∀ x ∈ m, aheadT x last = false
theorem PopI.start (qs : List Th) : PopI qs 0 (idxM qs) (List.replicate qs.length false) ⟨-1, 0, 0, 0, 0⟩ := by
  refine ⟨by rw [idxM_len]; rfl, fun x hx => ?_, by simp, idxM_nodup qs, fun h => absurd h (Nat.lt_irrefl 0)⟩
  obtain ⟨i, hi, e⟩ := mem_idx.1 hx
  exact ⟨i, hi, e, by simp [List.getD_eq_getElem?_getD, hi]⟩
theorem PopI.step {qs : List Th} {k : Nat} {m : List Th} {cs : List Bool} {last : Th} (h : PopI qs k m cs last) (hk : k < qs.length) :
    ∃ i : Nat, i < qs.length ∧ firstT m = withId i (atT qs i) ∧ cs.getD i false = false ∧ m.isEmpty = false ∧ (popM m).length + 1 + k = qs.length ∧
      (0 < k → lessK (atT qs i) last = false ∧ (sameK (atT qs i) last = true → last.id ≤ i)) ∧ findT (popM m) i = none ∧ PopI qs (k + 1) (popM m) (cs.set i true) (withId i (atT qs i)) := by
  have h0 : m ≠ [] := fun e => by have := h.len; rw [e] at this; simp at this; omega
  obtain ⟨h1, h2⟩ := firstT_least m h0
  obtain ⟨i, hi, e, hc⟩ := h.mem _ h1
  have hid : (firstT m).id = i := by rw [e]; rfl
  have hlen := pop_len h.nd h1
  have hl := h.len
  have hlen' : (popM m).length + 1 = m.length := hlen
  refine ⟨i, hi, e, hc, by cases m with | nil => exact absurd rfl h0 | cons _ _ => rfl, by omega, fun h3 => ?_, hid ▸ pop_none m, ⟨by omega, fun x hx => ?_, by simpa using h.cl, pop_nodup h.nd, fun _ x hx => ?_⟩⟩
  · have := ahead_less (h.srt h3 _ h1)
    rw [e] at this
    exact this
  · obtain ⟨hx1, hx2⟩ := pop_mem hx
    obtain ⟨j, hj, ej, hcj⟩ := h.mem x hx1
    refine ⟨j, hj, ej, ?_⟩
    rw [List.getD_eq_getElem?_getD, List.getElem?_set_ne]
    · rw [← List.getD_eq_getElem?_getD]; exact hcj
    · intro eij
      refine hx2 ?_
      rw [hid, ej]
      simp only [withId, eij]
  · rw [← e]
    exact h2 x (pop_mem hx).1
theorem PopI.done {qs : List Th} {m : List Th} {cs : List Bool} {last : Th} (h : PopI qs qs.length m cs last) : m = [] := by
  have := h.len
  exact List.eq_nil_of_length_eq_zero (by omega)

/-! ### Rows of truth values -/
def flatB (cs : List Bool) : List Value := cs.map Value.bool
theorem flatB_at {cs : List Bool} {i : Nat} (h : i < cs.length) : (flatB cs)[i]? = some (.bool (cs.getD i false)) := by
  simp [flatB, List.getD_eq_getElem?_getD, h]
theorem flatB_set (cs : List Bool) (i : Nat) (b : Bool) : (flatB cs).set i (.bool b) = flatB (cs.set i b) := by simp [flatB, List.map_set]
theorem flatB_len (cs : List Bool) : (flatB cs).length = cs.length := by simp [flatB]
theorem Try.infoB : (Try.prog.info? 4).map (fun i => (i.zero, i.size, i.bytes)) = some (some (.bool false), 1, 1) := by kernel_rfl
theorem madeB_eq (n : Nat) : madeCells (Value.bool false).cells (n * 1) = Array.replicate n (Value.bool false) := by
  apply Array.ext
  · simp [size_madeCells]
  · intro i h1 h2
    simp [madeCells, Nat.mod_one, Value.cells]
theorem make_bool (n : Nat) (hn : n ≤ 1048576) (w : World) : (Instr.makeSlice 56 (.int .i64 (n : Int)) (.int .i64 (n : Int))).run Try.prog w = .ok (.slice (some ⟨w.heap.size, 0, none⟩) n n) (w.alloc (.cells (Array.replicate n (Value.bool false)) 4)) := by
  obtain ⟨i0, hi, hz0, hz1, hz2⟩ := info_parts Try.infoB
  have hr := run_make (P := Try.prog) w 56 4 i0 (.bool false) Try.underlying56 hi hz0 .i64 .i64 n n (by omega) (Int.le_refl _) (by rw [hz2]; omega) (by omega)
  simp only [Int.toNat_natCast, hz1] at hr
  rw [madeB_eq] at hr
  exact hr
theorem Sep.bools {W : World} {B : Nat} {l : List Own} (h : Sep W B l) (n : Nat) (hn : n ≤ 1048576) : Sep (W.alloc (.cells (Array.replicate n (Value.bool false)) 4)) B (l ++ [RowO 4 1 (.slice (some ⟨W.heap.size, 0, none⟩) n n) n (flatB (List.replicate n false))]) := by
  have ho := World.ownsRow_lit (base := 0) (e := 4) (size := 1) W (Array.replicate n (Value.bool false)) n (Nat.zero_le _) (by unfold maxLen; omega) (by simp)
  refine h.new (S := fun k => k = W.heap.size) (bl_al (bl0 W) _) ⟨by simpa [flatB] using ho, fun k => by simp only [Value.ownBlock, Option.some.injEq]; exact eq_comm⟩ (fun k e => by rw [e]; exact Nat.le_refl _)
end Go.Proofs.Ytgcncimeedoplaa
