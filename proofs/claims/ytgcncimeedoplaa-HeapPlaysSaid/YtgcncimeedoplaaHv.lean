/- Heap's laws: what acts do. -/
import Derived.Test.YtgcncimeedoplaaHs
namespace Go.Proofs.Ytgcncimeedoplaa
open Go.RowKit Go.Maps

def stepM (m : List Th) (a : ActD) : List Th := if a.d = 0 then pushM m a.t else if a.d = 1 then lowerM m a.t else popM m
def runM (l : List ActD) : List Th := l.foldl stepM []
theorem runM_snoc {l : List ActD} {k : Nat} (h : k < l.length) : runM (l.take (k + 1)) = stepM (runM (l.take k)) (atD l k) := by
  unfold runM
  rw [List.take_succ_eq_append_getElem h, List.foldl_append]
  simp [atD, List.getD_eq_getElem?_getD, h]
theorem pushM_len (m : List Th) (t : Th) : (pushM m t).length ≤ m.length + 1 := by
  unfold pushM; split <;> simp
theorem lowerM_len (m : List Th) (t : Th) : (lowerM m t).length = m.length := by
  unfold lowerM
  cases findT m t.id with
  | none => rfl
  | some x =>
    simp only
    split <;> simp
theorem popM_len (m : List Th) : (popM m).length ≤ m.length := List.length_filter_le _ _
theorem stepM_len (m : List Th) (a : ActD) : (stepM m a).length ≤ m.length + 1 := by
  unfold stepM
  have h1 := pushM_len m a.t
  have h2 := lowerM_len m a.t
  have h3 := popM_len m
  split
  · exact h1
  · split <;> omega
theorem runM_len (l : List ActD) : ∀ k, (runM (l.take k)).length ≤ k
  | 0 => by simp [runM]
  | k + 1 => by
    by_cases h : k < l.length
    · have ih := runM_len l k
      have := stepM_len (runM (l.take k)) (atD l k)
      rw [runM_snoc h]
      omega
    · have ih := runM_len l k
      have e : l.take (k + 1) = l.take k := by rw [List.take_of_length_le (by omega), List.take_of_length_le (by omega)]
      rw [e]
      omega

set_option maxRecDepth 100000 in
set_option maxHeartbeats 4000000 in
theorem does_sep {w : World} {B : Nat} {l1 l2 : List Own} {p : Nat} {m : List Th} (d : Int) (t : Th) (h : Sep w B (l1 ++ HeapO p m :: l2)) (ht : wfT t) (hm : m.length ≤ 1000000) :
    Calls Try.prog 26 #[.pointer (some ⟨p, 0, none⟩), .agg #[.int .i64 d, .int .i64 t.id, .int .u64 t.F, .int .u64 t.H, .int .i64 t.Y, .int .i64 t.X]] w fun e w' => e = .returned (.tuple #[]) ∧ Sep w' B (l1 ++ HeapO p (stepM m ⟨d, t⟩) :: l2) ∧ Below B w w' := by
  have hA := bl_al (bl0 w) (.cells #[.int .i64 d, .int .i64 t.id, .int .u64 t.F, .int .u64 t.H, .int .i64 t.Y, .int .i64 t.X] 41)
  have h2 := h.below hA
  have hA2 : Below B w _ := hA.mono h.base
  unfold stepM
  by_cases h0 : d = 0
  · have hcall := push_sep t h2 ht hm
    rw [if_pos h0]
    subst h0
    clear h h2 hA
    go_enter Try.func26, Try.ntmps26
    go_wp2_with fail
    refine hcall.mono ?_
    rintro e w2 ⟨rfl, h3, hb⟩
    have H3 := Lib.hid h3
    have HB := Lib.hid (hA2.trans hb)
    clear hcall h3 hb hA2
    go_wp2
    go_end0
    exact ⟨rfl, H3.out, HB.out⟩
  · rw [if_neg h0]
    have n0 : (d == 0) = false := by rw [beq_eq_false_iff_ne]; exact h0
    by_cases h1 : d = 1
    · have hcall := lower_sep t h2 ht hm
      rw [if_pos h1]
      subst h1
      clear h h2 hA h0 n0
      go_enter Try.func26, Try.ntmps26
      go_wp2_with fail
      refine hcall.mono ?_
      rintro e w2 ⟨rfl, h3, hb⟩
      have H3 := Lib.hid h3
      have HB := Lib.hid (hA2.trans hb)
      clear hcall h3 hb hA2
      go_wp2
      go_end0
      exact ⟨rfl, H3.out, HB.out⟩
    · rw [if_neg h1]
      have n1 : (d == 1) = false := by rw [beq_eq_false_iff_ne]; exact h1
      have hcall := pop_sep h2 hm
      clear h h2 hA h0 h1
      go_enter Try.func26, Try.ntmps26
      go_wp2_with fail
      refine hcall.mono ?_
      rintro e w2 ⟨rfl, h3, hb⟩
      have H3 := Lib.hid h3
      have HB := Lib.hid (hA2.trans hb)
      clear hcall h3 hb hA2
      go_wp2
      go_end0
      exact ⟨rfl, H3.out, HB.out⟩
end Go.Proofs.Ytgcncimeedoplaa
