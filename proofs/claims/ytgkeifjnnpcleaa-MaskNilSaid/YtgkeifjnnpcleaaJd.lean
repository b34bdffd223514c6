/- The iterator of no set. -/
import Derived.Test.YtgkeifjnnpcleaaJc
namespace Go.Proofs.Ytgkeifjnnpcleaa
open Go.RowKit Go.Shelf
attribute [local go_sem] Oper.semAt_some

set_option maxHeartbeats 1000000 in
theorem nums1_nil (n l p : Nat) (J : List Int → World → Prop) (W : World) (hs : W.cell? ⟨p, 0, none⟩ = some (.pointer none)) (h0 : J [] W) :
    CallsIn Fence.wide n Try.prog 52 #[.func (.yield l) #[] #[], .pointer (some ⟨p, 0, none⟩)] W fun e W' => (∃ v, e = .returned v) ∧ J [] W' := by
  refine callsIn_of_wp Try.func52 rfl trivial ?_ rfl
  simp only [Try.ntmps52, List.size_toArray, List.length_cons, List.length_nil, Nat.reduceAdd, Nat.reduceSub, Array.replicate_succ, Array.replicate_zero, List.push_toArray, List.append_toArray, List.nil_append, List.cons_append]
  gi_wp2
  refine bodyPost_ret (results_none rfl _ _ _) rfl ?_
  exact ⟨⟨_, rfl⟩, h0⟩
/-- A nil pointer in a box of its own. -/
def NilAt (W : World) (p : Nat) : Prop := W.cell? ⟨p, 0, none⟩ = some (.pointer none)
theorem nilAt_own {α : Type} (p : Nat) : Own (fun (_ : α) W => NilAt W p) := fun _ _ _ _ hs hg hr => cell_kept hs hg hr
theorem nums_nil (n p : Nat) (w : World) (hs : NilAt w p) :
    SeqStopsK Fence.wide n Try.prog 52 #[.pointer (some ⟨p, 0, none⟩)] (fun x : Int => #[Value.int .i64 x]) (fun _ _ => True) (fun ys => ys = []) (fun pre => pre = []) 0 w := fun l J Jx W hW _ _ hY h0 => by
  refine (nums1_nil n l p J W (cell_later hW hs) h0).mono ?_
  rintro e W' ⟨he, hj⟩
  exact ⟨he, .inl ⟨_, rfl, hj⟩⟩

set_option maxRecDepth 100000 in
set_option maxHeartbeats 4000000 in
theorem mcells1_nil (l p : Nat) (J Jx : List (Int × Int) → World → Prop) (W : World) (hJ : OwnFrom W.heap.size J) (hs : NilAt W p) (h0 : J [] W) :
    CallsIn Fence.wide 10 Try.prog 49 #[.func (.yield l) #[] #[], .pointer (some ⟨p, 0, none⟩)] W fun e W' => (∃ v, e = .returned v) ∧ (J [] W' ∨ ∃ q, q <+: [] ∧ Jx q W') := by
  have s0 : W.cell? ⟨p, 0, none⟩ = some (.pointer none) := hs
  have hlp := blk_lt s0
  refine callsIn_of_wp_marks Try.func49 rfl trivial ?_ rfl
  simp only [Try.ntmps49, List.size_toArray, List.length_cons, List.length_nil, Nat.reduceAdd, Nat.reduceSub, Array.replicate_succ, Array.replicate_zero, List.push_toArray, List.append_toArray, List.nil_append, List.cons_append]
  gi_wp2_with fail
  refine ⟨trivial, (numbers_in _ _ _).mono ?_⟩
  rintro e w1 ⟨rfl, rfl⟩
  gi_wp2_with fail
  obtain ⟨W0, hW0⟩ : ∃ W0, (W.alloc (.cells #[.func (.yield l) #[] #[]] 39)).alloc (.cells #[.pointer none] 27) = W0 := ⟨_, rfl⟩
  have hz : W0.heap.size = W.heap.size + 2 := by rw [← hW0]; simp
  have hk0 : Below W.heap.size W W0 := by rw [← hW0]; exact bl_al (bl_al (bl0 _) _) _
  have hR : NilAt W0 (W.heap.size + 1) := by unfold NilAt; rw [← hW0]; simp [go_sem]
  have hJ0 : J [] W0 := hJ [] W W0 none h0 (grown_of_below hk0) (fun r e => by cases e)
  rw [hW0]
  clear hW0
  refine wpIn_rangeFunc_ownG rfl (by decide) (gf := 52) (lb := #[.pointer (some ⟨W.heap.size + 1, 0, none⟩)]) rfl trivial (enters_of Try.func52 (by kernel_rfl) rfl)
    (nums_nil _ (W.heap.size + 1) W0 hR) (fun _ _ => trivial) (fun W' l' o o' hl ho hc _ => trivial) (Below.refl _ _) (fun _ => rfl)
    (fun _ W' => J [] W')
    (fun _ _ _ => False)
    (fun s A B row hs hg hr => hJ _ A B row hs hg (fun r e => by obtain ⟨h1, h2⟩ := hr r e; exact ⟨by omega, h2⟩))
    (fun c s A B row hs hg hr => hs.elim)
    hJ0
    (fun x => { tmps := #[.func (.yield l) #[] #[], .pointer (some ⟨p, 0, none⟩), .pointer (some ⟨W.heap.size, 0, none⟩), .int .i64 x, undef, undef, .pointer none, .func (.func 52) #[] #[.pointer (some ⟨W.heap.size + 1, 0, none⟩)], .int .i64 x, undef, undef, undef, undef, undef, undef, undef, undef, undef, undef, undef, undef, undef], defers := [] })
    ?assign ?body ?done ?stop
  case assign =>
    intro l' x W' K hK
    gi_wp2
    exact hK
  case body =>
    intro l' pre x W' _ hlen
    exact absurd hlen (Nat.not_lt_zero _)
  case done =>
    rintro D ys W' hD rfl hj hK
    gi_wp2
    refine ⟨by simp, .inl ⟨_, _, rfl, run_takeDeferred hK, ?_⟩⟩
    exact ⟨_, results_none rfl _ _ _, ⟨_, rfl⟩, .inl (hJ _ W' _ _ hj (grownBy_putObj' W' D (.deferred none)) (fun r e => by cases e; exact ⟨by omega, _, hK, rfl⟩))⟩
  case stop =>
    rintro D c pre W' hD rfl hj hK
    exact hj.elim
theorem iter_nil (p : Nat) (w : World) (hs : NilAt w p) : IterM p p p 49 #[.pointer (some ⟨p, 0, none⟩)] [] w :=
  fun l J Jx W hW hJ _ _ h0 => mcells1_nil l p J Jx W hJ (cell_later hW hs) h0
end Go.Proofs.Ytgkeifjnnpcleaa
