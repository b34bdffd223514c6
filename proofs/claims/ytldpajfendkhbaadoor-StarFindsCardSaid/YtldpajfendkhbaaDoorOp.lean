/- As text Oz: an operation that tells the same in every world may be taken first, whether it comes ahead of z or behind it. -/
import Derived.Test.YtldpajfendkhbaaDoorOz
namespace Go.Proofs.YtldpajfendkhbaaDoor
open Go

section
variable {F : Fence} {n : Nat} {P : Program} {ops : Array Oper} {Q : Exit → Act → World → Prop} {md : Region.Mode} {S : World → Prop} {z : Nat}
theorem OrdZ.firstP {i : Nat} {oi : Oper} {v : Value} (hi : ops[i]? = some oi) (hsel : ∀ (j : Nat) (o : Oper) cs b, ops[j]? = some o → o.op ≠ .select cs b) (hdef : ∀ (j : Nat) (o : Oper) c, ops[j]? = some o → o.op ≠ .defer c)
    (hQ : ∀ c a w, Q (.panic c) (a.put oi.dst v) w → Q (.panic c) a w) (hzi : i ≠ z) (k : Nat) : ∀ (l : Array Bool) (a : Act) (w : World), (l.getD z true = false → S w) →
      (∀ j oj, ops[j]? = some oj → j ≠ i → l.getD j true = false → (∀ e ∈ oj.after, Region.binds md e = true → e.on ≠ i) → oi.apart ops oj = true) →
      i ∈ Region.ready md ops l → TellsS P ops (fun _ => True) oi v a → OrdZ F n P md ops Q S z k (l.setIfInBounds i true) (a.put oi.dst v) w → OrdZ F n P md ops Q S z (k + 1) l a w := by
  induction k with
  | zero =>
    intro l a w hS _ hr hy H
    refine ⟨fun h => absurd hr (by simp [h]), fun j hj => ?_⟩
    by_cases e : j = i
    · subst e
      exact hy.step hi (fun c => hdef _ _ c hi) trivial ⟨fun h => hS (by rwa [getD_set_ne true hzi] at h), H⟩
    · have hm := ready_mono hj e
      rw [H.1] at hm
      cases hm
  | succ k ih =>
    intro l a w hS hfree hr hy H
    refine ⟨fun h => absurd hr (by simp [h]), fun j hj => ?_⟩
    by_cases e : j = i
    · subst e
      exact hy.step hi (fun c => hdef _ _ c hi) trivial ⟨fun h => hS (by rwa [getD_set_ne true hzi] at h), H⟩
    · obtain ⟨hun, oj, hoj, hall⟩ := mem_ready.1 hj
      have hli : l.getD i true = false := (mem_ready.1 hr).1
      have hnot : ∀ x ∈ oj.after, Region.binds md x = true → x.on ≠ i := fun x hx hb heq => by
        have h1 := hall x hx hb
        rw [heq] at h1
        rcases Nat.lt_or_ge i l.size with hl | hl <;> simp_all
      have h2 := hy.past hoj (hfree j oj hoj e hun hnot) (fun cs b => hsel i oi cs b hi) (fun cs b => hsel j oj cs b hoj) (fun c => hdef j oj c hoj) hQ (H.2 j (ready_mono hj e))
      refine wpOpIn_mono (fun a1 w1 h3 => ?_) h2
      obtain ⟨hy1, hS1, H1⟩ := h3
      have hS2 : (l.setIfInBounds j true).getD z true = false → S w1 := fun h => hS1 (by rw [Array.setIfInBounds_comm _ _ (Ne.symm e), getD_set_ne true hzi]; exact h)
      refine ⟨hS2, ih (l.setIfInBounds j true) a1 w1 hS2 ?_ (ready_mono hr (Ne.symm e)) hy1 (by rw [Array.setIfInBounds_comm _ _ e]; exact H1)⟩
      intro x ox hx hxi hxun hno
      refine hfree x ox hx hxi ?_ hno
      by_cases hjx : j = x
      · subst hjx; exact hun
      · rwa [getD_set_ne true hjx] at hxun
/-- Take number i first. -/
theorem ordP_take {i : Nat} {oi : Oper} {v : Value} {k : Nat} {l : Array Bool} {a : Act} {w : World} (hi : ops[i]? = some oi) (hr : (Region.ready md ops l).contains i = true) (hf : Region.free md ops l i = true)
    (hs : Region.noSelect ops = true) (hd : noDefer ops = true) (hQ : ∀ c a w, Q (.panic c) (a.put oi.dst v) w → Q (.panic c) a w) (hS : l.getD z true = false → S w)
    (hzi : i ≠ z) (hy : YieldsIf P ops (fun _ => True) oi v a) (hab : ∀ w, oi.about P w a.eval = none) (h : OrdZ F n P md ops Q S z k (l.setIfInBounds i true) (a.put oi.dst v) w) : OrdZ F n P md ops Q S z (k + 1) l a w :=
  OrdZ.firstP hi (Region.noSelect_spec hs) (noDefer_spec hd) hQ hzi k l a w hS (Region.free_spec hi hf) (by simpa using hr) ⟨hy, hab⟩ h
end
end Go.Proofs.YtldpajfendkhbaaDoor
