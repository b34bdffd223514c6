/- A region that draws its order, inside a fence and inside rounds: what reads alone may be taken first, under a condition S on the world that every step keeps. -/
import Derived.OrdersHeld
import Derived.OrdersIn
import Derived.OwnWalkIn
import Derived.Test.YtbmpgafndpdnbaaProg
namespace Go.Proofs.Ytbmpgafndpdnbaa
open Go

section
variable {F : Fence} {n : Nat} {P : Program} {ops : Array Oper} {Q : Exit → Act → World → Prop} {md : Region.Mode} {S : World → Prop}

/-- From here on, in each order that may come, the region ends in Q; S holds behind each step. -/
def OrdS (F : Fence) (n : Nat) (P : Program) (md : Region.Mode) (ops : Array Oper) (Q : Exit → Act → World → Prop) (S : World → Prop) : Nat → Array Bool → Act → World → Prop
  | 0, l, a, w => Region.ready md ops l = [] ∧ Q .normal a w
  | k + 1, l, a, w => (Region.ready md ops l = [] → Q .normal a w) ∧
      ∀ i, i ∈ Region.ready md ops l → wpOpIn F n P ops Q i (fun a1 w1 => S w1 ∧ OrdS F n P md ops Q S k (l.setIfInBounds i true) a1 w1) a w

theorem OrdS.plain (k : Nat) : ∀ (l : Array Bool) (a : Act) (w : World), OrdS F n P md ops Q S k l a w → wpAnyIn F n P md ops Q k l a w := by
  induction k with
  | zero => intro l a w h; exact h
  | succ k ih => intro l a w h; exact ⟨h.1, fun i hi => wpOpIn_mono (fun a1 w1 h1 => ih _ a1 w1 h1.2) (h.2 i hi)⟩

/-- The beginning. -/
theorem ordS_begin {id : Nat} {a : Act} {w : World} (hm : P.follows .mixedOrders = true) (hS : S w.drew) (h : S w.drew → OrdS F n P .any ops Q S ops.size (Array.replicate ops.size false) a w.drew) :
    (Code.region id ops true).wpIn F n P Q a w := wpIn_region_any hm (OrdS.plain _ _ _ _ (h hS))

/-- o tells v in every world of S, and is about to call nobody. -/
def TellsS (P : Program) (ops : Array Oper) (S : World → Prop) (o : Oper) (v : Value) (a : Act) : Prop := YieldsIf P ops S o v a ∧ ∀ w, o.about P w a.eval = none

theorem TellsS.put {oi : Oper} {v : Value} {a : Act} (hs : ∀ cs b, oi.op ≠ .select cs b) (h : TellsS P ops S oi v a) {dst : Option Tmp} (hd : ∀ d, dst = some d → d ∉ oi.looksAt ops) (u : Value) : TellsS P ops S oi v (a.put dst u) :=
  ⟨h.1.of_same (execOp_put oi hs a dst u hd) (wanted_put oi a dst u hd), fun w => (about_put oi w a dst u hd).trans (h.2 w)⟩

theorem TellsS.step {i : Nat} {o : Oper} {v : Value} {a : Act} (hi : ops[i]? = some o) (hdef : ∀ c, o.op ≠ .defer c) (h : TellsS P ops S o v a) {K : Act → World → Prop} {w : World} (hS : S w)
    (hK : K (a.put o.dst v) w) : wpOpIn F n P ops Q i K a w := by
  have hno : ∀ f, o.about P w a.eval = some f → F.fn f := fun f hf => absurd hf (by rw [h.2 w]; simp)
  unfold wpOpIn
  rw [hi]
  obtain ⟨⟨hw, hv⟩ | ⟨hw, rfl⟩, _⟩ := h
  · simp only [hw, if_true]
    refine ⟨hno, ?_⟩
    rw [Oper.semAt_plain F _ _ hdef, hv w hS]
    exact hK
  · simp only [hw, Bool.false_eq_true, if_false]
    exact ⟨hno, hK⟩

/-- Who is apart from oi may come ahead of it. -/
theorem TellsS.past {j : Nat} {oi oj : Oper} {v : Value} (hj : ops[j]? = some oj) (hap : oi.apart ops oj = true) (hsi : ∀ cs b, oi.op ≠ .select cs b) (hsj : ∀ cs b, oj.op ≠ .select cs b) (hdj : ∀ c, oj.op ≠ .defer c)
    (hQ : ∀ c a w, Q (.panic c) (a.put oi.dst v) w → Q (.panic c) a w) {K : Act → World → Prop} {a : Act} {w : World} (hy : TellsS P ops S oi v a) (h : wpOpIn F n P ops Q j K (a.put oi.dst v) w) :
    wpOpIn F n P ops Q j (fun a1 w1 => TellsS P ops S oi v a1 ∧ K (a1.put oi.dst v) w1) a w := by
  obtain ⟨p1, p2, p3⟩ := Oper.apart_spec hap
  have goes : ∀ u w1, K ((a.put oi.dst v).put oj.dst u) w1 → TellsS P ops S oi v (a.put oj.dst u) ∧ K ((a.put oj.dst u).put oi.dst v) w1 := fun u w1 hk =>
    ⟨hy.put hsi p3 u, by rw [← Act.put_comm a v u p2]; exact hk⟩
  unfold wpOpIn at h ⊢
  simp only [hj] at h ⊢
  rw [wanted_put oj a oi.dst v p1, about_put oj w a oi.dst v p1] at h
  by_cases hw : Region.wanted oj (yielded ops a.tmps) = true
  case neg =>
    rw [if_neg hw] at h ⊢
    exact ⟨h.1, goes _ _ h.2⟩
  rw [if_pos hw] at h ⊢
  unfold Oper.wpIn at h ⊢
  rw [about_put oj w a oi.dst v p1, Oper.semAt_plain F _ _ hdj, execOp_put oj hsj a oi.dst v p1] at h
  rw [Oper.semAt_plain F _ _ hdj]
  refine ⟨h.1, ?_⟩
  replace h := h.2
  generalize (execOp a.eval oj).run P w = r at h ⊢
  match r with
  | .ok (.value u) w1 => exact goes u w1 h
  | .ok .skip w1 => exact goes _ w1 h
  | .ok (.defer d) w1 =>
    have hyD : TellsS P ops S oi v { a with defers := d :: a.defers } := ⟨hy.1.of_same rfl rfl, hy.2⟩
    refine ⟨hyD.put hsi p3 undef, ?_⟩
    have h' : K (({ (a.put oi.dst v) with defers := d :: (a.put oi.dst v).defers } : Act).put oj.dst undef) w1 := h
    rw [← Act.put_comm _ v undef p2, ← Act.put_defers]
    exact h'
  | .ok (.enter f args) w1 =>
    refine ⟨h.1, CallsIn.mono h.2 fun e w2 he => ?_⟩
    match e, he with
    | .returned u, he => exact goes u w2 he
    | .panicked c, he => exact hQ _ _ _ he
    | .outgrown, he => exact he
  | .ok (.row row args) w1 => exact ⟨h.1, RowsIn.mono h.2 fun u w2 he => goes u w2 he⟩
  | .ok (.round l f tmps assign body) w1 =>
    refine ⟨h.1, RoundIn.mono h.2 fun e w2 he => ?_⟩
    match e, he with
    | .returned u, he => exact goes u w2 he
    | .panicked c, he => exact hQ _ _ _ he
    | .outgrown, he => exact he
  | .halt x w1 =>
    cases x with
    | panic u => exact hQ _ _ _ h
    | _ => exact h

theorem OrdS.first {i : Nat} {oi : Oper} {v : Value} (hi : ops[i]? = some oi) (hsel : ∀ (j : Nat) (o : Oper) cs b, ops[j]? = some o → o.op ≠ .select cs b) (hdef : ∀ (j : Nat) (o : Oper) c, ops[j]? = some o → o.op ≠ .defer c)
    (hQ : ∀ c a w, Q (.panic c) (a.put oi.dst v) w → Q (.panic c) a w) (k : Nat) : ∀ (l : Array Bool) (a : Act) (w : World),
      (∀ j oj, ops[j]? = some oj → j ≠ i → l.getD j true = false → (∀ e ∈ oj.after, Region.binds md e = true → e.on ≠ i) → oi.apart ops oj = true) →
      i ∈ Region.ready md ops l → TellsS P ops S oi v a → S w → OrdS F n P md ops Q S k (l.setIfInBounds i true) (a.put oi.dst v) w → OrdS F n P md ops Q S (k + 1) l a w := by
  induction k with
  | zero =>
    intro l a w _ hr hy hS H
    refine ⟨fun h => absurd hr (by simp [h]), fun j hj => ?_⟩
    by_cases e : j = i
    · subst e
      exact hy.step hi (fun c => hdef _ _ c hi) hS ⟨hS, H⟩
    · have hm := ready_mono hj e
      rw [H.1] at hm
      cases hm
  | succ k ih =>
    intro l a w hfree hr hy hS H
    refine ⟨fun h => absurd hr (by simp [h]), fun j hj => ?_⟩
    by_cases e : j = i
    · subst e
      exact hy.step hi (fun c => hdef _ _ c hi) hS ⟨hS, H⟩
    · obtain ⟨hun, oj, hoj, hall⟩ := mem_ready.1 hj
      have hli : l.getD i true = false := (mem_ready.1 hr).1
      have hnot : ∀ x ∈ oj.after, Region.binds md x = true → x.on ≠ i := fun x hx hb heq => by
        have h1 := hall x hx hb
        rw [heq] at h1
        rcases Nat.lt_or_ge i l.size with hl | hl <;> simp_all
      have h2 := hy.past hoj (hfree j oj hoj e hun hnot) (fun cs b => hsel i oi cs b hi) (fun cs b => hsel j oj cs b hoj) (fun c => hdef j oj c hoj) hQ (H.2 j (ready_mono hj e))
      refine wpOpIn_mono (fun a1 w1 h3 => ?_) h2
      obtain ⟨hy1, hS1, H1⟩ := h3
      refine ⟨hS1, ih (l.setIfInBounds j true) a1 w1 ?_ (ready_mono hr (Ne.symm e)) hy1 hS1 (by rw [Array.setIfInBounds_comm _ _ e]; exact H1)⟩
      intro x ox hx hxi hxun hno
      refine hfree x ox hx hxi ?_ hno
      by_cases hjx : j = x
      · subst hjx; exact hun
      · rwa [getD_set_ne true hjx] at hxun

/-- No operation is a defer statement. -/
def noDefer (ops : Array Oper) : Bool := ops.all (fun o => match o.op with | .defer _ => false | _ => true)
theorem noDefer_spec (h : noDefer ops = true) (j : Nat) (o : Oper) (c : Call) (ho : ops[j]? = some o) : o.op ≠ .defer c := by
  intro e
  have := Array.all_eq_true_iff_forall_mem.1 h o (Array.mem_of_getElem? ho)
  simp [e] at this

/-- Take number i first. -/
theorem ordS_take {i : Nat} {oi : Oper} {v : Value} {k : Nat} {l : Array Bool} {a : Act} {w : World} (hi : ops[i]? = some oi) (hr : (Region.ready md ops l).contains i = true) (hf : Region.free md ops l i = true)
    (hs : Region.noSelect ops = true) (hd : noDefer ops = true) (hQ : ∀ c a w, Q (.panic c) (a.put oi.dst v) w → Q (.panic c) a w) (hS : S w)
    (hy : YieldsIf P ops S oi v a) (hab : ∀ w, oi.about P w a.eval = none) (h : OrdS F n P md ops Q S k (l.setIfInBounds i true) (a.put oi.dst v) w) : OrdS F n P md ops Q S (k + 1) l a w :=
  OrdS.first hi (Region.noSelect_spec hs) (noDefer_spec hd) hQ k l a w (Region.free_spec hi hf) (by simpa using hr) ⟨hy, hab⟩ hS h

/-- One alone may come. -/
theorem ordS_one {i : Nat} {o : Oper} {k : Nat} {l : Array Bool} {a : Act} {w : World} (hr : Region.ready md ops l = [i]) (ho : ops[i]? = some o) (hw : Region.wanted o (yielded ops a.tmps) = true)
    (h : ∀ K : Act → World → Prop, (∀ a1 w1, S w1 → OrdS F n P md ops Q S k (l.setIfInBounds i true) a1 w1 → K a1 w1) → Oper.wpIn F n P o a w K Q) : OrdS F n P md ops Q S (k + 1) l a w := by
  refine ⟨fun h0 => absurd (hr.symm.trans h0) (by simp), fun j hj => ?_⟩
  rw [hr] at hj
  obtain rfl := List.mem_singleton.1 hj
  refine wpOpIn_step ho fun K' hK' => ?_
  rw [if_pos hw]
  exact h K' fun a1 w1 hs hrest => hK' a1 w1 ⟨hs, hrest⟩

/-- One alone may come, and its guard passes it over. -/
theorem ordS_skip {i : Nat} {o : Oper} {k : Nat} {l : Array Bool} {a : Act} {w : World} (hr : Region.ready md ops l = [i]) (ho : ops[i]? = some o) (hw : Region.wanted o (yielded ops a.tmps) = false) (hF : ∀ f, F.fn f) (hS : S w)
    (h : OrdS F n P md ops Q S k (l.setIfInBounds i true) (a.put o.dst undef) w) : OrdS F n P md ops Q S (k + 1) l a w := by
  refine ⟨fun h0 => absurd (hr.symm.trans h0) (by simp), fun j hj => ?_⟩
  rw [hr] at hj
  obtain rfl := List.mem_singleton.1 hj
  refine wpOpIn_step ho fun K' hK' => ?_
  rw [if_neg (by rw [hw]; exact Bool.false_ne_true)]
  exact ⟨fun f _ => hF f, hK' _ _ ⟨hS, h⟩⟩

/-- All have come. -/
theorem ordS_done {l : Array Bool} {a : Act} {w : World} {k : Nat} (hr : Region.ready md ops l = []) (h : Q .normal a w) : OrdS F n P md ops Q S k l a w := by
  cases k with
  | zero => exact ⟨hr, h⟩
  | succ k => exact ⟨fun _ => h, by rw [hr]; simp⟩
end
end Go.Proofs.Ytbmpgafndpdnbaa
