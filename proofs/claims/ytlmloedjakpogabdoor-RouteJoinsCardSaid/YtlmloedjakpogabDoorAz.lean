/- RouteJoins: its walk, where the paths may be joined. -/
import Derived.Test.YtlmloedjakpogabDoorAx
import Derived.Laws.AppendOwnNone
namespace Go.Proofs.YtlmloedjakpogabDoor
open Go.RowKit

theorem rowB_cells' {W : World} {b o : Nat} {zs : List Int} (h : RowB W (some ⟨b, o, none⟩) zs) : ∀ j u, (cellsB zs)[j]? = some u → W.cell? ((⟨b, o, none⟩ : Addr).add j) = some u := by
  intro j u hu
  rw [addr_add]
  rcases h with rfl | ⟨b', o', e, hc⟩
  · simp [cellsB] at hu
  · cases e
    simp only [cellsB, List.getElem?_map, Option.map_eq_some_iff] at hu
    obtain ⟨z, hz, rfl⟩ := hu
    exact hc j z hz
/-- A row of bytes appended whole, nil or not. -/
theorem wpList_append_rowB {w : World} {ops : Array Oper} {rest : List Oper} {o : Oper} {a : Act} {Q : Exit → Act → World → Prop} (hgd : o.guard = none) (s x : Operand)
    (ho : o.op = .call { callee := .builtin .append, args := #[s, x], argTypes := #[38, 38] })
    (base : Nat) (v : Value) (n : Nat) (xs : List Value) (hs : a.eval s = v) (hown : w.ownsRow base 5 1 v n xs) (r : Option Addr) (c : Nat) (zs : List Int) (hx : a.eval x = .slice r zs.length c) (hr : RowB w r zs) (hc : r = none → c = 0) (hsp : ∀ ad, r = some ad → ∃ b o, ad = ⟨b, o, none⟩)
    (h63 : n + zs.length ≤ 1048576) (hbase : base ≤ w.heap.size)
    (h : ∀ v' w', w'.ownsRow base 5 1 v' (n + zs.length) (xs ++ cellsB zs) → w.grownBy w' v.ownBlock → wpList Tryd.prog ops Q rest (a.put o.dst v') w') : wpList Tryd.prog ops Q (o :: rest) a w := by
  obtain ⟨i0, hi, hz0, hz1, hz2⟩ := info_parts Tryd.infoU8
  cases r with
  | none =>
    have hn : zs = [] := by
      rcases hr with h | ⟨b, o, e, _⟩
      · exact h
      · cases e
    subst hn
    rw [hc rfl] at hx
    refine wpList_append_own_none hgd s x 38 ho base 5 i0 1 Tryd.underlying38 hi v n xs hs hown hx (h v w ?_ (World.grownBy.refl _ _))
    simpa [cellsB] using hown
  | some ad =>
    obtain ⟨b, o', rfl⟩ := hsp ad rfl
    refine wpList_append_own w hgd s x 38 ho base 5 i0 (.int .u8 0) 1 1 Tryd.underlying38 hi hz0 hz1 hz2 rfl (by decide) v n xs hs hown ⟨b, o', none⟩ zs.length c (cellsB zs) hx (by rw [cellsB_len, Nat.mul_one]) (rowB_cells' hr) (cellsB_one zs) (by unfold maxLen; omega) (by omega) hbase (fun v' w' h1 h2 _ => h v' w' h1 h2)
/-- A row of one's own, as a row of bytes. -/
theorem rowB_own {w : World} {base : Nat} {v : Value} {zs : List Int} (h : w.ownsRow base 5 1 v zs.length (cellsB zs)) : ∃ a cap, v = .slice a zs.length cap ∧ RowB w a zs ∧ (a = none → cap = 0) ∧ ∀ ad, a = some ad → ∃ b o, ad = ⟨b, o, none⟩ := by
  have hown := h
  rcases h.2 with ⟨rfl, h0⟩ | ⟨g, cap, cur, rfl, _⟩
  · exact ⟨none, 0, by rw [h0], .inl (List.eq_nil_of_length_eq_zero h0), (fun _ => rfl), (fun ad e => by cases e)⟩
  · obtain ⟨a, c, e, hr, _⟩ := rowB_of_own hown
    cases e
    exact ⟨_, _, rfl, hr, (fun e => by cases e), (fun ad e => by cases e; exact ⟨_, _, rfl⟩)⟩

/-- A guarded operation that is wanted is done as one without a guard. -/
theorem wpList_strip {P : Program} {ops : Array Oper} {Q : Exit → Act → World → Prop} {a : Act} {w : World} {rest : List Oper} {o : Oper}
    (hw : Region.wanted o (yielded ops a.tmps) = true) (h : wpList P ops Q ({ o with guard := none } :: rest) a w) : wpList P ops Q (o :: rest) a w := by
  unfold wpList at h ⊢
  rw [if_pos hw]
  rw [if_pos (by simp [Region.wanted])] at h
  exact h
def BlkAt (W : World) (g : Nat) (cur : Array Value) : Prop := W.heap[g]? = some (.cells cur 37 (0, 0))
theorem BlkAt.below {W W' : World} {g : Nat} {cur : Array Value} (h : BlkAt W g cur) (hb : Below W.heap.size W W') : BlkAt W' g cur := (hb.block g (Array.getElem?_eq_some_iff.1 h).1).trans h
theorem own_some {w : World} {base : Nat} {e : TypeId} {size : Nat} {v : Value} {n : Nat} {xs : List Value} (h : w.ownsRow base e size v n xs) (hn : 0 < n) : ∃ g cap cur, v = .slice (some ⟨g, 0, none⟩) n cap ∧ base ≤ g ∧ w.heap[g]? = some (.cells cur e (0, 0)) ∧ n ≤ cap ∧ cur.size = cap * size := by
  rcases h.2 with ⟨_, h0⟩ | ⟨g, cap, cur, e1, e2, e3, e4, _, e5, _⟩
  · omega
  · exact ⟨g, cap, cur, e1, e2, e3, e4, e5⟩
theorem rowC_drop {W : World} {g : Nat} {zs : List IC} (h : RowC W (some ⟨g, 0, none⟩) zs) (k : Nat) : RowC W (some ⟨g, k * 2, none⟩) (zs.drop k) := by
  rcases h with rfl | ⟨b, o, e, hc⟩
  · exact .inl (by simp)
  · cases e
    refine .inr ⟨g, k * 2, rfl, fun i z hz => ?_⟩
    rw [List.getElem?_drop] at hz
    have := hc (k + i) z hz
    rw [show k * 2 + i * 2 = 0 + (k + i) * 2 by omega]
    exact this
theorem rowC_pre {W : World} {r : Option Addr} {zs : List IC} (h : RowC W r zs) (k : Nat) : RowC W r (zs.take k) := by
  rcases h with rfl | ⟨b, o, h1, h2⟩
  · exact .inl (by simp)
  · refine .inr ⟨b, o, h1, fun i z hz => h2 i z ?_⟩
    rw [List.getElem?_take] at hz
    split at hz
    · exact hz
    · cases hz

set_option maxRecDepth 100000 in
set_option maxHeartbeats 8000000 in
theorem rjoins_yes (A B : Int) (x xa xb : Option Addr) (cap ca cb : Nat) (zs : List Int) (a b : List IC) (w : World) (hs : Stp w) (hr : RowH w x zs) (hin : AllH zs) (ha : RowC w xa a) (hb0 : RowC w xb b) (hcb : b.length ≤ cb) (HSM : Hid (smR zs.length a.length = true)) (HSM2 : Hid (smR zs.length b.length = true)) (hla : a.length ≤ 200) (hlb : b.length ≤ 200) (hj : joinOk a b) :
    Calls Tryd.prog 6 #[.agg #[.int .i64 A, .int .i64 B, .slice x zs.length cap], .slice xa a.length ca, .slice xb b.length cb] w fun e w' => e = .returned (.bool true) ∧ Below w.heap.size w w' := by
  have hA := bl0 w
  have hjo := fun W h1 h2 => join_path xa xb ca cb a b W h1 h2 (by omega) (by omega) hcb
  have e1 : joinE a b = 0 := by unfold joinE; rw [if_pos hj]
  have e2 : joinL a b = a ++ b.tail := by unfold joinL; rw [if_pos hj]
  rw [e1, e2] at hjo
  have p1 := List.length_pos_iff.2 hj.1
  have p2 := List.length_pos_iff.2 hj.2.1
  have hjl := jn_len hj
  have hjt := jn_take (a := a) (b := b)
  have hjd := jn_drop hj
  have hpj := jn_path (A := A) (B := B) (zs := zs) hj (chkF A B zs.length)
  have hcj := jn_cost (A := A) (zs := zs) hj
  have hmj := jn_movL hj
  have HA := Lib.hid (show ∀ W, RowC W xa a → ∃ g o : Nat, xa = some ⟨g, o, none⟩ ∧ W.cell? ⟨g, o + (a.length - 1) * 2, none⟩ = some (.int .i64 (cK b 0).1) ∧ W.cell? ⟨g, o + (a.length - 1) * 2 + 1, none⟩ = some (.int .i64 (cK b 0).2) from fun W h => by rw [← hj.2.2]; exact h.two (k := a.length - 1) (by omega))
  have HB := Lib.hid (show ∀ W, RowC W xb b → ∃ g o : Nat, xb = some ⟨g, o, none⟩ ∧ W.cell? ⟨g, o, none⟩ = some (.int .i64 (cK b 0).1) ∧ W.cell? ⟨g, o + 1, none⟩ = some (.int .i64 (cK b 0).2) from fun W h => by
    have := h.two (k := 0) p2
    simpa using this)
  have hca := fun W h1 h2 h3 => cost_path A B x xa cap ca zs a W h1 hin h2 h3 (by omega)
  have hcb' := fun W h1 h2 h3 => cost_path A B x xb cap cb zs b W h1 hin h2 h3 (by omega)
  have hcc := fun (y : Option Addr) (cy : Nat) W h1 h2 h3 => cost_path A B x y cap cy zs (a ++ b.tail) W h1 hin h2 h3 (by omega)
  have hma := fun W h h' => moves_path xa ca a W h h' (by omega)
  have hmb := fun W h h' => moves_path xb cb b W h h' (by omega)
  have hmc := fun (y : Option Addr) (cy : Nat) W h h' => moves_path y cy (a ++ b.tail) W h h' (by omega)
  have hva : costP A B zs a = if pathE A B zs a (chkF A B zs.length) = 0 then costS A zs a.tail else 0 := rfl
  have hvb : costP A B zs b = if pathE A B zs b (chkF A B zs.length) = 0 then costS A zs b.tail else 0 := rfl
  have hvj : costP A B zs (a ++ b.tail) = if pathE A B zs (a ++ b.tail) (chkF A B zs.length) = 0 then costS A zs (a ++ b.tail).tail else 0 := rfl
  have HPA := Lib.hid (show pathE A B zs a (chkF A B zs.length) = 0 → movE a = 0 ∧ movR a = movL a from fun h => by
    obtain ⟨_, hne, hok⟩ := pathE_ok h
    have := (isPath_iff hne).1 hok
    exact ⟨this.movE, this.movR⟩)
  have HPB := Lib.hid (show pathE A B zs b (chkF A B zs.length) = 0 → movE b = 0 ∧ movR b = movL b from fun h => by
    obtain ⟨_, hne, hok⟩ := pathE_ok h
    have := (isPath_iff hne).1 hok
    exact ⟨this.movE, this.movR⟩)
  have HPJ := Lib.hid (show pathE A B zs (a ++ b.tail) (chkF A B zs.length) = 0 → movE (a ++ b.tail) = 0 ∧ movR (a ++ b.tail) = movL a ++ movL b from fun h => by
    obtain ⟨_, hne, hok⟩ := pathE_ok h
    have := (isPath_iff hne).1 hok
    exact ⟨this.movE, this.movR.trans hmj⟩)
  have hsa := costS_in (A := A) hin a.tail
  have hsb := costS_in (A := A) hin b.tail
  rw [List.length_tail] at hsa hsb
  have hml : (movL a).length ≤ 200 := by rw [movL_len]; omega
  have hml2 : (movL b).length ≤ 200 := by rw [movL_len]; omega
  generalize a ++ b.tail = J at *
  generalize pathE A B zs a (chkF A B zs.length) = Pa at *
  generalize pathE A B zs b (chkF A B zs.length) = Pb at *
  generalize pathE A B zs J (chkF A B zs.length) = Pj at *
  generalize costP A B zs a = Ca at *
  generalize costP A B zs b = Cb at *
  generalize costP A B zs J = Cj at *
  generalize costS A zs a.tail = Sa at *
  generalize costS A zs b.tail = Sb at *
  generalize costS A zs J.tail = Sj at *
  generalize movE a = Ea at *
  generalize movE b = Eb at *
  generalize movE J = Ej at *
  generalize movR a = Ma at *
  generalize movR b = Mb at *
  generalize movR J = Mj at *
  generalize movL a = La at *
  generalize movL b = Lb at *
  generalize cK b 0 = p at *
  have HJO := Lib.hid hjo; have HCA := Lib.hid hca; have HCB := Lib.hid hcb'; have HCC := Lib.hid hcc; have HMA := Lib.hid hma; have HMB := Lib.hid hmb; have HMC := Lib.hid hmc
  have HVA := Lib.hid hva; have HVB := Lib.hid hvb; have HVJ := Lib.hid hvj; have HPP := Lib.hid hpj; have HCJ := Lib.hid hcj; have HJT := Lib.hid hjt; have HJD := Lib.hid hjd
  have HML := Lib.hid (And.intro hml hml2); have HSA := Lib.hid (And.intro hsa hsb)
  have k1 : (0 : Int) < (a.length : Int) := by omega
  have k2 : (0 : Int) < (b.length : Int) := by omega
  have k3 : IntKind.i64.wrap ((a.length : Int) - 1) = ((a.length - 1 : Nat) : Int) := by
    rw [show ((a.length - 1 : Nat) : Int) = (a.length : Int) - 1 by omega]
    exact IntWalk.i64_in _ (by omega)
  have k4 : a.length - 1 < a.length := by omega
  have k5 : ((a.length - 1 : Nat) : Int) < (a.length : Int) := by omega
  have k6 : IntKind.i64.wrap ((a.length : Int) + (b.length : Int)) = (a.length : Int) + (b.length : Int) := IntWalk.i64_in _ (by omega)
  have k7 : IntKind.i64.wrap ((a.length : Int) + (b.length : Int) - 1) = (a.length : Int) + (b.length : Int) - 1 := IntWalk.i64_in _ (by omega)
  have k8 : ((J.length : Int) != (a.length : Int) + (b.length : Int) - 1) = false := by rw [bne_eq_false_iff_eq]; omega
  have k9 : J.length - (a.length - 1) = b.length := by omega
  have k10 : a.length ≤ J.length := by omega
  have HJ200 := Lib.hid (show J.length ≤ 400 by omega)
  have HJL := Lib.hid hjl
  clear hjl
  have t1 := beq_self_eq_true p.1
  have t2 := beq_self_eq_true p.2
  clear hjo hca hcb' hcc hma hmb hmc hva hvb hvj hpj hcj hjt hjd hmj e1 e2 hj hml hml2 hsa hsb
  go_enter Tryd.func6, Tryd.ntmps6
  go_wp2_with fail
  refine (small_any _ _ _ _ _ _ _ _ _).mono ?_
  rintro e w1 ⟨rfl, hb⟩
  have hk : Below w.heap.size w w1 := by first | exact hb | exact bl_tr (bl_al (bl0 _) _) hb | exact bl_tr (bl_dr (bl_al (bl0 _) _)) hb | exact bl_tr (bl_al (bl_al (bl0 _) _) _) hb | exact bl_tr (bl_dr (bl_al (bl_al (bl0 _) _) _)) hb | exact bl_tr (bl_al (bl_al (bl_al (bl0 _) _) _) _) hb | exact bl_tr (bl_dr (bl_al (bl_al (bl_al (bl0 _) _) _) _)) hb | exact bl_tr (bl_al (bl_al (bl_al (bl_al (bl0 _) _) _) _) _) hb | exact bl_tr (bl_dr (bl_al (bl_al (bl_al (bl_al (bl0 _) _) _) _) _)) hb | exact bl_tr (bl_al (bl_al (bl_al (bl_al (bl_al (bl0 _) _) _) _) _) _) hb | exact bl_tr (bl_dr (bl_al (bl_al (bl_al (bl_al (bl_al (bl0 _) _) _) _) _) _)) hb | exact bl_tr (bl_al (bl_al (bl_al (bl_al (bl_al (bl_al (bl0 _) _) _) _) _) _) _) hb | exact bl_tr (bl_dr (bl_al (bl_al (bl_al (bl_al (bl_al (bl_al (bl0 _) _) _) _) _) _) _)) hb | exact bl_tr (bl_dr (bl0 _)) hb
  replace hA := bl_tr hA hk
  have f0 := cell_later hb (v := .int .i64 A) (a := ⟨w.heap.size, 0, none⟩) (by simp [go_sem])
  have f1 := cell_later hb (v := .int .i64 B) (a := ⟨w.heap.size, 1, none⟩) (by simp [go_sem])
  have f2 := cell_later hb (v := .slice x zs.length cap) (a := ⟨w.heap.size, 2, none⟩) (by simp [go_sem])
  clear hb hk
  have zf0 := blk_lt f0
  have zf1 := blk_lt f1
  have zf2 := blk_lt f2
  rw [HSM.out]
  go_wp2_with fail
  refine (small_any _ _ _ _ _ _ _ _ _).mono ?_
  rintro e w2 ⟨rfl, hb⟩
  have hk : Below w1.heap.size w1 w2 := by first | exact hb | exact bl_tr (bl_al (bl0 _) _) hb | exact bl_tr (bl_dr (bl_al (bl0 _) _)) hb | exact bl_tr (bl_al (bl_al (bl0 _) _) _) hb | exact bl_tr (bl_dr (bl_al (bl_al (bl0 _) _) _)) hb | exact bl_tr (bl_al (bl_al (bl_al (bl0 _) _) _) _) hb | exact bl_tr (bl_dr (bl_al (bl_al (bl_al (bl0 _) _) _) _)) hb | exact bl_tr (bl_al (bl_al (bl_al (bl_al (bl0 _) _) _) _) _) hb | exact bl_tr (bl_dr (bl_al (bl_al (bl_al (bl_al (bl0 _) _) _) _) _)) hb | exact bl_tr (bl_al (bl_al (bl_al (bl_al (bl_al (bl0 _) _) _) _) _) _) hb | exact bl_tr (bl_dr (bl_al (bl_al (bl_al (bl_al (bl_al (bl0 _) _) _) _) _) _)) hb | exact bl_tr (bl_al (bl_al (bl_al (bl_al (bl_al (bl_al (bl0 _) _) _) _) _) _) _) hb | exact bl_tr (bl_dr (bl_al (bl_al (bl_al (bl_al (bl_al (bl_al (bl0 _) _) _) _) _) _) _)) hb | exact bl_tr (bl_dr (bl0 _)) hb
  replace hA := bl_tr hA hk
  replace f0 := cell_later hk f0
  replace f1 := cell_later hk f1
  replace f2 := cell_later hk f2
  clear hb hk
  have zf0 := blk_lt f0
  have zf1 := blk_lt f1
  have zf2 := blk_lt f2
  rw [HSM2.out]
  go_wp2_with fail
  refine (HJO.out _ (ha.below hA) (hb0.below hA)).mono ?_
  rintro e w3 ⟨v3, rfl, o3, hb⟩
  have hk : Below w2.heap.size w2 w3 := by first | exact hb | exact bl_tr (bl_al (bl0 _) _) hb | exact bl_tr (bl_dr (bl_al (bl0 _) _)) hb | exact bl_tr (bl_al (bl_al (bl0 _) _) _) hb | exact bl_tr (bl_dr (bl_al (bl_al (bl0 _) _) _)) hb | exact bl_tr (bl_al (bl_al (bl_al (bl0 _) _) _) _) hb | exact bl_tr (bl_dr (bl_al (bl_al (bl_al (bl0 _) _) _) _)) hb | exact bl_tr (bl_al (bl_al (bl_al (bl_al (bl0 _) _) _) _) _) hb | exact bl_tr (bl_dr (bl_al (bl_al (bl_al (bl_al (bl0 _) _) _) _) _)) hb | exact bl_tr (bl_al (bl_al (bl_al (bl_al (bl_al (bl0 _) _) _) _) _) _) hb | exact bl_tr (bl_dr (bl_al (bl_al (bl_al (bl_al (bl_al (bl0 _) _) _) _) _) _)) hb | exact bl_tr (bl_al (bl_al (bl_al (bl_al (bl_al (bl_al (bl0 _) _) _) _) _) _) _) hb | exact bl_tr (bl_dr (bl_al (bl_al (bl_al (bl_al (bl_al (bl_al (bl0 _) _) _) _) _) _) _)) hb | exact bl_tr (bl_dr (bl0 _)) hb
  replace hA := bl_tr hA hk
  replace f0 := cell_later hk f0
  replace f1 := cell_later hk f1
  replace f2 := cell_later hk f2
  clear hb hk
  have zf0 := blk_lt f0
  have zf1 := blk_lt f1
  have zf2 := blk_lt f2
  obtain ⟨g7, c7, cur7, rfl, hg7, hh7, hc7, hcs7⟩ := own_some o3 (by omega)
  obtain ⟨a7', c7', e7, r7, _⟩ := own_rowC o3
  cases e7
  have hJa : RowC w3 (some ⟨g7, 0, none⟩) a := by have := rowC_pre r7 a.length; rw [HJT.out] at this; exact this
  have hJb : RowC w3 (some ⟨g7, (a.length - 1) * 2, none⟩) b := by have := rowC_drop r7 (a.length - 1); rw [HJD.out] at this; exact this
  obtain ⟨ga, oa, ea, q0, q1⟩ := HA.out _ (ha.below hA)
  obtain ⟨gb, ob, eb, q2, q3⟩ := HB.out _ (hb0.below hA)
  subst ea eb
  have l1 : (a.length : Int) ≤ (c7 : Int) := by omega
  have l2 : ((a.length - 1 : Nat) : Int) ≤ (J.length : Int) := by omega
  have l3 : ¬ c7 = a.length - 1 := by omega
  have l4 : a.length - 1 ≤ J.length := by omega
  have l5 : (J.length : Int) ≤ (c7 : Int) := by omega
  have l6 : a.length ≤ c7 := by omega
  have hk1 := bl0 w3
  have HS := Lib.hid (show ∀ W', Below w3.heap.size w3 W' → W'.cell? ⟨ga, oa + (a.length - 1) * 2, none⟩ = some (.int .i64 p.1) ∧ W'.cell? ⟨ga, oa + (a.length - 1) * 2 + 1, none⟩ = some (.int .i64 p.2) ∧ W'.cell? ⟨gb, ob, none⟩ = some (.int .i64 p.1) ∧ W'.cell? ⟨gb, ob + 1, none⟩ = some (.int .i64 p.2) from fun W' h => ⟨cell_later h q0, cell_later h q1, cell_later h q2, cell_later h q3⟩)
  clear q0 q1 q2 q3 o3 HA HB
  go_upto_region 6 with fail
  go_region_held3 (fun W' => W'.cell? ⟨ga, oa + (a.length - 1) * 2, none⟩ = some (.int .i64 p.1) ∧ W'.cell? ⟨ga, oa + (a.length - 1) * 2 + 1, none⟩ = some (.int .i64 p.2) ∧ W'.cell? ⟨gb, ob, none⟩ = some (.int .i64 p.1) ∧ W'.cell? ⟨gb, ob + 1, none⟩ = some (.int .i64 p.2))
    (exact HS.out _ (bl_dr hk1)) (fail)
  have hk2 := bl_dr hk1
  replace hA := bl_tr hA hk2
  replace f0 := cell_later hk2 f0; replace f1 := cell_later hk2 f1; replace f2 := cell_later hk2 f2
  replace hJa := hJa.below hk2; replace hJb := hJb.below hk2; replace r7 := r7.below hk2
  have hh7' : BlkAt w3.drew g7 cur7 := hh7
  clear hk1 hk2 HS hh7
  go_wp2_with fail
  refine (cells_any (some ⟨g7, 0, none⟩) (some ⟨ga, oa, none⟩) c7 ca a a _ hJa (ha.below hA) (by omega)).mono ?_
  rintro e w4 ⟨rfl, hb⟩
  rw [decide_eq_true (rfl : a = a)]
  replace hA := bl_tr hA hb
  replace f0 := cell_later hb f0; replace f1 := cell_later hb f1; replace f2 := cell_later hb f2
  replace hJb := hJb.below hb; replace r7 := r7.below hb
  have hh8 := hh7'.below hb
  clear hb hJa hh7'
  go_wp2_with fail
  refine (cells_any (some ⟨g7, (a.length - 1) * 2, none⟩) (some ⟨gb, ob, none⟩) (c7 - (a.length - 1)) cb b b _ hJb (hb0.below hA) (by omega)).mono ?_
  rintro e w5 ⟨rfl, hb⟩
  rw [decide_eq_true (rfl : b = b)]
  replace hA := bl_tr hA hb
  replace f0 := cell_later hb f0; replace f1 := cell_later hb f1; replace f2 := cell_later hb f2
  replace r7 := r7.below hb
  have hh9 := hh8.below hb
  clear hb hJb hh8
  go_wp2_with fail
  refine (HCA.out _ (hr.below hA) (ha.below hA) (hs.below hA)).mono ?_
  rintro e w6 ⟨rfl, hb⟩
  have hk : Below w5.heap.size w5 w6 := by first | exact hb | exact bl_tr (bl_al (bl0 _) _) hb | exact bl_tr (bl_dr (bl_al (bl0 _) _)) hb | exact bl_tr (bl_al (bl_al (bl0 _) _) _) hb | exact bl_tr (bl_dr (bl_al (bl_al (bl0 _) _) _)) hb | exact bl_tr (bl_al (bl_al (bl_al (bl0 _) _) _) _) hb | exact bl_tr (bl_dr (bl_al (bl_al (bl_al (bl0 _) _) _) _)) hb | exact bl_tr (bl_al (bl_al (bl_al (bl_al (bl0 _) _) _) _) _) hb | exact bl_tr (bl_dr (bl_al (bl_al (bl_al (bl_al (bl0 _) _) _) _) _)) hb | exact bl_tr (bl_al (bl_al (bl_al (bl_al (bl_al (bl0 _) _) _) _) _) _) hb | exact bl_tr (bl_dr (bl_al (bl_al (bl_al (bl_al (bl_al (bl0 _) _) _) _) _) _)) hb | exact bl_tr (bl_al (bl_al (bl_al (bl_al (bl_al (bl_al (bl0 _) _) _) _) _) _) _) hb | exact bl_tr (bl_dr (bl_al (bl_al (bl_al (bl_al (bl_al (bl_al (bl0 _) _) _) _) _) _) _)) hb | exact bl_tr (bl_dr (bl0 _)) hb
  replace hA := bl_tr hA hk
  replace r7 := r7.below hk
  replace hh9 := hh9.below hk
  replace f0 := cell_later hk f0
  replace f1 := cell_later hk f1
  replace f2 := cell_later hk f2
  clear hb hk
  have zf0 := blk_lt f0
  have zf1 := blk_lt f1
  have zf2 := blk_lt f2
  go_wp2_with fail
  refine (HCB.out _ (hr.below hA) (hb0.below hA) (hs.below hA)).mono ?_
  rintro e w7 ⟨rfl, hb⟩
  have hk : Below w6.heap.size w6 w7 := by first | exact hb | exact bl_tr (bl_al (bl0 _) _) hb | exact bl_tr (bl_dr (bl_al (bl0 _) _)) hb | exact bl_tr (bl_al (bl_al (bl0 _) _) _) hb | exact bl_tr (bl_dr (bl_al (bl_al (bl0 _) _) _)) hb | exact bl_tr (bl_al (bl_al (bl_al (bl0 _) _) _) _) hb | exact bl_tr (bl_dr (bl_al (bl_al (bl_al (bl0 _) _) _) _)) hb | exact bl_tr (bl_al (bl_al (bl_al (bl_al (bl0 _) _) _) _) _) hb | exact bl_tr (bl_dr (bl_al (bl_al (bl_al (bl_al (bl0 _) _) _) _) _)) hb | exact bl_tr (bl_al (bl_al (bl_al (bl_al (bl_al (bl0 _) _) _) _) _) _) hb | exact bl_tr (bl_dr (bl_al (bl_al (bl_al (bl_al (bl_al (bl0 _) _) _) _) _) _)) hb | exact bl_tr (bl_al (bl_al (bl_al (bl_al (bl_al (bl_al (bl0 _) _) _) _) _) _) _) hb | exact bl_tr (bl_dr (bl_al (bl_al (bl_al (bl_al (bl_al (bl_al (bl0 _) _) _) _) _) _) _)) hb | exact bl_tr (bl_dr (bl0 _)) hb
  replace hA := bl_tr hA hk
  replace r7 := r7.below hk
  replace hh9 := hh9.below hk
  replace f0 := cell_later hk f0
  replace f1 := cell_later hk f1
  replace f2 := cell_later hk f2
  clear hb hk
  have zf0 := blk_lt f0
  have zf1 := blk_lt f1
  have zf2 := blk_lt f2
  go_wp2_with fail
  refine (HCC.out _ c7 _ (hr.below hA) r7 (hs.below hA)).mono ?_
  rintro e w8 ⟨rfl, hb⟩
  have hk : Below w7.heap.size w7 w8 := by first | exact hb | exact bl_tr (bl_al (bl0 _) _) hb | exact bl_tr (bl_dr (bl_al (bl0 _) _)) hb | exact bl_tr (bl_al (bl_al (bl0 _) _) _) hb | exact bl_tr (bl_dr (bl_al (bl_al (bl0 _) _) _)) hb | exact bl_tr (bl_al (bl_al (bl_al (bl0 _) _) _) _) hb | exact bl_tr (bl_dr (bl_al (bl_al (bl_al (bl0 _) _) _) _)) hb | exact bl_tr (bl_al (bl_al (bl_al (bl_al (bl0 _) _) _) _) _) hb | exact bl_tr (bl_dr (bl_al (bl_al (bl_al (bl_al (bl0 _) _) _) _) _)) hb | exact bl_tr (bl_al (bl_al (bl_al (bl_al (bl_al (bl0 _) _) _) _) _) _) hb | exact bl_tr (bl_dr (bl_al (bl_al (bl_al (bl_al (bl_al (bl0 _) _) _) _) _) _)) hb | exact bl_tr (bl_al (bl_al (bl_al (bl_al (bl_al (bl_al (bl0 _) _) _) _) _) _) _) hb | exact bl_tr (bl_dr (bl_al (bl_al (bl_al (bl_al (bl_al (bl_al (bl0 _) _) _) _) _) _) _)) hb | exact bl_tr (bl_dr (bl0 _)) hb
  replace hA := bl_tr hA hk
  replace r7 := r7.below hk
  replace hh9 := hh9.below hk
  clear hb hk
  clear f0 f1 f2 zf0 zf1 zf2
  by_cases hPa : Pa = 0
  case neg =>
    have hpj := HPP.out
    rw [if_neg hPa] at hpj
    subst hpj
    have u1 : (Pj != 0) = true := by rw [bne_iff_ne]; exact hPa
    have u2 := beq_self_eq_true Pj
    clear hPa
    go_wp2_with fail
    refine (awake_any _ (hs.below hA)).mono ?_
    rintro e w9 ⟨rfl, hb⟩
    have hk : Below w8.heap.size w8 w9 := by first | exact hb | exact bl_tr (bl_al (bl0 _) _) hb | exact bl_tr (bl_dr (bl_al (bl0 _) _)) hb | exact bl_tr (bl_al (bl_al (bl0 _) _) _) hb | exact bl_tr (bl_dr (bl_al (bl_al (bl0 _) _) _)) hb | exact bl_tr (bl_al (bl_al (bl_al (bl0 _) _) _) _) hb | exact bl_tr (bl_dr (bl_al (bl_al (bl_al (bl0 _) _) _) _)) hb | exact bl_tr (bl_al (bl_al (bl_al (bl_al (bl0 _) _) _) _) _) hb | exact bl_tr (bl_dr (bl_al (bl_al (bl_al (bl_al (bl0 _) _) _) _) _)) hb | exact bl_tr (bl_al (bl_al (bl_al (bl_al (bl_al (bl0 _) _) _) _) _) _) hb | exact bl_tr (bl_dr (bl_al (bl_al (bl_al (bl_al (bl_al (bl0 _) _) _) _) _) _)) hb | exact bl_tr (bl_al (bl_al (bl_al (bl_al (bl_al (bl_al (bl0 _) _) _) _) _) _) _) hb | exact bl_tr (bl_dr (bl_al (bl_al (bl_al (bl_al (bl_al (bl_al (bl0 _) _) _) _) _) _) _)) hb | exact bl_tr (bl_dr (bl0 _)) hb
    replace hA := bl_tr hA hk
    clear hb hk
    go_wp2
    go_ret
    exact ⟨rfl, hA⟩
  by_cases hPb : Pb = 0
  case neg =>
    have hpj := HPP.out
    rw [if_pos hPa] at hpj
    subst hpj
    subst hPa
    have u1 : (Pj != 0) = true := by rw [bne_iff_ne]; exact hPb
    have u2 := beq_self_eq_true Pj
    clear hPb
    go_wp2_with fail
    refine (awake_any _ (hs.below hA)).mono ?_
    rintro e w9 ⟨rfl, hb⟩
    have hk : Below w8.heap.size w8 w9 := by first | exact hb | exact bl_tr (bl_al (bl0 _) _) hb | exact bl_tr (bl_dr (bl_al (bl0 _) _)) hb | exact bl_tr (bl_al (bl_al (bl0 _) _) _) hb | exact bl_tr (bl_dr (bl_al (bl_al (bl0 _) _) _)) hb | exact bl_tr (bl_al (bl_al (bl_al (bl0 _) _) _) _) hb | exact bl_tr (bl_dr (bl_al (bl_al (bl_al (bl0 _) _) _) _)) hb | exact bl_tr (bl_al (bl_al (bl_al (bl_al (bl0 _) _) _) _) _) hb | exact bl_tr (bl_dr (bl_al (bl_al (bl_al (bl_al (bl0 _) _) _) _) _)) hb | exact bl_tr (bl_al (bl_al (bl_al (bl_al (bl_al (bl0 _) _) _) _) _) _) hb | exact bl_tr (bl_dr (bl_al (bl_al (bl_al (bl_al (bl_al (bl0 _) _) _) _) _) _)) hb | exact bl_tr (bl_al (bl_al (bl_al (bl_al (bl_al (bl_al (bl0 _) _) _) _) _) _) _) hb | exact bl_tr (bl_dr (bl_al (bl_al (bl_al (bl_al (bl_al (bl_al (bl0 _) _) _) _) _) _) _)) hb | exact bl_tr (bl_dr (bl0 _)) hb
    replace hA := bl_tr hA hk
    clear hb hk
    go_wp2
    go_ret
    exact ⟨rfl, hA⟩
  have hpj := HPP.out
  rw [if_pos hPa, hPb] at hpj
  have hva := HVA.out
  have hvb := HVB.out
  have hvj := HVJ.out
  rw [if_pos hPa] at hva
  rw [if_pos hPb] at hvb
  rw [if_pos hpj, HCJ.out, ← hva, ← hvb] at hvj
  obtain ⟨ea1, ea2⟩ := HPA.out hPa
  obtain ⟨eb1, eb2⟩ := HPB.out hPb
  obtain ⟨ej1, ej2⟩ := HPJ.out hpj
  have hsab := HSA.out
  rw [← hva, ← hvb] at hsab
  have hml := HML.out
  rw [← ea2, ← eb2] at hml
  rw [← ea2, ← eb2] at ej2
  have u3 : IntKind.u64.wrap (Ca + Cb) = Ca + Cb := by rw [IntKind.wrap_u64]; omega
  have u4 : (Cj != Ca + Cb) = false := by rw [bne_eq_false_iff_eq]; exact hvj
  have HEJ := Lib.hid ej2
  have HMLL := Lib.hid hml
  subst hPa hPb hpj ea1 eb1 ej1
  clear hva hvb hvj hsab hml ea2 eb2 ej2 HPA HPB HPJ HPP HVA HVB HVJ HCJ
  go_wp2_with fail
  refine (HMA.out _ (ha.below hA) (hs.below hA)).mono ?_
  rintro e w9 ⟨v9, rfl, o9, hb⟩
  have hk : Below w8.heap.size w8 w9 := by first | exact hb | exact bl_tr (bl_al (bl0 _) _) hb | exact bl_tr (bl_dr (bl_al (bl0 _) _)) hb | exact bl_tr (bl_al (bl_al (bl0 _) _) _) hb | exact bl_tr (bl_dr (bl_al (bl_al (bl0 _) _) _)) hb | exact bl_tr (bl_al (bl_al (bl_al (bl0 _) _) _) _) hb | exact bl_tr (bl_dr (bl_al (bl_al (bl_al (bl0 _) _) _) _)) hb | exact bl_tr (bl_al (bl_al (bl_al (bl_al (bl0 _) _) _) _) _) hb | exact bl_tr (bl_dr (bl_al (bl_al (bl_al (bl_al (bl0 _) _) _) _) _)) hb | exact bl_tr (bl_al (bl_al (bl_al (bl_al (bl_al (bl0 _) _) _) _) _) _) hb | exact bl_tr (bl_dr (bl_al (bl_al (bl_al (bl_al (bl_al (bl0 _) _) _) _) _) _)) hb | exact bl_tr (bl_al (bl_al (bl_al (bl_al (bl_al (bl_al (bl0 _) _) _) _) _) _) _) hb | exact bl_tr (bl_dr (bl_al (bl_al (bl_al (bl_al (bl_al (bl_al (bl0 _) _) _) _) _) _) _)) hb | exact bl_tr (bl_dr (bl0 _)) hb
  replace hA := bl_tr hA hk
  replace r7 := r7.below hk
  replace hh9 := hh9.below hk
  clear hb hk
  obtain ⟨a9, c9, rfl, r9, n9, s9⟩ := rowB_own o9
  clear o9
  go_wp2_with fail
  refine (HMB.out _ (hb0.below hA) (hs.below hA)).mono ?_
  rintro e w10 ⟨v10, rfl, o10, hb⟩
  have hk : Below w9.heap.size w9 w10 := by first | exact hb | exact bl_tr (bl_al (bl0 _) _) hb | exact bl_tr (bl_dr (bl_al (bl0 _) _)) hb | exact bl_tr (bl_al (bl_al (bl0 _) _) _) hb | exact bl_tr (bl_dr (bl_al (bl_al (bl0 _) _) _)) hb | exact bl_tr (bl_al (bl_al (bl_al (bl0 _) _) _) _) hb | exact bl_tr (bl_dr (bl_al (bl_al (bl_al (bl0 _) _) _) _)) hb | exact bl_tr (bl_al (bl_al (bl_al (bl_al (bl0 _) _) _) _) _) hb | exact bl_tr (bl_dr (bl_al (bl_al (bl_al (bl_al (bl0 _) _) _) _) _)) hb | exact bl_tr (bl_al (bl_al (bl_al (bl_al (bl_al (bl0 _) _) _) _) _) _) hb | exact bl_tr (bl_dr (bl_al (bl_al (bl_al (bl_al (bl_al (bl0 _) _) _) _) _) _)) hb | exact bl_tr (bl_al (bl_al (bl_al (bl_al (bl_al (bl_al (bl0 _) _) _) _) _) _) _) hb | exact bl_tr (bl_dr (bl_al (bl_al (bl_al (bl_al (bl_al (bl_al (bl0 _) _) _) _) _) _) _)) hb | exact bl_tr (bl_dr (bl0 _)) hb
  replace hA := bl_tr hA hk
  replace r7 := r7.below hk
  replace hh9 := hh9.below hk
  replace r9 := r9.below hk
  clear hb hk
  obtain ⟨a10, c10, rfl, r10, n10, s10⟩ := rowB_own o10
  clear o10
  go_wp2_with fail
  refine (HMC.out _ c7 _ r7 (hs.below hA)).mono ?_
  rintro e w11 ⟨v11, rfl, o11, hb⟩
  have hk : Below w10.heap.size w10 w11 := by first | exact hb | exact bl_tr (bl_al (bl0 _) _) hb | exact bl_tr (bl_dr (bl_al (bl0 _) _)) hb | exact bl_tr (bl_al (bl_al (bl0 _) _) _) hb | exact bl_tr (bl_dr (bl_al (bl_al (bl0 _) _) _)) hb | exact bl_tr (bl_al (bl_al (bl_al (bl0 _) _) _) _) hb | exact bl_tr (bl_dr (bl_al (bl_al (bl_al (bl0 _) _) _) _)) hb | exact bl_tr (bl_al (bl_al (bl_al (bl_al (bl0 _) _) _) _) _) hb | exact bl_tr (bl_dr (bl_al (bl_al (bl_al (bl_al (bl0 _) _) _) _) _)) hb | exact bl_tr (bl_al (bl_al (bl_al (bl_al (bl_al (bl0 _) _) _) _) _) _) hb | exact bl_tr (bl_dr (bl_al (bl_al (bl_al (bl_al (bl_al (bl0 _) _) _) _) _) _)) hb | exact bl_tr (bl_al (bl_al (bl_al (bl_al (bl_al (bl_al (bl0 _) _) _) _) _) _) _) hb | exact bl_tr (bl_dr (bl_al (bl_al (bl_al (bl_al (bl_al (bl_al (bl0 _) _) _) _) _) _) _)) hb | exact bl_tr (bl_dr (bl0 _)) hb
  replace hA := bl_tr hA hk
  replace hh9 := hh9.below hk
  replace r9 := r9.below hk
  replace r10 := r10.below hk
  clear hb hk
  obtain ⟨a11, c11, rfl, r11, _, _⟩ := rowB_own o11
  clear o11 r7
  have ho : (w11.alloc (.cells #[] 5)).ownsRow w11.heap.size 5 1 (.slice (some ⟨w11.heap.size, 0, none⟩) 0 0) 0 (cellsB []) := ⟨rfl, .inr ⟨w11.heap.size, 0, #[], rfl, Nat.le_refl _, heap_alloc_new _ _, Nat.le_refl _, Nat.zero_le _, rfl, rfl⟩⟩
  have hbn := bl_al (bl0 w11) (.cells #[] 5)
  have r9n := r9.below hbn
  have r10n := r10.below hbn
  have r11n := r11.below hbn
  have hh10 := hh9.below hbn
  have hmm := HMLL.out
  go_wp2_with (at_builtin; refine wpList_strip (by rfl) ?_; refine wpList_append_rowB rfl _ _ rfl w11.heap.size _ 0 (cellsB []) rfl ho a9 c9 Ma rfl r9n n9 s9 (by omega) (by simp) ?_)
  intro v12 w12 o12 hg12
  have hB12 : Below w11.heap.size w11 w12 := hbn.grown hg12 (by simp) (fun j hj => by simp [Value.ownBlock] at hj; omega)
  have o12' : w12.ownsRow w11.heap.size 5 1 v12 Ma.length (cellsB Ma) := by
    first | exact o12 | simpa [cellsB] using o12
  clear o12 hg12 ho hbn r9n r10n r11n hh10
  go_wp2_with (at_builtin; refine wpList_strip (by rfl) ?_; refine wpList_append_rowB rfl _ _ rfl w11.heap.size _ Ma.length (cellsB Ma) rfl o12' a10 c10 Mb rfl (r10.below hB12) n10 s10 (by omega) hB12.size ?_)
  intro v13 w13 o13 hg13
  have hB13 : Below w11.heap.size w11 w13 := hB12.grown hg13 hB12.size (fun j hj => by have := (o12'.lt j hj).1; omega)
  have o13' : w13.ownsRow w11.heap.size 5 1 v13 Mj.length (cellsB Mj) := by
    rw [HEJ.out, List.length_append]
    simp only [cellsB, List.map_append] at o13 ⊢
    exact o13
  obtain ⟨a13, c13, rfl, r13, _⟩ := rowB_of_own o13'
  have hmj : Mj.length ≤ 1048576 := by rw [HEJ.out, List.length_append]; omega
  have HMJ := Lib.hid hmj
  have r11n := r11.below hB13
  have hh10 := hh9.below hB13
  replace hA := bl_tr hA hB13
  clear o12' o13 o13' hg13 hB12 hB13 r11 hh9 r9 r10 hmj
  go_wp2_with fail
  refine (bytes_any a11 a13 c11 c13 Mj Mj _ r11n r13 HMJ.out).mono ?_
  rintro e w14 ⟨rfl, hb⟩
  have hk : Below w13.heap.size w13 w14 := by first | exact hb | exact bl_tr (bl_al (bl0 _) _) hb | exact bl_tr (bl_dr (bl_al (bl0 _) _)) hb | exact bl_tr (bl_al (bl_al (bl0 _) _) _) hb | exact bl_tr (bl_dr (bl_al (bl_al (bl0 _) _) _)) hb | exact bl_tr (bl_al (bl_al (bl_al (bl0 _) _) _) _) hb | exact bl_tr (bl_dr (bl_al (bl_al (bl_al (bl0 _) _) _) _)) hb | exact bl_tr (bl_al (bl_al (bl_al (bl_al (bl0 _) _) _) _) _) hb | exact bl_tr (bl_dr (bl_al (bl_al (bl_al (bl_al (bl0 _) _) _) _) _)) hb | exact bl_tr (bl_al (bl_al (bl_al (bl_al (bl_al (bl0 _) _) _) _) _) _) hb | exact bl_tr (bl_dr (bl_al (bl_al (bl_al (bl_al (bl_al (bl0 _) _) _) _) _) _)) hb | exact bl_tr (bl_al (bl_al (bl_al (bl_al (bl_al (bl_al (bl0 _) _) _) _) _) _) _) hb | exact bl_tr (bl_dr (bl_al (bl_al (bl_al (bl_al (bl_al (bl_al (bl0 _) _) _) _) _) _) _)) hb | exact bl_tr (bl_dr (bl0 _)) hb
  replace hA := bl_tr hA hk
  replace hh10 := hh10.below hk
  clear hb hk
  rw [decide_eq_true (rfl : Mj = Mj)]
  clear r11n r13
  obtain ⟨i0, hi, hz0, hz1, hz2⟩ := info_parts Tryd.infoCell
  have ho : (w14.alloc (.cells #[] 37)).ownsRow w14.heap.size 37 2 (.slice (some ⟨w14.heap.size, 0, none⟩) 0 0) 0 [] := ⟨rfl, .inr ⟨w14.heap.size, 0, #[], rfl, Nat.le_refl _, heap_alloc_new _ _, Nat.le_refl _, Nat.zero_le _, rfl, rfl⟩⟩
  have hbn := bl_al (bl0 w14) (.cells #[] 37)
  have han := ha.below (bl_tr hA hbn)
  go_wp2_with (at_builtin; refine wpList_append_own _ rfl _ _ 27 rfl w14.heap.size 37 i0 (.agg #[.int .i64 0, .int .i64 0]) 2 16 Tryd.underlying27 hi hz0 hz1 hz2 rfl (by decide) _ 0 [] rfl ho ⟨ga, oa, none⟩ a.length ca (flatC a) rfl (flatC_len a) han.flat (flatC_one a) ?c3 ?c4 ?c5 ?_)
  case c3 => unfold maxLen; omega
  case c4 => omega
  case c5 => simp
  intro v15 w15 o15 hg15 _
  have hB15 : Below w14.heap.size w14 w15 := hbn.grown hg15 (by simp) (fun j hj => by simp [Value.ownBlock] at hj; omega)
  have o15' : w15.ownsRow w14.heap.size 37 2 v15 a.length (flatC a) := by simpa using o15
  have hh11 := hh10.below hB15
  obtain ⟨g15, c15, cur15, rfl, hg15', hh15, _, _⟩ := own_some o15' (by omega)
  obtain ⟨a15', c15', e15, r15, _⟩ := own_rowC o15'
  cases e15
  have lg7 := (Array.getElem?_eq_some_iff.1 hh10).1
  replace hA := bl_tr hA hB15
  clear o15 o15' hg15 ho hbn han hh10 hB15
  go_wp2
  have hJ2 := HJ200.out
  have ha0 : ∀ wr, Gr g7 w15 wr → RowC wr (some ⟨ga, oa, none⟩) a := fun wr hg => by
    rcases ha with h | ⟨b', o', e, hc⟩
    · exact .inl h
    · cases e
      refine .inr ⟨ga, oa, rfl, fun i z hz => ?_⟩
      obtain ⟨z1, z2⟩ := hc i z hz
      have lt := blk_lt z1
      have := hA.size
      exact ⟨hg.cell (cell_later hA z1) (by omega), hg.cell (cell_later hA z2) (by omega)⟩
  have hr0 : ∀ wr, Gr g7 w15 wr → RowC wr (some ⟨g15, 0, none⟩) a := fun wr hg => by
    rcases r15 with h | ⟨b', o', e, hc⟩
    · exact .inl h
    · cases e
      refine .inr ⟨g15, 0, rfl, fun i z hz => ?_⟩
      obtain ⟨z1, z2⟩ := hc i z hz
      exact ⟨hg.cell z1 (by omega), hg.cell z2 (by omega)⟩
  have HA0 := Lib.hid ha0; have HR0 := Lib.hid hr0
  clear ha0 hr0 r15
  go_loopw [23] (fun i wr => ∃ k : Nat, k ≤ J.length ∧ i = .int .i64 k ∧ Gr g7 w15 wr ∧ ∃ cur, BlkAt wr g7 cur ∧ cur.size = c7 * 2) (fun i _ => J.length - (intOf i).toNat)
  case atStart => exact ⟨0, Nat.zero_le _, rfl, Gr.refl _ _, cur7, hh11, hcs7⟩
  case round =>
    obtain ⟨k, hk, rfl, hG, cur, hcur, hcz⟩ := hrel
    by_cases hlt : k < J.length
    · have hlt2 : (k : Int) < (J.length : Int) := by omega
      have hk0 : (0 : Int) ≤ (k : Int) := by omega
      have b1 : k * 2 < cur.size := by omega
      have b2 : k * 2 + 1 < cur.size := by omega
      have q0 : wr.cell? ⟨g7, k * 2, none⟩ = some (cur[k * 2]) := by simp [World.cell?, show wr.heap[g7]? = _ from hcur, b1]
      have q1 : wr.cell? ⟨g7, k * 2 + 1, none⟩ = some (cur[k * 2 + 1]) := by simp [World.cell?, show wr.heap[g7]? = _ from hcur, b2]
      have q2 : wr.frozen? ⟨g7, k * 2, none⟩ = false := by simp [World.frozen?, show wr.heap[g7]? = _ from hcur]
      have q3 : wr.frozen? ⟨g7, k * 2 + 1, none⟩ = false := by simp [World.frozen?, show wr.heap[g7]? = _ from hcur]
      have hlg : g7 < wr.heap.size := (Array.getElem?_eq_some_iff.1 hcur).1
      have hend : Gr g7 w15 ((wr.setCell ⟨g7, k * 2, none⟩ (.int .i64 (-3))).setCell ⟨g7, k * 2 + 1, none⟩ (.int .i64 0)) ∧ ∃ cur', BlkAt ((wr.setCell ⟨g7, k * 2, none⟩ (.int .i64 (-3))).setCell ⟨g7, k * 2 + 1, none⟩ (.int .i64 0)) g7 cur' ∧ cur'.size = c7 * 2 := by
        refine ⟨(hG.trans (Gr.set _ _ _ _)).trans (Gr.set _ _ _ _), _, Go.heap_setCell_same _ _ _ _ _ _ (Go.heap_setCell_same _ _ _ _ _ _ hcur), ?_⟩
        simp [hcz]
      have HEND := Lib.hid hend
      generalize cur[k * 2] = c1 at *
      generalize cur[k * 2 + 1] = c2 at *
      clear hend hG hcur hcz b1 b2
      go_wp2
      go_roundw
      case rel => exact ⟨k + 1, by omega, by go_num, HEND.out⟩
      case measure => simp [intOf]; omega
    · obtain rfl : k = J.length := by omega
      have hge : ¬ (J.length : Int) < (J.length : Int) := by omega
      have hz := hA.size
      have hfin : Below w.heap.size w wr := hA.grown hG hz (fun r e => by cases e; omega)
      have h1 := HA0.out _ hG
      have h2 := HR0.out _ hG
      clear hcur hcz hG
      go_wp2_with fail
      refine (cells_any (some ⟨ga, oa, none⟩) (some ⟨g15, 0, none⟩) ca c15 a a _ h1 h2 (by omega)).mono ?_
      rintro e w16 ⟨rfl, hb⟩
      rw [decide_eq_true (rfl : a = a)]
      have hfin2 := bl_tr hfin hb
      clear hb h1 h2 hfin
      go_wp2_with fail
      refine (awake_any _ (hs.below hfin2)).mono ?_
      rintro e w17 ⟨rfl, hb⟩
      have hfin3 := bl_tr hfin2 hb
      clear hb
      go_wp2
      go_ret
      exact ⟨rfl, hfin3⟩
end Go.Proofs.YtlmloedjakpogabDoor
