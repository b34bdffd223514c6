/- Tables of costs that grow; Via's row lies in new memory. -/
import Derived.Test.YtgkeifjnnpcleabUr
import Derived.Maps.AppendAt
namespace Go.Proofs.Ytgkeifjnnpcleab
open Go.RowKit

theorem addr_add (b off i : Nat) : (⟨b, off, none⟩ : Addr).add i = ⟨b, off + i, none⟩ := by unfold Addr.add; split <;> simp_all
theorem Try.infoRowU : (Try.prog.info? 22).map (fun i => (i.zero, i.size, i.bytes)) = some (some (.slice none 0 0), 1, 24) := by kernel_rfl

set_option maxHeartbeats 1600000 in
theorem via_new (a b : Option Addr) (c d : Nat) (xs : List Int) (ts : List (Option Addr × Nat × List Int)) (w : World) (hl : xs.length ≤ 1048576) (hw : wideT (rowsT ts) ≤ 1048576) (he : xs.length = ts.length) (hev : evenT (rowsT ts) = true)
    (hr : RowU w a xs) (ht : TabU w b ts) (hu : AllU xs) (hut : AllT (rowsT ts)) :
    Calls Try.prog 20 #[.slice a xs.length c, .slice b ts.length d] w fun e w' => ∃ g, w.heap.size ≤ g ∧ e = .returned (.tuple #[.slice (some ⟨g, 0, none⟩) (viaC xs (rowsT ts)).length (viaC xs (rowsT ts)).length, .int .i64 0]) ∧ RowU w' (some ⟨g, 0, none⟩) (viaC xs (rowsT ts)) ∧ Below w.heap.size w w' := by
  rw [viaC_len]
  have h1 : ((xs.length : Int) != (ts.length : Int)) = false := by rw [bne_eq_false_iff_eq]; omega
  obtain ⟨w1, hw1⟩ : ∃ w1, (w.alloc (.cells #[.slice a xs.length c] 22)).alloc (.cells #[.slice b ts.length d] 35) = w1 := ⟨_, rfl⟩
  have hb1 : Below w.heap.size w w1 := by rw [← hw1]; exact bl_al (bl_al (bl0 w) _) _
  have c0 : w1.cell? ⟨w.heap.size, 0, none⟩ = some (.slice a xs.length c) := by rw [← hw1]; simp [go_sem]
  have c1 : w1.cell? ⟨w.heap.size + 1, 0, none⟩ = some (.slice b ts.length d) := by rw [← hw1]; simp [go_sem]
  have H1 := Lib.hid hw1
  have HM := hmf
  have HE := Lib.hid he
  have HEV := Lib.hid hev
  have HW := Lib.hid (widthT_yes hev)
  have HT := Lib.hid (ht.below hb1)
  have hlt : ts.length ≤ 1048576 := by omega
  clear hw1 he ht
  go_enter Try.func20, Try.ntmps20
  go_wp2_with fail
  rw [H1.out]
  refine (width_any b d ts _ HT.out hlt).mono ?_
  rintro e w' ⟨rfl, rfl⟩
  rw [HW.out, HEV.out]
  clear hev
  go_wp2_with fail
  refine (row_any 28 #[.pointer (some ⟨w.heap.size, 0, none⟩), .pointer (some ⟨w.heap.size + 1, 0, none⟩)] (wideT (rowsT ts)) (viaAt xs (rowsT ts)) _ hw enters_via ?hat).mono ?_
  case hat =>
    intro k W hk hb
    exact viaat_any w.heap.size (w.heap.size + 1) a b c d xs ts k W hl HE.out HEV.out hk (cell_later hb c0) (cell_later hb c1) ((hr.below hb1).below hb) (HT.out.below hb) hu hut
  rintro e w2 ⟨rfl, hrow, hb2⟩
  have HR := Lib.hid hrow
  clear hrow
  go_wp2
  go_ret2
  exact ⟨_, hb1.size, rfl, HR.out, bl_tr hb1 hb2⟩

def tabVals (bs : List (Option Addr × Nat × List Int)) : List Value := bs.map (fun t => .slice t.1 t.2.2.length t.2.1)
theorem tabVals_snoc (bs : List (Option Addr × Nat × List Int)) (t : Option Addr × Nat × List Int) : tabVals (bs ++ [t]) = tabVals bs ++ [.slice t.1 t.2.2.length t.2.1] := by simp [tabVals]
theorem tabVals_one (bs : List (Option Addr × Nat × List Int)) : ∀ u ∈ tabVals bs, u.oneCell' = true := by
  intro u hu
  simp only [tabVals, List.mem_map] at hu
  obtain ⟨t, _, rfl⟩ := hu
  rfl
theorem tabU_of_own {w : World} {base : Nat} {v : Value} {bs : List (Option Addr × Nat × List Int)} (h : w.ownsRow base 22 1 v bs.length (tabVals bs)) (hr : ∀ t ∈ bs, RowU w t.1 t.2.2) : ∃ a cap, v = .slice a bs.length cap ∧ TabU w a bs := by
  have hown := h
  rcases h.2 with ⟨rfl, h0⟩ | ⟨g, cap, cur, rfl, hb, hg, _⟩
  · refine ⟨none, 0, by rw [h0], .inl (List.eq_nil_of_length_eq_zero h0)⟩
  · refine ⟨_, cap, rfl, .inr ⟨g, 0, rfl, fun i t ht => ⟨?_, hr t (List.mem_of_getElem? ht)⟩⟩⟩
    have a0 := hown.cells (g := g) rfl i (.slice t.1 t.2.2.length t.2.1) (by simp [tabVals, ht])
    rw [addr_add] at a0
    rw [Nat.zero_add]
    rw [Nat.zero_add] at a0
    exact a0

/-- A row that lies apart from the block that grows. -/
def RowA (W : World) (own : Option Nat) (a : Option Addr) (zs : List Int) : Prop :=
  zs = [] ∨ ∃ b o, a = some ⟨b, o, none⟩ ∧ some b ≠ own ∧ b < W.heap.size ∧ ∀ i z, zs[i]? = some z → W.cell? ⟨b, o + i, none⟩ = some (.int .u64 z)
theorem RowA.row {W : World} {own : Option Nat} {a : Option Addr} {zs : List Int} (h : RowA W own a zs) : RowU W a zs := by
  rcases h with h | ⟨b, o, h1, _, _, h2⟩
  · exact .inl h
  · exact .inr ⟨b, o, h1, h2⟩
theorem RowA.below {W W' : World} {own : Option Nat} {a : Option Addr} {zs : List Int} (h : RowA W own a zs) (hb : Below W.heap.size W W') : RowA W' own a zs := by
  rcases h with h | ⟨b, o, h1, h2, h3, h4⟩
  · exact .inl h
  · exact .inr ⟨b, o, h1, h2, Nat.lt_of_lt_of_le h3 hb.size, fun i z hz => cell_later hb (h4 i z hz)⟩
theorem RowA.grown {W W' : World} {own own' : Option Nat} {a : Option Addr} {zs : List Int} (h : RowA W own a zs) (hg : W.grownBy W' own) (ho : own' = own ∨ own' = some W.heap.size) : RowA W' own' a zs := by
  rcases h with h | ⟨b, o, h1, h2, h3, h4⟩
  · exact .inl h
  · refine .inr ⟨b, o, h1, ?_, Nat.lt_of_lt_of_le h3 hg.size, fun i z hz => hg.cell (h4 i z hz) h2⟩
    rcases ho with rfl | rfl
    · exact h2
    · intro e
      have : b = W.heap.size := Option.some.inj e
      omega
theorem RowA.of_new {W : World} {own : Option Nat} {g : Nat} {zs : List Int} (h : RowU W (some ⟨g, 0, none⟩) zs) (ho : ∀ j, own = some j → j < g) : RowA W own (some ⟨g, 0, none⟩) zs := by
  by_cases h0 : zs = []
  · exact .inl h0
  · rcases h with h | ⟨b, o, h1, h2⟩
    · exact absurd h h0
    · cases h1
      refine .inr ⟨g, 0, rfl, fun e => ?_, ?_, h2⟩
      · exact absurd (ho g e.symm) (Nat.lt_irrefl g)
      · cases zs with
        | nil => exact absurd rfl h0
        | cons z zs => exact blk_lt (h2 0 z rfl)

/-- A row, or a table, as the source of an append. -/
theorem RowU.src {W : World} {b o : Nat} {zs : List Int} (h : RowU W (some ⟨b, o, none⟩) zs) : ∀ j u, (cellsU zs)[j]? = some u → W.cell? ((⟨b, o, none⟩ : Addr).add j) = some u := by
  intro j u hu
  rw [addr_add]
  simp only [cellsU, List.getElem?_map, Option.map_eq_some_iff] at hu
  obtain ⟨z, hz, rfl⟩ := hu
  rcases h with rfl | ⟨b', o', h1, h2⟩
  · simp at hz
  · cases h1; exact h2 j z hz
theorem TabU.src {W : World} {b o : Nat} {ts : List (Option Addr × Nat × List Int)} (h : TabU W (some ⟨b, o, none⟩) ts) : ∀ j u, (tabVals ts)[j]? = some u → W.cell? ((⟨b, o, none⟩ : Addr).add j) = some u := by
  intro j u hu
  rw [addr_add]
  simp only [tabVals, List.getElem?_map, Option.map_eq_some_iff] at hu
  obtain ⟨z, hz, rfl⟩ := hu
  rcases h with rfl | ⟨b', o', h1, h2⟩
  · simp at hz
  · cases h1; exact (h2 j z hz).1
theorem RowU.some_of {W : World} {a : Option Addr} {zs : List Int} (h : RowU W a zs) (hp : 0 < zs.length) : ∃ b o, a = some ⟨b, o, none⟩ := by
  obtain ⟨b, o, h1, _⟩ := h.cell hp
  exact ⟨b, o, h1⟩
theorem TabU.some_of {W : World} {a : Option Addr} {ts : List (Option Addr × Nat × List Int)} (h : TabU W a ts) (hp : 0 < ts.length) : ∃ b o, a = some ⟨b, o, none⟩ := by
  obtain ⟨b, o, _, _, _, _, h1, _⟩ := h.cell hp
  exact ⟨b, o, h1⟩
theorem TabU.rows {W : World} {a : Option Addr} {ts : List (Option Addr × Nat × List Int)} (h : TabU W a ts) : ∀ t ∈ ts, RowU W t.1 t.2.2 := by
  intro t ht
  obtain ⟨i, hi⟩ := List.getElem?_of_mem ht
  rcases h with rfl | ⟨b, o, _, h2⟩
  · simp at hi
  · exact (h2 i t hi).2
theorem cellsU_one (zs : List Int) : ∀ u ∈ cellsU zs, u.oneCell' = true := by
  intro u hu
  simp only [cellsU, List.mem_map] at hu
  obtain ⟨t, _, rfl⟩ := hu
  rfl
theorem cellsU_app (xs ys : List Int) : cellsU (xs ++ ys) = cellsU xs ++ cellsU ys := by simp [cellsU]
theorem tabVals_app (bs cs : List (Option Addr × Nat × List Int)) : tabVals (bs ++ cs) = tabVals bs ++ tabVals cs := by simp [tabVals]
theorem rowsT_app (bs cs : List (Option Addr × Nat × List Int)) : rowsT (bs ++ cs) = rowsT bs ++ rowsT cs := by simp [rowsT]
theorem viaC_all {xs : List Int} {rs : List (List Int)} (he : xs.length = rs.length) (hx : AllU xs) (hr : AllT rs) : AllU (viaC xs rs) := by
  intro z hz
  simp only [viaC, List.mem_map] at hz
  obtain ⟨p, _, rfl⟩ := hz
  refine ⟨(le_viaAt he 0 p).2 ⟨by omega, fun i x r h1 h2 => (addC_in (hx x (List.mem_of_getElem? h1)) ((hr r (List.mem_of_getElem? h2)).getD p)).1⟩, ((le_viaAt he _ p).1 (Int.le_refl _)).1⟩

/-- What the loop over the rows holds. -/
def BothIn (w : World) (ts us : List (Option Addr × Nat × List Int)) (k : Nat) (v : Value) (W : World) : Prop :=
  ∃ bs, bs.length = k ∧ rowsT bs = byT ((rowsT ts).take k) (rowsT us) ∧ W.ownsRow w.heap.size 22 1 v k (tabVals bs) ∧ (∀ t ∈ bs, RowA W v.ownBlock t.1 t.2.2) ∧ Below w.heap.size w W
theorem bothIn_zero {w : World} (ts us : List (Option Addr × Nat × List Int)) : BothIn w ts us 0 (.slice (some ⟨w.heap.size, 0, none⟩) 0 0) (w.alloc (.cells #[] 22)) :=
  ⟨[], rfl, rfl, own_empty (w := w) (B := w.heap.size) 22 (Nat.le_refl _), fun t ht => by simp at ht, bl_al (bl0 w) _⟩
theorem BothIn.bel {w W : World} {ts us : List (Option Addr × Nat × List Int)} {k : Nat} {v : Value} (h : BothIn w ts us k v W) : Below w.heap.size w W := by
  obtain ⟨_, _, _, _, _, h⟩ := h
  exact h
theorem own_unique {w : World} {B : Nat} {e : TypeId} {v : Value} {n : Nat} {xs ys : List Value} (h : w.ownsRow B e 1 v n xs) (k : w.ownsRow B e 1 v n ys) : xs = ys := by
  have l1 := h.1
  have l2 := k.1
  rcases h.2 with ⟨rfl, h0⟩ | ⟨g, cap, cur, rfl, hb, hg, _, _, _, ht⟩
  · rw [h0, Nat.zero_mul] at l1 l2
    rw [List.eq_nil_of_length_eq_zero l1, List.eq_nil_of_length_eq_zero l2]
  · rcases k.2 with ⟨e, _⟩ | ⟨g', cap', cur', e, hb', hg', _, _, _, ht'⟩
    · cases e
    · cases e
      rw [hg] at hg'
      cases hg'
      rw [← ht, ← ht']
/-- One row more. -/
theorem BothIn.next {w W W2 w' : World} {ts us : List (Option Addr × Nat × List Int)} {k g : Nat} {v v' : Value} {o : Obj} {zs : List Int} (h : BothIn w ts us k v W) (hz : (rowsT ts)[k]? = some zs) (hg : W.heap.size ≤ g)
    (hr : RowU W2 (some ⟨g, 0, none⟩) (viaC zs (rowsT us))) (hb : Below W.heap.size W W2) (hgr : (W2.alloc o).grownBy w' v.ownBlock) (hat : v'.ownBlock = v.ownBlock ∨ v'.ownBlock = some (W2.alloc o).heap.size)
    (hown : ∀ bs, W.ownsRow w.heap.size 22 1 v k (tabVals bs) → w'.ownsRow w.heap.size 22 1 v' (k + 1) (tabVals bs ++ [.slice (some ⟨g, 0, none⟩) (viaC zs (rowsT us)).length (viaC zs (rowsT us)).length])) : BothIn w ts us (k + 1) v' w' := by
  obtain ⟨bs, h1, h2, h3, h4, h5⟩ := h
  have hlt : ∀ j, v.ownBlock = some j → w.heap.size ≤ j ∧ j < W.heap.size := fun j e => h3.lt j e
  have ho : ∀ j, v.ownBlock = some j → j < g := fun j e => Nat.lt_of_lt_of_le (hlt j e).2 hg
  refine ⟨bs ++ [(some ⟨g, 0, none⟩, (viaC zs (rowsT us)).length, viaC zs (rowsT us))], by simp [h1], ?_, ?_, ?_, ?_⟩
  · have hk := (List.getElem?_eq_some_iff.1 hz).1
    rw [rowsT_app, h2, List.take_succ_eq_append_getElem hk, (List.getElem?_eq_some_iff.1 hz).2]
    simp [byT, rowsT]
  · rw [tabVals_snoc]
    exact hown bs h3
  · intro t ht
    rw [List.mem_append, List.mem_singleton] at ht
    rcases ht with ht | rfl
    · exact (((h4 t ht).below hb).below (bl_al (bl0 W2) o)).grown hgr hat
    · exact ((RowA.of_new hr ho).below (bl_al (bl0 W2) o)).grown hgr hat
  · exact (bl_al (bl_tr h5 hb) o).grown hgr (by have := (bl_al (bl_tr h5 hb) o).size; exact this) (fun j e => (hlt j e).1)
end Go.Proofs.Ytgkeifjnnpcleab
