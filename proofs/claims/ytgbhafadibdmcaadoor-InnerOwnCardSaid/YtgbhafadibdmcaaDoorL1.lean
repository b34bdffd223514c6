/- Texts joined: Xj, Xk, Xl, Xm, Xt. -/
import Derived.Test.YtgbhafadibdmcaaDoorK1
import Derived.Test.YtgbhafadibdmcaaDoorJ1
/- Tables within a cluster: Of. -/
namespace Go.Proofs.YtgbhafadibdmcaaDoor
open Go.RowKit

theorem own_emptyC {w : World} {B : Nat} (t : TypeId) (hB : B ≤ w.heap.size) : (w.alloc (.cells #[] t)).ownsRow B t 2 (.slice (some ⟨w.heap.size, 0, none⟩) 0 0) 0 [] :=
  ⟨rfl, .inr ⟨w.heap.size, 0, #[], rfl, hB, heap_alloc_new w _, Nat.le_refl _, Nat.zero_le _, rfl, rfl⟩⟩
theorem eql_nilC0 (n c : Nat) (w : World) : (binOp .eql 35 (.slice none n c) (.slice none 0 0)).run Tryd.prog w = .ok (.bool true) w := by
  kernel_rfl
/-- A row of cells of one's own, or nil. -/
def OwnC (W : World) (base : Nat) (a : Option Addr) (n c : Nat) (zs : List IC) : Prop := W.ownsRow base 30 2 (.slice a n c) n (flatC zs)
theorem OwnC.rowC {W : World} {base : Nat} {a : Option Addr} {c : Nat} {zs : List IC} (h : OwnC W base a zs.length c zs) : RowC W a zs := by
  rcases h.2 with ⟨e, h0⟩ | ⟨g, cap, cur, e, hb, hg, _⟩
  · exact .inl (List.eq_nil_of_length_eq_zero h0)
  · cases e
    exact rowC_own h
theorem OwnC.low {W : World} {base base' : Nat} {a : Option Addr} {n c : Nat} {zs : List IC} (h : OwnC W base a n c zs) (hb : base' ≤ base) : OwnC W base' a n c zs := by
  refine ⟨h.1, ?_⟩
  rcases h.2 with h | ⟨g, cap, cur, h1, h2, h3⟩
  · exact .inl h
  · exact .inr ⟨g, cap, cur, h1, Nat.le_trans hb h2, h3⟩
set_option maxRecDepth 100000 in
set_option maxHeartbeats 1600000 in
theorem clone_c (a : Option Addr) (c : Nat) (zs : List IC) (w : World) (hr : RowC w a zs) (hl : zs.length ≤ 1048576) :
    Calls Tryd.prog 40 #[.slice a zs.length c] w fun e w' => ∃ a' c', e = .returned (.slice a' zs.length c') ∧ OwnC w' w.heap.size a' zs.length c' zs ∧ Below w.heap.size w w' := by
  obtain ⟨i0, hi, hz0, hz1, hz2⟩ := info_parts Tryd.infoCell
  cases a with
  | none =>
    have hn : zs = [] := by
      rcases hr with h | ⟨b, o, e, _⟩
      · exact h
      · cases e
    subst hn
    have hnil := eql_nilC0 0 c w
    go_enter Tryd.func40, Tryd.ntmps40
    go_wp2
    go_ret
    exact ⟨none, 0, rfl, ⟨rfl, .inl ⟨rfl, rfl⟩⟩, bl0 _⟩
  | some ad =>
    have hsp : ∃ b o, ad = ⟨b, o, none⟩ ∨ zs = [] := by
      rcases hr with h | ⟨b, o, e, _⟩
      · exact ⟨0, 0, .inr h⟩
      · exact ⟨b, o, .inl (by cases e; rfl)⟩
    have hb1 := bl_al (bl0 w) (.cells #[] 30)
    have hown0 := own_emptyC (w := w) (B := w.heap.size) 30 (Nat.le_refl _)
    have hnil : (binOp .eql 35 (.slice (some ad) zs.length c) (.slice none 0 0)).run Tryd.prog w = .ok (.bool false) w := by kernel_rfl
    go_enter Tryd.func40, Tryd.ntmps40
    go_wp2_with (at_builtin; refine wpList_append_own _ rfl _ _ 35 rfl w.heap.size 30 i0 (.agg #[.int .i64 0, .int .i64 0]) 2 16 Tryd.underlying35 hi hz0 hz1 hz2 rfl (by decide) _ _ _ rfl hown0 ad zs.length c (flatC zs) rfl ?c0 ?c1 ?c2 ?c3 ?c4 ?c5 ?_)
    case c0 => exact flatC_len2 zs
    case c1 =>
      intro j u hj
      rcases hr with rfl | ⟨b, o, e, hc⟩
      · simp [flatC] at hj
      · cases e
        rw [addr_addN]
        exact cell_later hb1 (flC_cells zs hc j u hj)
    case c2 => exact flC_one zs
    case c3 => unfold maxLen; omega
    case c4 => omega
    case c5 => rw [World.size_alloc]; omega
    intro v' w1 hown' hgrow _
    have hB1 : Below w.heap.size w w1 := hb1.grown hgrow (by rw [World.size_alloc]; omega) (fun j hj => by simp [Value.ownBlock] at hj; omega)
    obtain ⟨a', c', rfl⟩ : ∃ a' c', v' = .slice a' zs.length c' := by
      rcases hown'.2 with ⟨rfl, h⟩ | ⟨g, cap, cur, h, _⟩
      · exact ⟨none, 0, by rw [h]⟩
      · exact ⟨_, _, h⟩
    have HO := Lib.hid hown'
    clear hown' hgrow hown0 hb1 hnil
    go_wp2
    go_ret
    exact ⟨a', c', rfl, HO.out, hB1⟩

/-- A table's rows, each in a block of its own. -/
def tabC (n : Nat) (gs : List Nat) (m : Nat) : List Value := gs.map (fun g => Value.slice (some ⟨g, 0, none⟩) n n) ++ List.replicate m (.slice none 0 0)
structure TabH (W : World) (b n m : Nat) (gs : List Nat) (rs : List (List Int)) : Prop where
  len : gs.length = rs.length
  tab : W.heap[b]? = some (.cells (tabC n gs m).toArray 42 (0, 0))
  row : ∀ (i : Nat) (g : Nat) (r : List Int), gs[i]? = some g → rs[i]? = some r → W.heap[g]? = some (.cells (cellsU r).toArray 36 (0, 0))
theorem TabH.below {W W' : World} {b n m : Nat} {gs : List Nat} {rs : List (List Int)} (h : TabH W b n m gs rs) (hb : Below W.heap.size W W') : TabH W' b n m gs rs :=
  ⟨h.len, (hb.block _ (Array.getElem?_eq_some_iff.1 h.tab).1).trans h.tab, fun i g r h1 h2 => (hb.block _ (Array.getElem?_eq_some_iff.1 (h.row i g r h1 h2)).1).trans (h.row i g r h1 h2)⟩
theorem tab_ne {W : World} {b g : Nat} {cs ds : Array Value} (h : W.heap[b]? = some (.cells cs 42 (0, 0))) (h2 : W.heap[g]? = some (.cells ds 36 (0, 0))) : g ≠ b := by
  intro e
  subst e
  rw [h] at h2
  have h3 := Option.some.inj h2
  injection h3 with _ h4
  exact absurd h4 (by decide)
theorem tabC_set (n : Nat) (gs : List Nat) (m g : Nat) : (tabC n gs (m + 1)).set gs.length (.slice (some ⟨g, 0, none⟩) n n) = tabC n (gs ++ [g]) m := by
  unfold tabC
  rw [List.set_append_right _ _ (by simp), List.replicate_succ, List.map_append, List.append_assoc]
  simp
theorem TabH.set {W : World} {b n m g : Nat} {gs : List Nat} {rs : List (List Int)} {r : List Int} (h : TabH W b n (m + 1) gs rs) (hg : W.heap[g]? = some (.cells (cellsU r).toArray 36 (0, 0))) : TabH (W.setCell ⟨b, gs.length, none⟩ (.slice (some ⟨g, 0, none⟩) n n)) b n m (gs ++ [g]) (rs ++ [r]) := by
  have hgr := hgrown_set W b gs.length (.slice (some ⟨g, 0, none⟩) n n)
  refine ⟨by simp [h.len], ?_, fun i x y h1 h2 => ?_⟩
  · rw [hset_same W b gs.length _ _ (.slice (some ⟨g, 0, none⟩) n n) h.tab, ← tabC_set]
    simp
  · have key : ∀ (x : Nat) (ds : Array Value), W.heap[x]? = some (Obj.cells ds 36 (0, 0)) → (W.setCell ⟨b, gs.length, none⟩ (.slice (some ⟨g, 0, none⟩) n n)).heap[x]? = some (Obj.cells ds 36 (0, 0)) := fun x ds hx =>
      (hgr.block x (Array.getElem?_eq_some_iff.1 hx).1 (fun e => tab_ne h.tab hx (by cases e; rfl))).trans hx
    by_cases hi : i < gs.length
    · rw [List.getElem?_append_left hi] at h1
      rw [List.getElem?_append_left (by rw [← h.len]; exact hi)] at h2
      exact key _ _ (h.row i x y h1 h2)
    · have hl := h.len
      rw [List.getElem?_append_right (by omega)] at h1
      rw [List.getElem?_append_right (by omega)] at h2
      have hi0 : i - gs.length = 0 := by
        have := (List.getElem?_eq_some_iff.1 h1).1
        simp at this; omega
      rw [hi0] at h1
      rw [show i - rs.length = 0 by omega] at h2
      simp at h1 h2
      subst h1; subst h2
      exact key _ _ hg
/-- A table of costs, as it is read. -/
def TabR (W : World) (a : Option Addr) (rs : List (List Int)) : Prop :=
  rs = [] ∨ ∃ b o, a = some ⟨b, o, none⟩ ∧ ∀ i r, rs[i]? = some r → ∃ ra rc, W.cell? ⟨b, o + i, none⟩ = some (.slice ra r.length rc) ∧ RowU W ra r
theorem TabR.below {W W' : World} {a : Option Addr} {rs : List (List Int)} (h : TabR W a rs) (hb : Below W.heap.size W W') : TabR W' a rs := by
  rcases h with h | ⟨b, o, h1, h2⟩
  · exact .inl h
  · exact .inr ⟨b, o, h1, fun i r hr => by
      obtain ⟨ra, rc, k1, k2⟩ := h2 i r hr
      exact ⟨ra, rc, cell_later hb k1, k2.below hb⟩⟩
theorem TabH.read {W : World} {b n : Nat} {gs : List Nat} {rs : List (List Int)} (h : TabH W b n 0 gs rs) (hn : ∀ r ∈ rs, r.length = n) : TabR W (some ⟨b, 0, none⟩) rs := by
  refine .inr ⟨b, 0, rfl, fun i r hr => ?_⟩
  have hi := (List.getElem?_eq_some_iff.1 hr).1
  have hgi : i < gs.length := by rw [h.len]; exact hi
  have hrow := h.row i _ r (List.getElem?_eq_getElem hgi) hr
  refine ⟨some ⟨gs[i], 0, none⟩, n, ?_, rowU_heap hrow⟩
  rw [hn r (List.mem_of_getElem? hr), Nat.zero_add]
  simp [World.cell?, h.tab, tabC, hgi]
/-- The table of cells of a cluster. -/
def tblO (A : Int) (b : BX) (zs : List Int) (cs : List IC) : List (List Int) := cs.map fun c => rowO A b zs c cs
theorem Tryd.infoRU : (Tryd.prog.info? 42).map (fun i => (i.zero, i.size, i.bytes)) = some (some (.slice none 0 0), 1, 24) := by kernel_rfl
theorem make_tab (n : Nat) (hn : n ≤ 1048576) (w : World) : (Instr.makeSlice 52 (.int .i64 (n : Int)) (.int .i64 (n : Int))).run Tryd.prog w = .ok (.slice (some ⟨w.heap.size, 0, none⟩) n n) (w.alloc (.cells (Array.replicate n (Value.slice none 0 0)) 42)) := by
  obtain ⟨i0, hi, hz0, hz1, hz2⟩ := info_parts Tryd.infoRU
  have hr := run_make (P := Tryd.prog) w 52 42 i0 (.slice none 0 0) Tryd.underlying52 hi hz0 .i64 .i64 n n (by omega) (Int.le_refl _) (by rw [hz2]; omega) (by omega)
  simp only [Int.toNat_natCast, hz1] at hr
  have e : madeCells (Value.slice none 0 0).cells (n * 1) = Array.replicate n (Value.slice none 0 0) := by
    apply Array.ext
    · simp [size_madeCells]
    · intro i h1 h2
      simp [madeCells, Nat.mod_one, Value.cells]
  rw [e] at hr
  exact hr
theorem tabC_zero (n m : Nat) : (tabC n [] m).toArray = Array.replicate m (Value.slice none 0 0) := by simp [tabC]
end Go.Proofs.YtgbhafadibdmcaaDoor

/- Tables within a cluster: Of, whatever the arguments. -/
namespace Go.Proofs.YtgbhafadibdmcaaDoor
open Go.RowKit

def ofRows (A B : Int) (zs : List Int) (X Y S id : Int) (cs : List IC) : List (List Int) := if chkI A B zs.length X Y S id cs = 0 then tblO A (bxB A B S id) zs cs else []
def ofCel (A B n X Y S id : Int) (cs : List IC) : List IC := if chkI A B n X Y S id cs = 0 then cs else []
def OfR (x : Int) (cs : List IC) (rs : List (List Int)) (w : World) (e : Ending) (w' : World) : Prop :=
  ∃ ka kc ta tc, e = .returned (.tuple #[.agg #[.slice ka cs.length kc, .slice ta rs.length tc], .int .i64 x]) ∧ OwnC w' w.heap.size ka cs.length kc cs ∧ (rs = [] ∨ ∃ b gs, ta = some ⟨b, 0, none⟩ ∧ w.heap.size ≤ b ∧ (∀ g ∈ gs, w.heap.size ≤ g) ∧ TabH w' b cs.length 0 gs rs) ∧ Below w.heap.size w w'
theorem tz1 {w2 w8 : World} (hb : Below (w2.alloc (.cells #[.slice none 0 0, .slice none 0 0] 54)).drew.heap.size (w2.alloc (.cells #[.slice none 0 0, .slice none 0 0] 54)).drew w8) : ((w8.cell? ⟨w2.heap.size, 0, none⟩ = some (.slice none 0 0) ∧ w8.cell? ⟨w2.heap.size, 1, none⟩ = some (.slice none 0 0)) ∧ (w8.frozen? ⟨w2.heap.size, 0, none⟩ = false ∧ w8.frozen? ⟨w2.heap.size, 1, none⟩ = false)) ∧ w8.heap[w2.heap.size]? = some (.cells #[.slice none 0 0, .slice none 0 0] 54 (0, 0)) := by
  have hsz : ∀ k, k ≤ w2.heap.size → k < (w2.alloc (.cells #[.slice none 0 0, .slice none 0 0] 54)).drew.heap.size := fun k hk => by show k < (w2.alloc (.cells #[.slice none 0 0, .slice none 0 0] 54)).heap.size; simp only [World.size_alloc]; omega
  have hT : w8.heap[w2.heap.size]? = some (.cells #[.slice none 0 0, .slice none 0 0] 54 (0, 0)) := (hb.block _ (hsz _ (by omega))).trans (heap_alloc_new w2 (.cells #[.slice none 0 0, .slice none 0 0] 54))
  exact ⟨⟨⟨by simp [World.cell?, hT], by simp [World.cell?, hT]⟩, by simp [World.frozen?, hT], by simp [World.frozen?, hT]⟩, hT⟩
theorem tz2 {w2 w8 : World} {n : Nat} (hb : Below ((w2.alloc (.cells #[.slice none 0 0, .slice none 0 0] 54)).alloc (.cells (Array.replicate n (Value.slice none 0 0)) 42)).drew.heap.size ((w2.alloc (.cells #[.slice none 0 0, .slice none 0 0] 54)).alloc (.cells (Array.replicate n (Value.slice none 0 0)) 42)).drew w8) : ((w8.cell? ⟨w2.heap.size, 0, none⟩ = some (.slice none 0 0) ∧ w8.cell? ⟨w2.heap.size, 1, none⟩ = some (.slice none 0 0)) ∧ (w8.frozen? ⟨w2.heap.size, 0, none⟩ = false ∧ w8.frozen? ⟨w2.heap.size, 1, none⟩ = false)) ∧ w8.heap[w2.heap.size]? = some (.cells #[.slice none 0 0, .slice none 0 0] 54 (0, 0)) ∧ w8.heap[w2.heap.size + 1]? = some (.cells (Array.replicate n (Value.slice none 0 0)) 42 (0, 0)) := by
  have hsz : ∀ k, k ≤ w2.heap.size + 1 → k < ((w2.alloc (.cells #[.slice none 0 0, .slice none 0 0] 54)).alloc (.cells (Array.replicate n (Value.slice none 0 0)) 42)).drew.heap.size := fun k hk => by show k < ((w2.alloc (.cells #[.slice none 0 0, .slice none 0 0] 54)).alloc (.cells (Array.replicate n (Value.slice none 0 0)) 42)).heap.size; simp only [World.size_alloc]; omega
  have hT : w8.heap[w2.heap.size]? = some (.cells #[.slice none 0 0, .slice none 0 0] 54 (0, 0)) := (hb.block _ (hsz _ (by omega))).trans (two_allocs w2 (.cells #[.slice none 0 0, .slice none 0 0] 54) (.cells (Array.replicate n (Value.slice none 0 0)) 42)).1
  have hM : w8.heap[w2.heap.size + 1]? = some (.cells (Array.replicate n (Value.slice none 0 0)) 42 (0, 0)) := (hb.block _ (hsz _ (by omega))).trans (two_allocs w2 (.cells #[.slice none 0 0, .slice none 0 0] 54) (.cells (Array.replicate n (Value.slice none 0 0)) 42)).2
  exact ⟨⟨⟨by simp [World.cell?, hT], by simp [World.cell?, hT]⟩, by simp [World.frozen?, hT], by simp [World.frozen?, hT]⟩, hT, hM⟩
theorem tz3 {w2 w8 : World} {n : Nat} (hb : Below ((w2.alloc (.cells (Array.replicate n (Value.slice none 0 0)) 42)).alloc (.cells #[.slice none 0 0, .slice none 0 0] 54)).drew.heap.size ((w2.alloc (.cells (Array.replicate n (Value.slice none 0 0)) 42)).alloc (.cells #[.slice none 0 0, .slice none 0 0] 54)).drew w8) : ((w8.cell? ⟨w2.heap.size + 1, 0, none⟩ = some (.slice none 0 0) ∧ w8.cell? ⟨w2.heap.size + 1, 1, none⟩ = some (.slice none 0 0)) ∧ (w8.frozen? ⟨w2.heap.size + 1, 0, none⟩ = false ∧ w8.frozen? ⟨w2.heap.size + 1, 1, none⟩ = false)) ∧ w8.heap[w2.heap.size + 1]? = some (.cells #[.slice none 0 0, .slice none 0 0] 54 (0, 0)) ∧ w8.heap[w2.heap.size]? = some (.cells (Array.replicate n (Value.slice none 0 0)) 42 (0, 0)) := by
  have hsz : ∀ k, k ≤ w2.heap.size + 1 → k < ((w2.alloc (.cells (Array.replicate n (Value.slice none 0 0)) 42)).alloc (.cells #[.slice none 0 0, .slice none 0 0] 54)).drew.heap.size := fun k hk => by show k < ((w2.alloc (.cells (Array.replicate n (Value.slice none 0 0)) 42)).alloc (.cells #[.slice none 0 0, .slice none 0 0] 54)).heap.size; simp only [World.size_alloc]; omega
  have hT : w8.heap[w2.heap.size + 1]? = some (.cells #[.slice none 0 0, .slice none 0 0] 54 (0, 0)) := (hb.block _ (hsz _ (by omega))).trans (two_allocs w2 (.cells (Array.replicate n (Value.slice none 0 0)) 42) (.cells #[.slice none 0 0, .slice none 0 0] 54)).2
  have hM : w8.heap[w2.heap.size]? = some (.cells (Array.replicate n (Value.slice none 0 0)) 42 (0, 0)) := (hb.block _ (hsz _ (by omega))).trans (two_allocs w2 (.cells (Array.replicate n (Value.slice none 0 0)) 42) (.cells #[.slice none 0 0, .slice none 0 0] 54)).1
  exact ⟨⟨⟨by simp [World.cell?, hT], by simp [World.cell?, hT]⟩, by simp [World.frozen?, hT], by simp [World.frozen?, hT]⟩, hT, hM⟩
theorem mz1 {w2 w8 : World} {n : Nat} (hb : Below (w2.alloc (.cells (Array.replicate n (Value.slice none 0 0)) 42)).drew.heap.size (w2.alloc (.cells (Array.replicate n (Value.slice none 0 0)) 42)).drew w8) : w8.heap[w2.heap.size]? = some (.cells (Array.replicate n (Value.slice none 0 0)) 42 (0, 0)) :=
  (hb.block _ (by show w2.heap.size < (w2.alloc (.cells (Array.replicate n (Value.slice none 0 0)) 42)).heap.size; simp only [World.size_alloc]; omega)).trans (heap_alloc_new w2 (.cells (Array.replicate n (Value.slice none 0 0)) 42))
def CutP (w2 : World) (cs : List IC) (s : Value) (wx : World) : Prop := ∃ tp ka kc kb, s = .pointer (some ⟨tp, 0, none⟩) ∧ tp ≠ kb ∧ w2.heap.size ≤ tp ∧ w2.heap.size ≤ kb ∧ wx.heap[tp]? = some (.cells #[.slice ka cs.length kc, .slice (some ⟨kb, 0, none⟩) cs.length cs.length] 54 (0, 0)) ∧ wx.heap[kb]? = some (.cells (Array.replicate cs.length (Value.slice none 0 0)) 42 (0, 0)) ∧ OwnC wx w2.heap.size ka cs.length kc cs ∧ Below w2.heap.size w2 wx
section
variable {w2 w8 : World} {cs : List IC} {ka : Option Addr} {kc b : Nat}
theorem lay1 (hC : Below w2.heap.size w2 w8) (ho : OwnC w8 b ka cs.length kc cs) (hb : w2.heap.size ≤ b) : CutP w2 cs (.pointer (some ⟨w8.heap.size + 1, 0, none⟩)) ((w8.alloc (.cells (Array.replicate cs.length (Value.slice none 0 0)) 42)).alloc (.cells #[.slice ka cs.length kc, .slice (some ⟨w8.heap.size, 0, none⟩) cs.length cs.length] 54)) := by
  have := hC.size
  exact ⟨_, ka, kc, w8.heap.size, rfl, by omega, by omega, by omega, (two_allocs w8 _ _).2, (two_allocs w8 _ _).1, own_later (ho.low hb) (bl_al (bl_al (bl0 _) _) _), bl_al (bl_al hC _) _⟩
theorem lay2 (hC : Below w2.heap.size w2 w8) (ho : OwnC w8 b ka cs.length kc cs) (hb : w2.heap.size ≤ b) : CutP w2 cs (.pointer (some ⟨w8.heap.size, 0, none⟩)) ((w8.alloc (.cells #[.slice ka cs.length kc, .slice (some ⟨w8.heap.size + 1, 0, none⟩) cs.length cs.length] 54)).alloc (.cells (Array.replicate cs.length (Value.slice none 0 0)) 42)) := by
  have := hC.size
  exact ⟨_, ka, kc, w8.heap.size + 1, rfl, by omega, by omega, by omega, (two_allocs w8 _ _).1, (two_allocs w8 _ _).2, own_later (ho.low hb) (bl_al (bl_al (bl0 _) _) _), bl_al (bl_al hC _) _⟩
theorem lay3 (hC : Below w2.heap.size w2 w8) (ho : OwnC w8 b ka cs.length kc cs) (hb : w2.heap.size ≤ b) (hM : w8.heap[w2.heap.size]? = some (.cells (Array.replicate cs.length (Value.slice none 0 0)) 42 (0, 0))) : CutP w2 cs (.pointer (some ⟨w8.heap.size, 0, none⟩)) (w8.alloc (.cells #[.slice ka cs.length kc, .slice (some ⟨w2.heap.size, 0, none⟩) cs.length cs.length] 54)) := by
  have h1 := hC.size
  have h2 := (Array.getElem?_eq_some_iff.1 hM).1
  exact ⟨_, ka, kc, w2.heap.size, rfl, by omega, by omega, by omega, heap_alloc_new _ _, ((bl_al (bl0 w8) _).block _ h2).trans hM, own_later (ho.low hb) (bl_al (bl0 _) _), bl_al hC _⟩
theorem tset {tp : Nat} {v1 v2 : Value} (hT : w8.heap[tp]? = some (.cells #[.slice none 0 0, .slice none 0 0] 54 (0, 0))) : ((w8.setCell ⟨tp, 0, none⟩ v1).setCell ⟨tp, 1, none⟩ v2).heap[tp]? = some (.cells #[v1, v2] 54 (0, 0)) := by
  rw [hset_same _ tp 1 _ _ v2 (hset_same w8 tp 0 _ _ v1 hT)]
  simp
theorem tsetown {tp : Nat} {v1 v2 : Value} (ho : OwnC w8 b ka cs.length kc cs) (hb : w2.heap.size ≤ b) (hp : tp < b) : OwnC ((w8.setCell ⟨tp, 0, none⟩ v1).setCell ⟨tp, 1, none⟩ v2) w2.heap.size ka cs.length kc cs := by
  have hne : (Value.slice ka cs.length kc).ownBlock ≠ some tp := fun e => by have := (World.ownsRow.lt ho _ e).1; omega
  exact OwnC.low (base := b) ((World.ownsRow.kept ho (hgrown_set _ _ _ _) (.inr hne)).kept (hgrown_set _ _ _ _) (.inr hne)) hb
theorem lay4 {tp kb : Nat} (hC : Below w2.heap.size w2 w8) (ho : OwnC w8 b ka cs.length kc cs) (hb : w2.heap.size ≤ b) (hp : tp < b) (h1 : w2.heap.size ≤ tp) (h2 : w2.heap.size ≤ kb) (h3 : tp ≠ kb) (hT : w8.heap[tp]? = some (.cells #[.slice none 0 0, .slice none 0 0] 54 (0, 0))) (hM : w8.heap[kb]? = some (.cells (Array.replicate cs.length (Value.slice none 0 0)) 42 (0, 0))) :
    CutP w2 cs (.pointer (some ⟨tp, 0, none⟩)) ((w8.setCell ⟨tp, 0, none⟩ (.slice ka cs.length kc)).setCell ⟨tp, 1, none⟩ (.slice (some ⟨kb, 0, none⟩) cs.length cs.length)) := by
  have g1 := hgrown_set w8 tp 0 (.slice ka cs.length kc)
  have g2 := hgrown_set (w8.setCell ⟨tp, 0, none⟩ (.slice ka cs.length kc)) tp 1 (.slice (some ⟨kb, 0, none⟩) cs.length cs.length)
  have hk := (Array.getElem?_eq_some_iff.1 hM).1
  have hM1 := (g1.block kb hk (fun e => h3 (by cases e; rfl))).trans hM
  have hM2 := (g2.block kb (Array.getElem?_eq_some_iff.1 hM1).1 (fun e => h3 (by cases e; rfl))).trans hM1
  exact ⟨tp, ka, kc, kb, rfl, h3, h1, h2, tset hT, hM2, tsetown ho hb hp, bl_st (bl_st hC h1 _) h1 _⟩
theorem lay5 {tp : Nat} (hC : Below w2.heap.size w2 w8) (ho : OwnC w8 b ka cs.length kc cs) (hb : w2.heap.size ≤ b) (hp : tp < b) (h1 : w2.heap.size ≤ tp) (hT : w8.heap[tp]? = some (.cells #[.slice none 0 0, .slice none 0 0] 54 (0, 0))) :
    CutP w2 cs (.pointer (some ⟨tp, 0, none⟩)) (((w8.setCell ⟨tp, 0, none⟩ (.slice ka cs.length kc)).setCell ⟨tp, 1, none⟩ (.slice (some ⟨w8.heap.size, 0, none⟩) cs.length cs.length)).alloc (.cells (Array.replicate cs.length (Value.slice none 0 0)) 42)) := by
  have hs : ((w8.setCell ⟨tp, 0, none⟩ (.slice ka cs.length kc)).setCell ⟨tp, 1, none⟩ (.slice (some ⟨w8.heap.size, 0, none⟩) cs.length cs.length)).heap.size = w8.heap.size := by simp
  have ht := tset (v1 := .slice ka cs.length kc) (v2 := .slice (some ⟨w8.heap.size, 0, none⟩) cs.length cs.length) hT
  have hlt := (Array.getElem?_eq_some_iff.1 ht).1
  have hm := heap_alloc_new ((w8.setCell ⟨tp, 0, none⟩ (.slice ka cs.length kc)).setCell ⟨tp, 1, none⟩ (.slice (some ⟨w8.heap.size, 0, none⟩) cs.length cs.length)) (.cells (Array.replicate cs.length (Value.slice none 0 0)) 42)
  rw [hs] at hm hlt
  have h4 := hC.size
  exact ⟨tp, ka, kc, w8.heap.size, rfl, by omega, h1, h4, ((bl_al (bl0 _) _).block _ (by rw [hs]; exact hlt)).trans ht, hm, own_later (tsetown ho hb hp) (bl_al (bl0 _) _), bl_al (bl_st (bl_st hC h1 _) h1 _) _⟩
end
theorem tabC_at (n : Nat) (gs : List Nat) {m k : Nat} (h : gs.length = k) (hm : 0 < m) : (tabC n gs m)[k]? = some (.slice none 0 0) := by
  unfold tabC
  rw [List.getElem?_append_right (by rw [List.length_map]; omega), List.length_map, h, Nat.sub_self, List.getElem?_replicate, if_pos hm]
theorem TabH.kept {W W' : World} {b n m lo x : Nat} {gs : List Nat} {rs : List (List Int)} (h : TabH W b n m gs rs) (hg : W.grownBy W' (some x)) (hx : x < lo) (hb : lo ≤ b) (hgs : ∀ g ∈ gs, lo ≤ g) : TabH W' b n m gs rs :=
  ⟨h.len, (hg.block _ (Array.getElem?_eq_some_iff.1 h.tab).1 (fun e => by cases e; omega)).trans h.tab, fun i g r h1 h2 => (hg.block _ (Array.getElem?_eq_some_iff.1 (h.row i g r h1 h2)).1 (fun e => by cases e; have := hgs _ (List.mem_of_getElem? h1); omega)).trans (h.row i g r h1 h2)⟩
theorem ownC_ne {W : World} {base n c b : Nat} {a : Option Addr} {zs : List IC} {cs : Array Value} (h : OwnC W base a n c zs) (hb : W.heap[b]? = some (.cells cs 42 (0, 0))) : (Value.slice a n c).ownBlock ≠ some b := by
  intro e
  rcases h.2 with ⟨e1, _⟩ | ⟨g, cap, cur, e1, _, hg, _⟩
  · cases e1; cases e
  · cases e1
    have : g = b := by simpa [Value.ownBlock] using e
    subst this
    rw [hb] at hg
    have h2 := Option.some.inj hg
    injection h2 with _ h3
    exact absurd h3 (by decide)
set_option maxRecDepth 100000 in
set_option maxHeartbeats 8000000 in
theorem of_i (A B : Int) (a : Option Addr) (cap : Nat) (zs : List Int) (X Y S id : Int) (ca : Option Addr) (cc : Nat) (cs : List IC) (w : World) (hr : RowH w a zs) (hz : AllH zs) (hc : zs.length ≤ cap) (hcs : RowC w ca cs) (hl : cs.length ≤ 1048576) (hs : Stp w) :
    Calls Tryd.prog 17 #[.agg #[.int .i64 A, .int .i64 B, .slice a zs.length cap], .agg #[.int .i64 X, .int .i64 Y, .int .i64 S], .int .i64 id, .slice ca cs.length cc] w (OfR (chkI A B zs.length X Y S id cs) (ofCel A B zs.length X Y S id cs) (ofRows A B zs X Y S id cs) w) := by
  have hA := bl0 w
  have H1 := Lib.hid (fun w hr => check_i A B a zs.length cap X Y S id ca cc cs w hr hl)
  have hR : ofRows A B zs X Y S id cs = if chkI A B zs.length X Y S id cs = 0 then tblO A (bxB A B S id) zs cs else [] := rfl
  have hC : ofCel A B zs.length X Y S id cs = if chkI A B zs.length X Y S id cs = 0 then cs else [] := rfl
  by_cases h0 : chkI A B zs.length X Y S id cs = 0
  case neg =>
    rw [if_neg h0] at hR hC
    rw [hR, hC]
    obtain ⟨x, hx⟩ : ∃ x, chkI A B zs.length X Y S id cs = x := ⟨_, rfl⟩
    rw [hx] at H1 h0 ⊢
    have h1 : (x != 0) = true := by rw [bne_iff_ne]; exact h0
    generalize zrI x (bxX S (plcP X S id)) = k0 at *
    generalize zrI x (bxY S (plcP X S id)) = k1 at *
    generalize zrI x (bxW X S (plcP X S id)) = k2 at *
    generalize zrI x (bxH Y S (plcP X S id)) = k3 at *
    clear h0 hx hR hC hs hz hr hc
    go_enter Tryd.func17, Tryd.ntmps17
    go_wp2_with fail
    refine (H1.out _ (hcs.below (by first | exact hA | exact (bl_al hA _) | exact (bl_dr (bl_al hA _)) | exact (bl_al (bl_al hA _) _) | exact (bl_dr (bl_al (bl_al hA _) _)) | exact (bl_al (bl_al (bl_al hA _) _) _) | exact (bl_dr (bl_al (bl_al (bl_al hA _) _) _)) | exact (bl_al (bl_al (bl_al (bl_al hA _) _) _) _) | exact (bl_dr (bl_al (bl_al (bl_al (bl_al hA _) _) _) _)) | exact (bl_al (bl_al (bl_al (bl_al (bl_al hA _) _) _) _) _) | exact (bl_dr (bl_al (bl_al (bl_al (bl_al (bl_al hA _) _) _) _) _)) | exact (bl_al (bl_al (bl_al (bl_al (bl_al (bl_al hA _) _) _) _) _) _) | exact (bl_dr (bl_al (bl_al (bl_al (bl_al (bl_al (bl_al hA _) _) _) _) _) _)) | exact (bl_dr hA)))).mono ?_
    rintro e w1 ⟨rfl, hb⟩
    have hk : Below w.heap.size w w1 := by first | exact hb | exact bl_tr (bl_al (bl0 _) _) hb | exact bl_tr (bl_dr (bl_al (bl0 _) _)) hb | exact bl_tr (bl_al (bl_al (bl0 _) _) _) hb | exact bl_tr (bl_dr (bl_al (bl_al (bl0 _) _) _)) hb | exact bl_tr (bl_al (bl_al (bl_al (bl0 _) _) _) _) hb | exact bl_tr (bl_dr (bl_al (bl_al (bl_al (bl0 _) _) _) _)) hb | exact bl_tr (bl_al (bl_al (bl_al (bl_al (bl0 _) _) _) _) _) hb | exact bl_tr (bl_dr (bl_al (bl_al (bl_al (bl_al (bl0 _) _) _) _) _)) hb | exact bl_tr (bl_al (bl_al (bl_al (bl_al (bl_al (bl0 _) _) _) _) _) _) hb | exact bl_tr (bl_dr (bl_al (bl_al (bl_al (bl_al (bl_al (bl0 _) _) _) _) _) _)) hb | exact bl_tr (bl_al (bl_al (bl_al (bl_al (bl_al (bl_al (bl0 _) _) _) _) _) _) _) hb | exact bl_tr (bl_dr (bl_al (bl_al (bl_al (bl_al (bl_al (bl_al (bl0 _) _) _) _) _) _) _)) hb | exact bl_tr (bl_dr (bl0 _)) hb
    replace hA := bl_tr hA hk
    have q0 := cell_later hb (v := .slice none 0 0) (a := ⟨w.heap.size + 1 + 1, 0, none⟩) (by simp [go_sem])
    have q1 := cell_later hb (v := .slice none 0 0) (a := ⟨w.heap.size + 1 + 1, 1, none⟩) (by simp [go_sem])
    have u0 : w1.frozen? ⟨w.heap.size + 1 + 1, 0, none⟩ = false := (hb.frozen (p := ⟨w.heap.size + 1 + 1, 0, none⟩) (by simp <;> omega)).trans (by simp [go_sem])
    have u1 : w1.frozen? ⟨w.heap.size + 1 + 1, 1, none⟩ = false := (hb.frozen (p := ⟨w.heap.size + 1 + 1, 1, none⟩) (by simp <;> omega)).trans (by simp [go_sem])
    clear hb hk
    have zq0 := blk_lt q0
    have zq1 := blk_lt q1
    go_wp2
    refine bodyPost_ret (v := .tuple #[.agg #[.slice none 0 0, .slice none 0 0], .int .i64 x]) (by simp [results, Tryd.results17, go_sem, zq0, q0, q1]) rfl ?_
    exact ⟨none, 0, none, 0, rfl, ⟨rfl, .inl ⟨rfl, rfl⟩⟩, .inl rfl, bl_al (bl_st (bl_st hA (by omega) _) (by omega) _) _⟩
  case pos =>
  obtain ⟨hck, rfl, rfl, hpx, hwr⟩ := chkI_ok h0
  obtain ⟨hm, hn⟩ := chkF_may hck
  obtain ⟨BX', BY', U, V, hbb, ⟨e0, e1, e2, e3⟩, hbx, hin⟩ := clu_box hpx
  rw [if_pos h0] at hR hC
  rw [h0, e0, e1, e2, e3] at H1
  have hz0 : ∀ k : Int, zrI 0 k = k := fun k => if_pos rfl
  rw [hz0, hz0, hz0, hz0] at H1
  rw [h0, hC]
  rw [hbb] at hR
  have hci : ∀ d ∈ cs, inBx (BX', BY', (U : Int), (V : Int)) d = true := fun d hd => by rw [← hin]; exact wrg_in hwr d hd
  have H3 := Lib.hid (fun w hr hcs => rows_i X Y BX' BY' U V a cap zs ca cc cs w hr hc hn hbx hcs)
  unfold RowsR at H3
  have H4 := Lib.hid (fun o b c va vc p hp w hR hs => row_i X Y BX' BY' U V zs ca cc cs o b c va vc p w hz hn hbx hp hci hl hR hs)
  have H5 := Lib.hid (fun w hr => clone_c ca cc cs w hr hl)
  have hmk := fun w => make_tab cs.length hl w
  have hRl : (ofRows X Y zs X Y S id cs).length = cs.length := by rw [hR]; simp [tblO]
  have hRS := Lib.hid (show ∀ (k : Nat) (hk : k < cs.length), (ofRows X Y zs X Y S id cs).take (k + 1) = (ofRows X Y zs X Y S id cs).take k ++ [rowO X (BX', BY', (U : Int), (V : Int)) zs cs[k] cs] from fun k hk => by
    rw [List.take_succ_eq_append_getElem (by rw [hRl]; exact hk)]
    congr 2
    simp only [hR, tblO, List.getElem_map])
  obtain ⟨R, hRR⟩ : ∃ R, ofRows X Y zs X Y S id cs = R := ⟨_, rfl⟩
  rw [hRR] at hRl hRS ⊢
  have HRL := Lib.hid hRl
  have HCI := Lib.hid hci
  clear h0 hck hm hn hpx hwr hbb e0 e1 e2 e3 hbx hin hz0 hz hc hci hR hC hRR hRl
  have hl2 : (cs.length : Int) ≤ 1048576 := by omega
  go_enter Tryd.func17, Tryd.ntmps17
  go_wp2_with fail
  refine (H1.out _ (hcs.below (by first | exact hA | exact (bl_al hA _) | exact (bl_dr (bl_al hA _)) | exact (bl_al (bl_al hA _) _) | exact (bl_dr (bl_al (bl_al hA _) _)) | exact (bl_al (bl_al (bl_al hA _) _) _) | exact (bl_dr (bl_al (bl_al (bl_al hA _) _) _)) | exact (bl_al (bl_al (bl_al (bl_al hA _) _) _) _) | exact (bl_dr (bl_al (bl_al (bl_al (bl_al hA _) _) _) _)) | exact (bl_al (bl_al (bl_al (bl_al (bl_al hA _) _) _) _) _) | exact (bl_dr (bl_al (bl_al (bl_al (bl_al (bl_al hA _) _) _) _) _)) | exact (bl_al (bl_al (bl_al (bl_al (bl_al (bl_al hA _) _) _) _) _) _) | exact (bl_dr (bl_al (bl_al (bl_al (bl_al (bl_al (bl_al hA _) _) _) _) _) _)) | exact (bl_dr hA)))).mono ?_
  rintro e w1 ⟨rfl, hb⟩
  have hk : Below w.heap.size w w1 := by first | exact hb | exact bl_tr (bl_al (bl0 _) _) hb | exact bl_tr (bl_dr (bl_al (bl0 _) _)) hb | exact bl_tr (bl_al (bl_al (bl0 _) _) _) hb | exact bl_tr (bl_dr (bl_al (bl_al (bl0 _) _) _)) hb | exact bl_tr (bl_al (bl_al (bl_al (bl0 _) _) _) _) hb | exact bl_tr (bl_dr (bl_al (bl_al (bl_al (bl0 _) _) _) _)) hb | exact bl_tr (bl_al (bl_al (bl_al (bl_al (bl0 _) _) _) _) _) hb | exact bl_tr (bl_dr (bl_al (bl_al (bl_al (bl_al (bl0 _) _) _) _) _)) hb | exact bl_tr (bl_al (bl_al (bl_al (bl_al (bl_al (bl0 _) _) _) _) _) _) hb | exact bl_tr (bl_dr (bl_al (bl_al (bl_al (bl_al (bl_al (bl0 _) _) _) _) _) _)) hb | exact bl_tr (bl_al (bl_al (bl_al (bl_al (bl_al (bl_al (bl0 _) _) _) _) _) _) _) hb | exact bl_tr (bl_dr (bl_al (bl_al (bl_al (bl_al (bl_al (bl_al (bl0 _) _) _) _) _) _) _)) hb | exact bl_tr (bl_dr (bl0 _)) hb
  replace hA := bl_tr hA hk
  have f0 := cell_later hb (v := .int .i64 X) (a := ⟨w.heap.size, 0, none⟩) (by simp [go_sem])
  have f1 := cell_later hb (v := .int .i64 Y) (a := ⟨w.heap.size, 1, none⟩) (by simp [go_sem])
  have f2 := cell_later hb (v := .slice a zs.length cap) (a := ⟨w.heap.size, 2, none⟩) (by simp [go_sem])
  have q0 := cell_later hb (v := .slice none 0 0) (a := ⟨w.heap.size + 1 + 1, 0, none⟩) (by simp [go_sem])
  have q1 := cell_later hb (v := .slice none 0 0) (a := ⟨w.heap.size + 1 + 1, 1, none⟩) (by simp [go_sem])
  have u0 : w1.frozen? ⟨w.heap.size + 1 + 1, 0, none⟩ = false := (hb.frozen (p := ⟨w.heap.size + 1 + 1, 0, none⟩) (by simp <;> omega)).trans (by simp [go_sem])
  have u1 : w1.frozen? ⟨w.heap.size + 1 + 1, 1, none⟩ = false := (hb.frozen (p := ⟨w.heap.size + 1 + 1, 1, none⟩) (by simp <;> omega)).trans (by simp [go_sem])
  clear hb hk
  have zf0 := blk_lt f0
  have zf1 := blk_lt f1
  have zf2 := blk_lt f2
  have zq0 := blk_lt q0
  have zq1 := blk_lt q1
  go_wp2_with fail
  refine (H3.out _ (hr.below (by first | exact hA | exact (bl_al hA _) | exact (bl_dr (bl_al hA _)) | exact (bl_al (bl_al hA _) _) | exact (bl_dr (bl_al (bl_al hA _) _)) | exact (bl_al (bl_al (bl_al hA _) _) _) | exact (bl_dr (bl_al (bl_al (bl_al hA _) _) _)) | exact (bl_al (bl_al (bl_al (bl_al hA _) _) _) _) | exact (bl_dr (bl_al (bl_al (bl_al (bl_al hA _) _) _) _)) | exact (bl_al (bl_al (bl_al (bl_al (bl_al hA _) _) _) _) _) | exact (bl_dr (bl_al (bl_al (bl_al (bl_al (bl_al hA _) _) _) _) _)) | exact (bl_al (bl_al (bl_al (bl_al (bl_al (bl_al hA _) _) _) _) _) _) | exact (bl_dr (bl_al (bl_al (bl_al (bl_al (bl_al (bl_al hA _) _) _) _) _) _)) | exact (bl_dr hA))) (hcs.below (by first | exact hA | exact (bl_al hA _) | exact (bl_dr (bl_al hA _)) | exact (bl_al (bl_al hA _) _) | exact (bl_dr (bl_al (bl_al hA _) _)) | exact (bl_al (bl_al (bl_al hA _) _) _) | exact (bl_dr (bl_al (bl_al (bl_al hA _) _) _)) | exact (bl_al (bl_al (bl_al (bl_al hA _) _) _) _) | exact (bl_dr (bl_al (bl_al (bl_al (bl_al hA _) _) _) _)) | exact (bl_al (bl_al (bl_al (bl_al (bl_al hA _) _) _) _) _) | exact (bl_dr (bl_al (bl_al (bl_al (bl_al (bl_al hA _) _) _) _) _)) | exact (bl_al (bl_al (bl_al (bl_al (bl_al (bl_al hA _) _) _) _) _) _) | exact (bl_dr (bl_al (bl_al (bl_al (bl_al (bl_al (bl_al hA _) _) _) _) _) _)) | exact (bl_dr hA)))).mono ?_
  rintro e w2 ⟨o, b, c, va, vc, rfl, hRA, hb⟩
  have hk : Below w1.heap.size w1 w2 := by first | exact hb | exact bl_tr (bl_al (bl0 _) _) hb | exact bl_tr (bl_dr (bl_al (bl0 _) _)) hb | exact bl_tr (bl_al (bl_al (bl0 _) _) _) hb | exact bl_tr (bl_dr (bl_al (bl_al (bl0 _) _) _)) hb | exact bl_tr (bl_al (bl_al (bl_al (bl0 _) _) _) _) hb | exact bl_tr (bl_dr (bl_al (bl_al (bl_al (bl0 _) _) _) _)) hb | exact bl_tr (bl_al (bl_al (bl_al (bl_al (bl0 _) _) _) _) _) hb | exact bl_tr (bl_dr (bl_al (bl_al (bl_al (bl_al (bl0 _) _) _) _) _)) hb | exact bl_tr (bl_al (bl_al (bl_al (bl_al (bl_al (bl0 _) _) _) _) _) _) hb | exact bl_tr (bl_dr (bl_al (bl_al (bl_al (bl_al (bl_al (bl0 _) _) _) _) _) _)) hb | exact bl_tr (bl_al (bl_al (bl_al (bl_al (bl_al (bl_al (bl0 _) _) _) _) _) _) _) hb | exact bl_tr (bl_dr (bl_al (bl_al (bl_al (bl_al (bl_al (bl_al (bl0 _) _) _) _) _) _) _)) hb | exact bl_tr (bl_dr (bl0 _)) hb
  replace hA := bl_tr hA hk
  replace u0 := frozen_later hk q0 u0
  replace u1 := frozen_later hk q1 u1
  replace q0 := cell_later hk q0
  replace q1 := cell_later hk q1
  clear hb hk
  have zq0 := blk_lt q0
  have zq1 := blk_lt q1
  have HRC := Lib.hid (hcs.below hA)
  have HST := Lib.hid (hs.below hA)
  have HA2 := Lib.hid hA
  have Q0 := Lib.hid q0; have Q1 := Lib.hid q1; have U0 := Lib.hid u0; have U1 := Lib.hid u1
  have HRA := Lib.hid hRA
  clear hr hcs hs hRA
  go_upto_region 5 with fail
  have hB := bl_dr (bl0 w2)
  go_cut [13] from 32 to 37 (fun s wx => CutP w2 cs s wx)
  case first =>
    go_region_held3 (fun _ => True)
      (exact trivial)
      ((go_at_call 40; (first
       | (with_reducible refine (H5.out _ (HRC.out.below hB)).mono ?_; rintro e w8 ⟨ka, kc, rfl, ho8, hb8⟩; have hC8 := bl_tr hB hb8)
       | (with_reducible refine (H5.out _ (HRC.out.below (bl_dr (bl_al (bl0 w2) _)))).mono ?_; rintro e w8 ⟨ka, kc, rfl, ho8, hb8⟩; have hC8 := bl_tr (bl_dr (bl_al (bl0 w2) _)) hb8; (first | (obtain ⟨⟨⟨k0, k1⟩, k3, k4⟩, kT⟩ := tz1 hb8; have k2 := blk_lt k0) | (have kM := mz1 hb8)))
       | (with_reducible refine (H5.out _ (HRC.out.below (bl_dr (bl_al (bl_al (bl0 w2) _) _)))).mono ?_; rintro e w8 ⟨ka, kc, rfl, ho8, hb8⟩; have hC8 := bl_tr (bl_dr (bl_al (bl_al (bl0 w2) _) _)) hb8; (first | (obtain ⟨⟨⟨k0, k1⟩, k3, k4⟩, kT, kM⟩ := tz2 hb8; have k2 := blk_lt k0) | (obtain ⟨⟨⟨k0, k1⟩, k3, k4⟩, kT, kM⟩ := tz3 hb8; have k2 := blk_lt k0))))))
    all_goals
      go_wp2_with fail
      go_meet
      have hq1 : w2.heap.size ≤ w2.drew.heap.size := Nat.le_refl _
      have hq2 : ∀ O, w2.heap.size < (w2.alloc O).drew.heap.size := fun O => by show _ < (w2.alloc O).heap.size; simp only [World.size_alloc]; omega
      have hq3 : ∀ O P, w2.heap.size + 1 < ((w2.alloc O).alloc P).drew.heap.size := fun O P => by show _ < ((w2.alloc O).alloc P).heap.size; simp only [World.size_alloc]; omega
      first
        | exact lay1 hC8 ho8 (by assumption)
        | exact lay2 hC8 ho8 (by assumption)
        | exact lay3 hC8 ho8 (Nat.le_of_lt (hq2 _)) kM
        | exact lay4 hC8 ho8 (Nat.le_of_lt (Nat.lt_trans (Nat.lt_succ_self _) (hq3 _ _))) (hq3 _ _) (by omega) (by omega) (by omega) kT kM
        | exact lay4 hC8 ho8 (Nat.le_of_lt (Nat.lt_trans (Nat.lt_succ_self _) (hq3 _ _))) (Nat.lt_trans (Nat.lt_succ_self _) (hq3 _ _)) (by omega) (by omega) (by omega) kT kM
        | exact lay5 hC8 ho8 (Nat.le_of_lt (hq2 _)) (hq2 _) (by omega) kT
  case rest =>
    obtain ⟨W3, hW3⟩ : ∃ W3, W3 = wc := ⟨_, rfl⟩
    rw [← hW3] at hcut ⊢
    clear hW3 hB
    obtain ⟨tp, ka, kc, kb, rfl, hne, htp, hkb, htb, hmb, hown, hb3⟩ := hcut
    have HTB := Lib.hid htb
    have HMB := Lib.hid hmb
    have HOW := Lib.hid hown
    have HB3 := Lib.hid hb3
    have HKB := Lib.hid hkb
    have HTP := Lib.hid htp
    have HNE := Lib.hid hne
    have HSZ3 := Lib.hid hb3.size
    have HT0 := Lib.hid (show TabH W3 kb cs.length cs.length [] (R.take 0) from ⟨rfl, by rw [tabC_zero]; exact hmb, fun i g r h1 _ => by cases h1⟩)
    clear hmk hne htp hkb htb hmb hown hb3 q0 q1 u0 u1 zq0 zq1 hA
    go_wp2_with fail
    go_loopw [14, 15, 40] (fun _ _ iv wr => ∃ (k : Nat) (gs : List Nat), k ≤ cs.length ∧ iv = .int .i64 k ∧ W3.grownBy wr (some kb) ∧ TabH wr kb cs.length (cs.length - k) gs (R.take k) ∧ ∀ g ∈ gs, w2.heap.size ≤ g) (fun _ _ iv _ => cs.length - (intOf iv).toNat)
    case atStart => exact ⟨0, [], Nat.zero_le _, rfl, World.grownBy.refl _ _, HT0.out, fun g hg => by cases hg⟩
    case round =>
      obtain ⟨k, gs, hk, rfl, hgr, htab, hgs⟩ := hrel
      have hk0 : (0 : Int) ≤ (k : Int) := by omega
      have hbw : Below w2.heap.size w2 wr := (HB3.out).grown hgr HSZ3.out (fun j hj => by cases hj; exact HKB.out)
      have htb := (hgr.block tp (Array.getElem?_eq_some_iff.1 HTB.out).1 (fun e => HNE.out (by cases e; rfl))).trans HTB.out
      by_cases hlt : k < cs.length
      · have hlt2 : (k : Int) < (cs.length : Int) := by omega
        have hgl : gs.length = k := by rw [htab.len, List.length_take, HRL.out]; omega
        obtain ⟨cb, co, rfl, u0, u1⟩ := (HRC.out.below hbw).cell hlt
        have hin := HCI.out _ (List.getElem_mem hlt)
        have hrs := hRS.out k hlt
        obtain ⟨d, hd⟩ : ∃ d, cs[k] = d := ⟨_, rfl⟩
        rw [hd] at u0 u1 hin hrs
        have HRD := Lib.hid (fun o b c va vc w hR hs => H4.out o b c va vc d hin w hR hs)
        obtain ⟨rd, hrd⟩ : ∃ rd, rowO X (BX', BY', (U : Int), (V : Int)) zs d cs = rd := ⟨_, rfl⟩
        rw [hrd] at HRD hrs
        have e0 : wr.cell? ⟨tp, 1, none⟩ = some (.slice (some ⟨kb, 0, none⟩) cs.length cs.length) := by simp [World.cell?, htb]
        have ze := blk_lt e0
        have HTAB := Lib.hid htab
        have HGR := Lib.hid hgr
        have HRS2 := Lib.hid hrs
        have HBW := Lib.hid hbw
        have HGS := Lib.hid hgs
        have HGL := Lib.hid hgl
        clear htab hgr hrs hd hin hrd htb hgs hgl
        go_upto_region 9 with fail
        have hal := bl_al (bl0 wr) (.cells #[.int .i64 d.1, .int .i64 d.2] 30)
        obtain ⟨W1, hW1⟩ : ∃ W1, wr.alloc (.cells #[.int .i64 d.1, .int .i64 d.2] 30) = W1 := ⟨_, rfl⟩
        have d0 : W1.cell? ⟨wr.heap.size, 0, none⟩ = some (.int .i64 d.1) := by rw [← hW1]; simp [go_sem]
        have d1 : W1.cell? ⟨wr.heap.size, 1, none⟩ = some (.int .i64 d.2) := by rw [← hW1]; simp [go_sem]
        rw [hW1] at hal ⊢
        clear hW1
        replace e0 := cell_later hal e0
        have HAL := Lib.hid hal
        have zd0 := blk_lt d0
        have ze' := blk_lt e0
        clear hal
        have hD := bl_dr (bl0 W1)
        refine (wpIn_wide (n := 11)).1 ?_
        refine ordZ_begin (z := 7) (S := (fun W9 : World => W9.cell? ⟨tp, 1, none⟩ = some (.slice (some ⟨kb, 0, none⟩) cs.length cs.length) ∧ W9.cell? ⟨wr.heap.size, 0, none⟩ = some (.int .i64 d.1) ∧ W9.cell? ⟨wr.heap.size, 1, none⟩ = some (.int .i64 d.2))) (by kernel_rfl) ⟨cell_later hD e0, cell_later hD d0, cell_later hD d1⟩ (fun hH => ?_)
        first
          | (refine' ordZ_take (i := 0) (oi := { dst := some 45, op := Op.fieldAddr 54 (Operand.tmp 13) 1, type := 0, pos := _, after := #[], guard := none }) (v := _) rfl (by kernel_rfl) (by kernel_rfl) (by kernel_rfl) (by kernel_rfl) (fun _ _ _ h => h) (by assumption) (by kernel_rfl) (by decide) (by rfl) (Or.inl ⟨by rfl, ?hy198⟩) (fun _ => rfl) ?rest198
             case hy198 => (intro w hSw; (try dsimp only at hSw); go_simp; try with_reducible rfl))
          | (refine ordZ_take (i := 0) (oi := { dst := some 45, op := Op.fieldAddr 54 (Operand.tmp 13) 1, type := 0, pos := _, after := #[], guard := none }) (v := undef) rfl (by kernel_rfl) (by kernel_rfl) (by kernel_rfl) (by kernel_rfl) (fun _ _ _ h => h) (by assumption) (by kernel_rfl) (by decide) (by rfl) (Or.inr ⟨by rfl, rfl⟩) (fun _ => rfl) ?_)
        try simp only [Act.put, List.setIfInBounds_toArray, List.set_cons_zero, List.set_cons_succ]
        first
          | (refine' ordZ_take (i := 1) (oi := { dst := some 46, op := Op.load 52 (Operand.tmp 45), type := 52, pos := _, after := #[{ on := 0, ground := Ground.data }], guard := none }) (v := _) rfl (by kernel_rfl) (by kernel_rfl) (by kernel_rfl) (by kernel_rfl) (fun _ _ _ h => h) (by assumption) (by kernel_rfl) (by decide) (by rfl) (Or.inl ⟨by rfl, ?hy199⟩) (fun _ => rfl) ?rest199
             case hy199 => (intro w hSw; (try dsimp only at hSw); go_simp; try with_reducible rfl))
          | (refine ordZ_take (i := 1) (oi := { dst := some 46, op := Op.load 52 (Operand.tmp 45), type := 52, pos := _, after := #[{ on := 0, ground := Ground.data }], guard := none }) (v := undef) rfl (by kernel_rfl) (by kernel_rfl) (by kernel_rfl) (by kernel_rfl) (fun _ _ _ h => h) (by assumption) (by kernel_rfl) (by decide) (by rfl) (Or.inr ⟨by rfl, rfl⟩) (fun _ => rfl) ?_)
        try simp only [Act.put, List.setIfInBounds_toArray, List.set_cons_zero, List.set_cons_succ]
        first
          | (refine' ordZ_take (i := 2) (oi := { dst := some 47, op := Op.move (Operand.tmp 14), type := 3, pos := _, after := #[], guard := none }) (v := _) rfl (by kernel_rfl) (by kernel_rfl) (by kernel_rfl) (by kernel_rfl) (fun _ _ _ h => h) (by assumption) (by kernel_rfl) (by decide) (by rfl) (Or.inl ⟨by rfl, ?hy200⟩) (fun _ => rfl) ?rest200
             case hy200 => (intro w hSw; (try dsimp only at hSw); go_simp; try with_reducible rfl))
          | (refine ordZ_take (i := 2) (oi := { dst := some 47, op := Op.move (Operand.tmp 14), type := 3, pos := _, after := #[], guard := none }) (v := undef) rfl (by kernel_rfl) (by kernel_rfl) (by kernel_rfl) (by kernel_rfl) (fun _ _ _ h => h) (by assumption) (by kernel_rfl) (by decide) (by rfl) (Or.inr ⟨by rfl, rfl⟩) (fun _ => rfl) ?_)
        try simp only [Act.put, List.setIfInBounds_toArray, List.set_cons_zero, List.set_cons_succ]
        first
          | (refine' ordZ_take (i := 3) (oi := { dst := some 48, op := Op.move (Operand.tmp 12), type := 83, pos := _, after := #[], guard := none }) (v := _) rfl (by kernel_rfl) (by kernel_rfl) (by kernel_rfl) (by kernel_rfl) (fun _ _ _ h => h) (by assumption) (by kernel_rfl) (by decide) (by rfl) (Or.inl ⟨by rfl, ?hy201⟩) (fun _ => rfl) ?rest201
             case hy201 => (intro w hSw; (try dsimp only at hSw); go_simp; try with_reducible rfl))
          | (refine ordZ_take (i := 3) (oi := { dst := some 48, op := Op.move (Operand.tmp 12), type := 83, pos := _, after := #[], guard := none }) (v := undef) rfl (by kernel_rfl) (by kernel_rfl) (by kernel_rfl) (by kernel_rfl) (fun _ _ _ h => h) (by assumption) (by kernel_rfl) (by decide) (by rfl) (Or.inr ⟨by rfl, rfl⟩) (fun _ => rfl) ?_)
        try simp only [Act.put, List.setIfInBounds_toArray, List.set_cons_zero, List.set_cons_succ]
        first
          | (refine' ordZ_take (i := 4) (oi := { dst := some 49, op := Op.load 30 (Operand.tmp 15), type := 30, pos := _, after := #[], guard := none }) (v := _) rfl (by kernel_rfl) (by kernel_rfl) (by kernel_rfl) (by kernel_rfl) (fun _ _ _ h => h) (by assumption) (by kernel_rfl) (by decide) (by rfl) (Or.inl ⟨by rfl, ?hy202⟩) (fun _ => rfl) ?rest202
             case hy202 => (intro w hSw; (try dsimp only at hSw); go_simp; try with_reducible rfl))
          | (refine ordZ_take (i := 4) (oi := { dst := some 49, op := Op.load 30 (Operand.tmp 15), type := 30, pos := _, after := #[], guard := none }) (v := undef) rfl (by kernel_rfl) (by kernel_rfl) (by kernel_rfl) (by kernel_rfl) (fun _ _ _ h => h) (by assumption) (by kernel_rfl) (by decide) (by rfl) (Or.inr ⟨by rfl, rfl⟩) (fun _ => rfl) ?_)
        try simp only [Act.put, List.setIfInBounds_toArray, List.set_cons_zero, List.set_cons_succ]
        refine ordZ_one (i := 5) (o := { dst := some 50, op := Op.call { callee := Callee.value (Operand.tmp 48), args := #[Operand.tmp 49], argTypes := #[30] }, type := 42, pos := _, after := #[{ on := 3, ground := Ground.data }, { on := 4, ground := Ground.data }], guard := none }) (by kernel_rfl) rfl (by rfl) (fun K hK => ?_)
        go_simp
        refine ⟨trivial, ?_⟩
        with_reducible refine (callsIn_wide.2 (HRD.out _ _ _ _ _ _ ((HRA.out).below (bl_tr HBW.out (bl_tr HAL.out hD))) ((HST.out).below (bl_tr HBW.out (bl_tr HAL.out hD))))).mono ?_
        rintro e W6 ⟨g, rfl, hg6, hq6, hb6⟩
        have hg6' : w2.heap.size ≤ g := by have h1 := (HBW.out).size; have h2 := (HAL.out).size; have h3 := hD.size; omega
        replace hD := bl_tr hD hb6
        have hS6 : (fun W9 : World => W9.cell? ⟨tp, 1, none⟩ = some (.slice (some ⟨kb, 0, none⟩) cs.length cs.length) ∧ W9.cell? ⟨wr.heap.size, 0, none⟩ = some (.int .i64 d.1) ∧ W9.cell? ⟨wr.heap.size, 1, none⟩ = some (.int .i64 d.2)) W6 := ⟨cell_later hD e0, cell_later hD d0, cell_later hD d1⟩
        refine hK _ _ (fun _ => hS6) ?_
        clear hK K
        try simp only [Act.put, List.setIfInBounds_toArray, List.set_cons_zero, List.set_cons_succ]
        first
          | (refine' ordZ_take (i := 6) (oi := { dst := some 51, op := Op.indexAddr 52 (Operand.tmp 46) (Operand.tmp 47), type := 0, pos := _, after := #[{ on := 1, ground := Ground.data }, { on := 2, ground := Ground.data }, { on := 0, ground := Ground.phase }, { on := 1, ground := Ground.phase }, { on := 2, ground := Ground.phase }, { on := 3, ground := Ground.phase }, { on := 4, ground := Ground.phase }, { on := 5, ground := Ground.phase }], guard := none }) (v := _) rfl (by kernel_rfl) (by kernel_rfl) (by kernel_rfl) (by kernel_rfl) (fun _ _ _ h => h) (by assumption) (by kernel_rfl) (by decide) (by rfl) (Or.inl ⟨by rfl, ?hy203⟩) (fun _ => rfl) ?rest203
             case hy203 => (intro w hSw; (try dsimp only at hSw); go_simp; try with_reducible rfl))
          | (refine ordZ_take (i := 6) (oi := { dst := some 51, op := Op.indexAddr 52 (Operand.tmp 46) (Operand.tmp 47), type := 0, pos := _, after := #[{ on := 1, ground := Ground.data }, { on := 2, ground := Ground.data }, { on := 0, ground := Ground.phase }, { on := 1, ground := Ground.phase }, { on := 2, ground := Ground.phase }, { on := 3, ground := Ground.phase }, { on := 4, ground := Ground.phase }, { on := 5, ground := Ground.phase }], guard := none }) (v := undef) rfl (by kernel_rfl) (by kernel_rfl) (by kernel_rfl) (by kernel_rfl) (fun _ _ _ h => h) (by assumption) (by kernel_rfl) (by decide) (by rfl) (Or.inr ⟨by rfl, rfl⟩) (fun _ => rfl) ?_)
        try simp only [Act.put, List.setIfInBounds_toArray, List.set_cons_zero, List.set_cons_succ]
        have HDD := Lib.hid (bl_tr HAL.out hD)
        have htab6 := (HTAB.out).below HDD.out
        have htc := htab6.tab
        have htv := tabC_at cs.length gs (m := cs.length - k) HGL.out (by omega)
        have t0 : W6.cell? ⟨kb, k, none⟩ = some (.slice none 0 0) := by simp [World.cell?, htc, htv]
        have t1 : W6.frozen? ⟨kb, k, none⟩ = false := by simp [World.frozen?, htc]
        have zt := blk_lt t0
        refine ordZ_one (i := 7) (o := { dst := none, op := Op.store 42 (Operand.tmp 51) (Operand.tmp 50), type := 0, pos := _, after := #[{ on := 6, ground := Ground.data }, { on := 5, ground := Ground.data }, { on := 5, ground := Ground.chain }, { on := 0, ground := Ground.phase }, { on := 1, ground := Ground.phase }, { on := 2, ground := Ground.phase }, { on := 3, ground := Ground.phase }, { on := 4, ground := Ground.phase }, { on := 5, ground := Ground.phase }], guard := none }) (by kernel_rfl) rfl (by rfl) (fun K hK => ?_)
        go_simp
        refine hK _ _ (fun h => by cases h) ?_
        clear hK K hH
        try simp only [Act.put, List.setIfInBounds_toArray, List.set_cons_zero, List.set_cons_succ]
        refine ordZ_done (by kernel_rfl) ?_
        rw [show cs.length - k = (cs.length - (k + 1)) + 1 by omega] at htab6
        have hts := htab6.set hq6
        rw [HGL.out, ← HRS2.out] at hts
        have HTS := Lib.hid hts
        have HG9 := Lib.hid (((HGR.out).trans (gq_below (q := kb) HDD.out)).trans (hgrown_set W6 kb k (.slice (some ⟨g, 0, none⟩) cs.length cs.length)))
        have HGS9 := Lib.hid (show ∀ x ∈ gs ++ [g], w2.heap.size ≤ x from fun x hx => by
          rcases List.mem_append.1 hx with h | h
          · exact HGS.out x h
          · rw [List.mem_singleton.1 h]; exact hg6')
        clear hts htab6 htc t0 t1 zt hS6 hD e0 d0 d1 zd0 ze ze' hq6 htv hg6 hg6' hbw
        go_wp2
        go_roundw
        case rel => exact ⟨k + 1, gs ++ [g], by omega, by go_num, HG9.out, HTS.out, HGS9.out⟩
        case measure => simp [intOf]; omega
      · obtain rfl : k = cs.length := by omega
        have hge : ¬ (cs.length : Int) < (cs.length : Int) := by omega
        have hall : R.take cs.length = R := by rw [← HRL.out]; exact List.take_length
        rw [hall, Nat.sub_self] at htab
        have hwr := bl_tr HA2.out hbw
        have hrb : w.heap.size + 1 + 1 < w2.heap.size := blk_lt Q0.out
        have q0 := cell_later hbw Q0.out
        have q1 := cell_later hbw Q1.out
        have u0 := frozen_later hbw Q0.out U0.out
        have u1 := frozen_later hbw Q1.out U1.out
        have e0 : wr.cell? ⟨tp, 0, none⟩ = some (.slice ka cs.length kc) := by simp [World.cell?, htb]
        have e1 : wr.cell? ⟨tp, 1, none⟩ = some (.slice (some ⟨kb, 0, none⟩) cs.length cs.length) := by simp [World.cell?, htb]
        have ze := blk_lt e0
        have zq := blk_lt q0
        have htne : tp ≠ w.heap.size + 1 + 1 := by have := HTP.out; omega
        have how := World.ownsRow.kept HOW.out hgr (.inr (ownC_ne HOW.out HMB.out))
        have hne2 : (Value.slice ka cs.length kc).ownBlock ≠ some (w.heap.size + 1 + 1) := fun e => by have := (World.ownsRow.lt how _ e).1; omega
        have g1 := hgrown_set wr (w.heap.size + 1 + 1) 0 (.slice ka cs.length kc)
        have g2 := hgrown_set (wr.setCell ⟨w.heap.size + 1 + 1, 0, none⟩ (.slice ka cs.length kc)) (w.heap.size + 1 + 1) 1 (.slice (some ⟨kb, 0, none⟩) cs.length cs.length)
        have HO9 := Lib.hid (OwnC.low (base := w2.heap.size) ((World.ownsRow.kept how g1 (.inr hne2)).kept g2 (.inr hne2)) (show w.heap.size ≤ w2.heap.size by omega))
        have HT9 := Lib.hid ((htab.kept g1 hrb HKB.out hgs).kept g2 hrb HKB.out hgs)
        have HW9 := Lib.hid (bl_st (bl_st hwr (show w.heap.size ≤ w.heap.size + 1 + 1 by omega) (.slice ka cs.length kc) (o := 0)) (show w.heap.size ≤ w.heap.size + 1 + 1 by omega) (.slice (some ⟨kb, 0, none⟩) cs.length cs.length) (o := 1))
        have HGS9 := Lib.hid (show ∀ g ∈ gs, w.heap.size ≤ g from fun g hg => by have := hgs g hg; omega)
        have HKB9 := Lib.hid (show w.heap.size ≤ kb by have := HKB.out; omega)
        clear htab hgr hbw htb hgs hall how g1 g2 hwr hne2
        go_wp2
        refine bodyPost_ret (v := .tuple #[.agg #[.slice ka cs.length kc, .slice (some ⟨kb, 0, none⟩) cs.length cs.length], .int .i64 0]) (by simp [results, Tryd.results17, go_sem, q0, q1]) rfl ?_
        exact ⟨ka, kc, some ⟨kb, 0, none⟩, cs.length, by rw [HRL.out], HO9.out, .inr ⟨kb, gs, rfl, HKB9.out, HGS9.out, HT9.out⟩, HW9.out⟩
end Go.Proofs.YtgbhafadibdmcaaDoor

/- Tables within a cluster: the laws' helpers. -/
namespace Go.Proofs.YtgbhafadibdmcaaDoor
open Go.RowKit

set_option maxHeartbeats 2000000 in
theorem cells13_any (a a2 : Option Addr) (cap cap2 : Nat) (xs ys : List (Int × Int)) (w : World) (hr : RowC w a xs) (hr2 : RowC w a2 ys) (hl : xs.length ≤ 1048576) :
    Calls Tryd.prog 21 #[.slice a xs.length cap, .slice a2 ys.length cap2] w fun e w' => e = .returned (.bool (decide (xs = ys))) ∧ Below w.heap.size w w' := by
  have hl2 : (xs.length : Int) ≤ 1048576 := by omega
  by_cases he : xs.length = ys.length
  · have h1 : ((xs.length : Int) != (ys.length : Int)) = false := by rw [bne_eq_false_iff_eq]; omega
    have HE := Lib.hid he
    clear he
    have hA0 := bl0 w
    go_enter Tryd.func21, Tryd.ntmps21
    go_wp2
    go_loopw [5] (fun i wr => ∃ k : Nat, k ≤ xs.length ∧ i = .int .i64 k ∧ xs.take k = ys.take k ∧ Below w.heap.size w wr) (fun i _ => xs.length - (intOf i).toNat)
    case atStart => exact ⟨0, Nat.zero_le _, rfl, rfl, hA0⟩
    case round =>
      obtain ⟨k, hk, rfl, ht, hB⟩ := hrel
      have HT := Lib.hid ht
      clear hA0 ht
      by_cases hlt : k < xs.length
      · have hlt2 : (k : Int) < (xs.length : Int) := by omega
        have hk0 : (0 : Int) ≤ (k : Int) := by omega
        have hlty : k < ys.length := by rw [← HE.out]; exact hlt
        obtain ⟨gb, go, rfl, q0, q1⟩ := hr.cell hlt
        obtain ⟨gb2, go2, rfl, r0, r1⟩ := hr2.cell hlty
        replace q0 := cell_later hB q0
        replace q1 := cell_later hB q1
        replace r0 := cell_later hB r0
        replace r1 := cell_later hB r1
        have hlty2 : (k : Int) < (ys.length : Int) := by omega
        clear hr hr2
        by_cases hx : xs[k] = ys[k]
        · have HS := Lib.hid (take_sameC hlt hlty HT.out hx)
          rw [← hx] at r0 r1
          clear hx
          generalize xs[k].1 = x at *
          generalize xs[k].2 = y at *
          have b1 := beq_self_eq_true x
          have b2 := beq_self_eq_true y
          go_wp2
          go_quiet (fail)
          go_wp2
          go_roundw
          case rel => exact ⟨k + 1, by omega, by go_num, HS.out, bl_tr hB (bl_drn _ _)⟩
          case measure => simp [intOf]; omega
        · have HS := Lib.hid (show xs ≠ ys by rintro rfl; exact hx rfl)
          by_cases h2 : xs[k].1 = ys[k].1
          · have h3 : (xs[k].2 == ys[k].2) = false := by rw [beq_eq_false_iff_ne]; exact fun e => hx (Prod.ext h2 e)
            rw [← h2] at r0
            clear hx h2
            generalize xs[k].1 = x at *
            generalize xs[k].2 = y at *
            generalize ys[k].2 = y' at *
            have b1 := beq_self_eq_true x
            go_wp2
            go_quiet (fail)
            go_wp2
            go_ret
            exact ⟨ret_bool (by simp [HS.out]), bl_tr hB (bl_drn _ _)⟩
          · have h3 : (xs[k].1 == ys[k].1) = false := by rw [beq_eq_false_iff_ne]; exact h2
            clear hx h2
            generalize xs[k].1 = x at *
            generalize xs[k].2 = y at *
            generalize ys[k].1 = x' at *
            generalize ys[k].2 = y' at *
            go_wp2
            go_quiet (fail)
            go_wp2
            go_ret
            exact ⟨ret_bool (by simp [HS.out]), bl_tr hB (bl_drn _ _)⟩
      · have hge : (xs.length : Int) ≤ (k : Int) := by omega
        have HS := Lib.hid (take_allC (by omega) HE.out HT.out)
        go_wp2
        go_ret
        exact ⟨ret_bool (by simp [HS.out]), hB⟩
  · have h1 : ((xs.length : Int) != (ys.length : Int)) = true := by rw [bne_iff_ne]; omega
    have HE := Lib.hid (show xs ≠ ys from fun e => he (by rw [e]))
    clear he
    go_enter Tryd.func21, Tryd.ntmps21
    go_wp2
    go_ret
    exact ⟨ret_bool (by simp [HE.out]), bl0 _⟩

set_option maxHeartbeats 2000000 in
theorem same13_any (a a2 : Option Addr) (cap cap2 : Nat) (xs ys : List Int) (w : World) (hr : RowU w a xs) (hr2 : RowU w a2 ys) (hl : xs.length ≤ 140737488355328) :
    Calls Tryd.prog 27 #[.slice a xs.length cap, .slice a2 ys.length cap2] w fun e w' => e = .returned (.bool (decide (xs = ys))) ∧ Below w.heap.size w w' := by
  have hl2 : (xs.length : Int) ≤ 140737488355328 := by omega
  by_cases he : xs.length = ys.length
  · have h1 : ((xs.length : Int) != (ys.length : Int)) = false := by rw [bne_eq_false_iff_eq]; omega
    have HE := Lib.hid he
    clear he
    have hA0 := bl0 w
    go_enter Tryd.func27, Tryd.ntmps27
    go_wp2
    go_loopw [5] (fun i wr => ∃ k : Nat, k ≤ xs.length ∧ i = .int .i64 k ∧ xs.take k = ys.take k ∧ Below w.heap.size w wr) (fun i _ => xs.length - (intOf i).toNat)
    case atStart => exact ⟨0, Nat.zero_le _, rfl, rfl, hA0⟩
    case round =>
      obtain ⟨k, hk, rfl, ht, hB⟩ := hrel
      have HT := Lib.hid ht
      clear hA0 ht
      by_cases hlt : k < xs.length
      · have hlt2 : (k : Int) < (xs.length : Int) := by omega
        have hk0 : (0 : Int) ≤ (k : Int) := by omega
        have hlty : k < ys.length := by rw [← HE.out]; exact hlt
        obtain ⟨gb, go, rfl, q⟩ := hr.cell hlt
        rw [← atD_get hlt] at q
        obtain ⟨gb2, go2, rfl, q2⟩ := hr2.cell hlty
        rw [← atD_get hlty] at q2
        replace q := cell_later hB q
        replace q2 := cell_later hB q2
        have hlty2 : (k : Int) < (ys.length : Int) := by omega
        clear hr hr2
        by_cases hx : xs[k] = ys[k]
        · have HS := Lib.hid (take_same hlt hlty HT.out hx)
          have hx2 : (xs[k] != ys[k]) = false := by rw [bne_eq_false_iff_eq]; exact hx
          clear hx
          generalize xs[k] = x at *
          generalize ys[k] = y at *
          go_wp2
          go_quiet (fail)
          go_wp2
          go_roundw
          case rel => exact ⟨k + 1, by omega, by go_num, HS.out, bl_tr hB (bl_drn _ _)⟩
          case measure => simp [intOf]; omega
        · have HS := Lib.hid (not_same_at hlt hlty hx)
          have hx2 : (xs[k] != ys[k]) = true := by rw [bne_iff_ne]; exact hx
          clear hx
          generalize xs[k] = x at *
          generalize ys[k] = y at *
          go_wp2
          go_quiet (fail)
          go_wp2
          go_ret
          exact ⟨ret_bool (by simp [HS.out]), bl_tr hB (bl_drn _ _)⟩
      · have hge : (xs.length : Int) ≤ (k : Int) := by omega
        have HS := Lib.hid (take_all (by omega) HE.out HT.out)
        go_wp2
        go_ret
        exact ⟨ret_bool (by simp [HS.out]), hB⟩
  · have h1 : ((xs.length : Int) != (ys.length : Int)) = true := by rw [bne_iff_ne]; omega
    have HE := Lib.hid (show xs ≠ ys from fun e => he (by rw [e]))
    clear he
    go_enter Tryd.func27, Tryd.ntmps27
    go_wp2
    go_ret
    exact ⟨ret_bool (by simp [HE.out]), bl0 _⟩


theorem take_sameT {xs ys : List (List Int)} {k : Nat} (hk : k < xs.length) (hk2 : k < ys.length) (h : xs.take k = ys.take k) (e : xs[k] = ys[k]) : xs.take (k + 1) = ys.take (k + 1) := by
  rw [List.take_succ_eq_append_getElem hk, List.take_succ_eq_append_getElem hk2, h, e]
theorem take_allT {xs ys : List (List Int)} {k : Nat} (h1 : xs.length ≤ k) (h2 : xs.length = ys.length) (h : xs.take k = ys.take k) : xs = ys := by
  rw [List.take_of_length_le h1, List.take_of_length_le (by omega)] at h
  exact h
theorem TabR.cell {W : World} {a : Option Addr} {rs : List (List Int)} (h : TabR W a rs) {k : Nat} (hk : k < rs.length) : ∃ b o ra rc, a = some ⟨b, o, none⟩ ∧ W.cell? ⟨b, o + k, none⟩ = some (.slice ra rs[k].length rc) ∧ RowU W ra rs[k] := by
  rcases h with rfl | ⟨b, o, h1, h2⟩
  · simp at hk
  · obtain ⟨ra, rc, q1, q2⟩ := h2 k _ (List.getElem?_eq_getElem hk)
    exact ⟨b, o, ra, rc, h1, q1, q2⟩
set_option maxRecDepth 100000 in
set_option maxHeartbeats 2000000 in
theorem rows13_any (a a2 : Option Addr) (cap cap2 : Nat) (xs ys : List (List Int)) (w : World) (hr : TabR w a xs) (hr2 : TabR w a2 ys) (hl : xs.length ≤ 1048576) (hxl : ∀ r ∈ xs, r.length ≤ 1048576) :
    Calls Tryd.prog 22 #[.slice a xs.length cap, .slice a2 ys.length cap2] w fun e w' => e = .returned (.bool (decide (xs = ys))) ∧ Below w.heap.size w w' := by
  have hl2 : (xs.length : Int) ≤ 1048576 := by omega
  have HS := Lib.hid (fun a a2 c c2 xs ys w h1 h2 hl => same13_any a a2 c c2 xs ys w h1 h2 hl)
  have HXL := Lib.hid hxl
  clear hxl
  by_cases he : xs.length = ys.length
  · have h1 : ((xs.length : Int) != (ys.length : Int)) = false := by rw [bne_eq_false_iff_eq]; omega
    have HE := Lib.hid he
    clear he
    have hA0 := bl0 w
    go_enter Tryd.func22, Tryd.ntmps22
    go_wp2
    go_loopw [5] (fun i wr => ∃ k : Nat, k ≤ xs.length ∧ i = .int .i64 k ∧ xs.take k = ys.take k ∧ Below w.heap.size w wr) (fun i _ => xs.length - (intOf i).toNat)
    case atStart => exact ⟨0, Nat.zero_le _, rfl, rfl, hA0⟩
    case round =>
      obtain ⟨k, hk, rfl, ht, hB⟩ := hrel
      have HT := Lib.hid ht
      clear hA0 ht
      by_cases hlt : k < xs.length
      · have hlt2 : (k : Int) < (xs.length : Int) := by omega
        have hk0 : (0 : Int) ≤ (k : Int) := by omega
        have hlty : k < ys.length := by rw [← HE.out]; exact hlt
        obtain ⟨gb, go, ra, rc, rfl, q, hq⟩ := (hr.below hB).cell hlt
        obtain ⟨gb2, go2, ra2, rc2, rfl, q2, hq2⟩ := (hr2.below hB).cell hlty
        have hlty2 : (k : Int) < (ys.length : Int) := by omega
        have hxk := HXL.out _ (List.getElem_mem hlt)
        have HQ := Lib.hid hq
        have HQ2 := Lib.hid hq2
        have HSK := Lib.hid (fun (e : xs[k] = ys[k]) => take_sameT hlt hlty HT.out e)
        have HNE := Lib.hid (fun (e : xs[k] ≠ ys[k]) => (show xs ≠ ys by rintro rfl; exact e rfl))
        clear hr hr2 hq hq2
        generalize xs[k] = x at *
        generalize ys[k] = y at *
        have hB2 := bl_dr (bl0 wr)
        go_wp2
        go_region_held3 (fun W => W.cell? ⟨gb, go + k, none⟩ = some (.slice ra x.length rc) ∧ W.cell? ⟨gb2, go2 + k, none⟩ = some (.slice ra2 y.length rc2))
          (exact ⟨cell_later hB2 q, cell_later hB2 q2⟩)
          ((go_at_call 27; (with_reducible refine (HS.out _ _ _ _ _ _ _ (HQ.out.below hB2) (HQ2.out.below hB2) (by omega)).mono ?_); rintro e w9 ⟨rfl, hb9⟩; replace hB2 := bl_tr hB2 hb9))
        all_goals
          have hB3 := bl_tr hB hB2
          by_cases hxy : x = y
          · have HN := Lib.hid (HSK.out hxy)
            rw [decide_eq_true hxy]
            clear hxy q q2 hB2
            go_wp2
            go_roundw
            case rel => exact ⟨k + 1, by omega, by go_num, HN.out, hB3⟩
            case measure => simp [intOf]; omega
          · have HN := Lib.hid (HNE.out hxy)
            rw [decide_eq_false hxy]
            clear hxy q q2 hB2
            go_wp2
            go_ret
            exact ⟨ret_bool (by simp [HN.out]), hB3⟩
      · have hge : (xs.length : Int) ≤ (k : Int) := by omega
        have HS2 := Lib.hid (take_allT (by omega) HE.out HT.out)
        go_wp2
        go_ret
        exact ⟨ret_bool (by simp [HS2.out]), hB⟩
  · have h1 : ((xs.length : Int) != (ys.length : Int)) = true := by rw [bne_iff_ne]; omega
    have HE := Lib.hid (show xs ≠ ys from fun e => he (by rw [e]))
    clear he
    go_enter Tryd.func22, Tryd.ntmps22
    go_wp2
    go_ret
    exact ⟨ret_bool (by simp [HE.out]), bl0 _⟩
set_option maxHeartbeats 800000 in
theorem small13_any (A B : Int) (a : Option Addr) (n cap : Nat) (id : Int) (ca : Option Addr) (m cc : Nat) (p : IC) (w : World) :
    Calls Tryd.prog 15 #[.agg #[.int .i64 A, .int .i64 B, .slice a n cap], .agg #[.int .i64 id, .slice ca m cc, .int .i64 p.1, .int .i64 p.2]] w fun e w' => e = .returned (.bool (decide (n ≤ 260) && decide (m ≤ 60))) ∧ Below w.heap.size w w' := by
  obtain ⟨t, ht⟩ : ∃ t, decide (n ≤ 260) = t := ⟨_, rfl⟩
  obtain ⟨u, hu⟩ : ∃ u, decide (m ≤ 60) = u := ⟨_, rfl⟩
  have h1 : decide ((n : Int) ≤ 260) = t := by rw [← ht, decide_eq_decide]; omega
  have h2 : decide ((m : Int) ≤ 60) = u := by rw [← hu, decide_eq_decide]; omega
  rw [ht, hu]
  cases t
  all_goals
    go_enter Tryd.func15, Tryd.ntmps15
    go_wp2
    go_ret
    exact ⟨rfl, bl_al (bl_al (bl0 _) _) _⟩
end Go.Proofs.YtgbhafadibdmcaaDoor

/- Tables within a cluster: the chapter's example. -/
namespace Go.Proofs.YtgbhafadibdmcaaDoor
open Go.RowKit

def zA13 : List Int := [1, 5, 1, 1, 1, 1, 1, 1]
def cA13 : List IC := [(0, 0), (1, 0), (1, 1)]
theorem aw13_chk : chkI 4 2 8 4 2 2 0 cA13 = 0 := by kernel_rfl
theorem aw13_of : ofRows 4 2 zA13 4 2 2 0 cA13 = [[0, 5, 2], [1, 0, 1], [2, 5, 0]] := by kernel_rfl
theorem aw13_cel : ofCel 4 2 8 4 2 2 0 cA13 = cA13 := by kernel_rfl
theorem aw13_to : toXi 4 2 8 4 2 2 0 cA13 (0, 1) = 0 := by kernel_rfl
theorem aw13_tol : toLi 4 2 zA13 4 2 2 0 cA13 (0, 1) = [1, 6, 1] := by kernel_rfl
theorem aw13_bal : backLi 4 2 zA13 4 2 2 0 cA13 (0, 1) = [1, 2, 1] := by kernel_rfl

theorem zA13_in : AllH zA13 := by
  intro z hz
  have h : (zA13.all fun z => decide (0 ≤ z) && decide (z ≤ 65535)) = true := by kernel_rfl
  have := List.all_eq_true.1 h z hz
  rw [Bool.and_eq_true, decide_eq_true_eq, decide_eq_true_eq] at this
  exact this
theorem of_aw13 (b c : Nat) (w : World) (hr : RowH w (some ⟨b, 0, none⟩) zA13) (hcs : RowC w (some ⟨c, 0, none⟩) cA13) (hs : Stp w) :
    Calls Tryd.prog 17 #[.agg #[.int .i64 4, .int .i64 2, .slice (some ⟨b, 0, none⟩) 8 8], .agg #[.int .i64 4, .int .i64 2, .int .i64 2], .int .i64 0, .slice (some ⟨c, 0, none⟩) 3 3] w fun e w' => ∃ ka kc ta tc, e = .returned (.tuple #[.agg #[.slice ka 3 kc, .slice ta 3 tc], .int .i64 0]) ∧ RowC w' ka cA13 ∧ TabR w' ta [[0, 5, 2], [1, 0, 1], [2, 5, 0]] ∧ Below w.heap.size w w' := by
  have h := of_i 4 2 (some ⟨b, 0, none⟩) 8 zA13 4 2 2 0 (some ⟨c, 0, none⟩) 3 cA13 w hr zA13_in (by decide) hcs (by decide) hs
  have e1 : chkI 4 2 ((zA13.length : Nat) : Int) 4 2 2 0 cA13 = 0 := aw13_chk
  have e2 : ofCel 4 2 ((zA13.length : Nat) : Int) 4 2 2 0 cA13 = cA13 := aw13_cel
  rw [e1, e2, aw13_of] at h
  refine h.mono ?_
  rintro e w' ⟨ka, kc, ta, tc, rfl, ho, ht, hb⟩
  refine ⟨ka, kc, ta, tc, rfl, OwnC.rowC ho, ?_, hb⟩
  rcases ht with h | ⟨x, gs, rfl, _, _, h⟩
  · cases h
  · exact h.read (fun r hr => by simp at hr; rcases hr with rfl | rfl | rfl <;> rfl)
theorem to_aw13 (b : Nat) (ka ta : Option Addr) (kc tn tc : Nat) (w : World) (hr : RowH w (some ⟨b, 0, none⟩) zA13) (hcs : RowC w ka cA13) (hs : Stp w) :
    Calls Tryd.prog 25 #[.agg #[.int .i64 4, .int .i64 2, .slice (some ⟨b, 0, none⟩) 8 8], .agg #[.int .i64 4, .int .i64 2, .int .i64 2], .int .i64 0, .agg #[.slice ka 3 kc, .slice ta tn tc], .agg #[.int .i64 0, .int .i64 1]] w fun e w' => ∃ g cap, e = .returned (.tuple #[.slice g 3 cap, .int .i64 0]) ∧ RowU w' g [1, 6, 1] ∧ Below w.heap.size w w' := by
  have h := to_i 4 2 (some ⟨b, 0, none⟩) 8 zA13 4 2 2 0 ka kc cA13 ta tn tc (0, 1) w hr zA13_in (by decide) hcs (by decide) hs
  have e1 : toXi 4 2 ((zA13.length : Nat) : Int) 4 2 2 0 cA13 (0, 1) = 0 := aw13_to
  rw [e1, aw13_tol] at h
  refine h.mono ?_
  rintro e w' ⟨g, cap, rfl, hq, hb⟩
  refine ⟨g, cap, rfl, ?_, hb⟩
  rcases hq with h | ⟨x, rfl, _, h⟩
  · cases h
  · exact rowU_heap h
theorem back_aw13 (b : Nat) (ka ta : Option Addr) (kc tn tc : Nat) (w : World) (hr : RowH w (some ⟨b, 0, none⟩) zA13) (hcs : RowC w ka cA13) (hs : Stp w) :
    Calls Tryd.prog 26 #[.agg #[.int .i64 4, .int .i64 2, .slice (some ⟨b, 0, none⟩) 8 8], .agg #[.int .i64 4, .int .i64 2, .int .i64 2], .int .i64 0, .agg #[.slice ka 3 kc, .slice ta tn tc], .agg #[.int .i64 0, .int .i64 1]] w fun e w' => ∃ g cap, e = .returned (.tuple #[.slice g 3 cap, .int .i64 0]) ∧ RowU w' g [1, 2, 1] ∧ Below w.heap.size w w' := by
  have h := back_i 4 2 (some ⟨b, 0, none⟩) 8 zA13 4 2 2 0 ka kc cA13 ta tn tc (0, 1) w hr zA13_in (by decide) hcs (by decide) hs
  have e1 : toXi 4 2 ((zA13.length : Nat) : Int) 4 2 2 0 cA13 (0, 1) = 0 := aw13_to
  rw [e1, aw13_bal] at h
  refine h.mono ?_
  rintro e w' ⟨g, cap, rfl, hq, hb⟩
  refine ⟨g, cap, rfl, ?_, hb⟩
  rcases hq with h | ⟨x, rfl, _, h⟩
  · cases h
  · exact rowU_heap h
set_option maxRecDepth 100000 in
set_option maxHeartbeats 8000000 in
theorem awake13 (w : World) (hs : Stp w) : Calls Tryd.prog 16 #[] w fun e w' => e = .returned (.bool true) ∧ Below w.heap.size w w' := by
  go_enter Tryd.func16, Tryd.ntmps16
  go_wp2_with fail
  obtain ⟨w0, hw0⟩ : ∃ w0, (((w.alloc (.cells #[.int .u16 1, .int .u16 5, .int .u16 1, .int .u16 1, .int .u16 1, .int .u16 1, .int .u16 1, .int .u16 1] 64)).alloc (.cells #[.int .i64 4, .int .i64 2, .slice (some ⟨w.heap.size, 0, none⟩) 8 8] 26)).alloc (.cells #[.int .i64 4, .int .i64 2, .int .i64 2] 48)).alloc (.cells #[.int .i64 0, .int .i64 0, .int .i64 1, .int .i64 0, .int .i64 1, .int .i64 1] 30) = w0 := ⟨_, rfl⟩
  have hA : Below w.heap.size w w0 := by rw [← hw0]; exact bl_al (bl_al (bl_al (bl_al (bl0 w) _) _) _) _
  have h0 : w0.heap[w.heap.size]? = some (.cells #[.int .u16 1, .int .u16 5, .int .u16 1, .int .u16 1, .int .u16 1, .int .u16 1, .int .u16 1, .int .u16 1] 64 (0, 0)) := by
    rw [← hw0]
    exact ((bl_al (bl_al (bl_al (bl0 (w.alloc (.cells #[.int .u16 1, .int .u16 5, .int .u16 1, .int .u16 1, .int .u16 1, .int .u16 1, .int .u16 1, .int .u16 1] 64))) _) _) _).block _ (by simp)).trans (heap_alloc_new w _)
  have h3 : w0.heap[w.heap.size + 1 + 1 + 1]? = some (.cells #[.int .i64 0, .int .i64 0, .int .i64 1, .int .i64 0, .int .i64 1, .int .i64 1] 30 (0, 0)) := by
    rw [← hw0]
    have h := heap_alloc_new (((w.alloc (.cells #[.int .u16 1, .int .u16 5, .int .u16 1, .int .u16 1, .int .u16 1, .int .u16 1, .int .u16 1, .int .u16 1] 64)).alloc (.cells #[.int .i64 4, .int .i64 2, .slice (some ⟨w.heap.size, 0, none⟩) 8 8] 26)).alloc (.cells #[.int .i64 4, .int .i64 2, .int .i64 2] 48)) (.cells #[.int .i64 0, .int .i64 0, .int .i64 1, .int .i64 0, .int .i64 1, .int .i64 1] 30)
    simp only [World.size_alloc] at h
    exact h
  have f0 : w0.cell? ⟨w.heap.size + 1, 0, none⟩ = some (.int .i64 4) := by rw [← hw0]; simp [go_sem]
  have f1 : w0.cell? ⟨w.heap.size + 1, 1, none⟩ = some (.int .i64 2) := by rw [← hw0]; simp [go_sem]
  have f2 : w0.cell? ⟨w.heap.size + 1, 2, none⟩ = some (.slice (some ⟨w.heap.size, 0, none⟩) 8 8) := by rw [← hw0]; simp [go_sem]
  have p0 : w0.cell? ⟨w.heap.size + 1 + 1, 0, none⟩ = some (.int .i64 4) := by rw [← hw0]; simp [go_sem]
  have p1 : w0.cell? ⟨w.heap.size + 1 + 1, 1, none⟩ = some (.int .i64 2) := by rw [← hw0]; simp [go_sem]
  have p2 : w0.cell? ⟨w.heap.size + 1 + 1, 2, none⟩ = some (.int .i64 2) := by rw [← hw0]; simp [go_sem]
  have hrow : RowH w0 (some ⟨w.heap.size, 0, none⟩) zA13 := row_lit h0 rfl
  have hcel : RowC w0 (some ⟨w.heap.size + 1 + 1 + 1, 0, none⟩) cA13 := rowC_lit h3 rfl
  have hs0 := hs.below hA
  rw [hw0]
  clear hw0 h0 h3
  refine (of_aw13 _ _ _ hrow hcel hs0).mono ?_
  rintro e w1 ⟨ka, kc, ta, tc, rfl, hkc, htb, hb⟩
  replace hA := bl_tr hA hb
  replace hrow := hrow.below hb
  replace hs0 := hs0.below hb
  replace f0 := cell_later hb f0; replace f1 := cell_later hb f1; replace f2 := cell_later hb f2
  replace p0 := cell_later hb p0; replace p1 := cell_later hb p1; replace p2 := cell_later hb p2
  have zf0 := blk_lt f0; have zp0 := blk_lt p0
  clear hb hcel
  go_wp2_with fail
  refine (to_aw13 w.heap.size ka ta kc 3 tc _ (hrow.below (bl_al (bl0 _) _)) (hkc.below (bl_al (bl0 _) _)) (hs0.below (bl_al (bl0 _) _))).mono ?_
  rintro e w2 ⟨g1, c1, rfl, hu1, hb⟩
  have hk : Below w1.heap.size w1 w2 := by first | exact hb | exact bl_tr (bl_al (bl0 _) _) hb | exact bl_tr (bl_dr (bl_al (bl0 _) _)) hb | exact bl_tr (bl_al (bl_al (bl0 _) _) _) hb | exact bl_tr (bl_dr (bl_al (bl_al (bl0 _) _) _)) hb | exact bl_tr (bl_al (bl_al (bl_al (bl0 _) _) _) _) hb | exact bl_tr (bl_dr (bl_al (bl_al (bl_al (bl0 _) _) _) _)) hb | exact bl_tr (bl_al (bl_al (bl_al (bl_al (bl0 _) _) _) _) _) hb | exact bl_tr (bl_dr (bl_al (bl_al (bl_al (bl_al (bl0 _) _) _) _) _)) hb | exact bl_tr (bl_al (bl_al (bl_al (bl_al (bl_al (bl0 _) _) _) _) _) _) hb | exact bl_tr (bl_dr (bl_al (bl_al (bl_al (bl_al (bl_al (bl0 _) _) _) _) _) _)) hb | exact bl_tr (bl_al (bl_al (bl_al (bl_al (bl_al (bl_al (bl0 _) _) _) _) _) _) _) hb | exact bl_tr (bl_dr (bl_al (bl_al (bl_al (bl_al (bl_al (bl_al (bl0 _) _) _) _) _) _) _)) hb | exact bl_tr (bl_dr (bl0 _)) hb
  replace hA := bl_tr hA hk
  replace hrow := hrow.below hk
  replace hkc := hkc.below hk
  replace hs0 := hs0.below hk
  replace htb := htb.below hk
  replace f0 := cell_later hk f0
  replace f1 := cell_later hk f1
  replace f2 := cell_later hk f2
  replace p0 := cell_later hk p0
  replace p1 := cell_later hk p1
  replace p2 := cell_later hk p2
  have t0 := cell_later hb (v := .slice ka 3 kc) (a := ⟨w1.heap.size, 0, none⟩) (by simp [go_sem])
  have t1 := cell_later hb (v := .slice ta 3 tc) (a := ⟨w1.heap.size, 1, none⟩) (by simp [go_sem])
  clear hb hk
  have zf0 := blk_lt f0
  have zf1 := blk_lt f1
  have zf2 := blk_lt f2
  have zp0 := blk_lt p0
  have zp1 := blk_lt p1
  have zp2 := blk_lt p2
  have zt0 := blk_lt t0
  have zt1 := blk_lt t1
  go_wp2_with fail
  refine (back_aw13 w.heap.size ka ta kc 3 tc _ hrow hkc hs0).mono ?_
  rintro e w3 ⟨g2, c2, rfl, hu2, hb⟩
  have hk : Below w2.heap.size w2 w3 := by first | exact hb | exact bl_tr (bl_al (bl0 _) _) hb | exact bl_tr (bl_dr (bl_al (bl0 _) _)) hb | exact bl_tr (bl_al (bl_al (bl0 _) _) _) hb | exact bl_tr (bl_dr (bl_al (bl_al (bl0 _) _) _)) hb | exact bl_tr (bl_al (bl_al (bl_al (bl0 _) _) _) _) hb | exact bl_tr (bl_dr (bl_al (bl_al (bl_al (bl0 _) _) _) _)) hb | exact bl_tr (bl_al (bl_al (bl_al (bl_al (bl0 _) _) _) _) _) hb | exact bl_tr (bl_dr (bl_al (bl_al (bl_al (bl_al (bl0 _) _) _) _) _)) hb | exact bl_tr (bl_al (bl_al (bl_al (bl_al (bl_al (bl0 _) _) _) _) _) _) hb | exact bl_tr (bl_dr (bl_al (bl_al (bl_al (bl_al (bl_al (bl0 _) _) _) _) _) _)) hb | exact bl_tr (bl_al (bl_al (bl_al (bl_al (bl_al (bl_al (bl0 _) _) _) _) _) _) _) hb | exact bl_tr (bl_dr (bl_al (bl_al (bl_al (bl_al (bl_al (bl_al (bl0 _) _) _) _) _) _) _)) hb | exact bl_tr (bl_dr (bl0 _)) hb
  replace hA := bl_tr hA hk
  replace htb := htb.below hk
  replace hu1 := hu1.below hk
  replace f0 := cell_later hk f0
  replace t0 := cell_later hk t0
  replace t1 := cell_later hk t1
  clear hb hk
  have zf0 := blk_lt f0
  have zt0 := blk_lt t0
  have zt1 := blk_lt t1
  clear f0 t0 zf0 zt0 hrow hkc hs0
  go_wp2_with fail
  obtain ⟨w4, hw4⟩ : ∃ w4, (((w3.alloc (.cells #[.int .u64 0, .int .u64 5, .int .u64 2] 36)).alloc (.cells #[.int .u64 1, .int .u64 0, .int .u64 1] 36)).alloc (.cells #[.int .u64 2, .int .u64 5, .int .u64 0] 36)).alloc (.cells #[.slice (some ⟨w3.heap.size, 0, none⟩) 3 3, .slice (some ⟨w3.heap.size + 1, 0, none⟩) 3 3, .slice (some ⟨w3.heap.size + 1 + 1, 0, none⟩) 3 3] 42) = w4 := ⟨_, rfl⟩
  have hb4 : Below w3.heap.size w3 w4 := by rw [← hw4]; exact bl_al (bl_al (bl_al (bl_al (bl0 _) _) _) _) _
  have hT : TabR w4 (some ⟨w3.heap.size + 1 + 1 + 1, 0, none⟩) [[0, 5, 2], [1, 0, 1], [2, 5, 0]] := by
    rw [← hw4]
    refine .inr ⟨_, 0, rfl, fun i r hr => ?_⟩
    have key : ∀ (b : Nat) (x y z : Int) (W : World), W.cell? ⟨b, 0, none⟩ = some (.int .u64 x) → W.cell? ⟨b, 1, none⟩ = some (.int .u64 y) → W.cell? ⟨b, 2, none⟩ = some (.int .u64 z) → RowU W (some ⟨b, 0, none⟩) [x, y, z] := fun b x y z W h0 h1 h2 => by
      refine .inr ⟨b, 0, rfl, fun j v hv => ?_⟩
      rw [Nat.zero_add]
      match j, hv with
      | 0, hv => simp at hv; subst hv; exact h0
      | 1, hv => simp at hv; subst hv; exact h1
      | 2, hv => simp at hv; subst hv; exact h2
      | j + 3, hv => simp at hv
    match i, hr with
    | 0, hr => simp at hr; subst hr; exact ⟨some ⟨w3.heap.size, 0, none⟩, 3, by simp [go_sem], key _ _ _ _ _ (by simp [go_sem]) (by simp [go_sem]) (by simp [go_sem])⟩
    | 1, hr => simp at hr; subst hr; exact ⟨some ⟨w3.heap.size + 1, 0, none⟩, 3, by simp [go_sem], key _ _ _ _ _ (by simp [go_sem]) (by simp [go_sem]) (by simp [go_sem])⟩
    | 2, hr => simp at hr; subst hr; exact ⟨some ⟨w3.heap.size + 1 + 1, 0, none⟩, 3, by simp [go_sem], key _ _ _ _ _ (by simp [go_sem]) (by simp [go_sem]) (by simp [go_sem])⟩
    | j + 3, hr => simp at hr
  rw [hw4]
  clear hw4
  have hcall := rows13_any ta (some ⟨w3.heap.size + 1 + 1 + 1, 0, none⟩) tc 3 [[0, 5, 2], [1, 0, 1], [2, 5, 0]] [[0, 5, 2], [1, 0, 1], [2, 5, 0]] w4 (htb.below hb4) hT (by decide) (fun r hr => by simp at hr; rcases hr with rfl | rfl | rfl <;> decide)
  rw [decide_eq_true rfl] at hcall
  try simp only [List.length_cons, List.length_nil, Nat.reduceAdd] at hcall
  refine hcall.mono ?_
  rintro e w5 ⟨rfl, hb5⟩
  have hb35 := bl_tr hb4 hb5
  replace hA := bl_tr hA hb35
  replace hu1 := hu1.below hb35
  replace hu2 := hu2.below hb35
  clear hcall hT htb hb4 hb5 hb35 t1 zt1
  go_wp2_with fail
  have hl6 : RowU (w5.alloc (.cells #[.int .u64 1, .int .u64 6, .int .u64 1] 36)) (some ⟨w5.heap.size, 0, none⟩) [1, 6, 1] := rowU_lit (heap_alloc_new _ _) rfl
  have hcall := same13_any g1 (some ⟨w5.heap.size, 0, none⟩) c1 3 [1, 6, 1] [1, 6, 1] _ (hu1.below (bl_al (bl0 w5) _)) hl6 (by decide)
  rw [decide_eq_true rfl] at hcall
  try simp only [List.length_cons, List.length_nil, Nat.reduceAdd] at hcall
  refine hcall.mono ?_
  rintro e w6 ⟨rfl, hb6⟩
  have hb56 := bl_tr (bl_al (bl0 w5) _) hb6
  replace hA := bl_tr hA hb56
  replace hu2 := hu2.below hb56
  clear hcall hl6 hu1 hb6 hb56
  go_wp2_with fail
  have hl7 : RowU (w6.alloc (.cells #[.int .u64 1, .int .u64 2, .int .u64 1] 36)) (some ⟨w6.heap.size, 0, none⟩) [1, 2, 1] := rowU_lit (heap_alloc_new _ _) rfl
  have hcall := same13_any g2 (some ⟨w6.heap.size, 0, none⟩) c2 3 [1, 2, 1] [1, 2, 1] _ (hu2.below (bl_al (bl0 w6) _)) hl7 (by decide)
  rw [decide_eq_true rfl] at hcall
  try simp only [List.length_cons, List.length_nil, Nat.reduceAdd] at hcall
  refine hcall.mono ?_
  rintro e w7 ⟨rfl, hb7⟩
  replace hA := bl_tr hA (bl_tr (bl_al (bl0 w6) _) hb7)
  clear hcall hl7 hu2 hb7
  go_wp2_with fail
  go_ret
  exact ⟨rfl, hA⟩
end Go.Proofs.YtgbhafadibdmcaaDoor

/- Tables within a cluster: what the laws' walks share. -/
namespace Go.Proofs.YtgbhafadibdmcaaDoor
open Go.RowKit

def AllW (cs : List IC) : Prop := ∀ c ∈ cs, wf64 c.1 ∧ wf64 c.2
theorem rowU_or {W : World} {L : List Int} {g : Option Addr} {n : Nat} (h : L = [] ∨ ∃ b, g = some ⟨b, 0, none⟩ ∧ n ≤ b ∧ W.heap[b]? = some (.cells (cellsU L).toArray 36 (0, 0))) : RowU W g L := by
  rcases h with h | ⟨b, rfl, _, h⟩
  · exact .inl h
  · exact rowU_heap h
theorem small13_no {n m : Nat} (h : ¬ (n ≤ 260 ∧ m ≤ 60)) : (decide (n ≤ 260) && decide (m ≤ 60)) = false := by
  cases h1 : decide (n ≤ 260)
  · rfl
  · cases h2 : decide (m ≤ 60)
    · rfl
    · exact absurd ⟨of_decide_eq_true h1, of_decide_eq_true h2⟩ h
/-- Two may come. -/
theorem ordS_two {F : Fence} {n : Nat} {P : Program} {ops : Array Oper} {Q : Exit → Act → World → Prop} {md : Region.Mode} {S : World → Prop} {i j : Nat} {o o2 : Oper} {k : Nat} {l : Array Bool} {a : Act} {w : World} (hr : Region.ready md ops l = [i, j]) (ho : ops[i]? = some o) (hw : Region.wanted o (yielded ops a.tmps) = true) (ho2 : ops[j]? = some o2) (hw2 : Region.wanted o2 (yielded ops a.tmps) = true)
    (h : ∀ K : Act → World → Prop, (∀ a1 w1, S w1 → OrdS F n P md ops Q S k (l.setIfInBounds i true) a1 w1 → K a1 w1) → Oper.wpIn F n P o a w K Q)
    (h2 : ∀ K : Act → World → Prop, (∀ a1 w1, S w1 → OrdS F n P md ops Q S k (l.setIfInBounds j true) a1 w1 → K a1 w1) → Oper.wpIn F n P o2 a w K Q) : OrdS F n P md ops Q S (k + 1) l a w := by
  refine ⟨fun h0 => absurd (hr.symm.trans h0) (by simp), fun x hx => ?_⟩
  rw [hr] at hx
  rcases List.mem_cons.1 hx with rfl | hx
  · refine wpOpIn_step ho fun K' hK' => ?_
    rw [if_pos hw]
    exact h K' fun a1 w1 hs hrest => hK' a1 w1 ⟨hs, hrest⟩
  · obtain rfl := List.mem_singleton.1 hx
    refine wpOpIn_step ho2 fun K' hK' => ?_
    rw [if_pos hw2]
    exact h2 K' fun a1 w1 hs hrest => hK' a1 w1 ⟨hs, hrest⟩
/-- A stronger condition will do. -/
theorem OrdS.sub {F : Fence} {n : Nat} {P : Program} {ops : Array Oper} {Q : Exit → Act → World → Prop} {md : Region.Mode} {S S' : World → Prop} (hSS : ∀ W, S' W → S W) (k : Nat) : ∀ (l : Array Bool) (a : Act) (w : World), OrdS F n P md ops Q S' k l a w → OrdS F n P md ops Q S k l a w := by
  induction k with
  | zero => intro l a w h; exact h
  | succ k ih => intro l a w h; exact ⟨h.1, fun i hi => wpOpIn_mono (fun a1 w1 h1 => ⟨hSS _ h1.1, ih _ a1 w1 h1.2⟩) (h.2 i hi)⟩
end Go.Proofs.YtgbhafadibdmcaaDoor
