/- Texts joined: Xk, Xl, Xm, Df, Dg, Dh, Di, Dj, Dk, Dl, Dm, Dp, Dr, Xn, Do, Xp. -/
import Derived.Test.YtbdfjdipjacamaaDoorK1
import Derived.Test.YtbdfjdipjacamaaDoorJ1
import Derived.Test.YtbdfjdipjacamaaDoorRo
import Derived.Test.YtbdfjdipjacamaaDoorAcg
import Derived.Deep.Matrix
import Derived.Deep.CutRange
import Derived.WalkMore
import Derived.Scope
import Derived.ChangeKeysEq
import Derived.Test.YtbdfjdipjacamaaDoorFa
import Derived.Test.YtbdfjdipjacamaaDoorCq
/- Tables within a cluster: Of, whatever the arguments. -/
namespace Go.Proofs.YtbdfjdipjacamaaDoor
open Go.RowKit

def ofRows (A B : Int) (zs : List Int) (X Y S id : Int) (cs : List IC) : List (List Int) := if chkI A B zs.length X Y S id cs = 0 then tblO A (bxB A B S id) zs cs else []
def ofCel (A B n X Y S id : Int) (cs : List IC) : List IC := if chkI A B n X Y S id cs = 0 then cs else []
def OfR (x : Int) (cs : List IC) (rs : List (List Int)) (w : World) (e : Ending) (w' : World) : Prop :=
  ∃ ka kc ta tc, e = .returned (.tuple #[.agg #[.slice ka cs.length kc, .slice ta rs.length tc], .int .i64 x]) ∧ OwnC w' w.heap.size ka cs.length kc cs ∧ (rs = [] ∨ ∃ b gs, ta = some ⟨b, 0, none⟩ ∧ w.heap.size ≤ b ∧ (∀ g ∈ gs, w.heap.size ≤ g) ∧ TabH w' b cs.length 0 gs rs) ∧ Below w.heap.size w w'
theorem tz1 {w2 w8 : World} (hb : Below (w2.alloc (.cells #[.slice none 0 0, .slice none 0 0] 72)).drew.heap.size (w2.alloc (.cells #[.slice none 0 0, .slice none 0 0] 72)).drew w8) : ((w8.cell? ⟨w2.heap.size, 0, none⟩ = some (.slice none 0 0) ∧ w8.cell? ⟨w2.heap.size, 1, none⟩ = some (.slice none 0 0)) ∧ (w8.frozen? ⟨w2.heap.size, 0, none⟩ = false ∧ w8.frozen? ⟨w2.heap.size, 1, none⟩ = false)) ∧ w8.heap[w2.heap.size]? = some (.cells #[.slice none 0 0, .slice none 0 0] 72 (0, 0)) := by
  have hsz : ∀ k, k ≤ w2.heap.size → k < (w2.alloc (.cells #[.slice none 0 0, .slice none 0 0] 72)).drew.heap.size := fun k hk => by show k < (w2.alloc (.cells #[.slice none 0 0, .slice none 0 0] 72)).heap.size; simp only [World.size_alloc]; omega
  have hT : w8.heap[w2.heap.size]? = some (.cells #[.slice none 0 0, .slice none 0 0] 72 (0, 0)) := (hb.block _ (hsz _ (by omega))).trans (heap_alloc_new w2 (.cells #[.slice none 0 0, .slice none 0 0] 72))
  exact ⟨⟨⟨by simp [World.cell?, hT], by simp [World.cell?, hT]⟩, by simp [World.frozen?, hT], by simp [World.frozen?, hT]⟩, hT⟩
theorem tz2 {w2 w8 : World} {n : Nat} (hb : Below ((w2.alloc (.cells #[.slice none 0 0, .slice none 0 0] 72)).alloc (.cells (Array.replicate n (Value.slice none 0 0)) 33)).drew.heap.size ((w2.alloc (.cells #[.slice none 0 0, .slice none 0 0] 72)).alloc (.cells (Array.replicate n (Value.slice none 0 0)) 33)).drew w8) : ((w8.cell? ⟨w2.heap.size, 0, none⟩ = some (.slice none 0 0) ∧ w8.cell? ⟨w2.heap.size, 1, none⟩ = some (.slice none 0 0)) ∧ (w8.frozen? ⟨w2.heap.size, 0, none⟩ = false ∧ w8.frozen? ⟨w2.heap.size, 1, none⟩ = false)) ∧ w8.heap[w2.heap.size]? = some (.cells #[.slice none 0 0, .slice none 0 0] 72 (0, 0)) ∧ w8.heap[w2.heap.size + 1]? = some (.cells (Array.replicate n (Value.slice none 0 0)) 33 (0, 0)) := by
  have hsz : ∀ k, k ≤ w2.heap.size + 1 → k < ((w2.alloc (.cells #[.slice none 0 0, .slice none 0 0] 72)).alloc (.cells (Array.replicate n (Value.slice none 0 0)) 33)).drew.heap.size := fun k hk => by show k < ((w2.alloc (.cells #[.slice none 0 0, .slice none 0 0] 72)).alloc (.cells (Array.replicate n (Value.slice none 0 0)) 33)).heap.size; simp only [World.size_alloc]; omega
  have hT : w8.heap[w2.heap.size]? = some (.cells #[.slice none 0 0, .slice none 0 0] 72 (0, 0)) := (hb.block _ (hsz _ (by omega))).trans (two_allocs w2 (.cells #[.slice none 0 0, .slice none 0 0] 72) (.cells (Array.replicate n (Value.slice none 0 0)) 33)).1
  have hM : w8.heap[w2.heap.size + 1]? = some (.cells (Array.replicate n (Value.slice none 0 0)) 33 (0, 0)) := (hb.block _ (hsz _ (by omega))).trans (two_allocs w2 (.cells #[.slice none 0 0, .slice none 0 0] 72) (.cells (Array.replicate n (Value.slice none 0 0)) 33)).2
  exact ⟨⟨⟨by simp [World.cell?, hT], by simp [World.cell?, hT]⟩, by simp [World.frozen?, hT], by simp [World.frozen?, hT]⟩, hT, hM⟩
theorem tz3 {w2 w8 : World} {n : Nat} (hb : Below ((w2.alloc (.cells (Array.replicate n (Value.slice none 0 0)) 33)).alloc (.cells #[.slice none 0 0, .slice none 0 0] 72)).drew.heap.size ((w2.alloc (.cells (Array.replicate n (Value.slice none 0 0)) 33)).alloc (.cells #[.slice none 0 0, .slice none 0 0] 72)).drew w8) : ((w8.cell? ⟨w2.heap.size + 1, 0, none⟩ = some (.slice none 0 0) ∧ w8.cell? ⟨w2.heap.size + 1, 1, none⟩ = some (.slice none 0 0)) ∧ (w8.frozen? ⟨w2.heap.size + 1, 0, none⟩ = false ∧ w8.frozen? ⟨w2.heap.size + 1, 1, none⟩ = false)) ∧ w8.heap[w2.heap.size + 1]? = some (.cells #[.slice none 0 0, .slice none 0 0] 72 (0, 0)) ∧ w8.heap[w2.heap.size]? = some (.cells (Array.replicate n (Value.slice none 0 0)) 33 (0, 0)) := by
  have hsz : ∀ k, k ≤ w2.heap.size + 1 → k < ((w2.alloc (.cells (Array.replicate n (Value.slice none 0 0)) 33)).alloc (.cells #[.slice none 0 0, .slice none 0 0] 72)).drew.heap.size := fun k hk => by show k < ((w2.alloc (.cells (Array.replicate n (Value.slice none 0 0)) 33)).alloc (.cells #[.slice none 0 0, .slice none 0 0] 72)).heap.size; simp only [World.size_alloc]; omega
  have hT : w8.heap[w2.heap.size + 1]? = some (.cells #[.slice none 0 0, .slice none 0 0] 72 (0, 0)) := (hb.block _ (hsz _ (by omega))).trans (two_allocs w2 (.cells (Array.replicate n (Value.slice none 0 0)) 33) (.cells #[.slice none 0 0, .slice none 0 0] 72)).2
  have hM : w8.heap[w2.heap.size]? = some (.cells (Array.replicate n (Value.slice none 0 0)) 33 (0, 0)) := (hb.block _ (hsz _ (by omega))).trans (two_allocs w2 (.cells (Array.replicate n (Value.slice none 0 0)) 33) (.cells #[.slice none 0 0, .slice none 0 0] 72)).1
  exact ⟨⟨⟨by simp [World.cell?, hT], by simp [World.cell?, hT]⟩, by simp [World.frozen?, hT], by simp [World.frozen?, hT]⟩, hT, hM⟩
theorem mz1 {w2 w8 : World} {n : Nat} (hb : Below (w2.alloc (.cells (Array.replicate n (Value.slice none 0 0)) 33)).drew.heap.size (w2.alloc (.cells (Array.replicate n (Value.slice none 0 0)) 33)).drew w8) : w8.heap[w2.heap.size]? = some (.cells (Array.replicate n (Value.slice none 0 0)) 33 (0, 0)) :=
  (hb.block _ (by show w2.heap.size < (w2.alloc (.cells (Array.replicate n (Value.slice none 0 0)) 33)).heap.size; simp only [World.size_alloc]; omega)).trans (heap_alloc_new w2 (.cells (Array.replicate n (Value.slice none 0 0)) 33))
def CutP (w2 : World) (cs : List IC) (s : Value) (wx : World) : Prop := ∃ tp ka kc kb, s = .pointer (some ⟨tp, 0, none⟩) ∧ tp ≠ kb ∧ w2.heap.size ≤ tp ∧ w2.heap.size ≤ kb ∧ wx.heap[tp]? = some (.cells #[.slice ka cs.length kc, .slice (some ⟨kb, 0, none⟩) cs.length cs.length] 72 (0, 0)) ∧ wx.heap[kb]? = some (.cells (Array.replicate cs.length (Value.slice none 0 0)) 33 (0, 0)) ∧ OwnC wx w2.heap.size ka cs.length kc cs ∧ Below w2.heap.size w2 wx
section
variable {w2 w8 : World} {cs : List IC} {ka : Option Addr} {kc b : Nat}
theorem lay1 (hC : Below w2.heap.size w2 w8) (ho : OwnC w8 b ka cs.length kc cs) (hb : w2.heap.size ≤ b) : CutP w2 cs (.pointer (some ⟨w8.heap.size + 1, 0, none⟩)) ((w8.alloc (.cells (Array.replicate cs.length (Value.slice none 0 0)) 33)).alloc (.cells #[.slice ka cs.length kc, .slice (some ⟨w8.heap.size, 0, none⟩) cs.length cs.length] 72)) := by
  have := hC.size
  exact ⟨_, ka, kc, w8.heap.size, rfl, by omega, by omega, by omega, (two_allocs w8 _ _).2, (two_allocs w8 _ _).1, own_later (ho.low hb) (bl_al (bl_al (bl0 _) _) _), bl_al (bl_al hC _) _⟩
theorem lay2 (hC : Below w2.heap.size w2 w8) (ho : OwnC w8 b ka cs.length kc cs) (hb : w2.heap.size ≤ b) : CutP w2 cs (.pointer (some ⟨w8.heap.size, 0, none⟩)) ((w8.alloc (.cells #[.slice ka cs.length kc, .slice (some ⟨w8.heap.size + 1, 0, none⟩) cs.length cs.length] 72)).alloc (.cells (Array.replicate cs.length (Value.slice none 0 0)) 33)) := by
  have := hC.size
  exact ⟨_, ka, kc, w8.heap.size + 1, rfl, by omega, by omega, by omega, (two_allocs w8 _ _).1, (two_allocs w8 _ _).2, own_later (ho.low hb) (bl_al (bl_al (bl0 _) _) _), bl_al (bl_al hC _) _⟩
theorem lay3 (hC : Below w2.heap.size w2 w8) (ho : OwnC w8 b ka cs.length kc cs) (hb : w2.heap.size ≤ b) (hM : w8.heap[w2.heap.size]? = some (.cells (Array.replicate cs.length (Value.slice none 0 0)) 33 (0, 0))) : CutP w2 cs (.pointer (some ⟨w8.heap.size, 0, none⟩)) (w8.alloc (.cells #[.slice ka cs.length kc, .slice (some ⟨w2.heap.size, 0, none⟩) cs.length cs.length] 72)) := by
  have h1 := hC.size
  have h2 := (Array.getElem?_eq_some_iff.1 hM).1
  exact ⟨_, ka, kc, w2.heap.size, rfl, by omega, by omega, by omega, heap_alloc_new _ _, ((bl_al (bl0 w8) _).block _ h2).trans hM, own_later (ho.low hb) (bl_al (bl0 _) _), bl_al hC _⟩
theorem tset {tp : Nat} {v1 v2 : Value} (hT : w8.heap[tp]? = some (.cells #[.slice none 0 0, .slice none 0 0] 72 (0, 0))) : ((w8.setCell ⟨tp, 0, none⟩ v1).setCell ⟨tp, 1, none⟩ v2).heap[tp]? = some (.cells #[v1, v2] 72 (0, 0)) := by
  rw [hset_same _ tp 1 _ _ v2 (hset_same w8 tp 0 _ _ v1 hT)]
  simp
theorem tsetown {tp : Nat} {v1 v2 : Value} (ho : OwnC w8 b ka cs.length kc cs) (hb : w2.heap.size ≤ b) (hp : tp < b) : OwnC ((w8.setCell ⟨tp, 0, none⟩ v1).setCell ⟨tp, 1, none⟩ v2) w2.heap.size ka cs.length kc cs := by
  have hne : (Value.slice ka cs.length kc).ownBlock ≠ some tp := fun e => by have := (World.ownsRow.lt ho _ e).1; omega
  exact OwnC.low (base := b) ((World.ownsRow.kept ho (hgrown_set _ _ _ _) (.inr hne)).kept (hgrown_set _ _ _ _) (.inr hne)) hb
theorem lay4 {tp kb : Nat} (hC : Below w2.heap.size w2 w8) (ho : OwnC w8 b ka cs.length kc cs) (hb : w2.heap.size ≤ b) (hp : tp < b) (h1 : w2.heap.size ≤ tp) (h2 : w2.heap.size ≤ kb) (h3 : tp ≠ kb) (hT : w8.heap[tp]? = some (.cells #[.slice none 0 0, .slice none 0 0] 72 (0, 0))) (hM : w8.heap[kb]? = some (.cells (Array.replicate cs.length (Value.slice none 0 0)) 33 (0, 0))) :
    CutP w2 cs (.pointer (some ⟨tp, 0, none⟩)) ((w8.setCell ⟨tp, 0, none⟩ (.slice ka cs.length kc)).setCell ⟨tp, 1, none⟩ (.slice (some ⟨kb, 0, none⟩) cs.length cs.length)) := by
  have g1 := hgrown_set w8 tp 0 (.slice ka cs.length kc)
  have g2 := hgrown_set (w8.setCell ⟨tp, 0, none⟩ (.slice ka cs.length kc)) tp 1 (.slice (some ⟨kb, 0, none⟩) cs.length cs.length)
  have hk := (Array.getElem?_eq_some_iff.1 hM).1
  have hM1 := (g1.block kb hk (fun e => h3 (by cases e; rfl))).trans hM
  have hM2 := (g2.block kb (Array.getElem?_eq_some_iff.1 hM1).1 (fun e => h3 (by cases e; rfl))).trans hM1
  exact ⟨tp, ka, kc, kb, rfl, h3, h1, h2, tset hT, hM2, tsetown ho hb hp, bl_st (bl_st hC h1 _) h1 _⟩
theorem lay5 {tp : Nat} (hC : Below w2.heap.size w2 w8) (ho : OwnC w8 b ka cs.length kc cs) (hb : w2.heap.size ≤ b) (hp : tp < b) (h1 : w2.heap.size ≤ tp) (hT : w8.heap[tp]? = some (.cells #[.slice none 0 0, .slice none 0 0] 72 (0, 0))) :
    CutP w2 cs (.pointer (some ⟨tp, 0, none⟩)) (((w8.setCell ⟨tp, 0, none⟩ (.slice ka cs.length kc)).setCell ⟨tp, 1, none⟩ (.slice (some ⟨w8.heap.size, 0, none⟩) cs.length cs.length)).alloc (.cells (Array.replicate cs.length (Value.slice none 0 0)) 33)) := by
  have hs : ((w8.setCell ⟨tp, 0, none⟩ (.slice ka cs.length kc)).setCell ⟨tp, 1, none⟩ (.slice (some ⟨w8.heap.size, 0, none⟩) cs.length cs.length)).heap.size = w8.heap.size := by simp
  have ht := tset (v1 := .slice ka cs.length kc) (v2 := .slice (some ⟨w8.heap.size, 0, none⟩) cs.length cs.length) hT
  have hlt := (Array.getElem?_eq_some_iff.1 ht).1
  have hm := heap_alloc_new ((w8.setCell ⟨tp, 0, none⟩ (.slice ka cs.length kc)).setCell ⟨tp, 1, none⟩ (.slice (some ⟨w8.heap.size, 0, none⟩) cs.length cs.length)) (.cells (Array.replicate cs.length (Value.slice none 0 0)) 33)
  rw [hs] at hm hlt
  have h4 := hC.size
  exact ⟨tp, ka, kc, w8.heap.size, rfl, by omega, h1, h4, ((bl_al (bl0 _) _).block _ (by rw [hs]; exact hlt)).trans ht, hm, own_later (tsetown ho hb hp) (bl_al (bl0 _) _), bl_al (bl_st (bl_st hC h1 _) h1 _) _⟩
end
theorem tabC_at (n : Nat) (gs : List Nat) {m k : Nat} (h : gs.length = k) (hm : 0 < m) : (tabC n gs m)[k]? = some (.slice none 0 0) := by
  unfold tabC
  rw [List.getElem?_append_right (by rw [List.length_map]; omega), List.length_map, h, Nat.sub_self, List.getElem?_replicate, if_pos hm]
theorem TabH.kept {W W' : World} {b n m lo x : Nat} {gs : List Nat} {rs : List (List Int)} (h : TabH W b n m gs rs) (hg : W.grownBy W' (some x)) (hx : x < lo) (hb : lo ≤ b) (hgs : ∀ g ∈ gs, lo ≤ g) : TabH W' b n m gs rs :=
  ⟨h.len, (hg.block _ (Array.getElem?_eq_some_iff.1 h.tab).1 (fun e => by cases e; omega)).trans h.tab, fun i g r h1 h2 => (hg.block _ (Array.getElem?_eq_some_iff.1 (h.row i g r h1 h2)).1 (fun e => by cases e; have := hgs _ (List.mem_of_getElem? h1); omega)).trans (h.row i g r h1 h2)⟩
theorem ownC_ne {W : World} {base n c b : Nat} {a : Option Addr} {zs : List IC} {cs : Array Value} (h : OwnC W base a n c zs) (hb : W.heap[b]? = some (.cells cs 33 (0, 0))) : (Value.slice a n c).ownBlock ≠ some b := by
  intro e
  rcases h.2 with ⟨e1, _⟩ | ⟨g, cap, cur, e1, _, hg, _⟩
  · cases e1; cases e
  · cases e1
    have : g = b := by simpa [Value.ownBlock] using e
    subst this
    rw [hb] at hg
    have h2 := Option.some.inj hg
    injection h2 with _ h3
    exact absurd h3 (by decide)
set_option maxRecDepth 100000 in
set_option maxHeartbeats 8000000 in
theorem of_i (A B : Int) (a : Option Addr) (cap : Nat) (zs : List Int) (X Y S id : Int) (ca : Option Addr) (cc : Nat) (cs : List IC) (w : World) (hr : RowH w a zs) (hz : AllH zs) (hc : zs.length ≤ cap) (hcs : RowC w ca cs) (hl : cs.length ≤ 1048576) (hs : Stp w) :
    Calls Tryd.prog 34 #[.agg #[.int .i64 A, .int .i64 B, .slice a zs.length cap], .agg #[.int .i64 X, .int .i64 Y, .int .i64 S], .int .i64 id, .slice ca cs.length cc] w (OfR (chkI A B zs.length X Y S id cs) (ofCel A B zs.length X Y S id cs) (ofRows A B zs X Y S id cs) w) := by
  have hA := bl0 w
  have H1 := Lib.hid (fun w hr => check_i A B a zs.length cap X Y S id ca cc cs w hr hl)
  have hR : ofRows A B zs X Y S id cs = if chkI A B zs.length X Y S id cs = 0 then tblO A (bxB A B S id) zs cs else [] := rfl
  have hC : ofCel A B zs.length X Y S id cs = if chkI A B zs.length X Y S id cs = 0 then cs else [] := rfl
  by_cases h0 : chkI A B zs.length X Y S id cs = 0
  case neg =>
    rw [if_neg h0] at hR hC
    rw [hR, hC]
    obtain ⟨x, hx⟩ : ∃ x, chkI A B zs.length X Y S id cs = x := ⟨_, rfl⟩
    rw [hx] at H1 h0 ⊢
    have h1 : (x != 0) = true := by rw [bne_iff_ne]; exact h0
    generalize zrI x (bxX S (plcP X S id)) = k0 at *
    generalize zrI x (bxY S (plcP X S id)) = k1 at *
    generalize zrI x (bxW X S (plcP X S id)) = k2 at *
    generalize zrI x (bxH Y S (plcP X S id)) = k3 at *
    clear h0 hx hR hC hs hz hr hc
    go_enter Tryd.func34, Tryd.ntmps34
    go_wp2_with fail
    refine (H1.out _ (hcs.below (by first | exact hA | exact (bl_al hA _) | exact (bl_dr (bl_al hA _)) | exact (bl_al (bl_al hA _) _) | exact (bl_dr (bl_al (bl_al hA _) _)) | exact (bl_al (bl_al (bl_al hA _) _) _) | exact (bl_dr (bl_al (bl_al (bl_al hA _) _) _)) | exact (bl_al (bl_al (bl_al (bl_al hA _) _) _) _) | exact (bl_dr (bl_al (bl_al (bl_al (bl_al hA _) _) _) _)) | exact (bl_al (bl_al (bl_al (bl_al (bl_al hA _) _) _) _) _) | exact (bl_dr (bl_al (bl_al (bl_al (bl_al (bl_al hA _) _) _) _) _)) | exact (bl_al (bl_al (bl_al (bl_al (bl_al (bl_al hA _) _) _) _) _) _) | exact (bl_dr (bl_al (bl_al (bl_al (bl_al (bl_al (bl_al hA _) _) _) _) _) _)) | exact (bl_dr hA)))).mono ?_
    rintro e w1 ⟨rfl, hb⟩
    have hk : Below w.heap.size w w1 := by first | exact hb | exact bl_tr (bl_al (bl0 _) _) hb | exact bl_tr (bl_dr (bl_al (bl0 _) _)) hb | exact bl_tr (bl_al (bl_al (bl0 _) _) _) hb | exact bl_tr (bl_dr (bl_al (bl_al (bl0 _) _) _)) hb | exact bl_tr (bl_al (bl_al (bl_al (bl0 _) _) _) _) hb | exact bl_tr (bl_dr (bl_al (bl_al (bl_al (bl0 _) _) _) _)) hb | exact bl_tr (bl_al (bl_al (bl_al (bl_al (bl0 _) _) _) _) _) hb | exact bl_tr (bl_dr (bl_al (bl_al (bl_al (bl_al (bl0 _) _) _) _) _)) hb | exact bl_tr (bl_al (bl_al (bl_al (bl_al (bl_al (bl0 _) _) _) _) _) _) hb | exact bl_tr (bl_dr (bl_al (bl_al (bl_al (bl_al (bl_al (bl0 _) _) _) _) _) _)) hb | exact bl_tr (bl_al (bl_al (bl_al (bl_al (bl_al (bl_al (bl0 _) _) _) _) _) _) _) hb | exact bl_tr (bl_dr (bl_al (bl_al (bl_al (bl_al (bl_al (bl_al (bl0 _) _) _) _) _) _) _)) hb | exact bl_tr (bl_dr (bl0 _)) hb
    replace hA := bl_tr hA hk
    have q0 := cell_later hb (v := .slice none 0 0) (a := ⟨w.heap.size + 1 + 1, 0, none⟩) (by simp [go_sem])
    have q1 := cell_later hb (v := .slice none 0 0) (a := ⟨w.heap.size + 1 + 1, 1, none⟩) (by simp [go_sem])
    have u0 : w1.frozen? ⟨w.heap.size + 1 + 1, 0, none⟩ = false := (hb.frozen (p := ⟨w.heap.size + 1 + 1, 0, none⟩) (by simp <;> omega)).trans (by simp [go_sem])
    have u1 : w1.frozen? ⟨w.heap.size + 1 + 1, 1, none⟩ = false := (hb.frozen (p := ⟨w.heap.size + 1 + 1, 1, none⟩) (by simp <;> omega)).trans (by simp [go_sem])
    clear hb hk
    have zq0 := blk_lt q0
    have zq1 := blk_lt q1
    go_wp2
    refine bodyPost_ret (v := .tuple #[.agg #[.slice none 0 0, .slice none 0 0], .int .i64 x]) (by simp [results, Tryd.results34, go_sem, zq0, q0, q1]) rfl ?_
    exact ⟨none, 0, none, 0, rfl, ⟨rfl, .inl ⟨rfl, rfl⟩⟩, .inl rfl, bl_al (bl_st (bl_st hA (by omega) _) (by omega) _) _⟩
  case pos =>
  obtain ⟨hck, rfl, rfl, hpx, hwr⟩ := chkI_ok h0
  obtain ⟨hm, hn⟩ := chkF_may hck
  obtain ⟨BX', BY', U, V, hbb, ⟨e0, e1, e2, e3⟩, hbx, hin⟩ := clu_box hpx
  rw [if_pos h0] at hR hC
  rw [h0, e0, e1, e2, e3] at H1
  have hz0 : ∀ k : Int, zrI 0 k = k := fun k => if_pos rfl
  rw [hz0, hz0, hz0, hz0] at H1
  rw [h0, hC]
  rw [hbb] at hR
  have hci : ∀ d ∈ cs, inBx (BX', BY', (U : Int), (V : Int)) d = true := fun d hd => by rw [← hin]; exact wrg_in hwr d hd
  have H3 := Lib.hid (fun w hr hcs => rows_i X Y BX' BY' U V a cap zs ca cc cs w hr hc hn hbx hcs)
  unfold RowsR at H3
  have H4 := Lib.hid (fun o b c va vc p hp w hR hs => row_i X Y BX' BY' U V zs ca cc cs o b c va vc p w hz hn hbx hp hci hl hR hs)
  have H5 := Lib.hid (fun w hr => clone_c ca cc cs w hr hl)
  have hmk := fun w => make_tab cs.length hl w
  have hRl : (ofRows X Y zs X Y S id cs).length = cs.length := by rw [hR]; simp [tblO]
  have hRS := Lib.hid (show ∀ (k : Nat) (hk : k < cs.length), (ofRows X Y zs X Y S id cs).take (k + 1) = (ofRows X Y zs X Y S id cs).take k ++ [rowO X (BX', BY', (U : Int), (V : Int)) zs cs[k] cs] from fun k hk => by
    rw [List.take_succ_eq_append_getElem (by rw [hRl]; exact hk)]
    congr 2
    simp only [hR, tblO, List.getElem_map])
  obtain ⟨R, hRR⟩ : ∃ R, ofRows X Y zs X Y S id cs = R := ⟨_, rfl⟩
  rw [hRR] at hRl hRS ⊢
  have HRL := Lib.hid hRl
  have HCI := Lib.hid hci
  clear h0 hck hm hn hpx hwr hbb e0 e1 e2 e3 hbx hin hz0 hz hc hci hR hC hRR hRl
  have hl2 : (cs.length : Int) ≤ 1048576 := by omega
  go_enter Tryd.func34, Tryd.ntmps34
  go_wp2_with fail
  refine (H1.out _ (hcs.below (by first | exact hA | exact (bl_al hA _) | exact (bl_dr (bl_al hA _)) | exact (bl_al (bl_al hA _) _) | exact (bl_dr (bl_al (bl_al hA _) _)) | exact (bl_al (bl_al (bl_al hA _) _) _) | exact (bl_dr (bl_al (bl_al (bl_al hA _) _) _)) | exact (bl_al (bl_al (bl_al (bl_al hA _) _) _) _) | exact (bl_dr (bl_al (bl_al (bl_al (bl_al hA _) _) _) _)) | exact (bl_al (bl_al (bl_al (bl_al (bl_al hA _) _) _) _) _) | exact (bl_dr (bl_al (bl_al (bl_al (bl_al (bl_al hA _) _) _) _) _)) | exact (bl_al (bl_al (bl_al (bl_al (bl_al (bl_al hA _) _) _) _) _) _) | exact (bl_dr (bl_al (bl_al (bl_al (bl_al (bl_al (bl_al hA _) _) _) _) _) _)) | exact (bl_dr hA)))).mono ?_
  rintro e w1 ⟨rfl, hb⟩
  have hk : Below w.heap.size w w1 := by first | exact hb | exact bl_tr (bl_al (bl0 _) _) hb | exact bl_tr (bl_dr (bl_al (bl0 _) _)) hb | exact bl_tr (bl_al (bl_al (bl0 _) _) _) hb | exact bl_tr (bl_dr (bl_al (bl_al (bl0 _) _) _)) hb | exact bl_tr (bl_al (bl_al (bl_al (bl0 _) _) _) _) hb | exact bl_tr (bl_dr (bl_al (bl_al (bl_al (bl0 _) _) _) _)) hb | exact bl_tr (bl_al (bl_al (bl_al (bl_al (bl0 _) _) _) _) _) hb | exact bl_tr (bl_dr (bl_al (bl_al (bl_al (bl_al (bl0 _) _) _) _) _)) hb | exact bl_tr (bl_al (bl_al (bl_al (bl_al (bl_al (bl0 _) _) _) _) _) _) hb | exact bl_tr (bl_dr (bl_al (bl_al (bl_al (bl_al (bl_al (bl0 _) _) _) _) _) _)) hb | exact bl_tr (bl_al (bl_al (bl_al (bl_al (bl_al (bl_al (bl0 _) _) _) _) _) _) _) hb | exact bl_tr (bl_dr (bl_al (bl_al (bl_al (bl_al (bl_al (bl_al (bl0 _) _) _) _) _) _) _)) hb | exact bl_tr (bl_dr (bl0 _)) hb
  replace hA := bl_tr hA hk
  have f0 := cell_later hb (v := .int .i64 X) (a := ⟨w.heap.size, 0, none⟩) (by simp [go_sem])
  have f1 := cell_later hb (v := .int .i64 Y) (a := ⟨w.heap.size, 1, none⟩) (by simp [go_sem])
  have f2 := cell_later hb (v := .slice a zs.length cap) (a := ⟨w.heap.size, 2, none⟩) (by simp [go_sem])
  have q0 := cell_later hb (v := .slice none 0 0) (a := ⟨w.heap.size + 1 + 1, 0, none⟩) (by simp [go_sem])
  have q1 := cell_later hb (v := .slice none 0 0) (a := ⟨w.heap.size + 1 + 1, 1, none⟩) (by simp [go_sem])
  have u0 : w1.frozen? ⟨w.heap.size + 1 + 1, 0, none⟩ = false := (hb.frozen (p := ⟨w.heap.size + 1 + 1, 0, none⟩) (by simp <;> omega)).trans (by simp [go_sem])
  have u1 : w1.frozen? ⟨w.heap.size + 1 + 1, 1, none⟩ = false := (hb.frozen (p := ⟨w.heap.size + 1 + 1, 1, none⟩) (by simp <;> omega)).trans (by simp [go_sem])
  clear hb hk
  have zf0 := blk_lt f0
  have zf1 := blk_lt f1
  have zf2 := blk_lt f2
  have zq0 := blk_lt q0
  have zq1 := blk_lt q1
  go_wp2_with fail
  refine (H3.out _ (hr.below (by first | exact hA | exact (bl_al hA _) | exact (bl_dr (bl_al hA _)) | exact (bl_al (bl_al hA _) _) | exact (bl_dr (bl_al (bl_al hA _) _)) | exact (bl_al (bl_al (bl_al hA _) _) _) | exact (bl_dr (bl_al (bl_al (bl_al hA _) _) _)) | exact (bl_al (bl_al (bl_al (bl_al hA _) _) _) _) | exact (bl_dr (bl_al (bl_al (bl_al (bl_al hA _) _) _) _)) | exact (bl_al (bl_al (bl_al (bl_al (bl_al hA _) _) _) _) _) | exact (bl_dr (bl_al (bl_al (bl_al (bl_al (bl_al hA _) _) _) _) _)) | exact (bl_al (bl_al (bl_al (bl_al (bl_al (bl_al hA _) _) _) _) _) _) | exact (bl_dr (bl_al (bl_al (bl_al (bl_al (bl_al (bl_al hA _) _) _) _) _) _)) | exact (bl_dr hA))) (hcs.below (by first | exact hA | exact (bl_al hA _) | exact (bl_dr (bl_al hA _)) | exact (bl_al (bl_al hA _) _) | exact (bl_dr (bl_al (bl_al hA _) _)) | exact (bl_al (bl_al (bl_al hA _) _) _) | exact (bl_dr (bl_al (bl_al (bl_al hA _) _) _)) | exact (bl_al (bl_al (bl_al (bl_al hA _) _) _) _) | exact (bl_dr (bl_al (bl_al (bl_al (bl_al hA _) _) _) _)) | exact (bl_al (bl_al (bl_al (bl_al (bl_al hA _) _) _) _) _) | exact (bl_dr (bl_al (bl_al (bl_al (bl_al (bl_al hA _) _) _) _) _)) | exact (bl_al (bl_al (bl_al (bl_al (bl_al (bl_al hA _) _) _) _) _) _) | exact (bl_dr (bl_al (bl_al (bl_al (bl_al (bl_al (bl_al hA _) _) _) _) _) _)) | exact (bl_dr hA)))).mono ?_
  rintro e w2 ⟨o, b, c, va, vc, rfl, hRA, hb⟩
  have hk : Below w1.heap.size w1 w2 := by first | exact hb | exact bl_tr (bl_al (bl0 _) _) hb | exact bl_tr (bl_dr (bl_al (bl0 _) _)) hb | exact bl_tr (bl_al (bl_al (bl0 _) _) _) hb | exact bl_tr (bl_dr (bl_al (bl_al (bl0 _) _) _)) hb | exact bl_tr (bl_al (bl_al (bl_al (bl0 _) _) _) _) hb | exact bl_tr (bl_dr (bl_al (bl_al (bl_al (bl0 _) _) _) _)) hb | exact bl_tr (bl_al (bl_al (bl_al (bl_al (bl0 _) _) _) _) _) hb | exact bl_tr (bl_dr (bl_al (bl_al (bl_al (bl_al (bl0 _) _) _) _) _)) hb | exact bl_tr (bl_al (bl_al (bl_al (bl_al (bl_al (bl0 _) _) _) _) _) _) hb | exact bl_tr (bl_dr (bl_al (bl_al (bl_al (bl_al (bl_al (bl0 _) _) _) _) _) _)) hb | exact bl_tr (bl_al (bl_al (bl_al (bl_al (bl_al (bl_al (bl0 _) _) _) _) _) _) _) hb | exact bl_tr (bl_dr (bl_al (bl_al (bl_al (bl_al (bl_al (bl_al (bl0 _) _) _) _) _) _) _)) hb | exact bl_tr (bl_dr (bl0 _)) hb
  replace hA := bl_tr hA hk
  replace u0 := frozen_later hk q0 u0
  replace u1 := frozen_later hk q1 u1
  replace q0 := cell_later hk q0
  replace q1 := cell_later hk q1
  clear hb hk
  have zq0 := blk_lt q0
  have zq1 := blk_lt q1
  have HRC := Lib.hid (hcs.below hA)
  have HST := Lib.hid (hs.below hA)
  have HA2 := Lib.hid hA
  have Q0 := Lib.hid q0; have Q1 := Lib.hid q1; have U0 := Lib.hid u0; have U1 := Lib.hid u1
  have HRA := Lib.hid hRA
  clear hr hcs hs hRA
  go_upto_region 5 with fail
  have hB := bl_dr (bl0 w2)
  go_cut [13] from 32 to 37 (fun s wx => CutP w2 cs s wx)
  case first =>
    go_region_held3 (fun _ => True)
      (exact trivial)
      ((go_at_call 75; (first
       | (with_reducible refine (H5.out _ (HRC.out.below hB)).mono ?_; rintro e w8 ⟨ka, kc, rfl, ho8, hb8⟩; have hC8 := bl_tr hB hb8)
       | (with_reducible refine (H5.out _ (HRC.out.below (bl_dr (bl_al (bl0 w2) _)))).mono ?_; rintro e w8 ⟨ka, kc, rfl, ho8, hb8⟩; have hC8 := bl_tr (bl_dr (bl_al (bl0 w2) _)) hb8; (first | (obtain ⟨⟨⟨k0, k1⟩, k3, k4⟩, kT⟩ := tz1 hb8; have k2 := blk_lt k0) | (have kM := mz1 hb8)))
       | (with_reducible refine (H5.out _ (HRC.out.below (bl_dr (bl_al (bl_al (bl0 w2) _) _)))).mono ?_; rintro e w8 ⟨ka, kc, rfl, ho8, hb8⟩; have hC8 := bl_tr (bl_dr (bl_al (bl_al (bl0 w2) _) _)) hb8; (first | (obtain ⟨⟨⟨k0, k1⟩, k3, k4⟩, kT, kM⟩ := tz2 hb8; have k2 := blk_lt k0) | (obtain ⟨⟨⟨k0, k1⟩, k3, k4⟩, kT, kM⟩ := tz3 hb8; have k2 := blk_lt k0))))))
    all_goals
      go_wp2_with fail
      go_meet
      have hq1 : w2.heap.size ≤ w2.drew.heap.size := Nat.le_refl _
      have hq2 : ∀ O, w2.heap.size < (w2.alloc O).drew.heap.size := fun O => by show _ < (w2.alloc O).heap.size; simp only [World.size_alloc]; omega
      have hq3 : ∀ O P, w2.heap.size + 1 < ((w2.alloc O).alloc P).drew.heap.size := fun O P => by show _ < ((w2.alloc O).alloc P).heap.size; simp only [World.size_alloc]; omega
      first
        | exact lay1 hC8 ho8 (by assumption)
        | exact lay2 hC8 ho8 (by assumption)
        | exact lay3 hC8 ho8 (Nat.le_of_lt (hq2 _)) kM
        | exact lay4 hC8 ho8 (Nat.le_of_lt (Nat.lt_trans (Nat.lt_succ_self _) (hq3 _ _))) (hq3 _ _) (by omega) (by omega) (by omega) kT kM
        | exact lay4 hC8 ho8 (Nat.le_of_lt (Nat.lt_trans (Nat.lt_succ_self _) (hq3 _ _))) (Nat.lt_trans (Nat.lt_succ_self _) (hq3 _ _)) (by omega) (by omega) (by omega) kT kM
        | exact lay5 hC8 ho8 (Nat.le_of_lt (hq2 _)) (hq2 _) (by omega) kT
  case rest =>
    obtain ⟨W3, hW3⟩ : ∃ W3, W3 = wc := ⟨_, rfl⟩
    rw [← hW3] at hcut ⊢
    clear hW3 hB
    obtain ⟨tp, ka, kc, kb, rfl, hne, htp, hkb, htb, hmb, hown, hb3⟩ := hcut
    have HTB := Lib.hid htb
    have HMB := Lib.hid hmb
    have HOW := Lib.hid hown
    have HB3 := Lib.hid hb3
    have HKB := Lib.hid hkb
    have HTP := Lib.hid htp
    have HNE := Lib.hid hne
    have HSZ3 := Lib.hid hb3.size
    have HT0 := Lib.hid (show TabH W3 kb cs.length cs.length [] (R.take 0) from ⟨rfl, by rw [tabC_zero]; exact hmb, fun i g r h1 _ => by cases h1⟩)
    clear hmk hne htp hkb htb hmb hown hb3 q0 q1 u0 u1 zq0 zq1 hA
    go_wp2_with fail
    go_loopw [14, 15, 40] (fun _ _ iv wr => ∃ (k : Nat) (gs : List Nat), k ≤ cs.length ∧ iv = .int .i64 k ∧ W3.grownBy wr (some kb) ∧ TabH wr kb cs.length (cs.length - k) gs (R.take k) ∧ ∀ g ∈ gs, w2.heap.size ≤ g) (fun _ _ iv _ => cs.length - (intOf iv).toNat)
    case atStart => exact ⟨0, [], Nat.zero_le _, rfl, World.grownBy.refl _ _, HT0.out, fun g hg => by cases hg⟩
    case round =>
      obtain ⟨k, gs, hk, rfl, hgr, htab, hgs⟩ := hrel
      have hk0 : (0 : Int) ≤ (k : Int) := by omega
      have hbw : Below w2.heap.size w2 wr := (HB3.out).grown hgr HSZ3.out (fun j hj => by cases hj; exact HKB.out)
      have htb := (hgr.block tp (Array.getElem?_eq_some_iff.1 HTB.out).1 (fun e => HNE.out (by cases e; rfl))).trans HTB.out
      by_cases hlt : k < cs.length
      · have hlt2 : (k : Int) < (cs.length : Int) := by omega
        have hgl : gs.length = k := by rw [htab.len, List.length_take, HRL.out]; omega
        obtain ⟨cb, co, rfl, u0, u1⟩ := (HRC.out.below hbw).cell hlt
        have hin := HCI.out _ (List.getElem_mem hlt)
        have hrs := hRS.out k hlt
        obtain ⟨d, hd⟩ : ∃ d, cs[k] = d := ⟨_, rfl⟩
        rw [hd] at u0 u1 hin hrs
        have HRD := Lib.hid (fun o b c va vc w hR hs => H4.out o b c va vc d hin w hR hs)
        obtain ⟨rd, hrd⟩ : ∃ rd, rowO X (BX', BY', (U : Int), (V : Int)) zs d cs = rd := ⟨_, rfl⟩
        rw [hrd] at HRD hrs
        have e0 : wr.cell? ⟨tp, 1, none⟩ = some (.slice (some ⟨kb, 0, none⟩) cs.length cs.length) := by simp [World.cell?, htb]
        have ze := blk_lt e0
        have HTAB := Lib.hid htab
        have HGR := Lib.hid hgr
        have HRS2 := Lib.hid hrs
        have HBW := Lib.hid hbw
        have HGS := Lib.hid hgs
        have HGL := Lib.hid hgl
        clear htab hgr hrs hd hin hrd htb hgs hgl
        go_upto_region 9 with fail
        have hal := bl_al (bl0 wr) (.cells #[.int .i64 d.1, .int .i64 d.2] 30)
        obtain ⟨W1, hW1⟩ : ∃ W1, wr.alloc (.cells #[.int .i64 d.1, .int .i64 d.2] 30) = W1 := ⟨_, rfl⟩
        have d0 : W1.cell? ⟨wr.heap.size, 0, none⟩ = some (.int .i64 d.1) := by rw [← hW1]; simp [go_sem]
        have d1 : W1.cell? ⟨wr.heap.size, 1, none⟩ = some (.int .i64 d.2) := by rw [← hW1]; simp [go_sem]
        rw [hW1] at hal ⊢
        clear hW1
        replace e0 := cell_later hal e0
        have HAL := Lib.hid hal
        have zd0 := blk_lt d0
        have ze' := blk_lt e0
        clear hal
        have hD := bl_dr (bl0 W1)
        refine (wpIn_wide (n := 11)).1 ?_
        refine ordZ_begin (z := 7) (S := (fun W9 : World => W9.cell? ⟨tp, 1, none⟩ = some (.slice (some ⟨kb, 0, none⟩) cs.length cs.length) ∧ W9.cell? ⟨wr.heap.size, 0, none⟩ = some (.int .i64 d.1) ∧ W9.cell? ⟨wr.heap.size, 1, none⟩ = some (.int .i64 d.2))) (by kernel_rfl) ⟨cell_later hD e0, cell_later hD d0, cell_later hD d1⟩ (fun hH => ?_)
        first
          | (refine' ordZ_take (i := 0) (oi := { dst := some 45, op := Op.fieldAddr 72 (Operand.tmp 13) 1, type := 0, pos := _, after := #[], guard := none }) (v := _) rfl (by kernel_rfl) (by kernel_rfl) (by kernel_rfl) (by kernel_rfl) (fun _ _ _ h => h) (by assumption) (by kernel_rfl) (by decide) (by rfl) (Or.inl ⟨by rfl, ?hy101⟩) (fun _ => rfl) ?rest101
             case hy101 => (intro w hSw; (try dsimp only at hSw); go_simp; try with_reducible rfl))
          | (refine ordZ_take (i := 0) (oi := { dst := some 45, op := Op.fieldAddr 72 (Operand.tmp 13) 1, type := 0, pos := _, after := #[], guard := none }) (v := undef) rfl (by kernel_rfl) (by kernel_rfl) (by kernel_rfl) (by kernel_rfl) (fun _ _ _ h => h) (by assumption) (by kernel_rfl) (by decide) (by rfl) (Or.inr ⟨by rfl, rfl⟩) (fun _ => rfl) ?_)
        try simp only [Act.put, List.setIfInBounds_toArray, List.set_cons_zero, List.set_cons_succ]
        first
          | (refine' ordZ_take (i := 1) (oi := { dst := some 46, op := Op.load 70 (Operand.tmp 45), type := 70, pos := _, after := #[{ on := 0, ground := Ground.data }], guard := none }) (v := _) rfl (by kernel_rfl) (by kernel_rfl) (by kernel_rfl) (by kernel_rfl) (fun _ _ _ h => h) (by assumption) (by kernel_rfl) (by decide) (by rfl) (Or.inl ⟨by rfl, ?hy102⟩) (fun _ => rfl) ?rest102
             case hy102 => (intro w hSw; (try dsimp only at hSw); go_simp; try with_reducible rfl))
          | (refine ordZ_take (i := 1) (oi := { dst := some 46, op := Op.load 70 (Operand.tmp 45), type := 70, pos := _, after := #[{ on := 0, ground := Ground.data }], guard := none }) (v := undef) rfl (by kernel_rfl) (by kernel_rfl) (by kernel_rfl) (by kernel_rfl) (fun _ _ _ h => h) (by assumption) (by kernel_rfl) (by decide) (by rfl) (Or.inr ⟨by rfl, rfl⟩) (fun _ => rfl) ?_)
        try simp only [Act.put, List.setIfInBounds_toArray, List.set_cons_zero, List.set_cons_succ]
        first
          | (refine' ordZ_take (i := 2) (oi := { dst := some 47, op := Op.move (Operand.tmp 14), type := 3, pos := _, after := #[], guard := none }) (v := _) rfl (by kernel_rfl) (by kernel_rfl) (by kernel_rfl) (by kernel_rfl) (fun _ _ _ h => h) (by assumption) (by kernel_rfl) (by decide) (by rfl) (Or.inl ⟨by rfl, ?hy103⟩) (fun _ => rfl) ?rest103
             case hy103 => (intro w hSw; (try dsimp only at hSw); go_simp; try with_reducible rfl))
          | (refine ordZ_take (i := 2) (oi := { dst := some 47, op := Op.move (Operand.tmp 14), type := 3, pos := _, after := #[], guard := none }) (v := undef) rfl (by kernel_rfl) (by kernel_rfl) (by kernel_rfl) (by kernel_rfl) (fun _ _ _ h => h) (by assumption) (by kernel_rfl) (by decide) (by rfl) (Or.inr ⟨by rfl, rfl⟩) (fun _ => rfl) ?_)
        try simp only [Act.put, List.setIfInBounds_toArray, List.set_cons_zero, List.set_cons_succ]
        first
          | (refine' ordZ_take (i := 3) (oi := { dst := some 48, op := Op.move (Operand.tmp 12), type := 124, pos := _, after := #[], guard := none }) (v := _) rfl (by kernel_rfl) (by kernel_rfl) (by kernel_rfl) (by kernel_rfl) (fun _ _ _ h => h) (by assumption) (by kernel_rfl) (by decide) (by rfl) (Or.inl ⟨by rfl, ?hy104⟩) (fun _ => rfl) ?rest104
             case hy104 => (intro w hSw; (try dsimp only at hSw); go_simp; try with_reducible rfl))
          | (refine ordZ_take (i := 3) (oi := { dst := some 48, op := Op.move (Operand.tmp 12), type := 124, pos := _, after := #[], guard := none }) (v := undef) rfl (by kernel_rfl) (by kernel_rfl) (by kernel_rfl) (by kernel_rfl) (fun _ _ _ h => h) (by assumption) (by kernel_rfl) (by decide) (by rfl) (Or.inr ⟨by rfl, rfl⟩) (fun _ => rfl) ?_)
        try simp only [Act.put, List.setIfInBounds_toArray, List.set_cons_zero, List.set_cons_succ]
        first
          | (refine' ordZ_take (i := 4) (oi := { dst := some 49, op := Op.load 30 (Operand.tmp 15), type := 30, pos := _, after := #[], guard := none }) (v := _) rfl (by kernel_rfl) (by kernel_rfl) (by kernel_rfl) (by kernel_rfl) (fun _ _ _ h => h) (by assumption) (by kernel_rfl) (by decide) (by rfl) (Or.inl ⟨by rfl, ?hy105⟩) (fun _ => rfl) ?rest105
             case hy105 => (intro w hSw; (try dsimp only at hSw); go_simp; try with_reducible rfl))
          | (refine ordZ_take (i := 4) (oi := { dst := some 49, op := Op.load 30 (Operand.tmp 15), type := 30, pos := _, after := #[], guard := none }) (v := undef) rfl (by kernel_rfl) (by kernel_rfl) (by kernel_rfl) (by kernel_rfl) (fun _ _ _ h => h) (by assumption) (by kernel_rfl) (by decide) (by rfl) (Or.inr ⟨by rfl, rfl⟩) (fun _ => rfl) ?_)
        try simp only [Act.put, List.setIfInBounds_toArray, List.set_cons_zero, List.set_cons_succ]
        refine ordZ_one (i := 5) (o := { dst := some 50, op := Op.call { callee := Callee.value (Operand.tmp 48), args := #[Operand.tmp 49], argTypes := #[30] }, type := 33, pos := _, after := #[{ on := 3, ground := Ground.data }, { on := 4, ground := Ground.data }], guard := none }) (by kernel_rfl) rfl (by rfl) (fun K hK => ?_)
        go_simp
        refine ⟨trivial, ?_⟩
        with_reducible refine (callsIn_wide.2 (HRD.out _ _ _ _ _ _ ((HRA.out).below (bl_tr HBW.out (bl_tr HAL.out hD))) ((HST.out).below (bl_tr HBW.out (bl_tr HAL.out hD))))).mono ?_
        rintro e W6 ⟨g, rfl, hg6, hq6, hb6⟩
        have hg6' : w2.heap.size ≤ g := by have h1 := (HBW.out).size; have h2 := (HAL.out).size; have h3 := hD.size; omega
        replace hD := bl_tr hD hb6
        have hS6 : (fun W9 : World => W9.cell? ⟨tp, 1, none⟩ = some (.slice (some ⟨kb, 0, none⟩) cs.length cs.length) ∧ W9.cell? ⟨wr.heap.size, 0, none⟩ = some (.int .i64 d.1) ∧ W9.cell? ⟨wr.heap.size, 1, none⟩ = some (.int .i64 d.2)) W6 := ⟨cell_later hD e0, cell_later hD d0, cell_later hD d1⟩
        refine hK _ _ (fun _ => hS6) ?_
        clear hK K
        try simp only [Act.put, List.setIfInBounds_toArray, List.set_cons_zero, List.set_cons_succ]
        first
          | (refine' ordZ_take (i := 6) (oi := { dst := some 51, op := Op.indexAddr 70 (Operand.tmp 46) (Operand.tmp 47), type := 0, pos := _, after := #[{ on := 1, ground := Ground.data }, { on := 2, ground := Ground.data }, { on := 0, ground := Ground.phase }, { on := 1, ground := Ground.phase }, { on := 2, ground := Ground.phase }, { on := 3, ground := Ground.phase }, { on := 4, ground := Ground.phase }, { on := 5, ground := Ground.phase }], guard := none }) (v := _) rfl (by kernel_rfl) (by kernel_rfl) (by kernel_rfl) (by kernel_rfl) (fun _ _ _ h => h) (by assumption) (by kernel_rfl) (by decide) (by rfl) (Or.inl ⟨by rfl, ?hy106⟩) (fun _ => rfl) ?rest106
             case hy106 => (intro w hSw; (try dsimp only at hSw); go_simp; try with_reducible rfl))
          | (refine ordZ_take (i := 6) (oi := { dst := some 51, op := Op.indexAddr 70 (Operand.tmp 46) (Operand.tmp 47), type := 0, pos := _, after := #[{ on := 1, ground := Ground.data }, { on := 2, ground := Ground.data }, { on := 0, ground := Ground.phase }, { on := 1, ground := Ground.phase }, { on := 2, ground := Ground.phase }, { on := 3, ground := Ground.phase }, { on := 4, ground := Ground.phase }, { on := 5, ground := Ground.phase }], guard := none }) (v := undef) rfl (by kernel_rfl) (by kernel_rfl) (by kernel_rfl) (by kernel_rfl) (fun _ _ _ h => h) (by assumption) (by kernel_rfl) (by decide) (by rfl) (Or.inr ⟨by rfl, rfl⟩) (fun _ => rfl) ?_)
        try simp only [Act.put, List.setIfInBounds_toArray, List.set_cons_zero, List.set_cons_succ]
        have HDD := Lib.hid (bl_tr HAL.out hD)
        have htab6 := (HTAB.out).below HDD.out
        have htc := htab6.tab
        have htv := tabC_at cs.length gs (m := cs.length - k) HGL.out (by omega)
        have t0 : W6.cell? ⟨kb, k, none⟩ = some (.slice none 0 0) := by simp [World.cell?, htc, htv]
        have t1 : W6.frozen? ⟨kb, k, none⟩ = false := by simp [World.frozen?, htc]
        have zt := blk_lt t0
        refine ordZ_one (i := 7) (o := { dst := none, op := Op.store 33 (Operand.tmp 51) (Operand.tmp 50), type := 0, pos := _, after := #[{ on := 6, ground := Ground.data }, { on := 5, ground := Ground.data }, { on := 5, ground := Ground.chain }, { on := 0, ground := Ground.phase }, { on := 1, ground := Ground.phase }, { on := 2, ground := Ground.phase }, { on := 3, ground := Ground.phase }, { on := 4, ground := Ground.phase }, { on := 5, ground := Ground.phase }], guard := none }) (by kernel_rfl) rfl (by rfl) (fun K hK => ?_)
        go_simp
        refine hK _ _ (fun h => by cases h) ?_
        clear hK K hH
        try simp only [Act.put, List.setIfInBounds_toArray, List.set_cons_zero, List.set_cons_succ]
        refine ordZ_done (by kernel_rfl) ?_
        rw [show cs.length - k = (cs.length - (k + 1)) + 1 by omega] at htab6
        have hts := htab6.set hq6
        rw [HGL.out, ← HRS2.out] at hts
        have HTS := Lib.hid hts
        have HG9 := Lib.hid (((HGR.out).trans (gq_below (q := kb) HDD.out)).trans (hgrown_set W6 kb k (.slice (some ⟨g, 0, none⟩) cs.length cs.length)))
        have HGS9 := Lib.hid (show ∀ x ∈ gs ++ [g], w2.heap.size ≤ x from fun x hx => by
          rcases List.mem_append.1 hx with h | h
          · exact HGS.out x h
          · rw [List.mem_singleton.1 h]; exact hg6')
        clear hts htab6 htc t0 t1 zt hS6 hD e0 d0 d1 zd0 ze ze' hq6 htv hg6 hg6' hbw
        go_wp2
        go_roundw
        case rel => exact ⟨k + 1, gs ++ [g], by omega, by go_num, HG9.out, HTS.out, HGS9.out⟩
        case measure => simp [intOf]; omega
      · obtain rfl : k = cs.length := by omega
        have hge : ¬ (cs.length : Int) < (cs.length : Int) := by omega
        have hall : R.take cs.length = R := by rw [← HRL.out]; exact List.take_length
        rw [hall, Nat.sub_self] at htab
        have hwr := bl_tr HA2.out hbw
        have hrb : w.heap.size + 1 + 1 < w2.heap.size := blk_lt Q0.out
        have q0 := cell_later hbw Q0.out
        have q1 := cell_later hbw Q1.out
        have u0 := frozen_later hbw Q0.out U0.out
        have u1 := frozen_later hbw Q1.out U1.out
        have e0 : wr.cell? ⟨tp, 0, none⟩ = some (.slice ka cs.length kc) := by simp [World.cell?, htb]
        have e1 : wr.cell? ⟨tp, 1, none⟩ = some (.slice (some ⟨kb, 0, none⟩) cs.length cs.length) := by simp [World.cell?, htb]
        have ze := blk_lt e0
        have zq := blk_lt q0
        have htne : tp ≠ w.heap.size + 1 + 1 := by have := HTP.out; omega
        have how := World.ownsRow.kept HOW.out hgr (.inr (ownC_ne HOW.out HMB.out))
        have hne2 : (Value.slice ka cs.length kc).ownBlock ≠ some (w.heap.size + 1 + 1) := fun e => by have := (World.ownsRow.lt how _ e).1; omega
        have g1 := hgrown_set wr (w.heap.size + 1 + 1) 0 (.slice ka cs.length kc)
        have g2 := hgrown_set (wr.setCell ⟨w.heap.size + 1 + 1, 0, none⟩ (.slice ka cs.length kc)) (w.heap.size + 1 + 1) 1 (.slice (some ⟨kb, 0, none⟩) cs.length cs.length)
        have HO9 := Lib.hid (OwnC.low (base := w2.heap.size) ((World.ownsRow.kept how g1 (.inr hne2)).kept g2 (.inr hne2)) (show w.heap.size ≤ w2.heap.size by omega))
        have HT9 := Lib.hid ((htab.kept g1 hrb HKB.out hgs).kept g2 hrb HKB.out hgs)
        have HW9 := Lib.hid (bl_st (bl_st hwr (show w.heap.size ≤ w.heap.size + 1 + 1 by omega) (.slice ka cs.length kc) (o := 0)) (show w.heap.size ≤ w.heap.size + 1 + 1 by omega) (.slice (some ⟨kb, 0, none⟩) cs.length cs.length) (o := 1))
        have HGS9 := Lib.hid (show ∀ g ∈ gs, w.heap.size ≤ g from fun g hg => by have := hgs g hg; omega)
        have HKB9 := Lib.hid (show w.heap.size ≤ kb by have := HKB.out; omega)
        clear htab hgr hbw htb hgs hall how g1 g2 hwr hne2
        go_wp2
        refine bodyPost_ret (v := .tuple #[.agg #[.slice ka cs.length kc, .slice (some ⟨kb, 0, none⟩) cs.length cs.length], .int .i64 0]) (by simp [results, Tryd.results34, go_sem, q0, q1]) rfl ?_
        exact ⟨ka, kc, some ⟨kb, 0, none⟩, cs.length, by rw [HRL.out], HO9.out, .inr ⟨kb, gs, rfl, HKB9.out, HGS9.out, HT9.out⟩, HW9.out⟩
end Go.Proofs.YtbdfjdipjacamaaDoor

/- Tables within a cluster: the laws' helpers. -/
namespace Go.Proofs.YtbdfjdipjacamaaDoor
open Go.RowKit

set_option maxHeartbeats 2000000 in
theorem same13_any (a a2 : Option Addr) (cap cap2 : Nat) (xs ys : List Int) (w : World) (hr : RowU w a xs) (hr2 : RowU w a2 ys) (hl : xs.length ≤ 140737488355328) :
    Calls Tryd.prog 42 #[.slice a xs.length cap, .slice a2 ys.length cap2] w fun e w' => e = .returned (.bool (decide (xs = ys))) ∧ Below w.heap.size w w' := by
  have hl2 : (xs.length : Int) ≤ 140737488355328 := by omega
  by_cases he : xs.length = ys.length
  · have h1 : ((xs.length : Int) != (ys.length : Int)) = false := by rw [bne_eq_false_iff_eq]; omega
    have HE := Lib.hid he
    clear he
    have hA0 := bl0 w
    go_enter Tryd.func42, Tryd.ntmps42
    go_wp2
    go_loopw [5] (fun i wr => ∃ k : Nat, k ≤ xs.length ∧ i = .int .i64 k ∧ xs.take k = ys.take k ∧ Below w.heap.size w wr) (fun i _ => xs.length - (intOf i).toNat)
    case atStart => exact ⟨0, Nat.zero_le _, rfl, rfl, hA0⟩
    case round =>
      obtain ⟨k, hk, rfl, ht, hB⟩ := hrel
      have HT := Lib.hid ht
      clear hA0 ht
      by_cases hlt : k < xs.length
      · have hlt2 : (k : Int) < (xs.length : Int) := by omega
        have hk0 : (0 : Int) ≤ (k : Int) := by omega
        have hlty : k < ys.length := by rw [← HE.out]; exact hlt
        obtain ⟨gb, go, rfl, q⟩ := hr.cell hlt
        rw [← atD_get hlt] at q
        obtain ⟨gb2, go2, rfl, q2⟩ := hr2.cell hlty
        rw [← atD_get hlty] at q2
        replace q := cell_later hB q
        replace q2 := cell_later hB q2
        have hlty2 : (k : Int) < (ys.length : Int) := by omega
        clear hr hr2
        by_cases hx : xs[k] = ys[k]
        · have HS := Lib.hid (take_same hlt hlty HT.out hx)
          have hx2 : (xs[k] != ys[k]) = false := by rw [bne_eq_false_iff_eq]; exact hx
          clear hx
          generalize xs[k] = x at *
          generalize ys[k] = y at *
          go_wp2
          go_quiet (fail)
          go_wp2
          go_roundw
          case rel => exact ⟨k + 1, by omega, by go_num, HS.out, bl_tr hB (bl_drn _ _)⟩
          case measure => simp [intOf]; omega
        · have HS := Lib.hid (not_same_at hlt hlty hx)
          have hx2 : (xs[k] != ys[k]) = true := by rw [bne_iff_ne]; exact hx
          clear hx
          generalize xs[k] = x at *
          generalize ys[k] = y at *
          go_wp2
          go_quiet (fail)
          go_wp2
          go_ret
          exact ⟨ret_bool (by simp [HS.out]), bl_tr hB (bl_drn _ _)⟩
      · have hge : (xs.length : Int) ≤ (k : Int) := by omega
        have HS := Lib.hid (take_all (by omega) HE.out HT.out)
        go_wp2
        go_ret
        exact ⟨ret_bool (by simp [HS.out]), hB⟩
  · have h1 : ((xs.length : Int) != (ys.length : Int)) = true := by rw [bne_iff_ne]; omega
    have HE := Lib.hid (show xs ≠ ys from fun e => he (by rw [e]))
    clear he
    go_enter Tryd.func42, Tryd.ntmps42
    go_wp2
    go_ret
    exact ⟨ret_bool (by simp [HE.out]), bl0 _⟩


theorem take_sameT {xs ys : List (List Int)} {k : Nat} (hk : k < xs.length) (hk2 : k < ys.length) (h : xs.take k = ys.take k) (e : xs[k] = ys[k]) : xs.take (k + 1) = ys.take (k + 1) := by
  rw [List.take_succ_eq_append_getElem hk, List.take_succ_eq_append_getElem hk2, h, e]
theorem take_allT {xs ys : List (List Int)} {k : Nat} (h1 : xs.length ≤ k) (h2 : xs.length = ys.length) (h : xs.take k = ys.take k) : xs = ys := by
  rw [List.take_of_length_le h1, List.take_of_length_le (by omega)] at h
  exact h
theorem TabR.cell {W : World} {a : Option Addr} {rs : List (List Int)} (h : TabR W a rs) {k : Nat} (hk : k < rs.length) : ∃ b o ra rc, a = some ⟨b, o, none⟩ ∧ W.cell? ⟨b, o + k, none⟩ = some (.slice ra rs[k].length rc) ∧ RowU W ra rs[k] := by
  rcases h with rfl | ⟨b, o, h1, h2⟩
  · simp at hk
  · obtain ⟨ra, rc, q1, q2⟩ := h2 k _ (List.getElem?_eq_getElem hk)
    exact ⟨b, o, ra, rc, h1, q1, q2⟩
set_option maxRecDepth 100000 in
set_option maxHeartbeats 2000000 in
theorem rows13_any (a a2 : Option Addr) (cap cap2 : Nat) (xs ys : List (List Int)) (w : World) (hr : TabR w a xs) (hr2 : TabR w a2 ys) (hl : xs.length ≤ 1048576) (hxl : ∀ r ∈ xs, r.length ≤ 1048576) :
    Calls Tryd.prog 38 #[.slice a xs.length cap, .slice a2 ys.length cap2] w fun e w' => e = .returned (.bool (decide (xs = ys))) ∧ Below w.heap.size w w' := by
  have hl2 : (xs.length : Int) ≤ 1048576 := by omega
  have HS := Lib.hid (fun a a2 c c2 xs ys w h1 h2 hl => same13_any a a2 c c2 xs ys w h1 h2 hl)
  have HXL := Lib.hid hxl
  clear hxl
  by_cases he : xs.length = ys.length
  · have h1 : ((xs.length : Int) != (ys.length : Int)) = false := by rw [bne_eq_false_iff_eq]; omega
    have HE := Lib.hid he
    clear he
    have hA0 := bl0 w
    go_enter Tryd.func38, Tryd.ntmps38
    go_wp2
    go_loopw [5] (fun i wr => ∃ k : Nat, k ≤ xs.length ∧ i = .int .i64 k ∧ xs.take k = ys.take k ∧ Below w.heap.size w wr) (fun i _ => xs.length - (intOf i).toNat)
    case atStart => exact ⟨0, Nat.zero_le _, rfl, rfl, hA0⟩
    case round =>
      obtain ⟨k, hk, rfl, ht, hB⟩ := hrel
      have HT := Lib.hid ht
      clear hA0 ht
      by_cases hlt : k < xs.length
      · have hlt2 : (k : Int) < (xs.length : Int) := by omega
        have hk0 : (0 : Int) ≤ (k : Int) := by omega
        have hlty : k < ys.length := by rw [← HE.out]; exact hlt
        obtain ⟨gb, go, ra, rc, rfl, q, hq⟩ := (hr.below hB).cell hlt
        obtain ⟨gb2, go2, ra2, rc2, rfl, q2, hq2⟩ := (hr2.below hB).cell hlty
        have hlty2 : (k : Int) < (ys.length : Int) := by omega
        have hxk := HXL.out _ (List.getElem_mem hlt)
        have HQ := Lib.hid hq
        have HQ2 := Lib.hid hq2
        have HSK := Lib.hid (fun (e : xs[k] = ys[k]) => take_sameT hlt hlty HT.out e)
        have HNE := Lib.hid (fun (e : xs[k] ≠ ys[k]) => (show xs ≠ ys by rintro rfl; exact e rfl))
        clear hr hr2 hq hq2
        generalize xs[k] = x at *
        generalize ys[k] = y at *
        have hB2 := bl_dr (bl0 wr)
        go_wp2
        go_region_held3 (fun W => W.cell? ⟨gb, go + k, none⟩ = some (.slice ra x.length rc) ∧ W.cell? ⟨gb2, go2 + k, none⟩ = some (.slice ra2 y.length rc2))
          (exact ⟨cell_later hB2 q, cell_later hB2 q2⟩)
          ((go_at_call 42; (with_reducible refine (HS.out _ _ _ _ _ _ _ (HQ.out.below hB2) (HQ2.out.below hB2) (by omega)).mono ?_); rintro e w9 ⟨rfl, hb9⟩; replace hB2 := bl_tr hB2 hb9))
        all_goals
          have hB3 := bl_tr hB hB2
          by_cases hxy : x = y
          · have HN := Lib.hid (HSK.out hxy)
            rw [decide_eq_true hxy]
            clear hxy q q2 hB2
            go_wp2
            go_roundw
            case rel => exact ⟨k + 1, by omega, by go_num, HN.out, hB3⟩
            case measure => simp [intOf]; omega
          · have HN := Lib.hid (HNE.out hxy)
            rw [decide_eq_false hxy]
            clear hxy q q2 hB2
            go_wp2
            go_ret
            exact ⟨ret_bool (by simp [HN.out]), hB3⟩
      · have hge : (xs.length : Int) ≤ (k : Int) := by omega
        have HS2 := Lib.hid (take_allT (by omega) HE.out HT.out)
        go_wp2
        go_ret
        exact ⟨ret_bool (by simp [HS2.out]), hB⟩
  · have h1 : ((xs.length : Int) != (ys.length : Int)) = true := by rw [bne_iff_ne]; omega
    have HE := Lib.hid (show xs ≠ ys from fun e => he (by rw [e]))
    clear he
    go_enter Tryd.func38, Tryd.ntmps38
    go_wp2
    go_ret
    exact ⟨ret_bool (by simp [HE.out]), bl0 _⟩
set_option maxHeartbeats 800000 in
theorem small13_any (A B : Int) (a : Option Addr) (n cap : Nat) (id : Int) (ca : Option Addr) (m cc : Nat) (p : IC) (w : World) :
    Calls Tryd.prog 32 #[.agg #[.int .i64 A, .int .i64 B, .slice a n cap], .agg #[.int .i64 id, .slice ca m cc, .int .i64 p.1, .int .i64 p.2]] w fun e w' => e = .returned (.bool (decide (n ≤ 260) && decide (m ≤ 60))) ∧ Below w.heap.size w w' := by
  obtain ⟨t, ht⟩ : ∃ t, decide (n ≤ 260) = t := ⟨_, rfl⟩
  obtain ⟨u, hu⟩ : ∃ u, decide (m ≤ 60) = u := ⟨_, rfl⟩
  have h1 : decide ((n : Int) ≤ 260) = t := by rw [← ht, decide_eq_decide]; omega
  have h2 : decide ((m : Int) ≤ 60) = u := by rw [← hu, decide_eq_decide]; omega
  rw [ht, hu]
  cases t
  all_goals
    go_enter Tryd.func32, Tryd.ntmps32
    go_wp2
    go_ret
    exact ⟨rfl, bl_al (bl_al (bl0 _) _) _⟩
end Go.Proofs.YtbdfjdipjacamaaDoor

/- Tables within a cluster: the chapter's example. -/
namespace Go.Proofs.YtbdfjdipjacamaaDoor
open Go.RowKit

def zA13 : List Int := [1, 5, 1, 1, 1, 1, 1, 1]
def cA13 : List IC := [(0, 0), (1, 0), (1, 1)]
theorem aw13_chk : chkI 4 2 8 4 2 2 0 cA13 = 0 := by kernel_rfl
theorem aw13_of : ofRows 4 2 zA13 4 2 2 0 cA13 = [[0, 5, 2], [1, 0, 1], [2, 5, 0]] := by kernel_rfl
theorem aw13_cel : ofCel 4 2 8 4 2 2 0 cA13 = cA13 := by kernel_rfl
theorem aw13_to : toXi 4 2 8 4 2 2 0 cA13 (0, 1) = 0 := by kernel_rfl
theorem aw13_tol : toLi 4 2 zA13 4 2 2 0 cA13 (0, 1) = [1, 6, 1] := by kernel_rfl
theorem aw13_bal : backLi 4 2 zA13 4 2 2 0 cA13 (0, 1) = [1, 2, 1] := by kernel_rfl

theorem zA13_in : AllH zA13 := by
  intro z hz
  have h : (zA13.all fun z => decide (0 ≤ z) && decide (z ≤ 65535)) = true := by kernel_rfl
  have := List.all_eq_true.1 h z hz
  rw [Bool.and_eq_true, decide_eq_true_eq, decide_eq_true_eq] at this
  exact this
theorem of_aw13 (b c : Nat) (w : World) (hr : RowH w (some ⟨b, 0, none⟩) zA13) (hcs : RowC w (some ⟨c, 0, none⟩) cA13) (hs : Stp w) :
    Calls Tryd.prog 34 #[.agg #[.int .i64 4, .int .i64 2, .slice (some ⟨b, 0, none⟩) 8 8], .agg #[.int .i64 4, .int .i64 2, .int .i64 2], .int .i64 0, .slice (some ⟨c, 0, none⟩) 3 3] w fun e w' => ∃ ka kc ta tc, e = .returned (.tuple #[.agg #[.slice ka 3 kc, .slice ta 3 tc], .int .i64 0]) ∧ RowC w' ka cA13 ∧ TabR w' ta [[0, 5, 2], [1, 0, 1], [2, 5, 0]] ∧ Below w.heap.size w w' := by
  have h := of_i 4 2 (some ⟨b, 0, none⟩) 8 zA13 4 2 2 0 (some ⟨c, 0, none⟩) 3 cA13 w hr zA13_in (by decide) hcs (by decide) hs
  have e1 : chkI 4 2 ((zA13.length : Nat) : Int) 4 2 2 0 cA13 = 0 := aw13_chk
  have e2 : ofCel 4 2 ((zA13.length : Nat) : Int) 4 2 2 0 cA13 = cA13 := aw13_cel
  rw [e1, e2, aw13_of] at h
  refine h.mono ?_
  rintro e w' ⟨ka, kc, ta, tc, rfl, ho, ht, hb⟩
  refine ⟨ka, kc, ta, tc, rfl, OwnC.rowC ho, ?_, hb⟩
  rcases ht with h | ⟨x, gs, rfl, _, _, h⟩
  · cases h
  · exact h.read (fun r hr => by simp at hr; rcases hr with rfl | rfl | rfl <;> rfl)
theorem to_aw13 (b : Nat) (ka ta : Option Addr) (kc tn tc : Nat) (w : World) (hr : RowH w (some ⟨b, 0, none⟩) zA13) (hcs : RowC w ka cA13) (hs : Stp w) :
    Calls Tryd.prog 39 #[.agg #[.int .i64 4, .int .i64 2, .slice (some ⟨b, 0, none⟩) 8 8], .agg #[.int .i64 4, .int .i64 2, .int .i64 2], .int .i64 0, .agg #[.slice ka 3 kc, .slice ta tn tc], .agg #[.int .i64 0, .int .i64 1]] w fun e w' => ∃ g cap, e = .returned (.tuple #[.slice g 3 cap, .int .i64 0]) ∧ RowU w' g [1, 6, 1] ∧ Below w.heap.size w w' := by
  have h := to_i 4 2 (some ⟨b, 0, none⟩) 8 zA13 4 2 2 0 ka kc cA13 ta tn tc (0, 1) w hr zA13_in (by decide) hcs (by decide) hs
  have e1 : toXi 4 2 ((zA13.length : Nat) : Int) 4 2 2 0 cA13 (0, 1) = 0 := aw13_to
  rw [e1, aw13_tol] at h
  refine h.mono ?_
  rintro e w' ⟨g, cap, rfl, hq, hb⟩
  refine ⟨g, cap, rfl, ?_, hb⟩
  rcases hq with h | ⟨x, rfl, _, h⟩
  · cases h
  · exact rowU_heap h
theorem back_aw13 (b : Nat) (ka ta : Option Addr) (kc tn tc : Nat) (w : World) (hr : RowH w (some ⟨b, 0, none⟩) zA13) (hcs : RowC w ka cA13) (hs : Stp w) :
    Calls Tryd.prog 40 #[.agg #[.int .i64 4, .int .i64 2, .slice (some ⟨b, 0, none⟩) 8 8], .agg #[.int .i64 4, .int .i64 2, .int .i64 2], .int .i64 0, .agg #[.slice ka 3 kc, .slice ta tn tc], .agg #[.int .i64 0, .int .i64 1]] w fun e w' => ∃ g cap, e = .returned (.tuple #[.slice g 3 cap, .int .i64 0]) ∧ RowU w' g [1, 2, 1] ∧ Below w.heap.size w w' := by
  have h := back_i 4 2 (some ⟨b, 0, none⟩) 8 zA13 4 2 2 0 ka kc cA13 ta tn tc (0, 1) w hr zA13_in (by decide) hcs (by decide) hs
  have e1 : toXi 4 2 ((zA13.length : Nat) : Int) 4 2 2 0 cA13 (0, 1) = 0 := aw13_to
  rw [e1, aw13_bal] at h
  refine h.mono ?_
  rintro e w' ⟨g, cap, rfl, hq, hb⟩
  refine ⟨g, cap, rfl, ?_, hb⟩
  rcases hq with h | ⟨x, rfl, _, h⟩
  · cases h
  · exact rowU_heap h
set_option maxRecDepth 100000 in
set_option maxHeartbeats 8000000 in
theorem awake13 (w : World) (hs : Stp w) : Calls Tryd.prog 33 #[] w fun e w' => e = .returned (.bool true) ∧ Below w.heap.size w w' := by
  go_enter Tryd.func33, Tryd.ntmps33
  go_wp2_with fail
  obtain ⟨w0, hw0⟩ : ∃ w0, (((w.alloc (.cells #[.int .u16 1, .int .u16 5, .int .u16 1, .int .u16 1, .int .u16 1, .int .u16 1, .int .u16 1, .int .u16 1] 82)).alloc (.cells #[.int .i64 4, .int .i64 2, .slice (some ⟨w.heap.size, 0, none⟩) 8 8] 26)).alloc (.cells #[.int .i64 4, .int .i64 2, .int .i64 2] 53)).alloc (.cells #[.int .i64 0, .int .i64 0, .int .i64 1, .int .i64 0, .int .i64 1, .int .i64 1] 30) = w0 := ⟨_, rfl⟩
  have hA : Below w.heap.size w w0 := by rw [← hw0]; exact bl_al (bl_al (bl_al (bl_al (bl0 w) _) _) _) _
  have h0 : w0.heap[w.heap.size]? = some (.cells #[.int .u16 1, .int .u16 5, .int .u16 1, .int .u16 1, .int .u16 1, .int .u16 1, .int .u16 1, .int .u16 1] 82 (0, 0)) := by
    rw [← hw0]
    exact ((bl_al (bl_al (bl_al (bl0 (w.alloc (.cells #[.int .u16 1, .int .u16 5, .int .u16 1, .int .u16 1, .int .u16 1, .int .u16 1, .int .u16 1, .int .u16 1] 82))) _) _) _).block _ (by simp)).trans (heap_alloc_new w _)
  have h3 : w0.heap[w.heap.size + 1 + 1 + 1]? = some (.cells #[.int .i64 0, .int .i64 0, .int .i64 1, .int .i64 0, .int .i64 1, .int .i64 1] 30 (0, 0)) := by
    rw [← hw0]
    have h := heap_alloc_new (((w.alloc (.cells #[.int .u16 1, .int .u16 5, .int .u16 1, .int .u16 1, .int .u16 1, .int .u16 1, .int .u16 1, .int .u16 1] 82)).alloc (.cells #[.int .i64 4, .int .i64 2, .slice (some ⟨w.heap.size, 0, none⟩) 8 8] 26)).alloc (.cells #[.int .i64 4, .int .i64 2, .int .i64 2] 53)) (.cells #[.int .i64 0, .int .i64 0, .int .i64 1, .int .i64 0, .int .i64 1, .int .i64 1] 30)
    simp only [World.size_alloc] at h
    exact h
  have f0 : w0.cell? ⟨w.heap.size + 1, 0, none⟩ = some (.int .i64 4) := by rw [← hw0]; simp [go_sem]
  have f1 : w0.cell? ⟨w.heap.size + 1, 1, none⟩ = some (.int .i64 2) := by rw [← hw0]; simp [go_sem]
  have f2 : w0.cell? ⟨w.heap.size + 1, 2, none⟩ = some (.slice (some ⟨w.heap.size, 0, none⟩) 8 8) := by rw [← hw0]; simp [go_sem]
  have p0 : w0.cell? ⟨w.heap.size + 1 + 1, 0, none⟩ = some (.int .i64 4) := by rw [← hw0]; simp [go_sem]
  have p1 : w0.cell? ⟨w.heap.size + 1 + 1, 1, none⟩ = some (.int .i64 2) := by rw [← hw0]; simp [go_sem]
  have p2 : w0.cell? ⟨w.heap.size + 1 + 1, 2, none⟩ = some (.int .i64 2) := by rw [← hw0]; simp [go_sem]
  have hrow : RowH w0 (some ⟨w.heap.size, 0, none⟩) zA13 := row_lit h0 rfl
  have hcel : RowC w0 (some ⟨w.heap.size + 1 + 1 + 1, 0, none⟩) cA13 := rowC_lit h3 rfl
  have hs0 := hs.below hA
  rw [hw0]
  clear hw0 h0 h3
  refine (of_aw13 _ _ _ hrow hcel hs0).mono ?_
  rintro e w1 ⟨ka, kc, ta, tc, rfl, hkc, htb, hb⟩
  replace hA := bl_tr hA hb
  replace hrow := hrow.below hb
  replace hs0 := hs0.below hb
  replace f0 := cell_later hb f0; replace f1 := cell_later hb f1; replace f2 := cell_later hb f2
  replace p0 := cell_later hb p0; replace p1 := cell_later hb p1; replace p2 := cell_later hb p2
  have zf0 := blk_lt f0; have zp0 := blk_lt p0
  clear hb hcel
  go_wp2_with fail
  refine (to_aw13 w.heap.size ka ta kc 3 tc _ (hrow.below (bl_al (bl0 _) _)) (hkc.below (bl_al (bl0 _) _)) (hs0.below (bl_al (bl0 _) _))).mono ?_
  rintro e w2 ⟨g1, c1, rfl, hu1, hb⟩
  have hk : Below w1.heap.size w1 w2 := by first | exact hb | exact bl_tr (bl_al (bl0 _) _) hb | exact bl_tr (bl_dr (bl_al (bl0 _) _)) hb | exact bl_tr (bl_al (bl_al (bl0 _) _) _) hb | exact bl_tr (bl_dr (bl_al (bl_al (bl0 _) _) _)) hb | exact bl_tr (bl_al (bl_al (bl_al (bl0 _) _) _) _) hb | exact bl_tr (bl_dr (bl_al (bl_al (bl_al (bl0 _) _) _) _)) hb | exact bl_tr (bl_al (bl_al (bl_al (bl_al (bl0 _) _) _) _) _) hb | exact bl_tr (bl_dr (bl_al (bl_al (bl_al (bl_al (bl0 _) _) _) _) _)) hb | exact bl_tr (bl_al (bl_al (bl_al (bl_al (bl_al (bl0 _) _) _) _) _) _) hb | exact bl_tr (bl_dr (bl_al (bl_al (bl_al (bl_al (bl_al (bl0 _) _) _) _) _) _)) hb | exact bl_tr (bl_al (bl_al (bl_al (bl_al (bl_al (bl_al (bl0 _) _) _) _) _) _) _) hb | exact bl_tr (bl_dr (bl_al (bl_al (bl_al (bl_al (bl_al (bl_al (bl0 _) _) _) _) _) _) _)) hb | exact bl_tr (bl_dr (bl0 _)) hb
  replace hA := bl_tr hA hk
  replace hrow := hrow.below hk
  replace hkc := hkc.below hk
  replace hs0 := hs0.below hk
  replace htb := htb.below hk
  replace f0 := cell_later hk f0
  replace f1 := cell_later hk f1
  replace f2 := cell_later hk f2
  replace p0 := cell_later hk p0
  replace p1 := cell_later hk p1
  replace p2 := cell_later hk p2
  have t0 := cell_later hb (v := .slice ka 3 kc) (a := ⟨w1.heap.size, 0, none⟩) (by simp [go_sem])
  have t1 := cell_later hb (v := .slice ta 3 tc) (a := ⟨w1.heap.size, 1, none⟩) (by simp [go_sem])
  clear hb hk
  have zf0 := blk_lt f0
  have zf1 := blk_lt f1
  have zf2 := blk_lt f2
  have zp0 := blk_lt p0
  have zp1 := blk_lt p1
  have zp2 := blk_lt p2
  have zt0 := blk_lt t0
  have zt1 := blk_lt t1
  go_wp2_with fail
  refine (back_aw13 w.heap.size ka ta kc 3 tc _ hrow hkc hs0).mono ?_
  rintro e w3 ⟨g2, c2, rfl, hu2, hb⟩
  have hk : Below w2.heap.size w2 w3 := by first | exact hb | exact bl_tr (bl_al (bl0 _) _) hb | exact bl_tr (bl_dr (bl_al (bl0 _) _)) hb | exact bl_tr (bl_al (bl_al (bl0 _) _) _) hb | exact bl_tr (bl_dr (bl_al (bl_al (bl0 _) _) _)) hb | exact bl_tr (bl_al (bl_al (bl_al (bl0 _) _) _) _) hb | exact bl_tr (bl_dr (bl_al (bl_al (bl_al (bl0 _) _) _) _)) hb | exact bl_tr (bl_al (bl_al (bl_al (bl_al (bl0 _) _) _) _) _) hb | exact bl_tr (bl_dr (bl_al (bl_al (bl_al (bl_al (bl0 _) _) _) _) _)) hb | exact bl_tr (bl_al (bl_al (bl_al (bl_al (bl_al (bl0 _) _) _) _) _) _) hb | exact bl_tr (bl_dr (bl_al (bl_al (bl_al (bl_al (bl_al (bl0 _) _) _) _) _) _)) hb | exact bl_tr (bl_al (bl_al (bl_al (bl_al (bl_al (bl_al (bl0 _) _) _) _) _) _) _) hb | exact bl_tr (bl_dr (bl_al (bl_al (bl_al (bl_al (bl_al (bl_al (bl0 _) _) _) _) _) _) _)) hb | exact bl_tr (bl_dr (bl0 _)) hb
  replace hA := bl_tr hA hk
  replace htb := htb.below hk
  replace hu1 := hu1.below hk
  replace f0 := cell_later hk f0
  replace t0 := cell_later hk t0
  replace t1 := cell_later hk t1
  clear hb hk
  have zf0 := blk_lt f0
  have zt0 := blk_lt t0
  have zt1 := blk_lt t1
  clear f0 t0 zf0 zt0 hrow hkc hs0
  go_wp2_with fail
  obtain ⟨w4, hw4⟩ : ∃ w4, (((w3.alloc (.cells #[.int .u64 0, .int .u64 5, .int .u64 2] 45)).alloc (.cells #[.int .u64 1, .int .u64 0, .int .u64 1] 45)).alloc (.cells #[.int .u64 2, .int .u64 5, .int .u64 0] 45)).alloc (.cells #[.slice (some ⟨w3.heap.size, 0, none⟩) 3 3, .slice (some ⟨w3.heap.size + 1, 0, none⟩) 3 3, .slice (some ⟨w3.heap.size + 1 + 1, 0, none⟩) 3 3] 33) = w4 := ⟨_, rfl⟩
  have hb4 : Below w3.heap.size w3 w4 := by rw [← hw4]; exact bl_al (bl_al (bl_al (bl_al (bl0 _) _) _) _) _
  have hT : TabR w4 (some ⟨w3.heap.size + 1 + 1 + 1, 0, none⟩) [[0, 5, 2], [1, 0, 1], [2, 5, 0]] := by
    rw [← hw4]
    refine .inr ⟨_, 0, rfl, fun i r hr => ?_⟩
    have key : ∀ (b : Nat) (x y z : Int) (W : World), W.cell? ⟨b, 0, none⟩ = some (.int .u64 x) → W.cell? ⟨b, 1, none⟩ = some (.int .u64 y) → W.cell? ⟨b, 2, none⟩ = some (.int .u64 z) → RowU W (some ⟨b, 0, none⟩) [x, y, z] := fun b x y z W h0 h1 h2 => by
      refine .inr ⟨b, 0, rfl, fun j v hv => ?_⟩
      rw [Nat.zero_add]
      match j, hv with
      | 0, hv => simp at hv; subst hv; exact h0
      | 1, hv => simp at hv; subst hv; exact h1
      | 2, hv => simp at hv; subst hv; exact h2
      | j + 3, hv => simp at hv
    match i, hr with
    | 0, hr => simp at hr; subst hr; exact ⟨some ⟨w3.heap.size, 0, none⟩, 3, by simp [go_sem], key _ _ _ _ _ (by simp [go_sem]) (by simp [go_sem]) (by simp [go_sem])⟩
    | 1, hr => simp at hr; subst hr; exact ⟨some ⟨w3.heap.size + 1, 0, none⟩, 3, by simp [go_sem], key _ _ _ _ _ (by simp [go_sem]) (by simp [go_sem]) (by simp [go_sem])⟩
    | 2, hr => simp at hr; subst hr; exact ⟨some ⟨w3.heap.size + 1 + 1, 0, none⟩, 3, by simp [go_sem], key _ _ _ _ _ (by simp [go_sem]) (by simp [go_sem]) (by simp [go_sem])⟩
    | j + 3, hr => simp at hr
  rw [hw4]
  clear hw4
  have hcall := rows13_any ta (some ⟨w3.heap.size + 1 + 1 + 1, 0, none⟩) tc 3 [[0, 5, 2], [1, 0, 1], [2, 5, 0]] [[0, 5, 2], [1, 0, 1], [2, 5, 0]] w4 (htb.below hb4) hT (by decide) (fun r hr => by simp at hr; rcases hr with rfl | rfl | rfl <;> decide)
  rw [decide_eq_true rfl] at hcall
  try simp only [List.length_cons, List.length_nil, Nat.reduceAdd] at hcall
  refine hcall.mono ?_
  rintro e w5 ⟨rfl, hb5⟩
  have hb35 := bl_tr hb4 hb5
  replace hA := bl_tr hA hb35
  replace hu1 := hu1.below hb35
  replace hu2 := hu2.below hb35
  clear hcall hT htb hb4 hb5 hb35 t1 zt1
  go_wp2_with fail
  have hl6 : RowU (w5.alloc (.cells #[.int .u64 1, .int .u64 6, .int .u64 1] 45)) (some ⟨w5.heap.size, 0, none⟩) [1, 6, 1] := rowU_lit (heap_alloc_new _ _) rfl
  have hcall := same13_any g1 (some ⟨w5.heap.size, 0, none⟩) c1 3 [1, 6, 1] [1, 6, 1] _ (hu1.below (bl_al (bl0 w5) _)) hl6 (by decide)
  rw [decide_eq_true rfl] at hcall
  try simp only [List.length_cons, List.length_nil, Nat.reduceAdd] at hcall
  refine hcall.mono ?_
  rintro e w6 ⟨rfl, hb6⟩
  have hb56 := bl_tr (bl_al (bl0 w5) _) hb6
  replace hA := bl_tr hA hb56
  replace hu2 := hu2.below hb56
  clear hcall hl6 hu1 hb6 hb56
  go_wp2_with fail
  have hl7 : RowU (w6.alloc (.cells #[.int .u64 1, .int .u64 2, .int .u64 1] 45)) (some ⟨w6.heap.size, 0, none⟩) [1, 2, 1] := rowU_lit (heap_alloc_new _ _) rfl
  have hcall := same13_any g2 (some ⟨w6.heap.size, 0, none⟩) c2 3 [1, 2, 1] [1, 2, 1] _ (hu2.below (bl_al (bl0 w6) _)) hl7 (by decide)
  rw [decide_eq_true rfl] at hcall
  try simp only [List.length_cons, List.length_nil, Nat.reduceAdd] at hcall
  refine hcall.mono ?_
  rintro e w7 ⟨rfl, hb7⟩
  replace hA := bl_tr hA (bl_tr (bl_al (bl0 w6) _) hb7)
  clear hcall hl7 hu2 hb7
  go_wp2_with fail
  go_ret
  exact ⟨rfl, hA⟩
end Go.Proofs.YtbdfjdipjacamaaDoor

/- Parts: the closure that tells those beside one, and Beside. -/
namespace Go.Proofs.YtbdfjdipjacamaaDoor
open Go.RowKit

/-- The closure's boxes. -/
def BesQ (W : World) (b q : Nat) (A B S : Int) (p : IC) : Prop :=
  (W.cell? ⟨b, 0, none⟩ = some (.int .i64 A) ∧ W.cell? ⟨b, 1, none⟩ = some (.int .i64 B) ∧ W.cell? ⟨b, 2, none⟩ = some (.int .i64 S)) ∧ W.cell? ⟨q, 0, none⟩ = some (.int .i64 p.1) ∧ W.cell? ⟨q, 1, none⟩ = some (.int .i64 p.2)
theorem BesQ.below {W W' : World} {b q : Nat} {A B S : Int} {p : IC} (h : BesQ W b q A B S p) (hb : Below W.heap.size W W') : BesQ W' b q A B S p :=
  ⟨⟨cell_later hb h.1.1, cell_later hb h.1.2.1, cell_later hb h.1.2.2⟩, cell_later hb h.2.1, cell_later hb h.2.2⟩
end Go.Proofs.YtbdfjdipjacamaaDoor

/- Parts: rows of numbers and of pairs of cells; pairs along a border. -/
namespace Go.Proofs.YtbdfjdipjacamaaDoor
open Go.RowKit

/-- A row of numbers in memory. -/
def RowN (W : World) (a : Option Addr) (zs : List Int) : Prop :=
  zs = [] ∨ ∃ b o, a = some ⟨b, o, none⟩ ∧ ∀ i z, zs[i]? = some z → W.cell? ⟨b, o + i, none⟩ = some (.int .i64 z)
theorem RowN.below {W W' : World} {a : Option Addr} {zs : List Int} (h : RowN W a zs) (hb : Below W.heap.size W W') : RowN W' a zs := by
  rcases h with h | ⟨b, o, h1, h2⟩
  · exact .inl h
  · exact .inr ⟨b, o, h1, fun i z hz => cell_later hb (h2 i z hz)⟩
theorem RowN.cell {W : World} {a : Option Addr} {zs : List Int} (h : RowN W a zs) {k : Nat} (hk : k < zs.length) : ∃ b o, a = some ⟨b, o, none⟩ ∧ W.cell? ⟨b, o + k, none⟩ = some (.int .i64 zs[k]) := by
  rcases h with rfl | ⟨b, o, h1, h2⟩
  · simp at hk
  · exact ⟨b, o, h1, h2 k _ (List.getElem?_eq_getElem hk)⟩
theorem own_shape {w : World} {base : Nat} {e : TypeId} {size : Nat} {v : Value} {n : Nat} {xs : List Value} (h : w.ownsRow base e size v n xs) : ∃ a cap, v = .slice a n cap ∧ n ≤ cap := by
  rcases h.2 with ⟨rfl, h0⟩ | ⟨g, cap, cur, rfl, _, _, hc, _⟩
  · exact ⟨none, 0, by rw [h0], by omega⟩
  · exact ⟨_, cap, rfl, hc⟩
/-- A row of pairs of cells in memory. -/
def RowPP (W : World) (a : Option Addr) (zs : List (IC × IC)) : Prop :=
  zs = [] ∨ ∃ b o, a = some ⟨b, o, none⟩ ∧ ∀ i z, zs[i]? = some z → (W.cell? ⟨b, o + i * 4, none⟩ = some (.int .i64 z.1.1) ∧ W.cell? ⟨b, o + i * 4 + 1, none⟩ = some (.int .i64 z.1.2)) ∧ W.cell? ⟨b, o + i * 4 + 2, none⟩ = some (.int .i64 z.2.1) ∧ W.cell? ⟨b, o + i * 4 + 3, none⟩ = some (.int .i64 z.2.2)
theorem RowPP.below {W W' : World} {a : Option Addr} {zs : List (IC × IC)} (h : RowPP W a zs) (hb : Below W.heap.size W W') : RowPP W' a zs := by
  rcases h with h | ⟨b, o, h1, h2⟩
  · exact .inl h
  · refine .inr ⟨b, o, h1, fun i z hz => ?_⟩
    obtain ⟨⟨q0, q1⟩, q2, q3⟩ := h2 i z hz
    exact ⟨⟨cell_later hb q0, cell_later hb q1⟩, cell_later hb q2, cell_later hb q3⟩
theorem RowPP.cell {W : World} {a : Option Addr} {zs : List (IC × IC)} (h : RowPP W a zs) {k : Nat} (hk : k < zs.length) : ∃ b o, a = some ⟨b, o, none⟩ ∧ (W.cell? ⟨b, o + k * 4, none⟩ = some (.int .i64 zs[k].1.1) ∧ W.cell? ⟨b, o + k * 4 + 1, none⟩ = some (.int .i64 zs[k].1.2)) ∧ W.cell? ⟨b, o + k * 4 + 2, none⟩ = some (.int .i64 zs[k].2.1) ∧ W.cell? ⟨b, o + k * 4 + 3, none⟩ = some (.int .i64 zs[k].2.2) := by
  rcases h with rfl | ⟨b, o, h1, h2⟩
  · simp at hk
  · exact ⟨b, o, h1, h2 k _ (List.getElem?_eq_getElem hk)⟩
def flatPP (zs : List (IC × IC)) : List Value := zs.flatMap (fun z => [.int .i64 z.1.1, .int .i64 z.1.2, .int .i64 z.2.1, .int .i64 z.2.2])
theorem flatPP_snoc (zs : List (IC × IC)) (z : IC × IC) : flatPP (zs ++ [z]) = flatPP zs ++ [.int .i64 z.1.1, .int .i64 z.1.2, .int .i64 z.2.1, .int .i64 z.2.2] := by simp [flatPP, List.flatMap_append]
theorem flatPP_at : ∀ (zs : List (IC × IC)) (i : Nat) (z : IC × IC), zs[i]? = some z → ((flatPP zs)[i * 4]? = some (.int .i64 z.1.1) ∧ (flatPP zs)[i * 4 + 1]? = some (.int .i64 z.1.2)) ∧ (flatPP zs)[i * 4 + 2]? = some (.int .i64 z.2.1) ∧ (flatPP zs)[i * 4 + 3]? = some (.int .i64 z.2.2)
  | [], i, z, h => by simp at h
  | y :: zs, 0, z, h => by simp at h; subst h; simp [flatPP]
  | y :: zs, i + 1, z, h => by
    have := flatPP_at zs i z (by simpa using h)
    have e : flatPP (y :: zs) = .int .i64 y.1.1 :: .int .i64 y.1.2 :: .int .i64 y.2.1 :: .int .i64 y.2.2 :: flatPP zs := rfl
    rw [e, show (i + 1) * 4 = i * 4 + 1 + 1 + 1 + 1 by omega]
    simpa using this
theorem cell_four (w : World) (a b c d : Value) (t : TypeId) : ∀ j u, [a, b, c, d][j]? = some u → (w.alloc (.cells #[a, b, c, d] t)).cell? ((⟨w.heap.size, 0, none⟩ : Addr).add j) = some u := by
  intro j u hj
  match j, hj with
  | 0, hj => simp at hj; subst hj; simp [Addr.add]
  | 1, hj => simp at hj; subst hj; simp [Addr.add]
  | 2, hj => simp at hj; subst hj; simp [Addr.add]
  | 3, hj => simp at hj; subst hj; simp [Addr.add]
end Go.Proofs.YtbdfjdipjacamaaDoor

/- Parts: the pairs along a border. -/
namespace Go.Proofs.YtbdfjdipjacamaaDoor
open Go.RowKit

end Go.Proofs.YtbdfjdipjacamaaDoor

/- Parts: those beside a cluster; the border of two. -/
namespace Go.Proofs.YtbdfjdipjacamaaDoor
open Go.RowKit

theorem BesQ.grown {W W' : World} {b q : Nat} {A B S : Int} {p : IC} {r : Option Nat} (h : BesQ W b q A B S p) (hg : W.grownBy W' r) (hb : some b ≠ r) (hq : some q ≠ r) : BesQ W' b q A B S p :=
  ⟨⟨hg.cell h.1.1 hb, hg.cell h.1.2.1 hb, hg.cell h.1.2.2 hb⟩, hg.cell h.2.1 hq, hg.cell h.2.2 hq⟩

end Go.Proofs.YtbdfjdipjacamaaDoor

/- Parts: the border of two. -/
namespace Go.Proofs.YtbdfjdipjacamaaDoor
open Go.RowKit

end Go.Proofs.YtbdfjdipjacamaaDoor

/- Parts: the laws' helpers; the chapter's examples. -/
namespace Go.Proofs.YtbdfjdipjacamaaDoor
open Go.RowKit

end Go.Proofs.YtbdfjdipjacamaaDoor

/- Parts: structs compared whole. -/
namespace Go.Proofs.YtbdfjdipjacamaaDoor
open Go.RowKit

end Go.Proofs.YtbdfjdipjacamaaDoor

/- Parts: rows of pairs compared; the chapter's examples. -/
namespace Go.Proofs.YtbdfjdipjacamaaDoor
open Go.RowKit

end Go.Proofs.YtbdfjdipjacamaaDoor

/- Parts: the reference's boxes: whether one lies on a map, whether it has a cell, the next cell. -/
namespace Go.Proofs.YtbdfjdipjacamaaDoor
open Go.RowKit

end Go.Proofs.YtbdfjdipjacamaaDoor

/- Parts: the reference's clusters, laid one by one. -/
namespace Go.Proofs.YtbdfjdipjacamaaDoor
open Go.RowKit

def bxF (W H S : Int) (k : Nat) : IC × IC := ((bxX S (plcP W S k), bxY S (plcP W S k)), (bxW W S (plcP W S k), bxH H S (plcP W S k)))
def boxL (W H S : Int) : List (IC × IC) := (List.range (cntN W H S)).map (bxF W H S)
theorem boxL_len (W H S : Int) : (boxL W H S).length = cntN W H S := by simp [boxL]
theorem boxL_at {W H S : Int} {k : Nat} (h : k < (boxL W H S).length) : (boxL W H S)[k] = bxF W H S k := by simp [boxL]
theorem rowX_of_own {w : World} {base : Nat} {a : Option Addr} {cap : Nat} {zs : List (IC × IC)} (h : w.ownsRow base 28 4 (.slice a zs.length cap) zs.length (flatPP zs)) : RowPP w a zs := by
  have hown := h
  rcases h.2 with ⟨e, h0⟩ | ⟨g, cap, cur, e, hb, hg, _⟩
  · exact .inl (List.eq_nil_of_length_eq_zero h0)
  · cases e
    refine .inr ⟨g, 0, rfl, fun i z hz => ?_⟩
    obtain ⟨⟨e0, e1⟩, e2, e3⟩ := flatPP_at zs i z hz
    have a0 := hown.cells (g := g) rfl _ _ e0
    have a1 := hown.cells (g := g) rfl _ _ e1
    have a2 := hown.cells (g := g) rfl _ _ e2
    have a3 := hown.cells (g := g) rfl _ _ e3
    rw [addr_add, Nat.zero_add] at a0 a1 a2 a3
    simp only [Nat.zero_add]
    exact ⟨⟨a0, a1⟩, a2, a3⟩
theorem Tryd.infoBx : (Tryd.prog.info? 28).map (fun i => (i.zero, i.size, i.bytes)) = some (some (.agg #[.int .i64 0, .int .i64 0, .int .i64 0, .int .i64 0]), 4, 32) := by kernel_rfl
theorem own_empty4 (w : World) (t : TypeId) (base : Nat) (hb : base ≤ w.heap.size) : (w.alloc (.cells #[] t)).ownsRow base t 4 (.slice (some ⟨w.heap.size, 0, none⟩) 0 0) 0 (flatPP []) :=
  ⟨rfl, .inr ⟨w.heap.size, 0, #[], rfl, hb, heap_alloc_new w _, Nat.le_refl _, Nat.zero_le _, rfl, rfl⟩⟩
theorem bxF_at {W H S : Int} {i j : Nat} (h : (i : Int) < lieN W S) (hl : 0 ≤ lieN W S) : bxF W H S (j * (lieN W S).toNat + i) = (((i : Int) * S, (j : Int) * S), (min S (W - i * S), min S (H - j * S))) := by
  have e : ((j * (lieN W S).toNat + i : Nat) : Int) = (j : Int) * lieN W S + i := by
    rw [Int.natCast_add, Int.natCast_mul, Int.toNat_of_nonneg hl]
  unfold bxF
  rw [e, plc_of (p := ((i : Int), (j : Int))) (by show (0 : Int) ≤ (i : Int); omega) h]
  rfl
def BxsR (l : List (IC × IC)) (w : World) (e : Ending) (w' : World) : Prop := ∃ a cap, e = .returned (.slice a l.length cap) ∧ RowPP w' a l ∧ Below w.heap.size w w'


set_option maxRecDepth 100000 in
set_option maxHeartbeats 8000000 in
theorem boxes11 (W H S : Int) (w : World) (hr : rightP W H S = true) :
    Calls Tryd.prog 29 #[.agg #[.int .i64 W, .int .i64 H], .int .i64 S] w (BxsR (boxL W H S) w) := by
  obtain ⟨i0, hi, hz0, hz1, hz2⟩ := info_parts Tryd.infoBx
  obtain ⟨⟨a1, a2, a3, a4⟩, a5, a6⟩ := rightP_iff.1 hr
  obtain ⟨hn, n1, n2⟩ := cntN_eq hr
  obtain ⟨b1, b2, b3, b4⟩ := lie_bd a1 a2 a5 a6
  obtain ⟨c1, c2, c3, c4⟩ := lie_bd a3 a4 a5 a6
  have HATX := Lib.hid (fun (i : Nat) => lie_at (i := (i : Int)) a1 a2 a5 a6 (by omega))
  have HATY := Lib.hid (fun (i : Nat) => lie_at (i := (i : Int)) a3 a4 a5 a6 (by omega))
  have HF := Lib.hid (fun (i j : Nat) (h : (i : Int) < lieN W S) => bxF_at (H := H) (j := j) h (show 0 ≤ lieN W S by omega))
  obtain ⟨lw, hlw⟩ : ∃ lw : Nat, lieN W S = lw := ⟨(lieN W S).toNat, by omega⟩
  obtain ⟨lh, hlh⟩ : ∃ lh : Nat, lieN H S = lh := ⟨(lieN H S).toNat, by omega⟩
  rw [hlw] at HATX HF b1 b2 b3 b4 hn n1 n2
  rw [hlh] at HATY c1 c2 c3 c4 hn n1 n2
  simp only [Int.toNat_natCast] at HF
  have hcnt : cntN W H S = lh * lw := by
    have : (cntN W H S : Int) = ((lh * lw : Nat) : Int) := by rw [hn, Int.natCast_mul, Int.mul_comm]
    omega
  obtain ⟨F, hF⟩ : ∃ F, bxF W H S = F := ⟨_, rfl⟩
  have HL := Lib.hid (show boxL W H S = (List.range (lh * lw)).map F by unfold boxL; rw [hcnt, hF])
  rw [hF] at HF
  have hK : ∀ j i : Nat, j < lh → i ≤ lw → j * lw + i ≤ 16384 := fun j i h1 h2 => by
    have h3 := Nat.mul_le_mul_right lw (show j + 1 ≤ lh by omega)
    rw [Nat.succ_mul] at h3
    have h4 : (lh * lw : Nat) ≤ 16384 := by
      have : ((lh * lw : Nat) : Int) ≤ 16384 := by rw [Int.natCast_mul, Int.mul_comm]; exact n2
      omega
    omega
  have HK := Lib.hid hK
  clear hn n1 n2 hcnt hF hK b3 b4 c3 c4 hlw hlh hr
  have hA := bl0 w
  go_enter Tryd.func29, Tryd.ntmps29
  go_wp2_with fail
  go_loopw [5, 6, 7, 8] (fun o yv _ _ wr => ∃ j : Nat, j ≤ lh ∧ yv = .int .i64 ((j : Int) * S) ∧ wr.ownsRow (w.heap.size + 1) 28 4 o (j * lw) (flatPP ((List.range (j * lw)).map F)) ∧ Below w.heap.size w wr ∧ wr.cell? ⟨w.heap.size, 0, none⟩ = some (.int .i64 W) ∧ wr.cell? ⟨w.heap.size, 1, none⟩ = some (.int .i64 H) ∧ w.heap.size + 1 ≤ wr.heap.size) (fun _ yv _ _ _ => (H + 16 - intOf yv).toNat)
  case atStart =>
    refine ⟨0, Nat.zero_le _, by rw [show ((0 : Nat) : Int) * S = 0 by simp], ?_, bl_al (bl_al (bl0 w) _) _, by simp [go_sem], by simp [go_sem], by simp⟩
    have ho := own_empty4 (w.alloc (.cells #[.int .i64 W, .int .i64 H] 23)) 28 (w.heap.size + 1) (by simp)
    rw [World.size_alloc] at ho
    rw [Nat.zero_mul]
    exact ho
  case round =>
    obtain ⟨j, hj, rfl, hown, hA, f0, f1, hsz⟩ := hrel
    have zf := blk_lt f0
    have hjy := HATY.out j
    obtain ⟨y, hy⟩ : ∃ y, (j : Int) * S = y := ⟨_, rfl⟩
    rw [hy] at hjy ⊢
    have hys : ((j + 1 : Nat) : Int) * S = y + S := by rw [← hy, Int.natCast_add, Int.add_mul]; simp
    have HYS := Lib.hid hys
    have hy0 : 0 ≤ y := by rw [← hy]; exact Int.mul_nonneg (by omega) (by omega)
    have HY := Lib.hid hy
    clear hys hy
    by_cases hlt : j < lh
    · have hly : y < H := hjy.1 (by omega)
      clear hjy
      go_wp2_with fail
      go_loopw [5, 7, 8] (fun o xv _ wr => ∃ i : Nat, i ≤ lw ∧ xv = .int .i64 ((i : Int) * S) ∧ wr.ownsRow (w.heap.size + 1) 28 4 o (j * lw + i) (flatPP ((List.range (j * lw + i)).map F)) ∧ Below w.heap.size w wr ∧ wr.cell? ⟨w.heap.size, 0, none⟩ = some (.int .i64 W) ∧ wr.cell? ⟨w.heap.size, 1, none⟩ = some (.int .i64 H) ∧ w.heap.size + 1 ≤ wr.heap.size) (fun _ xv _ _ => (W + 16 - intOf xv).toNat)
      case atStart => exact ⟨0, Nat.zero_le _, by rw [show ((0 : Nat) : Int) * S = 0 by simp], hown, hA, f0, f1, hsz⟩
      case round =>
        clear hown hA f0 f1 zf
        obtain ⟨i, hii, rfl, hown, hA, f0, f1, hsz⟩ := hrel
        have zf := blk_lt f0
        have hix := HATX.out i
        have hkk := HK.out j i hlt hii
        obtain ⟨x, hx⟩ : ∃ x, (i : Int) * S = x := ⟨_, rfl⟩
        rw [hx] at hix ⊢
        have hxs : ((i + 1 : Nat) : Int) * S = x + S := by rw [← hx, Int.natCast_add, Int.add_mul]; simp
        have HXN := Lib.hid hxs
        have hx0 : 0 ≤ x := by rw [← hx]; exact Int.mul_nonneg (by omega) (by omega)
        clear hxs
        by_cases hli : i < lw
        · have hlx : x < W := hix.1 (by omega)
          have hbf := HF.out i j (by omega)
          rw [hx, HY.out] at hbf
          obtain ⟨va, vc, rfl, hcp⟩ := own_shape hown
          obtain ⟨K, hKe⟩ : ∃ K, j * lw + i = K := ⟨_, rfl⟩
          rw [hKe] at hown hcp hkk hbf ⊢
          have HKN := Lib.hid (show j * lw + (i + 1) = K + 1 by omega)
          clear hix hx hKe
          have hw1 : IntKind.i64.wrap (x + S) = x + S := IntWalk.i64_in _ (by omega)
          have hw2 : IntKind.i64.wrap (y + S) = y + S := IntWalk.i64_in _ (by omega)
          have hw3 : IntKind.i64.wrap (W - x) = W - x := IntWalk.i64_in _ (by omega)
          have hw4 : IntKind.i64.wrap (H - y) = H - y := IntWalk.i64_in _ (by omega)
          by_cases hgx : W < x + S <;> by_cases hgy : H < y + S
          · obtain ⟨u, hu⟩ : ∃ u, W - x = u := ⟨_, rfl⟩
            obtain ⟨v, hv⟩ : ∃ v, H - y = v := ⟨_, rfl⟩
            have HSN := Lib.hid (show (List.range (K + 1)).map F = (List.range K).map F ++ [((x, y), (u, v))] by
              rw [List.range_succ, List.map_append, List.map_singleton, hbf, show min S (W - x) = u by omega, show min S (H - y) = v by omega])
            clear hbf
            rw [hu] at hw3
            rw [hv] at hw4
            go_wp2_with (at_builtin; refine wpList_append_own _ rfl _ _ 63 rfl (w.heap.size + 1) 28 i0 (.agg #[.int .i64 0, .int .i64 0, .int .i64 0, .int .i64 0]) 4 32 Tryd.underlying63 hi hz0 hz1 hz2 rfl (by decide) _ _ _ rfl ((hown.alloc _).alloc _) ⟨wr.heap.size + 1, 0, none⟩ 1 1 [.int .i64 x, .int .i64 y, .int .i64 u, .int .i64 v] rfl rfl ?d11 ?d12 ?d13 ?d14 ?d15 ?_)
            case d11 => (have := cell_four (wr.alloc (.cells #[.int .i64 x, .int .i64 y, .int .i64 u, .int .i64 v] 28)) (.int .i64 x) (.int .i64 y) (.int .i64 u) (.int .i64 v) 28; rw [World.size_alloc] at this; exact this)
            case d12 => (first | exact ⟨rfl, rfl, rfl, rfl⟩ | exact ⟨rfl, rfl, rfl⟩ | (intro u' hu; simp at hu; rcases hu with rfl | rfl | rfl | rfl <;> rfl))
            case d13 => unfold maxLen; omega
            case d14 => omega
            case d15 => (have := hA.size; simp; omega)
            intro v' w5 hown' hgrow _
            have hl2 : Below wr.heap.size wr ((wr.alloc (.cells #[.int .i64 x, .int .i64 y, .int .i64 u, .int .i64 v] 28)).alloc (.cells #[.int .i64 x, .int .i64 y, .int .i64 u, .int .i64 v] 28)) := bl_al (bl_al (bl0 _) _) _
            have hB5 : Below w.heap.size w w5 := (bl_tr hA hl2).grown hgrow (by have := hA.size; simp; omega) (fun j hj => by have := (hown.lt j hj).1; omega)
            have hne : some w.heap.size ≠ Value.ownBlock (.slice va K vc) := fun e => by have := (hown.lt _ e.symm).1; omega
            have f0' := hgrow.cell (cell_later hl2 f0) hne
            have f1' := hgrow.cell (cell_later hl2 f1) hne
            rw [← flatPP_snoc ((List.range K).map F) ((x, y), (u, v)), ← HSN.out] at hown'
            have hKs : w.heap.size + 1 ≤ w5.heap.size := by have h1 := hgrow.size; simp at h1; omega
            clear hgrow hown hl2 hne f0 f1 hA
            go_wp2
            go_roundw
            case rel => exact ⟨i + 1, by omega, by rw [HXN.out], by rw [HKN.out]; exact hown', hB5, f0', f1', hKs⟩
            case measure => simp [intOf]; omega
          · obtain ⟨u, hu⟩ : ∃ u, W - x = u := ⟨_, rfl⟩
            obtain ⟨v, hv⟩ : ∃ v, v = S := ⟨_, rfl⟩
            have HSN := Lib.hid (show (List.range (K + 1)).map F = (List.range K).map F ++ [((x, y), (u, v))] by
              rw [List.range_succ, List.map_append, List.map_singleton, hbf, show min S (W - x) = u by omega, show min S (H - y) = v by omega])
            clear hbf
            rw [hu] at hw3
            subst hv
            go_wp2_with (at_builtin; refine wpList_append_own _ rfl _ _ 63 rfl (w.heap.size + 1) 28 i0 (.agg #[.int .i64 0, .int .i64 0, .int .i64 0, .int .i64 0]) 4 32 Tryd.underlying63 hi hz0 hz1 hz2 rfl (by decide) _ _ _ rfl ((hown.alloc _).alloc _) ⟨wr.heap.size + 1, 0, none⟩ 1 1 [.int .i64 x, .int .i64 y, .int .i64 u, .int .i64 v] rfl rfl ?d21 ?d22 ?d23 ?d24 ?d25 ?_)
            try case d21 => (have := cell_four (wr.alloc (.cells #[.int .i64 x, .int .i64 y, .int .i64 u, .int .i64 v] 28)) (.int .i64 x) (.int .i64 y) (.int .i64 u) (.int .i64 v) 28; rw [World.size_alloc] at this; exact this)
            case d22 => (first | exact ⟨rfl, rfl, rfl, rfl⟩ | exact ⟨rfl, rfl, rfl⟩ | (intro u' hu; simp at hu; rcases hu with rfl | rfl | rfl | rfl <;> rfl))
            case d23 => unfold maxLen; omega
            case d24 => omega
            case d25 => (have := hA.size; simp; omega)
            intro v' w5 hown' hgrow _
            have hl2 : Below wr.heap.size wr ((wr.alloc (.cells #[.int .i64 x, .int .i64 y, .int .i64 u, .int .i64 v] 28)).alloc (.cells #[.int .i64 x, .int .i64 y, .int .i64 u, .int .i64 v] 28)) := bl_al (bl_al (bl0 _) _) _
            have hB5 : Below w.heap.size w w5 := (bl_tr hA hl2).grown hgrow (by have := hA.size; simp; omega) (fun j hj => by have := (hown.lt j hj).1; omega)
            have hne : some w.heap.size ≠ Value.ownBlock (.slice va K vc) := fun e => by have := (hown.lt _ e.symm).1; omega
            have f0' := hgrow.cell (cell_later hl2 f0) hne
            have f1' := hgrow.cell (cell_later hl2 f1) hne
            rw [← flatPP_snoc ((List.range K).map F) ((x, y), (u, v)), ← HSN.out] at hown'
            have hKs : w.heap.size + 1 ≤ w5.heap.size := by have h1 := hgrow.size; simp at h1; omega
            clear hgrow hown hl2 hne f0 f1 hA
            go_wp2
            go_roundw
            case rel => exact ⟨i + 1, by omega, by rw [HXN.out], by rw [HKN.out]; exact hown', hB5, f0', f1', hKs⟩
            case measure => simp [intOf]; omega
          · obtain ⟨u, hu⟩ : ∃ u, u = S := ⟨_, rfl⟩
            obtain ⟨v, hv⟩ : ∃ v, H - y = v := ⟨_, rfl⟩
            have HSN := Lib.hid (show (List.range (K + 1)).map F = (List.range K).map F ++ [((x, y), (u, v))] by
              rw [List.range_succ, List.map_append, List.map_singleton, hbf, show min S (W - x) = u by omega, show min S (H - y) = v by omega])
            clear hbf
            rw [hv] at hw4
            subst hu
            go_wp2_with (at_builtin; refine wpList_append_own _ rfl _ _ 63 rfl (w.heap.size + 1) 28 i0 (.agg #[.int .i64 0, .int .i64 0, .int .i64 0, .int .i64 0]) 4 32 Tryd.underlying63 hi hz0 hz1 hz2 rfl (by decide) _ _ _ rfl ((hown.alloc _).alloc _) ⟨wr.heap.size + 1, 0, none⟩ 1 1 [.int .i64 x, .int .i64 y, .int .i64 u, .int .i64 v] rfl rfl ?d31 ?d32 ?d33 ?d34 ?d35 ?_)
            try case d31 => (have := cell_four (wr.alloc (.cells #[.int .i64 x, .int .i64 y, .int .i64 u, .int .i64 v] 28)) (.int .i64 x) (.int .i64 y) (.int .i64 u) (.int .i64 v) 28; rw [World.size_alloc] at this; exact this)
            case d32 => (first | exact ⟨rfl, rfl, rfl, rfl⟩ | exact ⟨rfl, rfl, rfl⟩ | (intro u' hu; simp at hu; rcases hu with rfl | rfl | rfl | rfl <;> rfl))
            case d33 => unfold maxLen; omega
            case d34 => omega
            case d35 => (have := hA.size; simp; omega)
            intro v' w5 hown' hgrow _
            have hl2 : Below wr.heap.size wr ((wr.alloc (.cells #[.int .i64 x, .int .i64 y, .int .i64 u, .int .i64 v] 28)).alloc (.cells #[.int .i64 x, .int .i64 y, .int .i64 u, .int .i64 v] 28)) := bl_al (bl_al (bl0 _) _) _
            have hB5 : Below w.heap.size w w5 := (bl_tr hA hl2).grown hgrow (by have := hA.size; simp; omega) (fun j hj => by have := (hown.lt j hj).1; omega)
            have hne : some w.heap.size ≠ Value.ownBlock (.slice va K vc) := fun e => by have := (hown.lt _ e.symm).1; omega
            have f0' := hgrow.cell (cell_later hl2 f0) hne
            have f1' := hgrow.cell (cell_later hl2 f1) hne
            rw [← flatPP_snoc ((List.range K).map F) ((x, y), (u, v)), ← HSN.out] at hown'
            have hKs : w.heap.size + 1 ≤ w5.heap.size := by have h1 := hgrow.size; simp at h1; omega
            clear hgrow hown hl2 hne f0 f1 hA
            go_wp2
            go_roundw
            case rel => exact ⟨i + 1, by omega, by rw [HXN.out], by rw [HKN.out]; exact hown', hB5, f0', f1', hKs⟩
            case measure => simp [intOf]; omega
          · obtain ⟨u, hu⟩ : ∃ u, u = S := ⟨_, rfl⟩
            have HSN := Lib.hid (show (List.range (K + 1)).map F = (List.range K).map F ++ [((x, y), (u, u))] by
              rw [List.range_succ, List.map_append, List.map_singleton, hbf, show min S (W - x) = u by omega, show min S (H - y) = u by omega])
            clear hbf
            subst hu
            go_wp2_with (at_builtin; refine wpList_append_own _ rfl _ _ 63 rfl (w.heap.size + 1) 28 i0 (.agg #[.int .i64 0, .int .i64 0, .int .i64 0, .int .i64 0]) 4 32 Tryd.underlying63 hi hz0 hz1 hz2 rfl (by decide) _ _ _ rfl ((hown.alloc _).alloc _) ⟨wr.heap.size + 1, 0, none⟩ 1 1 [.int .i64 x, .int .i64 y, .int .i64 u, .int .i64 u] rfl rfl ?d41 ?d42 ?d43 ?d44 ?d45 ?_)
            try case d41 => (have := cell_four (wr.alloc (.cells #[.int .i64 x, .int .i64 y, .int .i64 u, .int .i64 u] 28)) (.int .i64 x) (.int .i64 y) (.int .i64 u) (.int .i64 u) 28; rw [World.size_alloc] at this; exact this)
            case d42 => (first | exact ⟨rfl, rfl, rfl, rfl⟩ | exact ⟨rfl, rfl, rfl⟩ | (intro u' hu; simp at hu; rcases hu with rfl | rfl | rfl | rfl <;> rfl))
            case d43 => unfold maxLen; omega
            case d44 => omega
            case d45 => (have := hA.size; simp; omega)
            intro v' w5 hown' hgrow _
            have hl2 : Below wr.heap.size wr ((wr.alloc (.cells #[.int .i64 x, .int .i64 y, .int .i64 u, .int .i64 u] 28)).alloc (.cells #[.int .i64 x, .int .i64 y, .int .i64 u, .int .i64 u] 28)) := bl_al (bl_al (bl0 _) _) _
            have hB5 : Below w.heap.size w w5 := (bl_tr hA hl2).grown hgrow (by have := hA.size; simp; omega) (fun j hj => by have := (hown.lt j hj).1; omega)
            have hne : some w.heap.size ≠ Value.ownBlock (.slice va K vc) := fun e => by have := (hown.lt _ e.symm).1; omega
            have f0' := hgrow.cell (cell_later hl2 f0) hne
            have f1' := hgrow.cell (cell_later hl2 f1) hne
            rw [← flatPP_snoc ((List.range K).map F) ((x, y), (u, u)), ← HSN.out] at hown'
            have hKs : w.heap.size + 1 ≤ w5.heap.size := by have h1 := hgrow.size; simp at h1; omega
            clear hgrow hown hl2 hne f0 f1 hA
            go_wp2
            go_roundw
            case rel => exact ⟨i + 1, by omega, by rw [HXN.out], by rw [HKN.out]; exact hown', hB5, f0', f1', hKs⟩
            case measure => simp [intOf]; omega
        · obtain rfl : i = lw := by omega
          have hge : ¬ x < W := fun h => by have := hix.2 h; omega
          have HKN := Lib.hid (show (j + 1) * i = j * i + i by rw [Nat.succ_mul])
          clear hix hx
          go_wp2
          go_roundw
          case rel => exact ⟨j + 1, by omega, by rw [HYS.out], by rw [HKN.out]; exact hown, hA, f0, f1, hsz⟩
          case measure => simp [intOf]; omega
    · obtain rfl : j = lh := by omega
      have hge : ¬ y < H := fun h => by have := hjy.2 h; omega
      obtain ⟨va, vc, rfl, hcp⟩ := own_shape hown
      have hl := HL.out
      have hrow : RowPP wr va ((List.range (j * lw)).map F) := rowX_of_own (cap := vc) (by simpa using hown)
      have HR := Lib.hid (show ∀ e, e = Ending.returned (.slice va (j * lw) vc) → BxsR (boxL W H S) w e wr from fun e he => ⟨va, vc, by rw [he, hl]; simp, by rw [hl]; exact hrow, hA⟩)
      obtain ⟨K, hKe⟩ : ∃ K, j * lw = K := ⟨_, rfl⟩
      rw [hKe] at HR ⊢
      clear hown hrow hl hjy hKe
      go_wp2
      go_ret
      exact HR.out _ rfl
end Go.Proofs.YtbdfjdipjacamaaDoor

/- Tables within a cluster: the reference's May. -/
namespace Go.Proofs.YtbdfjdipjacamaaDoor
open Go.RowKit

def AllW (cs : List IC) : Prop := ∀ c ∈ cs, wf64 c.1 ∧ wf64 c.2
theorem rowI_ref (d c : IC) : (0 ≤ rowI d c) ↔ (c.2 < d.2 ∨ (c.2 = d.2 ∧ c.1 ≤ d.1)) := by
  have h := rowI_ge d c
  constructor
  · intro q
    have := h.1 q
    omega
  · intro q
    exact h.2 (by omega)
set_option maxRecDepth 100000 in
set_option maxHeartbeats 8000000 in
theorem may13_any (A B : Int) (a : Option Addr) (n cap : Nat) (X Y S id : Int) (ca : Option Addr) (cc : Nat) (cs : List IC) (w : World) (hcs : RowC w ca cs) (hl : cs.length ≤ 1048576) (hw : AllW cs) :
    Calls Tryd.prog 35 #[.agg #[.int .i64 A, .int .i64 B, .slice a n cap], .agg #[.int .i64 X, .int .i64 Y], .int .i64 S, .int .i64 id, .slice ca cs.length cc] w fun e w' => e = .returned (.int .i64 (chkI A B n X Y S id cs)) ∧ Below w.heap.size w w' := by
  have hA := bl0 w
  have H1 := Lib.hid (fun w => rcheck_any A B a n cap w)
  have H2 := Lib.hid (fun w => rright11 X Y S w)
  have hx : chkI A B n X Y S id cs = if chkF A B n ≠ 0 then chkF A B n else if X = A ∧ Y = B then (if plcX X Y S id ≠ 0 then plcX X Y S id else wrgI X Y S id cs) else 1 := rfl
  obtain ⟨E, hE⟩ : ∃ E, chkI A B n X Y S id cs = E := ⟨_, rfl⟩
  rw [hE] at hx ⊢
  clear hE
  by_cases h0 : chkF A B n = 0
  case neg =>
    rw [if_pos h0] at hx
    rw [← hx] at H1 h0
    have h1 : (E != 0) = true := by rw [bne_iff_ne]; exact h0
    clear h0 hx hcs
    go_enter Tryd.func35, Tryd.ntmps35
    go_wp2_with fail
    refine (H1.out _).mono ?_
    rintro e w1 ⟨rfl, hb⟩
    have hk : Below w.heap.size w w1 := by first | exact hb | exact bl_tr (bl_al (bl0 _) _) hb | exact bl_tr (bl_dr (bl_al (bl0 _) _)) hb | exact bl_tr (bl_al (bl_al (bl0 _) _) _) hb | exact bl_tr (bl_dr (bl_al (bl_al (bl0 _) _) _)) hb | exact bl_tr (bl_al (bl_al (bl_al (bl0 _) _) _) _) hb | exact bl_tr (bl_dr (bl_al (bl_al (bl_al (bl0 _) _) _) _)) hb | exact bl_tr (bl_al (bl_al (bl_al (bl_al (bl0 _) _) _) _) _) hb | exact bl_tr (bl_dr (bl_al (bl_al (bl_al (bl_al (bl0 _) _) _) _) _)) hb | exact bl_tr (bl_al (bl_al (bl_al (bl_al (bl_al (bl0 _) _) _) _) _) _) hb | exact bl_tr (bl_dr (bl_al (bl_al (bl_al (bl_al (bl_al (bl0 _) _) _) _) _) _)) hb | exact bl_tr (bl_al (bl_al (bl_al (bl_al (bl_al (bl_al (bl0 _) _) _) _) _) _) _) hb | exact bl_tr (bl_dr (bl_al (bl_al (bl_al (bl_al (bl_al (bl_al (bl0 _) _) _) _) _) _) _)) hb | exact bl_tr (bl_dr (bl0 _)) hb
    replace hA := bl_tr hA hk
    clear hb hk
    go_wp2
    go_ret
    exact ⟨rfl, hA⟩
  case pos =>
  rw [h0] at H1
  rw [if_neg (fun q => q h0)] at hx
  by_cases hs : X = A ∧ Y = B
  case neg =>
    rw [if_neg hs] at hx
    subst hx
    by_cases hs1 : X = A
    · subst hs1
      have e1 : (X == X) = true := beq_self_eq_true _
      have e2 : (Y == B) = false := by rw [beq_eq_false_iff_ne]; exact fun h => hs ⟨rfl, h⟩
      clear hs h0 hcs
      go_enter Tryd.func35, Tryd.ntmps35
      go_wp2_with fail
      refine (H1.out _).mono ?_
      rintro e w1 ⟨rfl, hb⟩
      have hk : Below w.heap.size w w1 := by first | exact hb | exact bl_tr (bl_al (bl0 _) _) hb | exact bl_tr (bl_dr (bl_al (bl0 _) _)) hb | exact bl_tr (bl_al (bl_al (bl0 _) _) _) hb | exact bl_tr (bl_dr (bl_al (bl_al (bl0 _) _) _)) hb | exact bl_tr (bl_al (bl_al (bl_al (bl0 _) _) _) _) hb | exact bl_tr (bl_dr (bl_al (bl_al (bl_al (bl0 _) _) _) _)) hb | exact bl_tr (bl_al (bl_al (bl_al (bl_al (bl0 _) _) _) _) _) hb | exact bl_tr (bl_dr (bl_al (bl_al (bl_al (bl_al (bl0 _) _) _) _) _)) hb | exact bl_tr (bl_al (bl_al (bl_al (bl_al (bl_al (bl0 _) _) _) _) _) _) hb | exact bl_tr (bl_dr (bl_al (bl_al (bl_al (bl_al (bl_al (bl0 _) _) _) _) _) _)) hb | exact bl_tr (bl_al (bl_al (bl_al (bl_al (bl_al (bl_al (bl0 _) _) _) _) _) _) _) hb | exact bl_tr (bl_dr (bl_al (bl_al (bl_al (bl_al (bl_al (bl_al (bl0 _) _) _) _) _) _) _)) hb | exact bl_tr (bl_dr (bl0 _)) hb
      replace hA := bl_tr hA hk
      have f0 := cell_later hb (v := .int .i64 X) (a := ⟨w.heap.size, 0, none⟩) (by simp [go_sem])
      have f1 := cell_later hb (v := .int .i64 B) (a := ⟨w.heap.size, 1, none⟩) (by simp [go_sem])
      have s0 := cell_later hb (v := .int .i64 X) (a := ⟨w.heap.size + 1, 0, none⟩) (by simp [go_sem])
      have s1 := cell_later hb (v := .int .i64 Y) (a := ⟨w.heap.size + 1, 1, none⟩) (by simp [go_sem])
      clear hb hk
      have zf0 := blk_lt f0
      have zf1 := blk_lt f1
      have zs0 := blk_lt s0
      have zs1 := blk_lt s1
      go_wp2
      go_ret
      exact ⟨rfl, hA⟩
    · have e1 : (X == A) = false := by rw [beq_eq_false_iff_ne]; exact hs1
      clear hs hs1 h0 hcs
      go_enter Tryd.func35, Tryd.ntmps35
      go_wp2_with fail
      refine (H1.out _).mono ?_
      rintro e w1 ⟨rfl, hb⟩
      have hk : Below w.heap.size w w1 := by first | exact hb | exact bl_tr (bl_al (bl0 _) _) hb | exact bl_tr (bl_dr (bl_al (bl0 _) _)) hb | exact bl_tr (bl_al (bl_al (bl0 _) _) _) hb | exact bl_tr (bl_dr (bl_al (bl_al (bl0 _) _) _)) hb | exact bl_tr (bl_al (bl_al (bl_al (bl0 _) _) _) _) hb | exact bl_tr (bl_dr (bl_al (bl_al (bl_al (bl0 _) _) _) _)) hb | exact bl_tr (bl_al (bl_al (bl_al (bl_al (bl0 _) _) _) _) _) hb | exact bl_tr (bl_dr (bl_al (bl_al (bl_al (bl_al (bl0 _) _) _) _) _)) hb | exact bl_tr (bl_al (bl_al (bl_al (bl_al (bl_al (bl0 _) _) _) _) _) _) hb | exact bl_tr (bl_dr (bl_al (bl_al (bl_al (bl_al (bl_al (bl0 _) _) _) _) _) _)) hb | exact bl_tr (bl_al (bl_al (bl_al (bl_al (bl_al (bl_al (bl0 _) _) _) _) _) _) _) hb | exact bl_tr (bl_dr (bl_al (bl_al (bl_al (bl_al (bl_al (bl_al (bl0 _) _) _) _) _) _) _)) hb | exact bl_tr (bl_dr (bl0 _)) hb
      replace hA := bl_tr hA hk
      have f0 := cell_later hb (v := .int .i64 A) (a := ⟨w.heap.size, 0, none⟩) (by simp [go_sem])
      have f1 := cell_later hb (v := .int .i64 B) (a := ⟨w.heap.size, 1, none⟩) (by simp [go_sem])
      have s0 := cell_later hb (v := .int .i64 X) (a := ⟨w.heap.size + 1, 0, none⟩) (by simp [go_sem])
      have s1 := cell_later hb (v := .int .i64 Y) (a := ⟨w.heap.size + 1, 1, none⟩) (by simp [go_sem])
      clear hb hk
      have zf0 := blk_lt f0
      have zf1 := blk_lt f1
      have zs0 := blk_lt s0
      have zs1 := blk_lt s1
      go_wp2
      go_ret
      exact ⟨rfl, hA⟩
  case pos =>
  rw [if_pos hs] at hx
  obtain ⟨rfl, rfl⟩ := hs
  have e1 : (X == X) = true := beq_self_eq_true _
  have e2 : (Y == Y) = true := beq_self_eq_true _
  clear h0
  cases hrt : rightP X Y S
  · have hp : plcX X Y S id = 1 := by unfold plcX; rw [if_neg (by rw [hrt]; decide)]
    rw [hp, if_pos (by decide)] at hx
    subst hx
    rw [hrt] at H2
    clear hp hrt hcs
    go_enter Tryd.func35, Tryd.ntmps35
    go_wp2_with fail
    refine (H1.out _).mono ?_
    rintro e w1 ⟨rfl, hb⟩
    have hk : Below w.heap.size w w1 := by first | exact hb | exact bl_tr (bl_al (bl0 _) _) hb | exact bl_tr (bl_dr (bl_al (bl0 _) _)) hb | exact bl_tr (bl_al (bl_al (bl0 _) _) _) hb | exact bl_tr (bl_dr (bl_al (bl_al (bl0 _) _) _)) hb | exact bl_tr (bl_al (bl_al (bl_al (bl0 _) _) _) _) hb | exact bl_tr (bl_dr (bl_al (bl_al (bl_al (bl0 _) _) _) _)) hb | exact bl_tr (bl_al (bl_al (bl_al (bl_al (bl0 _) _) _) _) _) hb | exact bl_tr (bl_dr (bl_al (bl_al (bl_al (bl_al (bl0 _) _) _) _) _)) hb | exact bl_tr (bl_al (bl_al (bl_al (bl_al (bl_al (bl0 _) _) _) _) _) _) hb | exact bl_tr (bl_dr (bl_al (bl_al (bl_al (bl_al (bl_al (bl0 _) _) _) _) _) _)) hb | exact bl_tr (bl_al (bl_al (bl_al (bl_al (bl_al (bl_al (bl0 _) _) _) _) _) _) _) hb | exact bl_tr (bl_dr (bl_al (bl_al (bl_al (bl_al (bl_al (bl_al (bl0 _) _) _) _) _) _) _)) hb | exact bl_tr (bl_dr (bl0 _)) hb
    replace hA := bl_tr hA hk
    have f0 := cell_later hb (v := .int .i64 X) (a := ⟨w.heap.size, 0, none⟩) (by simp [go_sem])
    have f1 := cell_later hb (v := .int .i64 Y) (a := ⟨w.heap.size, 1, none⟩) (by simp [go_sem])
    have s0 := cell_later hb (v := .int .i64 X) (a := ⟨w.heap.size + 1, 0, none⟩) (by simp [go_sem])
    have s1 := cell_later hb (v := .int .i64 Y) (a := ⟨w.heap.size + 1, 1, none⟩) (by simp [go_sem])
    clear hb hk
    have zf0 := blk_lt f0
    have zf1 := blk_lt f1
    have zs0 := blk_lt s0
    have zs1 := blk_lt s1
    go_wp2_with fail
    refine (H2.out _).mono ?_
    rintro e w2 ⟨rfl, hb⟩
    have hk : Below w1.heap.size w1 w2 := by first | exact hb | exact bl_tr (bl_al (bl0 _) _) hb | exact bl_tr (bl_dr (bl_al (bl0 _) _)) hb | exact bl_tr (bl_al (bl_al (bl0 _) _) _) hb | exact bl_tr (bl_dr (bl_al (bl_al (bl0 _) _) _)) hb | exact bl_tr (bl_al (bl_al (bl_al (bl0 _) _) _) _) hb | exact bl_tr (bl_dr (bl_al (bl_al (bl_al (bl0 _) _) _) _)) hb | exact bl_tr (bl_al (bl_al (bl_al (bl_al (bl0 _) _) _) _) _) hb | exact bl_tr (bl_dr (bl_al (bl_al (bl_al (bl_al (bl0 _) _) _) _) _)) hb | exact bl_tr (bl_al (bl_al (bl_al (bl_al (bl_al (bl0 _) _) _) _) _) _) hb | exact bl_tr (bl_dr (bl_al (bl_al (bl_al (bl_al (bl_al (bl0 _) _) _) _) _) _)) hb | exact bl_tr (bl_al (bl_al (bl_al (bl_al (bl_al (bl_al (bl0 _) _) _) _) _) _) _) hb | exact bl_tr (bl_dr (bl_al (bl_al (bl_al (bl_al (bl_al (bl_al (bl0 _) _) _) _) _) _) _)) hb | exact bl_tr (bl_dr (bl0 _)) hb
    replace hA := bl_tr hA hk
    clear hb hk
    go_wp2
    go_ret
    exact ⟨rfl, hA⟩
  · rw [hrt] at H2
    have H3 := Lib.hid (fun w => boxes11 X Y S w hrt)
    unfold BxsR at H3
    have hbl := boxL_len X Y S
    obtain ⟨hcn, n1, n2⟩ := cntN_eq hrt
    by_cases hin : 0 ≤ id ∧ id < lieN X S * lieN Y S
    case neg =>
      have hp : plcX X Y S id = 10 := by unfold plcX; rw [if_pos hrt, if_neg hin]
      rw [hp, if_pos (by decide)] at hx
      subst hx
      have hno : id < 0 ∨ ((0 : Int) ≤ id ∧ ((boxL X Y S).length : Int) ≤ id) := by rw [hbl]; omega
      obtain ⟨BL, hB⟩ : ∃ BL, boxL X Y S = BL := ⟨_, rfl⟩
      rw [hB] at H3 hno
      clear hp hrt hin hcn n1 n2 hbl hB hcs
      rcases hno with h0 | ⟨h0, h1⟩
      all_goals
        go_enter Tryd.func35, Tryd.ntmps35
        go_wp2_with fail
        refine (H1.out _).mono ?_
        rintro e w1 ⟨rfl, hb⟩
        have hk : Below w.heap.size w w1 := by first | exact hb | exact bl_tr (bl_al (bl0 _) _) hb | exact bl_tr (bl_dr (bl_al (bl0 _) _)) hb | exact bl_tr (bl_al (bl_al (bl0 _) _) _) hb | exact bl_tr (bl_dr (bl_al (bl_al (bl0 _) _) _)) hb | exact bl_tr (bl_al (bl_al (bl_al (bl0 _) _) _) _) hb | exact bl_tr (bl_dr (bl_al (bl_al (bl_al (bl0 _) _) _) _)) hb | exact bl_tr (bl_al (bl_al (bl_al (bl_al (bl0 _) _) _) _) _) hb | exact bl_tr (bl_dr (bl_al (bl_al (bl_al (bl_al (bl0 _) _) _) _) _)) hb | exact bl_tr (bl_al (bl_al (bl_al (bl_al (bl_al (bl0 _) _) _) _) _) _) hb | exact bl_tr (bl_dr (bl_al (bl_al (bl_al (bl_al (bl_al (bl0 _) _) _) _) _) _)) hb | exact bl_tr (bl_al (bl_al (bl_al (bl_al (bl_al (bl_al (bl0 _) _) _) _) _) _) _) hb | exact bl_tr (bl_dr (bl_al (bl_al (bl_al (bl_al (bl_al (bl_al (bl0 _) _) _) _) _) _) _)) hb | exact bl_tr (bl_dr (bl0 _)) hb
        replace hA := bl_tr hA hk
        have f0 := cell_later hb (v := .int .i64 X) (a := ⟨w.heap.size, 0, none⟩) (by simp [go_sem])
        have f1 := cell_later hb (v := .int .i64 Y) (a := ⟨w.heap.size, 1, none⟩) (by simp [go_sem])
        have s0 := cell_later hb (v := .int .i64 X) (a := ⟨w.heap.size + 1, 0, none⟩) (by simp [go_sem])
        have s1 := cell_later hb (v := .int .i64 Y) (a := ⟨w.heap.size + 1, 1, none⟩) (by simp [go_sem])
        clear hb hk
        have zf0 := blk_lt f0
        have zf1 := blk_lt f1
        have zs0 := blk_lt s0
        have zs1 := blk_lt s1
        go_wp2_with fail
        refine (H2.out _).mono ?_
        rintro e w2 ⟨rfl, hb⟩
        have hk : Below w1.heap.size w1 w2 := by first | exact hb | exact bl_tr (bl_al (bl0 _) _) hb | exact bl_tr (bl_dr (bl_al (bl0 _) _)) hb | exact bl_tr (bl_al (bl_al (bl0 _) _) _) hb | exact bl_tr (bl_dr (bl_al (bl_al (bl0 _) _) _)) hb | exact bl_tr (bl_al (bl_al (bl_al (bl0 _) _) _) _) hb | exact bl_tr (bl_dr (bl_al (bl_al (bl_al (bl0 _) _) _) _)) hb | exact bl_tr (bl_al (bl_al (bl_al (bl_al (bl0 _) _) _) _) _) hb | exact bl_tr (bl_dr (bl_al (bl_al (bl_al (bl_al (bl0 _) _) _) _) _)) hb | exact bl_tr (bl_al (bl_al (bl_al (bl_al (bl_al (bl0 _) _) _) _) _) _) hb | exact bl_tr (bl_dr (bl_al (bl_al (bl_al (bl_al (bl_al (bl0 _) _) _) _) _) _)) hb | exact bl_tr (bl_al (bl_al (bl_al (bl_al (bl_al (bl_al (bl0 _) _) _) _) _) _) _) hb | exact bl_tr (bl_dr (bl_al (bl_al (bl_al (bl_al (bl_al (bl_al (bl0 _) _) _) _) _) _) _)) hb | exact bl_tr (bl_dr (bl0 _)) hb
        replace hA := bl_tr hA hk
        replace s0 := cell_later hk s0
        replace s1 := cell_later hk s1
        clear hb hk
        have zs0 := blk_lt s0
        have zs1 := blk_lt s1
        go_wp2_with fail
        refine (H3.out _).mono ?_
        rintro e w3 ⟨ba, bc, rfl, hbr, hb⟩
        have hk : Below w2.heap.size w2 w3 := by first | exact hb | exact bl_tr (bl_al (bl0 _) _) hb | exact bl_tr (bl_dr (bl_al (bl0 _) _)) hb | exact bl_tr (bl_al (bl_al (bl0 _) _) _) hb | exact bl_tr (bl_dr (bl_al (bl_al (bl0 _) _) _)) hb | exact bl_tr (bl_al (bl_al (bl_al (bl0 _) _) _) _) hb | exact bl_tr (bl_dr (bl_al (bl_al (bl_al (bl0 _) _) _) _)) hb | exact bl_tr (bl_al (bl_al (bl_al (bl_al (bl0 _) _) _) _) _) hb | exact bl_tr (bl_dr (bl_al (bl_al (bl_al (bl_al (bl0 _) _) _) _) _)) hb | exact bl_tr (bl_al (bl_al (bl_al (bl_al (bl_al (bl0 _) _) _) _) _) _) hb | exact bl_tr (bl_dr (bl_al (bl_al (bl_al (bl_al (bl_al (bl0 _) _) _) _) _) _)) hb | exact bl_tr (bl_al (bl_al (bl_al (bl_al (bl_al (bl_al (bl0 _) _) _) _) _) _) _) hb | exact bl_tr (bl_dr (bl_al (bl_al (bl_al (bl_al (bl_al (bl_al (bl0 _) _) _) _) _) _) _)) hb | exact bl_tr (bl_dr (bl0 _)) hb
        replace hA := bl_tr hA hk
        clear hb hk
        clear hbr
        go_wp2
        go_ret
        exact ⟨rfl, hA⟩
    case pos =>
      obtain ⟨k0, rfl⟩ : ∃ k0 : Nat, id = k0 := ⟨id.toNat, by omega⟩
      obtain ⟨hk0, hk1⟩ := hin
      have hp : plcX X Y S k0 = 0 := plcX_yes.2 ⟨hrt, hk0, hk1⟩
      rw [hp, if_neg (fun q => q rfl)] at hx
      obtain ⟨BX', BY', U, V, hbb, ⟨b0, b1, b2, b3⟩, hbx, hhas⟩ := clu_box hp
      have hkb : k0 < (boxL X Y S).length := by rw [hbl]; omega
      have hat := boxL_at hkb
      have hbf : bxF X Y S k0 = ((BX', BY'), ((U : Int), (V : Int))) := by unfold bxF; rw [b0, b1, b2, b3]
      rw [hbf] at hat
      have hrB := (fitsB_iff.1 hbx.fits).1
      have HH := Lib.hid (fun (c : IC) (hc : wf64 c.1 ∧ wf64 c.2) w => rhas8_any BX' BY' U V c w hrB ⟨hbx.x.1, hbx.y.1⟩ hc)
      have HN := Lib.hid (fun (k : Nat) (h : wrgT X Y S k0 cs k = 0) => wrgT_next h)
      have HATK := Lib.hid (fun (k : Nat) (hk : k < cs.length) (h : wrgT X Y S k0 cs k = 0) (he : wrgE X Y S k0 cs k ≠ 0) => wrgI_at hk h he)
      have HE := Lib.hid (show ∀ (k : Nat) (hk : k < cs.length), wrgE X Y S k0 cs k = if inBx (BX', BY', (U : Int), (V : Int)) cs[k] = true then (if 0 < k ∧ 0 ≤ rowI (cs.getD (k - 1) (0, 0)) cs[k] then 11 else 0) else 10 from fun k hk => by unfold wrgE; rw [getD_c hk, hhas])
      have HZ := Lib.hid (show wrgT X Y S k0 cs 0 = 0 from rfl)
      have HEND := Lib.hid (show wrgI X Y S k0 cs = wrgT X Y S k0 cs cs.length from rfl)
      have HW := Lib.hid hw
      rw [← hx] at HATK HEND
      obtain ⟨T, hT⟩ : ∃ T, wrgT X Y S k0 cs = T := ⟨_, rfl⟩
      obtain ⟨EE, hEE⟩ : ∃ EE, wrgE X Y S k0 cs = EE := ⟨_, rfl⟩
      rw [hT] at HN HATK HZ HEND
      rw [hEE] at HN HATK HE
      obtain ⟨BL, hB⟩ : ∃ BL, boxL X Y S = BL := ⟨_, rfl⟩
      have hkB : k0 < BL.length := by rw [← hB]; exact hkb
      have hkb2 : (k0 : Int) < (BL.length : Int) := by omega
      have hge : ¬ ((BL.length : Int) ≤ (k0 : Int)) := by omega
      have hlt0 : ¬ ((k0 : Int) < 0) := by omega
      have d1 : decide (BL.length ≤ k0) = false := decide_eq_false (by omega)
      have d2 : decide ((k0 : Int) < 0) = false := decide_eq_false hlt0
      have HAT := Lib.hid (show BL[k0] = ((BX', BY'), ((U : Int), (V : Int))) by simp only [← hB]; exact hat)
      rw [hB] at H3
      have hl2 : (cs.length : Int) ≤ 1048576 := by omega
      clear hT hEE hB hat hkb hbf hbb b0 b1 b2 b3 hbx hhas hrB hp hx hcn n1 n2 hbl hrt hk1 hw
      go_enter Tryd.func35, Tryd.ntmps35
      go_wp2_with fail
      refine (H1.out _).mono ?_
      rintro e w1 ⟨rfl, hb⟩
      have hk : Below w.heap.size w w1 := by first | exact hb | exact bl_tr (bl_al (bl0 _) _) hb | exact bl_tr (bl_dr (bl_al (bl0 _) _)) hb | exact bl_tr (bl_al (bl_al (bl0 _) _) _) hb | exact bl_tr (bl_dr (bl_al (bl_al (bl0 _) _) _)) hb | exact bl_tr (bl_al (bl_al (bl_al (bl0 _) _) _) _) hb | exact bl_tr (bl_dr (bl_al (bl_al (bl_al (bl0 _) _) _) _)) hb | exact bl_tr (bl_al (bl_al (bl_al (bl_al (bl0 _) _) _) _) _) hb | exact bl_tr (bl_dr (bl_al (bl_al (bl_al (bl_al (bl0 _) _) _) _) _)) hb | exact bl_tr (bl_al (bl_al (bl_al (bl_al (bl_al (bl0 _) _) _) _) _) _) hb | exact bl_tr (bl_dr (bl_al (bl_al (bl_al (bl_al (bl_al (bl0 _) _) _) _) _) _)) hb | exact bl_tr (bl_al (bl_al (bl_al (bl_al (bl_al (bl_al (bl0 _) _) _) _) _) _) _) hb | exact bl_tr (bl_dr (bl_al (bl_al (bl_al (bl_al (bl_al (bl_al (bl0 _) _) _) _) _) _) _)) hb | exact bl_tr (bl_dr (bl0 _)) hb
      replace hA := bl_tr hA hk
      have f0 := cell_later hb (v := .int .i64 X) (a := ⟨w.heap.size, 0, none⟩) (by simp [go_sem])
      have f1 := cell_later hb (v := .int .i64 Y) (a := ⟨w.heap.size, 1, none⟩) (by simp [go_sem])
      have s0 := cell_later hb (v := .int .i64 X) (a := ⟨w.heap.size + 1, 0, none⟩) (by simp [go_sem])
      have s1 := cell_later hb (v := .int .i64 Y) (a := ⟨w.heap.size + 1, 1, none⟩) (by simp [go_sem])
      clear hb hk
      have zf0 := blk_lt f0
      have zf1 := blk_lt f1
      have zs0 := blk_lt s0
      have zs1 := blk_lt s1
      go_wp2_with fail
      refine (H2.out _).mono ?_
      rintro e w2 ⟨rfl, hb⟩
      have hk : Below w1.heap.size w1 w2 := by first | exact hb | exact bl_tr (bl_al (bl0 _) _) hb | exact bl_tr (bl_dr (bl_al (bl0 _) _)) hb | exact bl_tr (bl_al (bl_al (bl0 _) _) _) hb | exact bl_tr (bl_dr (bl_al (bl_al (bl0 _) _) _)) hb | exact bl_tr (bl_al (bl_al (bl_al (bl0 _) _) _) _) hb | exact bl_tr (bl_dr (bl_al (bl_al (bl_al (bl0 _) _) _) _)) hb | exact bl_tr (bl_al (bl_al (bl_al (bl_al (bl0 _) _) _) _) _) hb | exact bl_tr (bl_dr (bl_al (bl_al (bl_al (bl_al (bl0 _) _) _) _) _)) hb | exact bl_tr (bl_al (bl_al (bl_al (bl_al (bl_al (bl0 _) _) _) _) _) _) hb | exact bl_tr (bl_dr (bl_al (bl_al (bl_al (bl_al (bl_al (bl0 _) _) _) _) _) _)) hb | exact bl_tr (bl_al (bl_al (bl_al (bl_al (bl_al (bl_al (bl0 _) _) _) _) _) _) _) hb | exact bl_tr (bl_dr (bl_al (bl_al (bl_al (bl_al (bl_al (bl_al (bl0 _) _) _) _) _) _) _)) hb | exact bl_tr (bl_dr (bl0 _)) hb
      replace hA := bl_tr hA hk
      replace s0 := cell_later hk s0
      replace s1 := cell_later hk s1
      clear hb hk
      have zs0 := blk_lt s0
      have zs1 := blk_lt s1
      go_wp2_with fail
      refine (H3.out _).mono ?_
      rintro e w3 ⟨ba, bc, rfl, hbr, hb⟩
      have hk : Below w2.heap.size w2 w3 := by first | exact hb | exact bl_tr (bl_al (bl0 _) _) hb | exact bl_tr (bl_dr (bl_al (bl0 _) _)) hb | exact bl_tr (bl_al (bl_al (bl0 _) _) _) hb | exact bl_tr (bl_dr (bl_al (bl_al (bl0 _) _) _)) hb | exact bl_tr (bl_al (bl_al (bl_al (bl0 _) _) _) _) hb | exact bl_tr (bl_dr (bl_al (bl_al (bl_al (bl0 _) _) _) _)) hb | exact bl_tr (bl_al (bl_al (bl_al (bl_al (bl0 _) _) _) _) _) hb | exact bl_tr (bl_dr (bl_al (bl_al (bl_al (bl_al (bl0 _) _) _) _) _)) hb | exact bl_tr (bl_al (bl_al (bl_al (bl_al (bl_al (bl0 _) _) _) _) _) _) hb | exact bl_tr (bl_dr (bl_al (bl_al (bl_al (bl_al (bl_al (bl0 _) _) _) _) _) _)) hb | exact bl_tr (bl_al (bl_al (bl_al (bl_al (bl_al (bl_al (bl0 _) _) _) _) _) _) _) hb | exact bl_tr (bl_dr (bl_al (bl_al (bl_al (bl_al (bl_al (bl_al (bl0 _) _) _) _) _) _) _)) hb | exact bl_tr (bl_dr (bl0 _)) hb
      replace hA := bl_tr hA hk
      clear hb hk
      have HRC := Lib.hid (hcs.below hA)
      have HBR := Lib.hid hbr
      have HA := Lib.hid hA
      clear hcs hbr hA
      go_wp2_with fail
      go_loopw [13] (fun iv wr => ∃ k : Nat, k ≤ cs.length ∧ iv = .int .i64 k ∧ T k = 0 ∧ Below w3.heap.size w3 wr) (fun iv _ => cs.length - (intOf iv).toNat)
      case atStart => exact ⟨0, Nat.zero_le _, rfl, HZ.out, bl0 _⟩
      case round =>
        obtain ⟨k, hkl, rfl, ht, hB⟩ := hrel
        have hkk0 : (0 : Int) ≤ (k : Int) := by omega
        by_cases hlt : k < cs.length
        · have hlt2 : (k : Int) < (cs.length : Int) := by omega
          have he := HE.out k hlt
          have hat := HATK.out k hlt ht
          have hnx := HN.out k ht
          have hwc := HW.out _ (List.getElem_mem hlt)
          obtain ⟨gb, go, rfl, q0, q1⟩ := (HRC.out.below hB).cell hlt
          have hprev : 0 < k → ∃ d : IC, cs.getD (k - 1) (0, 0) = d ∧ wr.cell? ⟨gb, go + (k - 1) * 2, none⟩ = some (.int .i64 d.1) ∧ wr.cell? ⟨gb, go + (k - 1) * 2 + 1, none⟩ = some (.int .i64 d.2) := fun h0 => by
            obtain ⟨gb2, go2, e, r0, r1⟩ := (HRC.out.below hB).cell (show k - 1 < cs.length by omega)
            cases e
            exact ⟨_, getD_c (by omega), r0, r1⟩
          obtain ⟨hb0, ho0, rfl, ⟨u0, u1⟩, u2, u3⟩ := (HBR.out.below hB).cell hkB
          rw [HAT.out] at u0 u1 u2 u3
          simp only at u0 u1 u2 u3
          obtain ⟨c, hc⟩ : ∃ c, cs[k] = c := ⟨_, rfl⟩
          rw [hc] at he q0 q1 hwc
          have HHC := Lib.hid (HH.out c hwc)
          obtain ⟨t, htt⟩ : ∃ t, inBx (BX', BY', (U : Int), (V : Int)) c = t := ⟨_, rfl⟩
          rw [htt] at he HHC
          have HP := Lib.hid hprev
          have HAK := Lib.hid hat
          have HNX := Lib.hid hnx
          have HEK := Lib.hid he
          have HQ := Lib.hid (And.intro q0 q1)
          clear hprev hc htt hat hnx he hwc
          have hB2 := bl_dr (bl0 wr)
          go_upto_region 12 with fail
          go_region_held3 (fun W => (W.cell? ⟨hb0, ho0 + k0 * 4, none⟩ = some (.int .i64 BX') ∧ W.cell? ⟨hb0, ho0 + k0 * 4 + 1, none⟩ = some (.int .i64 BY') ∧ W.cell? ⟨hb0, ho0 + k0 * 4 + 2, none⟩ = some (.int .i64 U) ∧ W.cell? ⟨hb0, ho0 + k0 * 4 + 3, none⟩ = some (.int .i64 V)) ∧ W.cell? ⟨gb, go + k * 2, none⟩ = some (.int .i64 c.1) ∧ W.cell? ⟨gb, go + k * 2 + 1, none⟩ = some (.int .i64 c.2))
            (exact ⟨⟨cell_later hB2 u0, cell_later hB2 u1, cell_later hB2 u2, cell_later hB2 u3⟩, cell_later hB2 q0, cell_later hB2 q1⟩)
            ((go_at_call 19; (with_reducible refine (HHC.out _).mono ?_); rintro e w9 ⟨rfl, hb9⟩; replace hB2 := bl_tr hB2 hb9))
          all_goals
            have HB2 := Lib.hid hB2
            have HB3 := Lib.hid (bl_tr hB hB2)
            clear u0 u1 u2 u3 q0 q1 hB2
            cases t
            · have he := HEK.out
              rw [if_neg (by decide)] at he
              have hxx := HAK.out (by rw [he]; decide)
              rw [he] at hxx
              subst hxx
              go_wp2
              go_ret
              exact ⟨rfl, bl_tr HA.out HB3.out⟩
            · have he := HEK.out
              rw [if_pos rfl] at he
              by_cases h0 : k = 0
              · rw [if_neg (fun h => by have := h.1; omega)] at he
                have HN1 := Lib.hid (HNX.out.trans he)
                have hgd : decide ((0 : Int) < (k : Int)) = false := decide_eq_false (by omega)
                have hg0 : ¬ (0 : Int) < (k : Int) := by omega
                have hgn : decide (0 < k) = false := decide_eq_false (by omega)
                have hgm : ¬ 0 < k := by omega
                clear he h0
                go_wp2
                go_quiet (fail)
                go_wp2
                go_roundw
                case rel => exact ⟨k + 1, by omega, by go_num, HN1.out, bl_tr HB3.out (bl_drn _ _)⟩
                case measure => simp [intOf]; omega
              · obtain ⟨d, hd, r0, r1⟩ := HP.out (by omega)
                rw [hd] at he
                have hEV : EE k = if (c.2 < d.2 ∨ (c.2 = d.2 ∧ c.1 ≤ d.1)) then 11 else 0 := by
                  rw [he]
                  by_cases q : 0 ≤ rowI d c
                  · rw [if_pos ⟨by omega, q⟩, if_pos ((rowI_ref d c).1 q)]
                  · rw [if_neg (fun h => q h.2), if_neg (fun h => q ((rowI_ref d c).2 h))]
                have q0 := cell_later HB2.out HQ.out.1
                have q1 := cell_later HB2.out HQ.out.2
                replace r0 := cell_later HB2.out r0
                replace r1 := cell_later HB2.out r1
                have hgd : decide ((0 : Int) < (k : Int)) = true := decide_eq_true (by omega)
                have hg0 : (0 : Int) < (k : Int) := by omega
                have hgn : decide (0 < k) = true := decide_eq_true (by omega)
                have hgm : 0 < k := by omega
                have hkw : IntKind.i64.wrap ((k : Int) - 1) = ((k - 1 : Nat) : Int) := by rw [IntWalk.i64_in _ (by omega)]; omega
                have hj1 : (0 : Int) ≤ ((k - 1 : Nat) : Int) := by omega
                have hj2 : ((k - 1 : Nat) : Int) < (cs.length : Int) := by omega
                generalize hkk : k - 1 = j at *
                clear hd he hkk h0
                have HEV := Lib.hid hEV
                clear hEV
                by_cases c1 : c.2 < d.2
                · have he := HEV.out
                  rw [if_pos (.inl c1)] at he
                  have hxx := HAK.out (by rw [he]; decide)
                  rw [he] at hxx
                  subst hxx
                  have b1 : decide (c.2 < d.2) = true := decide_eq_true c1
                  go_wp2
                  go_quiet (fail)
                  go_wp2
                  go_ret
                  exact ⟨rfl, bl_tr HA.out (bl_tr HB3.out (bl_drn _ _))⟩
                · have b1 : decide (c.2 < d.2) = false := decide_eq_false c1
                  by_cases c2 : c.2 = d.2
                  · have b2 : (c.2 == d.2) = true := by rw [beq_iff_eq]; exact c2
                    by_cases c3 : c.1 ≤ d.1
                    · have he := HEV.out
                      rw [if_pos (.inr ⟨c2, c3⟩)] at he
                      have hxx := HAK.out (by rw [he]; decide)
                      rw [he] at hxx
                      subst hxx
                      have b3 : decide (c.1 ≤ d.1) = true := decide_eq_true c3
                      clear c2
                      go_wp2
                      go_quiet (fail)
                      go_wp2
                      go_ret
                      exact ⟨rfl, bl_tr HA.out (bl_tr HB3.out (bl_drn _ _))⟩
                    · have he := HEV.out
                      rw [if_neg (fun h => by rcases h with h | h; exact c1 h; exact c3 h.2)] at he
                      have HN1 := Lib.hid (HNX.out.trans he)
                      have b3 : decide (c.1 ≤ d.1) = false := decide_eq_false c3
                      clear c2
                      go_wp2
                      go_quiet (fail)
                      go_wp2
                      go_roundw
                      case rel => exact ⟨k + 1, by omega, by go_num, HN1.out, bl_tr HB3.out (bl_drn _ _)⟩
                      case measure => simp [intOf]; omega
                  · have he := HEV.out
                    rw [if_neg (fun h => by rcases h with h | h; exact c1 h; exact c2 h.1)] at he
                    have HN1 := Lib.hid (HNX.out.trans he)
                    have b2 : (c.2 == d.2) = false := by rw [beq_eq_false_iff_ne]; exact c2
                    go_wp2
                    go_quiet (fail)
                    go_wp2
                    go_roundw
                    case rel => exact ⟨k + 1, by omega, by go_num, HN1.out, bl_tr HB3.out (bl_drn _ _)⟩
                    case measure => simp [intOf]; omega
        · obtain rfl : k = cs.length := by omega
          have hge2 : ¬ (cs.length : Int) < (cs.length : Int) := by omega
          have hE0 : E = 0 := HEND.out.trans ht
          subst hE0
          go_wp2
          go_ret
          exact ⟨rfl, bl_tr HA.out hB⟩
end Go.Proofs.YtbdfjdipjacamaaDoor

/- The frame's parts for the laws of parts: parts as an argument. -/
namespace Go.Proofs.YtbdfjdipjacamaaDoor
open Go.ChangeShapes Go.WideShapes Go.ChangeAt Go.RowKit Go.Joins

theorem array3 {cs : Array Value} (h : cs.size = 3) : ∃ c0 c1 c2, cs = #[c0, c1, c2] := by
  obtain ⟨l⟩ := cs
  match l, h with
  | [c0, c1, c2], _ => exact ⟨c0, c1, c2, rfl⟩
theorem Tryd.cParts : Tryd.prog.cellsOf 53 = 3 := by kernel_rfl
set_option maxRecDepth 100000 in
theorem size_two {H : Type} {enc : TypeId × Value → H} {w : World} {base : Nat} {sp : Nat → Bool} {held : Bool} {m : Nat} {l : List Value} {x : DataW H × List MemPlace}
    (h : DataW.trod enc Tryd.prog w base sp held m 23 l = some x) : ∃ a b : Int, l = [.int .i64 a, .int .i64 b] := by
  obtain ⟨y0, y1, n, rfl, hl, t0, t1⟩ := trod_struct2 Tryd.underlying23 h
  rw [Tryd.cSize] at hl
  obtain ⟨c0, c1, rfl⟩ := two_of_len hl
  simp only [Tryd.cInt] at t0 t1
  obtain ⟨p, e0, rfl, w0⟩ := DataW.trod_int Tryd.underlying3 t0
  obtain ⟨q, e1, rfl, w1⟩ := DataW.trod_int Tryd.underlying3 t1
  simp at e0 e1
  exact ⟨p, q, by rw [e0, e1]⟩
set_option maxRecDepth 100000 in
theorem open_parts {H : Type} {enc : TypeId × Value → H} {W : World} {r : Reach} {b0 base : Nat} {held : Bool} {v : Value} {d : DataW H} {p : List MemPlace}
    (hv : Value.okWide Tryd.prog W r b0 53 v) (h : DataW.Trod enc Tryd.prog W base (fun _ => true) held 53 v d p) : ∃ (x y n : Int), v = .agg #[.int .i64 x, .int .i64 y, .int .i64 n] := by
  simp only [Value.okWide, Tryd.underlying53] at hv
  obtain ⟨cs, rfl, hsz, _⟩ := hv
  rw [Tryd.cParts] at hsz
  obtain ⟨c0, c1, c2, rfl⟩ := array3 hsz
  obtain ⟨fuel, hf⟩ := h
  obtain ⟨y0, y1, n, _, _, hy0, hy1⟩ := trod_struct2 Tryd.underlying53 hf
  simp only [Value.cells] at hy0 hy1
  have h0 : DataW.trod enc Tryd.prog W base (fun _ => true) held n 23 [c0, c1] = some y0 := by
    have e : (([c0, c1, c2].drop 0).take (Tryd.prog.cellsOf 23)) = [c0, c1] := by rw [Tryd.cSize]; rfl
    rw [← e]; exact hy0
  have h1 : DataW.trod enc Tryd.prog W base (fun _ => true) held n 3 [c2] = some y1 := by
    have e : (([c0, c1, c2].drop 2).take (Tryd.prog.cellsOf 3)) = [c2] := by rw [Tryd.cInt]; rfl
    rw [← e]; exact hy1
  obtain ⟨a, b, e0⟩ := size_two h0
  obtain ⟨q, e1, rfl, w1⟩ := DataW.trod_int Tryd.underlying3 h1
  simp at e0 e1
  obtain ⟨rfl, rfl⟩ := e0
  subst e1
  exact ⟨a, b, q, rfl⟩
end Go.Proofs.YtbdfjdipjacamaaDoor

/- The frame's parts for the laws of tables: a cluster, cells of it and one cell as an argument. -/
namespace Go.Proofs.YtbdfjdipjacamaaDoor
open Go.ChangeShapes Go.WideShapes Go.ChangeAt Go.RowKit Go.Joins

theorem wf64_of {z : Int} (h : (Lit.int .i64 z).wf = true) : wf64 z := bounds_i64 h
theorem read_u16c {H : Type} {enc : TypeId × Value → H} {W : World} {base : Nat} {held : Bool} {m : Nat} {cs : List Value} {x : DataW H × List MemPlace}
    (h : DataW.trod enc Tryd.prog W base (fun _ => true) held m 24 cs = some x) : ∃ (a : Option Addr) (cap : Nat) (zs : List Int), cs = [.slice a zs.length cap] ∧ zs.length ≤ maxLen ∧ RowH W a zs ∧ AllH zs ∧ zs.length ≤ cap := by
  rcases open_ints Tryd.underlying24 Tryd.underlying82 Tryd.cU16 h with ⟨rfl, _⟩ | ⟨a, l, c, zs, rfl, _, hl, hm, hz, _, hcell, hwf⟩
  · exact ⟨none, 0, [], rfl, Nat.zero_le _, .inl rfl, (fun z hz => by simp at hz), Nat.le_refl _⟩
  · have hz' : zs.length = c := by simpa using hz
    refine ⟨some a, c, zs.take l, by simp; omega, by simp; omega, rowH_cells (C := c) (by omega) (fun e => by cases e) hz' (fun a' e => by cases e; exact hcell), (fun z hz => inH_of (hwf z (List.mem_of_mem_take hz))), by simp; omega⟩
set_option maxRecDepth 100000 in
theorem open_fieldc {H : Type} {enc : TypeId × Value → H} {W : World} {r : Reach} {b0 base : Nat} {held : Bool} {v : Value} {d : DataW H} {p : List MemPlace}
    (hv : Value.okWide Tryd.prog W r b0 26 v) (h : DataW.Trod enc Tryd.prog W base (fun _ => true) held 26 v d p) : ∃ (X Y : Int) (a : Option Addr) (cap : Nat) (zs : List Int),
      v = .agg #[.int .i64 X, .int .i64 Y, .slice a zs.length cap] ∧ zs.length ≤ maxLen ∧ RowH W a zs ∧ AllH zs ∧ zs.length ≤ cap := by
  simp only [Value.okWide, Tryd.underlying26] at hv
  obtain ⟨cs, rfl, hsz, _⟩ := hv
  rw [Tryd.cField] at hsz
  obtain ⟨c0, c1, c2, rfl⟩ := array3 hsz
  obtain ⟨fuel, hf⟩ := h
  obtain ⟨y0, y1, n, _, _, hy0, hy1⟩ := trod_struct2 Tryd.underlying26 hf
  simp only [Value.cells] at hy0 hy1
  have h0 : DataW.trod enc Tryd.prog W base (fun _ => true) held n 23 [c0, c1] = some y0 := by
    have e : (([c0, c1, c2].drop 0).take (Tryd.prog.cellsOf 23)) = [c0, c1] := by rw [Tryd.cSize]; rfl
    rw [← e]; exact hy0
  have h1 : DataW.trod enc Tryd.prog W base (fun _ => true) held n 24 [c2] = some y1 := by
    have e : (([c0, c1, c2].drop 2).take (Tryd.prog.cellsOf 24)) = [c2] := by rw [Tryd.cRow]; rfl
    rw [← e]; exact hy1
  obtain ⟨z0, z1, m, _, _, hz0, hz1⟩ := trod_struct2 Tryd.underlying23 h0
  have g0 : DataW.trod enc Tryd.prog W base (fun _ => true) held m 3 [c0] = some z0 := by
    have e : (([c0, c1].drop 0).take (Tryd.prog.cellsOf 3)) = [c0] := by rw [Tryd.cInt]; rfl
    rw [← e]; exact hz0
  have g1 : DataW.trod enc Tryd.prog W base (fun _ => true) held m 3 [c1] = some z1 := by
    have e : (([c0, c1].drop 1).take (Tryd.prog.cellsOf 3)) = [c1] := by rw [Tryd.cInt]; rfl
    rw [← e]; exact hz1
  obtain ⟨X, e0, _, _⟩ := DataW.trod_int Tryd.underlying3 g0
  obtain ⟨Y, e1, _, _⟩ := DataW.trod_int Tryd.underlying3 g1
  obtain ⟨a, cap, zs, e2, hl, hr, hu⟩ := read_u16c h1
  simp at e0 e1 e2
  subst e0 e1 e2
  exact ⟨X, Y, a, cap, zs, rfl, hl, hr, hu⟩
set_option maxRecDepth 100000 in
/-- A row of cells, read off its cells: every number is one of 64 bits. -/
theorem read_roww {H : Type} {enc : TypeId × Value → H} {W : World} {held : Bool} {m : Nat} {cs : List Value} {x : DataW H × List MemPlace}
    (h : DataW.trod enc Tryd.prog W 0 (fun _ => true) held m 44 cs = some x) : ∃ (a : Option Addr) (cap : Nat) (zs : List (Int × Int)), cs = [.slice a zs.length cap] ∧ zs.length ≤ maxLen ∧ RowC W a zs ∧ zs.length ≤ cap ∧ AllW zs := by
  rcases Go.Deep.open_slice_pairs Tryd.underlying44 Tryd.underlying30 Tryd.cCell rfl rfl Tryd.cInt Tryd.cInt h with ⟨rfl, _⟩ | ⟨a, len, cap, m', n, V0, V1, D0, D1, P0, P1, rfl, _, hl, hm, hmm, _, hc⟩
  · exact ⟨none, 0, [], rfl, Nat.zero_le _, .inl rfl, Nat.le_refl _, fun c hc => by cases hc⟩
  · have hmm' : m' = cap := by simpa using hmm
    subst hmm'
    refine ⟨some a, m', (List.range len).map (fun i => (intOf (V0 i), intOf (V1 i))), by simp, by rw [List.length_map, List.length_range]; exact Nat.le_trans hl hm, ?_, by rw [List.length_map, List.length_range]; exact hl, ?_⟩
    · by_cases h0 : len = 0
      · exact .inl (by simp [h0])
      · obtain ⟨b, off, spot⟩ := a
        have hspot : spot = none := by simpa [Addr.add] using World.cell?_spot (hc 0 (by omega)).1
        subst hspot
        have hadd := add_none b off
        refine .inr ⟨b, off, rfl, fun i z hz => ?_⟩
        have hi : i < len := by
          have := (List.getElem?_eq_some_iff.1 hz).1
          simpa using this
        simp [hi] at hz
        subst hz
        obtain ⟨q0, q1, t0, t1⟩ := hc i (by omega)
        obtain ⟨p, e0, _, _⟩ := DataW.trod_int Tryd.underlying3 t0
        obtain ⟨q, e1, _, _⟩ := DataW.trod_int Tryd.underlying3 t1
        simp at e0 e1
        rw [hadd, e0] at q0
        rw [hadd, e1] at q1
        rw [e0, e1]
        exact ⟨q0, q1⟩
    · intro c hcm
      obtain ⟨i, hi, rfl⟩ := List.mem_map.1 hcm
      have hi' : i < len := List.mem_range.1 hi
      obtain ⟨q0, q1, t0, t1⟩ := hc i (by omega)
      obtain ⟨p, e0, _, w0⟩ := DataW.trod_int Tryd.underlying3 t0
      obtain ⟨q, e1, _, w1⟩ := DataW.trod_int Tryd.underlying3 t1
      simp at e0 e1
      show wf64 (intOf (V0 i)) ∧ wf64 (intOf (V1 i))
      rw [e0, e1]
      exact ⟨wf64_of w0, wf64_of w1⟩
theorem Tryd.cCase13 : Tryd.prog.cellsOf 68 = 4 := by kernel_rfl
set_option maxRecDepth 100000 in
theorem read_case13 {H : Type} {enc : TypeId × Value → H} {W : World} {held : Bool} {m : Nat} {cs : List Value} {x : DataW H × List MemPlace}
    (h : DataW.trod enc Tryd.prog W 0 (fun _ => true) held m 68 cs = some x) : ∃ (n : Int) (a : Option Addr) (cap : Nat) (zs : List (Int × Int)) (p : Int × Int),
      cs = [.int .i64 n, .slice a zs.length cap, .int .i64 p.1, .int .i64 p.2] ∧ zs.length ≤ maxLen ∧ RowC W a zs ∧ zs.length ≤ cap ∧ AllW zs ∧ wf64 p.1 ∧ wf64 p.2 := by
  obtain ⟨y0, y1, y2, n, _, hl, hy0, hy1, hy2⟩ := Go.Deep.trod_struct3 Tryd.underlying68 h
  rw [Tryd.cCase13] at hl
  match cs, hl with
  | [c0, c1, c2, c3], _ =>
    have h0 : DataW.trod enc Tryd.prog W 0 (fun _ => true) held n 3 [c0] = some y0 := by
      have e : (([c0, c1, c2, c3].drop 0).take (Tryd.prog.cellsOf 3)) = [c0] := by rw [Tryd.cInt]; rfl
      rw [← e]; exact hy0
    have h1 : DataW.trod enc Tryd.prog W 0 (fun _ => true) held n 44 [c1] = some y1 := by
      have e : (([c0, c1, c2, c3].drop 1).take (Tryd.prog.cellsOf 44)) = [c1] := by rw [Tryd.cCells]; rfl
      rw [← e]; exact hy1
    have h2 : DataW.trod enc Tryd.prog W 0 (fun _ => true) held n 30 [c2, c3] = some y2 := by
      have e : (([c0, c1, c2, c3].drop 2).take (Tryd.prog.cellsOf 30)) = [c2, c3] := by rw [Tryd.cCell]; rfl
      rw [← e]; exact hy2
    obtain ⟨q, e0, _, _⟩ := DataW.trod_int Tryd.underlying3 h0
    obtain ⟨a, cap, zs, e1, r⟩ := read_roww h1
    obtain ⟨s, t, e2, w0, w1⟩ := cell_two h2
    simp at e0 e1 e2
    obtain ⟨rfl, rfl⟩ := e2
    subst e0 e1
    exact ⟨q, a, cap, zs, (s, t), rfl, r.1, r.2.1, r.2.2.1, r.2.2.2, wf64_of w0, wf64_of w1⟩
set_option maxRecDepth 100000 in
theorem open_case13 {H : Type} {enc : TypeId × Value → H} {W : World} {r : Reach} {b0 : Nat} {held : Bool} {v : Value} {d : DataW H} {p : List MemPlace}
    (hv : Value.okWide Tryd.prog W r b0 68 v) (h : DataW.Trod enc Tryd.prog W 0 (fun _ => true) held 68 v d p) : ∃ (n : Int) (a : Option Addr) (cap : Nat) (zs : List (Int × Int)) (p : Int × Int),
      v = .agg #[.int .i64 n, .slice a zs.length cap, .int .i64 p.1, .int .i64 p.2] ∧ zs.length ≤ maxLen ∧ RowC W a zs ∧ zs.length ≤ cap ∧ AllW zs ∧ wf64 p.1 ∧ wf64 p.2 := by
  simp only [Value.okWide, Tryd.underlying68] at hv
  obtain ⟨cs, rfl, hsz, _⟩ := hv
  obtain ⟨fuel, hf⟩ := h
  simp only [Value.cells] at hf
  obtain ⟨n, a, cap, zs, p, e, r⟩ := read_case13 hf
  obtain ⟨l⟩ := cs
  simp only at e
  subst e
  exact ⟨n, a, cap, zs, p, rfl, r⟩
end Go.Proofs.YtbdfjdipjacamaaDoor
