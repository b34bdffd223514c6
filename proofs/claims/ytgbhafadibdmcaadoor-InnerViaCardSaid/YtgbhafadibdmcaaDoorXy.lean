/- Package sat: Via, of a row and a table of rows that are all as long. -/
import Derived.Test.YtgbhafadibdmcaaDoorL1
import Derived.Shelf.Abstract
namespace Go.Proofs.YtgbhafadibdmcaaDoor
open Go.RowKit

theorem AllU.atQ {l : List Int} (h : AllU l) {k : Nat} (hk : k < l.length) : inU (atD l k) := by rw [← atD_get hk]; exact h _ (List.getElem_mem hk)
theorem made_eqQ (n : Nat) (v : Value) : madeCells #[v] n = Array.replicate n v := by
  apply Array.ext
  · simp [madeCells]
  · intro i h1 h2
    simp [madeCells, Nat.mod_one]
/-- The first k costs told, and the others 0. -/
def RowTo (W : World) (g n k : Nat) (f : Nat → Int) : Prop := W.heap[g]? = some (.cells ((List.range n).map (fun j => Value.int .u64 (if j < k then f j else 0))).toArray 36 (0, 0))
theorem rowTo_zero {w : World} {n : Nat} (f : Nat → Int) : RowTo (w.alloc (.cells (Array.replicate n (Value.int .u64 0)) 36)) w.heap.size n 0 f := by
  unfold RowTo
  rw [heap_alloc_new]
  congr 2
  apply Array.ext
  · simp
  · intro i h1 h2
    simp
theorem RowTo.succ {W : World} {g n k : Nat} {f : Nat → Int} (h : RowTo W g n k f) : RowTo (W.setCell ⟨g, k, none⟩ (.int .u64 (f k))) g n (k + 1) f := by
  unfold RowTo at *
  rw [heap_setCell_same _ _ _ _ _ _ h, List.setIfInBounds_toArray]
  congr 3
  refine List.ext_getElem (by simp) fun i h1 h2 => ?_
  simp only [List.getElem_set, List.getElem_map, List.getElem_range]
  by_cases e : k = i
  · subst e; simp
  · rw [if_neg e]
    by_cases h : i < k
    · rw [if_pos h, if_pos (by omega)]
    · rw [if_neg h, if_neg (by omega)]
theorem RowTo.cell {W : World} {g n k j : Nat} {f : Nat → Int} (h : RowTo W g n k f) (hj : j < n) : W.cell? ⟨g, j, none⟩ = some (.int .u64 (if j < k then f j else 0)) := by
  simp [World.cell?, show W.heap[g]? = _ from h, hj]
theorem RowTo.fz {W : World} {g n k j : Nat} {f : Nat → Int} (h : RowTo W g n k f) : W.frozen? ⟨g, j, none⟩ = false := by
  simp [World.frozen?, show W.heap[g]? = _ from h]
theorem RowTo.below {W W' : World} {g n k : Nat} {f : Nat → Int} (h : RowTo W g n k f) (hb : Below W.heap.size W W') : RowTo W' g n k f := (hb.block g (Array.getElem?_eq_some_iff.1 h).1).trans h
theorem RowTo.row {W : World} {g n : Nat} {f : Nat → Int} (h : RowTo W g n n f) : RowU W (some ⟨g, 0, none⟩) ((List.range n).map f) := by
  refine .inr ⟨g, 0, rfl, fun i z hz => ?_⟩
  rw [List.getElem?_map, Option.map_eq_some_iff] at hz
  obtain ⟨j, hj, rfl⟩ := hz
  have hi : i < n := by have := (List.getElem?_eq_some_iff.1 hj).1; simpa using this
  obtain rfl : i = j := by simpa [hi] using hj
  rw [Nat.zero_add, h.cell hi, if_pos hi]

set_option maxHeartbeats 800000 in
theorem row_any (F : FuncId) (cap : Array Value) (n : Nat) (f : Nat → Int) (w : World) (hn : n ≤ 1048576) (hF : ∀ args w, (callFunc F args).run Tryd.prog w = .ok (.enter F args) w)
    (hat : ∀ (k : Nat) (W : World), k < n → Below w.heap.size w W → Calls Tryd.prog F (#[.int .i64 (k : Int)] ++ cap) W fun e W' => e = .returned (.int .u64 (f k)) ∧ Below W.heap.size W W') :
    Calls Tryd.prog 44 #[.int .i64 (n : Int), .func (.func F) #[] cap] w fun e w' => e = .returned (.slice (some ⟨w.heap.size, 0, none⟩) n n) ∧ RowU w' (some ⟨w.heap.size, 0, none⟩) ((List.range n).map f) ∧ Below w.heap.size w w' := by
  have hmk := fun w => make_u64 n hn w
  have hn2 : (n : Int) ≤ 1048576 := by omega
  have HAT := Lib.hid hat
  clear hat
  have h0 := rowTo_zero (w := w) (n := n) f
  have HR := Lib.hid h0
  clear h0
  go_enter Tryd.func44, Tryd.ntmps44
  go_wp2
  obtain ⟨g, hg⟩ : ∃ g, w.heap.size = g := ⟨_, rfl⟩
  have hB0 : Below g w (w.alloc (.cells (Array.replicate n (Value.int .u64 0)) 36)) := by rw [← hg]; exact bl_al (bl0 w) _
  rw [hg] at HR
  have HG := Lib.hid hg
  rw [hg]
  clear hg hmk
  go_loopw [11] (fun i wr => ∃ k : Nat, k ≤ n ∧ i = .int .i64 k ∧ RowTo wr g n k f ∧ Below g w wr) (fun i _ => n - (intOf i).toNat)
  case atStart => exact ⟨0, Nat.zero_le _, rfl, HR.out, hB0⟩
  case round =>
    clear hB0 HR
    obtain ⟨k, hk, rfl, hrow, hB⟩ := hrel
    by_cases hlt : k < n
    · have hlt2 : (k : Int) < (n : Int) := by omega
      have hk0 : (0 : Int) ≤ (k : Int) := by omega
      have HB := Lib.hid hB
      have HRW := Lib.hid hrow
      clear hB hrow
      go_wp2_with fail
      refine (HAT.out k _ hlt (by rw [HG.out]; exact HB.out)).mono ?_
      rintro e W2 ⟨rfl, hb⟩
      have hr2 := HRW.out.below hb
      have q := hr2.cell hlt
      have fz := hr2.fz (j := k)
      have HR2 := Lib.hid hr2
      have HB2 := Lib.hid (HB.out.trans (hb.mono (by rw [← HG.out]; exact HB.out.size)))
      clear hb HRW HB hr2
      go_wp2
      go_roundw
      case rel => exact ⟨k + 1, by omega, by go_num, HR2.out.succ, HB2.out.setCell (p := ⟨g, k, none⟩) (Nat.le_refl _) _⟩
      case measure => simp [intOf]; omega
    · obtain rfl : k = n := by omega
      have hge : (k : Int) ≤ (k : Int) := by omega
      go_wp2
      go_ret
      rw [HG.out]
      exact ⟨rfl, hrow.row, hB⟩

/-- What stands at a place of a row by a table. -/
def viaTo (xs : List Int) (rs : List (List Int)) (p k : Nat) : Int := (List.zipWith (fun x r => addC x (atD r p)) (xs.take k) (rs.take k)).foldl minC 18446744073709551615
def viaAt (xs : List Int) (rs : List (List Int)) (p : Nat) : Int := viaTo xs rs p xs.length
theorem viaTo_succ {xs : List Int} {rs : List (List Int)} {p k : Nat} {z : List Int} (hx : k < xs.length) (hz : rs[k]? = some z) : viaTo xs rs p (k + 1) = minC (viaTo xs rs p k) (addC (atD xs k) (atD z p)) := by
  have hr := (List.getElem?_eq_some_iff.1 hz).1
  have hz' : rs[k] = z := (List.getElem?_eq_some_iff.1 hz).2
  unfold viaTo
  rw [List.take_succ_eq_append_getElem hx, List.take_succ_eq_append_getElem hr, List.zipWith_append (by simp; omega), List.foldl_append, hz', atD_get hx]
  rfl
theorem viaTo_zero (xs : List Int) (rs : List (List Int)) (p : Nat) : viaTo xs rs p 0 = 18446744073709551615 := rfl
/-- The least of all: one of them, and none is less. -/
theorem viaTo_eq {xs : List Int} {rs : List (List Int)} {p : Nat} {m : Int} (hm : m ≤ 18446744073709551615) : ∀ K : Nat, K ≤ xs.length → K ≤ rs.length → (∀ k z, k < K → rs[k]? = some z → m ≤ addC (atD xs k) (atD z p)) →
    m ≤ viaTo xs rs p K ∧ ∀ k z, k < K → rs[k]? = some z → viaTo xs rs p K ≤ addC (atD xs k) (atD z p)
  | 0, _, _, _ => ⟨by rw [viaTo_zero]; exact hm, fun k z hk _ => absurd hk (by omega)⟩
  | K + 1, h1, h2, h => by
    obtain ⟨i1, i2⟩ := viaTo_eq hm K (by omega) (by omega) (fun k z hk hz => h k z (by omega) hz)
    obtain ⟨z, hz⟩ : ∃ z, rs[K]? = some z := ⟨_, List.getElem?_eq_getElem (by omega)⟩
    have hK := h K z (by omega) hz
    rw [viaTo_succ (by omega) hz]
    unfold minC
    refine ⟨by split <;> omega, fun k z' hk hz' => ?_⟩
    by_cases e : k = K
    · subst e
      rw [hz] at hz'; cases hz'
      split <;> omega
    · have := i2 k z' (by omega) hz'
      split <;> omega

set_option maxHeartbeats 800000 in
theorem width_q (a : Option Addr) (cap : Nat) (rs : List (List Int)) (n : Nat) (w : World) (hr : TabR w a rs) (hl : rs.length ≤ 1048576) (h0 : 0 < rs.length) (hn : ∀ r ∈ rs, r.length = n) :
    Calls Tryd.prog 43 #[.slice a rs.length cap] w fun e w' => e = .returned (.tuple #[.int .i64 (n : Int), .bool true]) ∧ w = w' := by
  have hl2 : (rs.length : Int) ≤ 1048576 := by omega
  have h01 : ((rs.length : Int) == 0) = false := by rw [beq_eq_false_iff_ne]; omega
  have h02 : (0 : Int) < (rs.length : Int) := by omega
  obtain ⟨b, o, c, d, rfl, q0, r0⟩ := hr.cell h0
  rw [Nat.add_zero, hn _ (List.getElem_mem h0)] at q0
  have HR := Lib.hid hr
  have HN := Lib.hid hn
  have hnn : ((n : Int) != (n : Int)) = false := by simp
  clear hr r0 hn
  go_enter Tryd.func43, Tryd.ntmps43
  go_wp2
  go_loopw [11] (fun i wr => ∃ k : Nat, k ≤ rs.length ∧ i = .int .i64 k ∧ w = wr) (fun i _ => rs.length - (intOf i).toNat)
  case atStart => exact ⟨0, Nat.zero_le _, rfl, rfl⟩
  case round =>
    obtain ⟨k, hk, rfl, rfl⟩ := hrel
    have hk0 : (0 : Int) ≤ (k : Int) := by omega
    by_cases hlt : k < rs.length
    · have hlt2 : (k : Int) < (rs.length : Int) := by omega
      obtain ⟨b', o', c', d', ha, q, rq⟩ := HR.out.cell hlt
      cases ha
      rw [HN.out _ (List.getElem_mem hlt)] at q
      clear rq
      go_wp2
      go_roundw
      case rel => exact ⟨k + 1, by omega, by go_num, by trivial⟩
      case measure => simp [intOf]; omega
    · have hge : (rs.length : Int) ≤ (k : Int) := by omega
      go_wp2
      go_ret2
      exact ⟨rfl, rfl⟩

set_option maxHeartbeats 1600000 in
theorem viaat_q (p q : Nat) (a b : Option Addr) (c d n : Nat) (xs : List Int) (rs : List (List Int)) (k : Nat) (w : World) (hl : xs.length ≤ 1048576) (he : xs.length = rs.length) (hn : ∀ r ∈ rs, r.length = n) (hk : k < n)
    (c0 : w.cell? ⟨p, 0, none⟩ = some (.slice a xs.length c)) (c1 : w.cell? ⟨q, 0, none⟩ = some (.slice b rs.length d)) (hr : RowU w a xs) (ht : TabR w b rs) (hu : AllU xs) (hut : ∀ r ∈ rs, AllU r) :
    Calls Tryd.prog 45 #[.int .i64 (k : Int), .pointer (some ⟨p, 0, none⟩), .pointer (some ⟨q, 0, none⟩)] w fun e w' => e = .returned (.int .u64 (viaAt xs rs k)) ∧ Below w.heap.size w w' := by
  have hl2 : (xs.length : Int) ≤ 1048576 := by omega
  have HE := Lib.hid he
  have HK := Lib.hid hk
  have HT := Lib.hid ht
  have HR := Lib.hid hr
  have HN := Lib.hid hn
  have HU := Lib.hid hu
  have HUT := Lib.hid hut
  rw [← he] at c1
  have hk0 : (0 : Int) ≤ (k : Int) := by omega
  clear he hk ht hr hn hu hut
  have h0 : inU 18446744073709551615 := inU_inf
  go_enter Tryd.func45, Tryd.ntmps45
  go_wp2
  go_loopw [5, 10] (fun v i wr => ∃ j : Nat, j ≤ xs.length ∧ i = .int .i64 j ∧ v = .int .u64 (viaTo xs rs k j) ∧ w = wr) (fun _ i _ => xs.length - (intOf i).toNat)
  case atStart => exact ⟨0, Nat.zero_le _, rfl, rfl, rfl⟩
  case round =>
    obtain ⟨j, hj, rfl, rfl, rfl⟩ := hrel
    by_cases hlt : j < xs.length
    · have hlt2 : (j : Int) < (xs.length : Int) := by omega
      have hj0 : (0 : Int) ≤ (j : Int) := by omega
      have hltt : j < rs.length := by rw [← HE.out]; exact hlt
      obtain ⟨gb, go, rfl, q1⟩ := HR.out.cell hlt
      obtain ⟨b', o', c', d', rfl, q2, rq⟩ := HT.out.cell hltt
      have hzn := HN.out _ (List.getElem_mem hltt)
      have hkz : k < rs[j].length := by rw [hzn]; exact HK.out
      have hkz2 : (k : Int) < (n : Int) := by have := HK.out; omega
      obtain ⟨gb2, go2, rfl, q3⟩ := rq.cell hkz
      have HS := Lib.hid (viaTo_succ (p := k) hlt (List.getElem?_eq_getElem hltt))
      have u1 := HU.out.atQ hlt
      have u2 := (HUT.out _ (List.getElem_mem hltt)).atQ hkz
      rw [hzn] at q2
      clear hzn rq hkz
      generalize atD xs j = x at *
      generalize atD rs[j] k = z at *
      have HM := Lib.hid (show minC (viaTo xs rs k j) (addC x z) = min (viaTo xs rs k j) (addC x z) by unfold minC; split <;> omega)
      go_wp2_with (go_at_call 46; (with_reducible refine (add_any _ _ _ (by assumption) (by assumption)).mono ?_); rintro e w' ⟨rfl, rfl⟩)
      all_goals
        go_roundw
        case rel => exact ⟨j + 1, by omega, by go_num, by first | rw [HS.out, HM.out] | (rw [HS.out, HM.out]; congr 1; omega), by trivial⟩
        case measure => simp [intOf]; omega
    · obtain rfl : j = xs.length := by omega
      have hge : (xs.length : Int) ≤ (xs.length : Int) := by omega
      go_wp2
      go_ret
      exact ⟨rfl, bl0 _⟩
theorem enters_via (args : Array Value) (w : World) : (callFunc 45 args).run Tryd.prog w = .ok (.enter 45 args) w := enters_of Tryd.func45 (by kernel_rfl) rfl args w
set_option maxHeartbeats 1600000 in
theorem via_q (a b : Option Addr) (c d n : Nat) (xs : List Int) (rs : List (List Int)) (w : World) (hx : xs.length = n) (hrn : rs.length = n) (h1 : 1 ≤ n) (hl : n ≤ 1048576) (hn : ∀ r ∈ rs, r.length = n)
    (hr : RowU w a xs) (ht : TabR w b rs) (hu : AllU xs) (hut : ∀ r ∈ rs, AllU r) :
    Calls Tryd.prog 24 #[.slice a n c, .slice b n d] w fun e w' => ∃ z, e = .returned (.tuple #[.slice z n n, .int .i64 0]) ∧ RowU w' z ((List.range n).map (viaAt xs rs)) ∧ Below w.heap.size w w' := by
  have hnn : ((n : Int) != (n : Int)) = false := by simp
  obtain ⟨w1, hw1⟩ : ∃ w1, (w.alloc (.cells #[.slice a n c] 42)).alloc (.cells #[.slice b n d] 52) = w1 := ⟨_, rfl⟩
  have hb1 : Below w.heap.size w w1 := by rw [← hw1]; exact bl_al (bl_al (bl0 w) _) _
  have c0 : w1.cell? ⟨w.heap.size, 0, none⟩ = some (.slice a n c) := by rw [← hw1]; simp [go_sem]
  have c1 : w1.cell? ⟨w.heap.size + 1, 0, none⟩ = some (.slice b n d) := by rw [← hw1]; simp [go_sem]
  have H1 := Lib.hid hw1
  have HWD := Lib.hid (fun w h => width_q b d rs n w h (by omega) (by omega) hn)
  rw [hrn] at HWD
  have HT := Lib.hid (ht.below hb1)
  have HRW := Lib.hid (hr.below hb1)
  have HX := Lib.hid hx
  have HRN := Lib.hid hrn
  have HN := Lib.hid hn
  have HU := Lib.hid hu
  have HUT := Lib.hid hut
  clear hw1 ht hr hx hrn hn hu hut
  go_enter Tryd.func24, Tryd.ntmps24
  go_wp2_with fail
  rw [H1.out]
  refine (HWD.out _ HT.out).mono ?_
  rintro e w' ⟨rfl, rfl⟩
  go_wp2_with fail
  refine (row_any 45 #[.pointer (some ⟨w.heap.size, 0, none⟩), .pointer (some ⟨w.heap.size + 1, 0, none⟩)] n (viaAt xs rs) _ hl enters_via ?hat).mono ?_
  case hat =>
    intro k W hk hb
    exact viaat_q w.heap.size (w.heap.size + 1) a b c d n xs rs k W (by rw [HX.out]; exact hl) (by rw [HX.out, HRN.out]) HN.out hk (by rw [HX.out]; exact cell_later hb c0) (by rw [HRN.out]; exact cell_later hb c1) (HRW.out.below hb) (HT.out.below hb) HU.out HUT.out
  rintro e w2 ⟨rfl, hrow, hb2⟩
  have HR := Lib.hid hrow
  clear hrow
  go_wp2
  go_ret2
  exact ⟨_, rfl, HR.out, bl_tr hb1 hb2⟩
end Go.Proofs.YtgbhafadibdmcaaDoor
