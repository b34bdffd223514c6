/- Cache's laws: the helpers in, recent, put, last. -/
import Derived.Test.YtbmpgafndpdnbaaEn
namespace Go.Proofs.Ytbmpgafndpdnbaa
open Go.RowKit Go.Maps

/-- Each one once, as it comes first. -/
def onceI : List Int → List Int
  | [] => []
  | x :: l => x :: butI x (onceI l)
theorem butI_mem {k x : Int} {l : List Int} : x ∈ butI k l ↔ x ∈ l ∧ x ≠ k := by simp [butI]
theorem once_mem {x : Int} : ∀ {l : List Int}, x ∈ onceI l ↔ x ∈ l
  | [] => by simp [onceI]
  | y :: l => by
    rw [onceI, List.mem_cons, List.mem_cons, butI_mem, once_mem (l := l)]
    by_cases e : x = y <;> simp [e]
theorem once_nodup : ∀ l : List Int, (onceI l).Nodup
  | [] => by simp [onceI]
  | y :: l => by
    rw [onceI, List.nodup_cons]
    exact ⟨fun h => (butI_mem.1 h).2 rfl, (once_nodup l).sublist List.filter_sublist⟩
theorem butI_append (k : Int) (a b : List Int) : butI k (a ++ b) = butI k a ++ butI k b := by simp [butI]
theorem once_snoc (x : Int) : ∀ l : List Int, onceI (l ++ [x]) = if x ∈ l then onceI l else onceI l ++ [x]
  | [] => by simp [onceI, butI]
  | y :: l => by
    rw [List.cons_append, onceI, onceI, once_snoc x l]
    by_cases e : x = y
    · subst e
      by_cases h : x ∈ l
      · simp [h]
      · simp [h, butI]
    · by_cases h : x ∈ l
      · simp [h]
      · simp [h, butI, e]
theorem once_pre : ∀ (b a : List Int), ∃ c, onceI (a ++ b) = onceI a ++ c
  | [], a => ⟨[], by simp⟩
  | x :: b, a => by
    obtain ⟨c, hc⟩ := once_pre b (a ++ [x])
    rw [List.append_assoc, List.singleton_append] at hc
    rw [hc, once_snoc]
    by_cases h : x ∈ a
    · exact ⟨c, by rw [if_pos h]⟩
    · exact ⟨x :: c, by rw [if_neg h]; simp⟩
/-- The last ones, each once, up to so many. -/
def recL (r : Int) (us : List Int) : List Int := (onceI us.reverse).take r.toNat
theorem recL_nil (r : Int) : recL r [] = [] := by simp [recL, onceI]
theorem recL_snoc {r : Int} (hr : 1 ≤ r) (us : List Int) (k : Int) : recL r (us ++ [k]) = k :: (butI k (recL r us)).take (r.toNat - 1) := by
  unfold recL
  obtain ⟨c, hc⟩ : ∃ c, r.toNat = c + 1 := ⟨r.toNat - 1, by omega⟩
  rw [List.reverse_append, List.reverse_singleton, List.singleton_append, onceI, hc, List.take_succ_cons, Nat.add_sub_cancel, butI_take k _ c (once_nodup _)]
theorem put_keys {r k x : Int} {m : List IT} {us : List Int} (h : Fit r m) (hr : 1 ≤ r) (e : m.map Prod.fst = recL r us) : (putM r k x m).map Prod.fst = recL r (us ++ [k]) := by
  rw [put_but h hr, recL_snoc hr, List.map_cons, List.map_take, butK_keys, e]
/-- What was put under a key last. -/
def isPut (z : AT) : Bool := decide (z.d ≠ 0 ∧ z.d ≠ 1 ∧ z.d ≠ 2)
def lastR (k : Int) : List AT → Int
  | [] => 0
  | z :: l => if isPut z && decide (z.k = k) then z.v else lastR k l
def lastP (k : Int) (l : List AT) : Int := lastR k l.reverse
theorem lastP_snoc (k : Int) (l : List AT) (z : AT) : lastP k (l ++ [z]) = if isPut z && decide (z.k = k) then z.v else lastP k l := by
  unfold lastP
  rw [List.reverse_append, List.reverse_singleton, List.singleton_append, lastR]

theorem Sep.nilrow {W : World} {B : Nat} {l : List Own} (h : Sep W B l) : Sep W B (l ++ [RowO 3 1 (.slice none 0 0) 0 (cellsI [])]) :=
  h.new (S := fun _ => False) (bl0 W) ⟨World.ownsRow_nil _ _ _ _, fun k => by simp [Value.ownBlock]⟩ (fun _ h => h.elim)
theorem wpList_append_intv {w : World} {ops : Array Oper} {rest : List Oper} {o : Oper} {a : Act} {Q : Exit → Act → World → Prop} (hgd : o.guard = none) (s x : Operand)
    (ho : o.op = .call { callee := .builtin .append, args := #[s, x], argTypes := #[47, 47] })
    {W : World} (z : Int) (hw : w = W.alloc (.cells #[.int .i64 z] 3)) {B : Nat} {l1 l2 : List Own} {v : Value} {n : Nat} {is : List Int} (h : Sep W B (l1 ++ RowO 3 1 v n (cellsI is) :: l2)) (hn : n ≤ 1000000)
    (hs : a.eval s = v) (H : Nat) (hH : W.heap.size = H) (hx : a.eval x = .slice (some ⟨H, 0, none⟩) 1 1)
    (hQ : ∀ v' w', Sep w' B (l1 ++ RowO 3 1 v' (n + 1) (cellsI (is ++ [z])) :: l2) → Below B W w' → wpList Try.prog ops Q rest (a.put o.dst v') w') : wpList Try.prog ops Q (o :: rest) a w := by
  obtain ⟨i0, hi, hz0, hz1, hz2⟩ := info_parts Try.infoI
  subst hw
  subst hH
  have hb := bl_al (bl0 W) (.cells #[.int .i64 z] 3)
  have h2 := h.below hb
  refine wpList_append_own_at _ hgd s x 47 ho 0 3 i0 (.int .i64 0) 1 8 Try.underlying47 hi hz0 hz1 hz2 rfl (by decide) _ n (cellsI is) hs h2.own ⟨W.heap.size, 0, none⟩ 1 1 [.int .i64 z] hx rfl (cell_one_new W _ _) ?_ (by unfold maxLen; omega) (by omega) (Nat.zero_le _) (fun v' w' h3 h4 _ h6 => ?_)
  · intro u hu
    rw [List.mem_singleton.1 hu]
    rfl
  · rw [cellsI_snoc] at h3
    obtain ⟨q1, q2⟩ := h2.grew h3 h4 h6
    exact hQ v' w' q1 ((hb.mono h.base).trans q2)
/-- A row's value. -/
theorem Sep.rowv {W : World} {B : Nat} {l1 l2 : List Own} {v : Value} {n : Nat} {is : List Int} (h : Sep W B (l1 ++ RowO 3 1 v n (cellsI is) :: l2)) : ∃ a cap, v = .slice a n cap ∧ is.length = n ∧ n ≤ cap ∧ RowI W a is := by
  have ho := h.own
  have hl : is.length = n := by have := ho.1; rwa [cellsI_len, Nat.mul_one] at this
  rcases ho.2 with ⟨e, h0⟩ | ⟨g, cap, cur, e, _, _, h2, _⟩
  · subst h0
    exact ⟨none, 0, e, hl, Nat.le_refl _, .inl (List.eq_nil_of_length_eq_zero hl)⟩
  · subst e
    exact ⟨_, cap, rfl, hl, h2, own_rowI ho hl⟩

set_option maxRecDepth 100000 in
set_option maxHeartbeats 4000000 in
theorem in16_any (a : Option Addr) (ca : Nat) (is : List Int) (x : Int) (w : World) (hl : is.length ≤ 100000) (ha : RowI w a is) :
    Calls Try.prog 34 #[.slice a is.length ca, .int .i64 x] w fun e w' => e = .returned (.bool (decide (x ∈ is))) ∧ w' = w := by
  obtain ⟨t, ht⟩ : ∃ t, decide (x ∈ is) = t := ⟨_, rfl⟩
  obtain ⟨n, hn⟩ : ∃ n, is.length = n := ⟨_, rfl⟩
  rw [hn] at hl
  rw [ht, hn]
  have HT := Lib.hid ht
  have HN := Lib.hid hn
  have HA := Lib.hid ha
  clear ht hn ha
  go_enter Try.func34, Try.ntmps34
  go_wp2_with fail
  go_loopw [5] (fun i wr => ∃ k : Nat, k ≤ n ∧ i = .int .i64 k ∧ Hid (x ∉ is.take k) ∧ wr = w) (fun i _ => n - (intOf i).toNat)
  case atStart => exact ⟨0, Nat.zero_le _, rfl, Lib.hid (by simp), rfl⟩
  case round =>
    obtain ⟨k, hk, rfl, hall, rfl⟩ := hrel
    have hk0 : (0 : Int) ≤ (k : Int) := by omega
    by_cases hlt : k < n
    · have hlt2 : (k : Int) < (n : Int) := by omega
      obtain ⟨y, hy⟩ : ∃ y, is[k]? = some y := ⟨_, List.getElem?_eq_getElem (by rw [HN.out]; exact hlt)⟩
      obtain ⟨g, o, rfl, c0⟩ : ∃ g o, a = some ⟨g, o, none⟩ ∧ wr.cell? ⟨g, o + k, none⟩ = some (.int .i64 y) := by
        rcases HA.out with e | ⟨g, o, e, h⟩
        · rw [e] at hy; simp at hy
        · exact ⟨g, o, e, h k y hy⟩
      have HY := Lib.hid hy
      have zc := blk_lt c0
      clear hy
      by_cases he : y = x
      · have hne : (y == x) = true := by simp [he]
        have HF : Hid (t = true) := Lib.hid (by rw [← HT.out, ← he]; exact decide_eq_true (List.mem_of_getElem? HY.out))
        clear he
        go_wp2
        go_ret
        exact ⟨by rw [HF.out]; rfl, rfl⟩
      · have hne : (y == x) = false := by simp [he]
        have HE : Hid (x ∉ is.take (k + 1)) := Lib.hid (by
          obtain ⟨h1, e1⟩ := List.getElem?_eq_some_iff.1 HY.out
          rw [List.take_succ_eq_append_getElem h1, e1, List.mem_append, List.mem_singleton]
          rintro (h | h)
          · exact hall.out h
          · exact he h.symm)
        clear he
        go_wp2
        go_roundw
        case rel => exact ⟨k + 1, by omega, by go_num, HE, trivial⟩
        case measure => simp [intOf]; omega
    · obtain rfl : k = n := by omega
      have hge : ¬ (k : Int) < (k : Int) := by omega
      have HF : Hid (t = false) := Lib.hid (by
        rw [← HT.out]
        have := hall.out
        rw [← HN.out, List.take_length] at this
        exact decide_eq_false this)
      go_wp2
      go_ret
      exact ⟨by rw [HF.out]; rfl, rfl⟩
end Go.Proofs.Ytbmpgafndpdnbaa
