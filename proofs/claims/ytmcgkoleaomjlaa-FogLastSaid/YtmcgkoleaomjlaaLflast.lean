/- FogLast: the law's walk. -/
import Derived.Test.YtmcgkoleaomjlaaQ2
namespace Go.Proofs.Ytmcgkoleaomjlaa
open Go.RowKit Go.Shelf
attribute [local go_sem] Oper.semAt_some

set_option maxRecDepth 100000 in
set_option maxHeartbeats 4000000 in
theorem flast_out1 (X Y x y : Int) (a : Option Addr) (cap : Nat) (ls : List LookD) (w : World) (hr : RowL w a ls) (h1 : fewB X Y ls = false) :
    Calls Try.prog 5 #[.agg #[.int .i64 X, .int .i64 Y], .slice a ls.length cap, .agg #[.int .i64 x, .int .i64 y]] w fun e w' => e = .returned (.bool true) ∧ Below w.heap.size w w' := by
  have hA := bl0 w
  have H1 := Lib.hid h1
  clear h1
  go_enter Try.func5, Try.ntmps5
  go_wp2_with fail
  refine (few_any _ _ _ _ _ _ (hr.below (by first | exact hA | exact (bl_al hA _) | exact (bl_dr (bl_al hA _)) | exact (bl_al (bl_al hA _) _) | exact (bl_dr (bl_al (bl_al hA _) _)) | exact (bl_al (bl_al (bl_al hA _) _) _) | exact (bl_dr (bl_al (bl_al (bl_al hA _) _) _)) | exact (bl_al (bl_al (bl_al (bl_al hA _) _) _) _) | exact (bl_dr (bl_al (bl_al (bl_al (bl_al hA _) _) _) _)) | exact (bl_al (bl_al (bl_al (bl_al (bl_al hA _) _) _) _) _) | exact (bl_dr (bl_al (bl_al (bl_al (bl_al (bl_al hA _) _) _) _) _)) | exact (bl_al (bl_al (bl_al (bl_al (bl_al (bl_al hA _) _) _) _) _) _) | exact (bl_dr (bl_al (bl_al (bl_al (bl_al (bl_al (bl_al hA _) _) _) _) _) _)) | exact (bl_dr hA)))).mono ?_
  rintro e w1 ⟨rfl, hb⟩
  have hk : Below w.heap.size w w1 := by first | exact hb | exact bl_tr (bl_al (bl0 _) _) hb | exact bl_tr (bl_dr (bl_al (bl0 _) _)) hb | exact bl_tr (bl_al (bl_al (bl0 _) _) _) hb | exact bl_tr (bl_dr (bl_al (bl_al (bl0 _) _) _)) hb | exact bl_tr (bl_al (bl_al (bl_al (bl0 _) _) _) _) hb | exact bl_tr (bl_dr (bl_al (bl_al (bl_al (bl0 _) _) _) _)) hb | exact bl_tr (bl_al (bl_al (bl_al (bl_al (bl0 _) _) _) _) _) hb | exact bl_tr (bl_dr (bl_al (bl_al (bl_al (bl_al (bl0 _) _) _) _) _)) hb | exact bl_tr (bl_al (bl_al (bl_al (bl_al (bl_al (bl0 _) _) _) _) _) _) hb | exact bl_tr (bl_dr (bl_al (bl_al (bl_al (bl_al (bl_al (bl0 _) _) _) _) _) _)) hb | exact bl_tr (bl_al (bl_al (bl_al (bl_al (bl_al (bl_al (bl0 _) _) _) _) _) _) _) hb | exact bl_tr (bl_dr (bl_al (bl_al (bl_al (bl_al (bl_al (bl_al (bl0 _) _) _) _) _) _) _)) hb | exact bl_tr (bl_dr (bl0 _)) hb
  replace hA := bl_tr hA hk
  have f0 := cell_later hb (v := .int .i64 X) (a := ⟨w.heap.size, 0, none⟩) (by simp [go_sem])
  have f1 := cell_later hb (v := .int .i64 Y) (a := ⟨w.heap.size, 1, none⟩) (by simp [go_sem])
  have p0 := cell_later hb (v := .int .i64 x) (a := ⟨w.heap.size + 1, 0, none⟩) (by simp [go_sem])
  have p1 := cell_later hb (v := .int .i64 y) (a := ⟨w.heap.size + 1, 1, none⟩) (by simp [go_sem])
  clear hb hk
  have zf0 := blk_lt f0
  have zf1 := blk_lt f1
  have zp0 := blk_lt p0
  have zp1 := blk_lt p1
  rw [H1.out]
  go_wp2_with fail
  refine (fawake _).mono ?_
  rintro e w9 ⟨rfl, hb9⟩
  have hA9 : Below w.heap.size w w9 := by first | exact bl_tr hA hb9 | exact bl_tr (bl_al (bl_al (bl_al hA _) _) _) hb9
  clear hA hb9
  go_wp2
  go_ret
  exact ⟨rfl, hA9⟩
set_option maxRecDepth 100000 in
set_option maxHeartbeats 4000000 in
theorem flast_out2 (X Y x y : Int) (a : Option Addr) (cap : Nat) (ls : List LookD) (w : World) (hr : RowL w a ls) (h1 : fewB X Y ls = true) (h2 : mayB X Y = false) :
    Calls Try.prog 5 #[.agg #[.int .i64 X, .int .i64 Y], .slice a ls.length cap, .agg #[.int .i64 x, .int .i64 y]] w fun e w' => e = .returned (.bool true) ∧ Below w.heap.size w w' := by
  have hA := bl0 w
  have H1 := Lib.hid h1
  have H2 := Lib.hid h2
  clear h1 h2
  go_enter Try.func5, Try.ntmps5
  go_wp2_with fail
  refine (few_any _ _ _ _ _ _ (hr.below (by first | exact hA | exact (bl_al hA _) | exact (bl_dr (bl_al hA _)) | exact (bl_al (bl_al hA _) _) | exact (bl_dr (bl_al (bl_al hA _) _)) | exact (bl_al (bl_al (bl_al hA _) _) _) | exact (bl_dr (bl_al (bl_al (bl_al hA _) _) _)) | exact (bl_al (bl_al (bl_al (bl_al hA _) _) _) _) | exact (bl_dr (bl_al (bl_al (bl_al (bl_al hA _) _) _) _)) | exact (bl_al (bl_al (bl_al (bl_al (bl_al hA _) _) _) _) _) | exact (bl_dr (bl_al (bl_al (bl_al (bl_al (bl_al hA _) _) _) _) _)) | exact (bl_al (bl_al (bl_al (bl_al (bl_al (bl_al hA _) _) _) _) _) _) | exact (bl_dr (bl_al (bl_al (bl_al (bl_al (bl_al (bl_al hA _) _) _) _) _) _)) | exact (bl_dr hA)))).mono ?_
  rintro e w1 ⟨rfl, hb⟩
  have hk : Below w.heap.size w w1 := by first | exact hb | exact bl_tr (bl_al (bl0 _) _) hb | exact bl_tr (bl_dr (bl_al (bl0 _) _)) hb | exact bl_tr (bl_al (bl_al (bl0 _) _) _) hb | exact bl_tr (bl_dr (bl_al (bl_al (bl0 _) _) _)) hb | exact bl_tr (bl_al (bl_al (bl_al (bl0 _) _) _) _) hb | exact bl_tr (bl_dr (bl_al (bl_al (bl_al (bl0 _) _) _) _)) hb | exact bl_tr (bl_al (bl_al (bl_al (bl_al (bl0 _) _) _) _) _) hb | exact bl_tr (bl_dr (bl_al (bl_al (bl_al (bl_al (bl0 _) _) _) _) _)) hb | exact bl_tr (bl_al (bl_al (bl_al (bl_al (bl_al (bl0 _) _) _) _) _) _) hb | exact bl_tr (bl_dr (bl_al (bl_al (bl_al (bl_al (bl_al (bl0 _) _) _) _) _) _)) hb | exact bl_tr (bl_al (bl_al (bl_al (bl_al (bl_al (bl_al (bl0 _) _) _) _) _) _) _) hb | exact bl_tr (bl_dr (bl_al (bl_al (bl_al (bl_al (bl_al (bl_al (bl0 _) _) _) _) _) _) _)) hb | exact bl_tr (bl_dr (bl0 _)) hb
  replace hA := bl_tr hA hk
  have f0 := cell_later hb (v := .int .i64 X) (a := ⟨w.heap.size, 0, none⟩) (by simp [go_sem])
  have f1 := cell_later hb (v := .int .i64 Y) (a := ⟨w.heap.size, 1, none⟩) (by simp [go_sem])
  have p0 := cell_later hb (v := .int .i64 x) (a := ⟨w.heap.size + 1, 0, none⟩) (by simp [go_sem])
  have p1 := cell_later hb (v := .int .i64 y) (a := ⟨w.heap.size + 1, 1, none⟩) (by simp [go_sem])
  clear hb hk
  have zf0 := blk_lt f0
  have zf1 := blk_lt f1
  have zp0 := blk_lt p0
  have zp1 := blk_lt p1
  rw [H1.out]
  go_wp2_with fail
  refine (may_any _ _ _).mono ?_
  rintro e w2 ⟨rfl, hb⟩
  have hk : Below w1.heap.size w1 w2 := by first | exact hb | exact bl_tr (bl_al (bl0 _) _) hb | exact bl_tr (bl_dr (bl_al (bl0 _) _)) hb | exact bl_tr (bl_al (bl_al (bl0 _) _) _) hb | exact bl_tr (bl_dr (bl_al (bl_al (bl0 _) _) _)) hb | exact bl_tr (bl_al (bl_al (bl_al (bl0 _) _) _) _) hb | exact bl_tr (bl_dr (bl_al (bl_al (bl_al (bl0 _) _) _) _)) hb | exact bl_tr (bl_al (bl_al (bl_al (bl_al (bl0 _) _) _) _) _) hb | exact bl_tr (bl_dr (bl_al (bl_al (bl_al (bl_al (bl0 _) _) _) _) _)) hb | exact bl_tr (bl_al (bl_al (bl_al (bl_al (bl_al (bl0 _) _) _) _) _) _) hb | exact bl_tr (bl_dr (bl_al (bl_al (bl_al (bl_al (bl_al (bl0 _) _) _) _) _) _)) hb | exact bl_tr (bl_al (bl_al (bl_al (bl_al (bl_al (bl_al (bl0 _) _) _) _) _) _) _) hb | exact bl_tr (bl_dr (bl_al (bl_al (bl_al (bl_al (bl_al (bl_al (bl0 _) _) _) _) _) _) _)) hb | exact bl_tr (bl_dr (bl0 _)) hb
  replace hA := bl_tr hA hk
  replace f0 := cell_later hk f0
  replace f1 := cell_later hk f1
  replace p0 := cell_later hk p0
  replace p1 := cell_later hk p1
  clear hb hk
  have zf0 := blk_lt f0
  have zf1 := blk_lt f1
  have zp0 := blk_lt p0
  have zp1 := blk_lt p1
  rw [H2.out]
  go_wp2_with fail
  refine (fawake _).mono ?_
  rintro e w9 ⟨rfl, hb9⟩
  have hA9 : Below w.heap.size w w9 := by first | exact bl_tr hA hb9 | exact bl_tr (bl_al (bl_al (bl_al hA _) _) _) hb9
  clear hA hb9
  go_wp2
  go_ret
  exact ⟨rfl, hA9⟩

/-- What the loop of the law holds. -/
def LastI (w : World) (g h N : Nat) (X Y x y : Int) (ls : List LookD) (k : Nat) (W : World) : Prop :=
  FogAt W w.heap.size g h N X Y (looksL X Y (ls.take k)).1 (looksL X Y (ls.take k)).2 ∧ Below w.heap.size w W ∧
  W.cell? ⟨w.heap.size, 0, none⟩ = some (.int .i64 X) ∧ W.cell? ⟨w.heap.size, 1, none⟩ = some (.int .i64 Y) ∧ W.cell? ⟨w.heap.size + 1, 0, none⟩ = some (.int .i64 x) ∧ W.cell? ⟨w.heap.size + 1, 1, none⟩ = some (.int .i64 y)


set_option maxRecDepth 100000 in
set_option maxHeartbeats 8000000 in
theorem flast_yes (X Y x y : Int) (a : Option Addr) (cap : Nat) (ls : List LookD) (w : World) (hr : RowL w a ls) (h1 : fewB X Y ls = true) (h2 : mayB X Y = true) :
    Calls Try.prog 5 #[.agg #[.int .i64 X, .int .i64 Y], .slice a ls.length cap, .agg #[.int .i64 x, .int .i64 y]] w fun e w' => e = .returned (.bool true) ∧ Below w.heap.size w w' := by
  have hA := bl0 w
  obtain ⟨hms0, hl20, hok⟩ := few_iff h1
  clear hms0
  have hl2 : (ls.length : Int) ≤ 20 := by omega
  have hab := area_bd h2
  obtain ⟨N, hN⟩ : ∃ N : Nat, (N : Int) = X * Y := ⟨(X * Y).toNat, by omega⟩
  have HN := Lib.hid (show (X * Y).toNat = N by omega)
  have hnew := fun w => fnew_yes X Y w h2 N hN
  have H1 := Lib.hid h1
  have H2 := Lib.hid h2
  have HOK := Lib.hid hok
  clear h1 h2 hab hok hN
  go_enter Try.func5, Try.ntmps5
  go_wp2_with fail
  refine (few_any _ _ _ _ _ _ (hr.below (by first | exact hA | exact (bl_al hA _) | exact (bl_dr (bl_al hA _)) | exact (bl_al (bl_al hA _) _) | exact (bl_dr (bl_al (bl_al hA _) _)) | exact (bl_al (bl_al (bl_al hA _) _) _) | exact (bl_dr (bl_al (bl_al (bl_al hA _) _) _)) | exact (bl_al (bl_al (bl_al (bl_al hA _) _) _) _) | exact (bl_dr (bl_al (bl_al (bl_al (bl_al hA _) _) _) _)) | exact (bl_al (bl_al (bl_al (bl_al (bl_al hA _) _) _) _) _) | exact (bl_dr (bl_al (bl_al (bl_al (bl_al (bl_al hA _) _) _) _) _)) | exact (bl_al (bl_al (bl_al (bl_al (bl_al (bl_al hA _) _) _) _) _) _) | exact (bl_dr (bl_al (bl_al (bl_al (bl_al (bl_al (bl_al hA _) _) _) _) _) _)) | exact (bl_dr hA)))).mono ?_
  rintro e w1 ⟨rfl, hb⟩
  have hk : Below w.heap.size w w1 := by first | exact hb | exact bl_tr (bl_al (bl0 _) _) hb | exact bl_tr (bl_dr (bl_al (bl0 _) _)) hb | exact bl_tr (bl_al (bl_al (bl0 _) _) _) hb | exact bl_tr (bl_dr (bl_al (bl_al (bl0 _) _) _)) hb | exact bl_tr (bl_al (bl_al (bl_al (bl0 _) _) _) _) hb | exact bl_tr (bl_dr (bl_al (bl_al (bl_al (bl0 _) _) _) _)) hb | exact bl_tr (bl_al (bl_al (bl_al (bl_al (bl0 _) _) _) _) _) hb | exact bl_tr (bl_dr (bl_al (bl_al (bl_al (bl_al (bl0 _) _) _) _) _)) hb | exact bl_tr (bl_al (bl_al (bl_al (bl_al (bl_al (bl0 _) _) _) _) _) _) hb | exact bl_tr (bl_dr (bl_al (bl_al (bl_al (bl_al (bl_al (bl0 _) _) _) _) _) _)) hb | exact bl_tr (bl_al (bl_al (bl_al (bl_al (bl_al (bl_al (bl0 _) _) _) _) _) _) _) hb | exact bl_tr (bl_dr (bl_al (bl_al (bl_al (bl_al (bl_al (bl_al (bl0 _) _) _) _) _) _) _)) hb | exact bl_tr (bl_dr (bl0 _)) hb
  replace hA := bl_tr hA hk
  have f0 := cell_later hb (v := .int .i64 X) (a := ⟨w.heap.size, 0, none⟩) (by simp [go_sem])
  have f1 := cell_later hb (v := .int .i64 Y) (a := ⟨w.heap.size, 1, none⟩) (by simp [go_sem])
  have p0 := cell_later hb (v := .int .i64 x) (a := ⟨w.heap.size + 1, 0, none⟩) (by simp [go_sem])
  have p1 := cell_later hb (v := .int .i64 y) (a := ⟨w.heap.size + 1, 1, none⟩) (by simp [go_sem])
  clear hb hk
  have zf0 := blk_lt f0
  have zf1 := blk_lt f1
  have zp0 := blk_lt p0
  have zp1 := blk_lt p1
  rw [H1.out]
  go_wp2_with fail
  refine (may_any _ _ _).mono ?_
  rintro e w2 ⟨rfl, hb⟩
  have hk : Below w1.heap.size w1 w2 := by first | exact hb | exact bl_tr (bl_al (bl0 _) _) hb | exact bl_tr (bl_dr (bl_al (bl0 _) _)) hb | exact bl_tr (bl_al (bl_al (bl0 _) _) _) hb | exact bl_tr (bl_dr (bl_al (bl_al (bl0 _) _) _)) hb | exact bl_tr (bl_al (bl_al (bl_al (bl0 _) _) _) _) hb | exact bl_tr (bl_dr (bl_al (bl_al (bl_al (bl0 _) _) _) _)) hb | exact bl_tr (bl_al (bl_al (bl_al (bl_al (bl0 _) _) _) _) _) hb | exact bl_tr (bl_dr (bl_al (bl_al (bl_al (bl_al (bl0 _) _) _) _) _)) hb | exact bl_tr (bl_al (bl_al (bl_al (bl_al (bl_al (bl0 _) _) _) _) _) _) hb | exact bl_tr (bl_dr (bl_al (bl_al (bl_al (bl_al (bl_al (bl0 _) _) _) _) _) _)) hb | exact bl_tr (bl_al (bl_al (bl_al (bl_al (bl_al (bl_al (bl0 _) _) _) _) _) _) _) hb | exact bl_tr (bl_dr (bl_al (bl_al (bl_al (bl_al (bl_al (bl_al (bl0 _) _) _) _) _) _) _)) hb | exact bl_tr (bl_dr (bl0 _)) hb
  replace hA := bl_tr hA hk
  replace f0 := cell_later hk f0
  replace f1 := cell_later hk f1
  replace p0 := cell_later hk p0
  replace p1 := cell_later hk p1
  clear hb hk
  have zf0 := blk_lt f0
  have zf1 := blk_lt f1
  have zp0 := blk_lt p0
  have zp1 := blk_lt p1
  rw [H2.out]
  go_wp2_with fail
  refine (hnew _).mono ?_
  clear hnew
  rintro e w3 ⟨g, h, rfl, hf, hb⟩
  have z2 := hA.size
  have hA3 := bl_tr hA hb
  replace f0 := cell_later hb f0
  replace f1 := cell_later hb f1
  replace p0 := cell_later hb p0
  replace p1 := cell_later hb p1
  have hgB := hf.1
  have hhB := hf.lt.2.1
  have e1 : looksL X Y (ls.take 0) = (List.replicate N none, 0) := by rw [← HN.out]; rfl
  have hI : LastI w g h N X Y x y ls 0 w3 := by
    refine ⟨?_, hA3, f0, f1, p0, p1⟩
    rw [e1]
    exact fog_same hf (by omega)
  have hgb2 : w.heap.size + 2 ≤ g := by omega
  have hhb2 : w.heap.size + 2 ≤ h := by omega
  have HI := Lib.hid hI
  have hz0 : knA X Y x y (looksL X Y (ls.take 0)).1 = none := by
    rw [e1]
    unfold knA
    split
    · rw [List.getElem?_replicate]
      split <;> rfl
    · rfl
  have HZ0 := Lib.hid hz0
  have HE1 := Lib.hid e1
  clear hb hf hA hA3 hgB hhB hI hz0 e1
  go_wp2
  go_loopw [9, 10, 11, 12] (fun u9 u10 u11 i wr => ∃ k : Nat, k ≤ ls.length ∧ i = .int .i64 k ∧ u9 = .bool (knA X Y x y (looksL X Y (ls.take k)).1).isSome ∧ u10 = .int .u16 ((knA X Y x y (looksL X Y (ls.take k)).1).getD 0) ∧ u11 = .int .i64 (looksL X Y (ls.take k)).2 ∧ LastI w g h N X Y x y ls k wr) (fun _ _ _ i _ => ls.length - (intOf i).toNat)
  case atStart => exact ⟨0, Nat.zero_le _, rfl, by rw [HZ0.out]; rfl, by rw [HZ0.out]; rfl, by rw [HE1.out], HI.out⟩
  case round =>
    obtain ⟨k, hk, rfl, rfl, rfl, rfl, F, hAr, f0, f1, p0, p1⟩ := hrel
    clear HI HZ0 HE1
    by_cases hlt : k < ls.length
    · have hlt2 : (k : Int) < (ls.length : Int) := by omega
      have hk0 : (0 : Int) ≤ (k : Int) := by omega
      obtain ⟨l, hl⟩ : ∃ l, ls[k]? = some l := ⟨_, List.getElem?_eq_getElem hlt⟩
      obtain ⟨gb, go, rfl, q0, q1, q2, q3, qh, qc⟩ := hr.cell hl
      have hzl := (okL_iff (HOK.out l (List.mem_of_getElem? hl))).2
      have hTK : ls.take (k + 1) = ls.take k ++ [l] := by rw [List.take_add_one, hl]; rfl
      have hS : looksL X Y (ls.take (k + 1)) = stepL X Y (looksL X Y (ls.take k)) l := by rw [hTK]; exact looksL_snoc X Y _ l
      have hah : ∀ gb o, l.fs ≠ [] → l.a = some ⟨gb, o, none⟩ → gb ≠ h := by
        rintro gb o hne e rfl
        rcases qh with h0 | ⟨b', o', e', h'⟩
        · exact hne h0
        · rw [e] at e'
          cases e'
          have hp := List.length_pos_iff.2 hne
          have := blk_lt (h' 0 _ (List.getElem?_eq_getElem hp))
          omega
      have zq := blk_lt q0
      have QH := Lib.hid qh
      replace q0 := cell_later hAr q0
      replace q1 := cell_later hAr q1
      replace q2 := cell_later hAr q2
      replace q3 := cell_later hAr q3
      replace qh := qh.below hAr
      replace qc := qc.below hAr
      have hv := looksL_ver X Y (ls.take k)
      have hlen := looksL_len X Y (ls.take k) H2.out
      have hlen' := looksL_len X Y (ls.take (k + 1)) H2.out
      have hvl : (ls.take k).length ≤ 20 := Nat.le_trans (List.length_take_le' _ _) (by omega)
      obtain ⟨s, hs⟩ : ∃ s, looksL X Y (ls.take k) = s := ⟨_, rfl⟩
      obtain ⟨s', hs'⟩ : ∃ s', looksL X Y (ls.take (k + 1)) = s' := ⟨_, rfl⟩
      have HSP := Lib.hid hs'
      rw [hs'] at hS hlen'
      rw [hs] at F hS hv hlen ⊢
      obtain ⟨A, B, fa, fc, fs, ca, cc, zs⟩ := l
      dsimp only [stepL] at q0 q1 q2 q3 qh qc hzl hah hS
      have QH := Lib.hid (show RowH w fa fs from QH.out)
      obtain ⟨bs, hbs⟩ : ∃ bs, setL A B zs = bs := ⟨_, rfl⟩
      have HBS := Lib.hid hbs
      have HBG := Lib.hid (fun hm : mayB A B = true => (show Good A B bs by rw [← hbs]; exact setL_good hm zs))
      rw [hbs] at hS
      obtain ⟨v, hv'⟩ : ∃ v, s.2 = v := ⟨_, rfl⟩
      obtain ⟨v2, hv2'⟩ : ∃ v, s'.2 = v := ⟨_, rfl⟩
      obtain ⟨ms, hms⟩ : ∃ ms, s.1 = ms := ⟨_, rfl⟩
      obtain ⟨ms2, hms2⟩ : ∃ ms, s'.1 = ms := ⟨_, rfl⟩
      have hS1 : (lookS X Y A B fs bs ms).1 = ms2 := by rw [← hms2, hS, ← hms]
      have hS2 : (v + if (lookS X Y A B fs bs ms).2 = [] then 0 else 1) = v2 := by rw [← hv2', hS, ← hv', ← hms]
      rw [hv'] at F hv ⊢
      rw [hms] at F hlen ⊢
      rw [hms2] at hlen'
      have hv1 : 0 ≤ v := hv.1
      have hv2 : v ≤ 1048575 := by omega
      obtain ⟨o, ho⟩ : ∃ o, knA X Y x y ms = o := ⟨_, rfl⟩
      obtain ⟨sb, hsb⟩ : ∃ sb, o.isSome = sb := ⟨_, rfl⟩
      obtain ⟨sc, hsc⟩ : ∃ sc, o.getD 0 = sc := ⟨_, rfl⟩
      rw [ho, hsb, hsc]
      have HO := Lib.hid ho
      have HSB := Lib.hid hsb
      have HSC := Lib.hid hsc
      have HS1 := Lib.hid hS1
      have HS2 := Lib.hid hS2
      have HM2 := Lib.hid hms2
      have HV2 := Lib.hid hv2'
      have HLEN := Lib.hid hlen
      have HLEN' := Lib.hid hlen'
      have HAH := Lib.hid hah
      have HNX := Lib.hid hl
      clear hr hl hs hs' hv hlen hlen' hah hvl hTK hS hbs hv' hv2' hms hms2 hS1 hS2 ho hsb hsc
      go_wp2
      refine (wpIn_wide (n := 11)).1 ?_
      have hD := bl_dr (bl0 wr)
      refine ordS_begin (S := (fun w' : World => w'.cell? ⟨gb, go + k * 4, none⟩ = some (.int .i64 A) ∧ w'.cell? ⟨gb, go + k * 4 + 1, none⟩ = some (.int .i64 B) ∧ w'.cell? ⟨gb, go + k * 4 + 2, none⟩ = some (.slice fa fs.length fc) ∧ w'.cell? ⟨gb, go + k * 4 + 3, none⟩ = some (.slice ca zs.length cc))) (by kernel_rfl) ⟨cell_later hD q0, cell_later hD q1, cell_later hD q2, cell_later hD q3⟩ (fun hH => ?_)
      first
        | (refine' ordS_take (i := 0) (oi := { dst := some 49, op := Op.move (Operand.tmp 1), type := 24, pos := _, after := #[], guard := none }) (v := _) rfl (by kernel_rfl) (by kernel_rfl) (by kernel_rfl) (by kernel_rfl) (fun _ _ _ h => h) (by assumption) (Or.inl ⟨by rfl, ?hy1⟩) (fun _ => rfl) ?rest1
           case hy1 => (intro w hSw; (try dsimp only at hSw); go_simp; try with_reducible rfl))
        | (refine ordS_take (i := 0) (oi := { dst := some 49, op := Op.move (Operand.tmp 1), type := 24, pos := _, after := #[], guard := none }) (v := undef) rfl (by kernel_rfl) (by kernel_rfl) (by kernel_rfl) (by kernel_rfl) (fun _ _ _ h => h) (by assumption) (Or.inr ⟨by rfl, rfl⟩) (fun _ => rfl) ?_)
      try simp only [Act.put, List.setIfInBounds_toArray, List.set_cons_zero, List.set_cons_succ]
      first
        | (refine' ordS_take (i := 1) (oi := { dst := some 50, op := Op.move (Operand.tmp 12), type := 3, pos := _, after := #[], guard := none }) (v := _) rfl (by kernel_rfl) (by kernel_rfl) (by kernel_rfl) (by kernel_rfl) (fun _ _ _ h => h) (by assumption) (Or.inl ⟨by rfl, ?hy2⟩) (fun _ => rfl) ?rest2
           case hy2 => (intro w hSw; (try dsimp only at hSw); go_simp; try with_reducible rfl))
        | (refine ordS_take (i := 1) (oi := { dst := some 50, op := Op.move (Operand.tmp 12), type := 3, pos := _, after := #[], guard := none }) (v := undef) rfl (by kernel_rfl) (by kernel_rfl) (by kernel_rfl) (by kernel_rfl) (fun _ _ _ h => h) (by assumption) (Or.inr ⟨by rfl, rfl⟩) (fun _ => rfl) ?_)
      try simp only [Act.put, List.setIfInBounds_toArray, List.set_cons_zero, List.set_cons_succ]
      first
        | (refine' ordS_take (i := 2) (oi := { dst := some 51, op := Op.indexAddr 24 (Operand.tmp 49) (Operand.tmp 50), type := 0, pos := _, after := #[{ on := 0, ground := Ground.data }, { on := 1, ground := Ground.data }], guard := none }) (v := _) rfl (by kernel_rfl) (by kernel_rfl) (by kernel_rfl) (by kernel_rfl) (fun _ _ _ h => h) (by assumption) (Or.inl ⟨by rfl, ?hy3⟩) (fun _ => rfl) ?rest3
           case hy3 => (intro w hSw; (try dsimp only at hSw); go_simp; try with_reducible rfl))
        | (refine ordS_take (i := 2) (oi := { dst := some 51, op := Op.indexAddr 24 (Operand.tmp 49) (Operand.tmp 50), type := 0, pos := _, after := #[{ on := 0, ground := Ground.data }, { on := 1, ground := Ground.data }], guard := none }) (v := undef) rfl (by kernel_rfl) (by kernel_rfl) (by kernel_rfl) (by kernel_rfl) (fun _ _ _ h => h) (by assumption) (Or.inr ⟨by rfl, rfl⟩) (fun _ => rfl) ?_)
      try simp only [Act.put, List.setIfInBounds_toArray, List.set_cons_zero, List.set_cons_succ]
      first
        | (refine' ordS_take (i := 3) (oi := { dst := some 52, op := Op.fieldAddr 40 (Operand.tmp 51) 0, type := 0, pos := _, after := #[{ on := 2, ground := Ground.data }], guard := none }) (v := _) rfl (by kernel_rfl) (by kernel_rfl) (by kernel_rfl) (by kernel_rfl) (fun _ _ _ h => h) (by assumption) (Or.inl ⟨by rfl, ?hy4⟩) (fun _ => rfl) ?rest4
           case hy4 => (intro w hSw; (try dsimp only at hSw); go_simp; try with_reducible rfl))
        | (refine ordS_take (i := 3) (oi := { dst := some 52, op := Op.fieldAddr 40 (Operand.tmp 51) 0, type := 0, pos := _, after := #[{ on := 2, ground := Ground.data }], guard := none }) (v := undef) rfl (by kernel_rfl) (by kernel_rfl) (by kernel_rfl) (by kernel_rfl) (fun _ _ _ h => h) (by assumption) (Or.inr ⟨by rfl, rfl⟩) (fun _ => rfl) ?_)
      try simp only [Act.put, List.setIfInBounds_toArray, List.set_cons_zero, List.set_cons_succ]
      first
        | (refine' ordS_take (i := 4) (oi := { dst := some 53, op := Op.fieldAddr 37 (Operand.tmp 52) 0, type := 0, pos := _, after := #[{ on := 3, ground := Ground.data }], guard := none }) (v := _) rfl (by kernel_rfl) (by kernel_rfl) (by kernel_rfl) (by kernel_rfl) (fun _ _ _ h => h) (by assumption) (Or.inl ⟨by rfl, ?hy5⟩) (fun _ => rfl) ?rest5
           case hy5 => (intro w hSw; (try dsimp only at hSw); go_simp; try with_reducible rfl))
        | (refine ordS_take (i := 4) (oi := { dst := some 53, op := Op.fieldAddr 37 (Operand.tmp 52) 0, type := 0, pos := _, after := #[{ on := 3, ground := Ground.data }], guard := none }) (v := undef) rfl (by kernel_rfl) (by kernel_rfl) (by kernel_rfl) (by kernel_rfl) (fun _ _ _ h => h) (by assumption) (Or.inr ⟨by rfl, rfl⟩) (fun _ => rfl) ?_)
      try simp only [Act.put, List.setIfInBounds_toArray, List.set_cons_zero, List.set_cons_succ]
      first
        | (refine' ordS_take (i := 5) (oi := { dst := some 54, op := Op.load 23 (Operand.tmp 53), type := 23, pos := _, after := #[{ on := 4, ground := Ground.data }], guard := none }) (v := _) rfl (by kernel_rfl) (by kernel_rfl) (by kernel_rfl) (by kernel_rfl) (fun _ _ _ h => h) (by assumption) (Or.inl ⟨by rfl, ?hy6⟩) (fun _ => rfl) ?rest6
           case hy6 => (intro w hSw; (try dsimp only at hSw); go_simp; try with_reducible rfl))
        | (refine ordS_take (i := 5) (oi := { dst := some 54, op := Op.load 23 (Operand.tmp 53), type := 23, pos := _, after := #[{ on := 4, ground := Ground.data }], guard := none }) (v := undef) rfl (by kernel_rfl) (by kernel_rfl) (by kernel_rfl) (by kernel_rfl) (fun _ _ _ h => h) (by assumption) (Or.inr ⟨by rfl, rfl⟩) (fun _ => rfl) ?_)
      try simp only [Act.put, List.setIfInBounds_toArray, List.set_cons_zero, List.set_cons_succ]
      first
        | (refine' ordS_take (i := 6) (oi := { dst := some 55, op := Op.move (Operand.tmp 1), type := 24, pos := _, after := #[], guard := none }) (v := _) rfl (by kernel_rfl) (by kernel_rfl) (by kernel_rfl) (by kernel_rfl) (fun _ _ _ h => h) (by assumption) (Or.inl ⟨by rfl, ?hy7⟩) (fun _ => rfl) ?rest7
           case hy7 => (intro w hSw; (try dsimp only at hSw); go_simp; try with_reducible rfl))
        | (refine ordS_take (i := 6) (oi := { dst := some 55, op := Op.move (Operand.tmp 1), type := 24, pos := _, after := #[], guard := none }) (v := undef) rfl (by kernel_rfl) (by kernel_rfl) (by kernel_rfl) (by kernel_rfl) (fun _ _ _ h => h) (by assumption) (Or.inr ⟨by rfl, rfl⟩) (fun _ => rfl) ?_)
      try simp only [Act.put, List.setIfInBounds_toArray, List.set_cons_zero, List.set_cons_succ]
      first
        | (refine' ordS_take (i := 7) (oi := { dst := some 56, op := Op.move (Operand.tmp 12), type := 3, pos := _, after := #[], guard := none }) (v := _) rfl (by kernel_rfl) (by kernel_rfl) (by kernel_rfl) (by kernel_rfl) (fun _ _ _ h => h) (by assumption) (Or.inl ⟨by rfl, ?hy8⟩) (fun _ => rfl) ?rest8
           case hy8 => (intro w hSw; (try dsimp only at hSw); go_simp; try with_reducible rfl))
        | (refine ordS_take (i := 7) (oi := { dst := some 56, op := Op.move (Operand.tmp 12), type := 3, pos := _, after := #[], guard := none }) (v := undef) rfl (by kernel_rfl) (by kernel_rfl) (by kernel_rfl) (by kernel_rfl) (fun _ _ _ h => h) (by assumption) (Or.inr ⟨by rfl, rfl⟩) (fun _ => rfl) ?_)
      try simp only [Act.put, List.setIfInBounds_toArray, List.set_cons_zero, List.set_cons_succ]
      first
        | (refine' ordS_take (i := 8) (oi := { dst := some 57, op := Op.indexAddr 24 (Operand.tmp 55) (Operand.tmp 56), type := 0, pos := _, after := #[{ on := 6, ground := Ground.data }, { on := 7, ground := Ground.data }], guard := none }) (v := _) rfl (by kernel_rfl) (by kernel_rfl) (by kernel_rfl) (by kernel_rfl) (fun _ _ _ h => h) (by assumption) (Or.inl ⟨by rfl, ?hy9⟩) (fun _ => rfl) ?rest9
           case hy9 => (intro w hSw; (try dsimp only at hSw); go_simp; try with_reducible rfl))
        | (refine ordS_take (i := 8) (oi := { dst := some 57, op := Op.indexAddr 24 (Operand.tmp 55) (Operand.tmp 56), type := 0, pos := _, after := #[{ on := 6, ground := Ground.data }, { on := 7, ground := Ground.data }], guard := none }) (v := undef) rfl (by kernel_rfl) (by kernel_rfl) (by kernel_rfl) (by kernel_rfl) (fun _ _ _ h => h) (by assumption) (Or.inr ⟨by rfl, rfl⟩) (fun _ => rfl) ?_)
      try simp only [Act.put, List.setIfInBounds_toArray, List.set_cons_zero, List.set_cons_succ]
      first
        | (refine' ordS_take (i := 9) (oi := { dst := some 58, op := Op.fieldAddr 40 (Operand.tmp 57) 1, type := 0, pos := _, after := #[{ on := 8, ground := Ground.data }], guard := none }) (v := _) rfl (by kernel_rfl) (by kernel_rfl) (by kernel_rfl) (by kernel_rfl) (fun _ _ _ h => h) (by assumption) (Or.inl ⟨by rfl, ?hy10⟩) (fun _ => rfl) ?rest10
           case hy10 => (intro w hSw; (try dsimp only at hSw); go_simp; try with_reducible rfl))
        | (refine ordS_take (i := 9) (oi := { dst := some 58, op := Op.fieldAddr 40 (Operand.tmp 57) 1, type := 0, pos := _, after := #[{ on := 8, ground := Ground.data }], guard := none }) (v := undef) rfl (by kernel_rfl) (by kernel_rfl) (by kernel_rfl) (by kernel_rfl) (fun _ _ _ h => h) (by assumption) (Or.inr ⟨by rfl, rfl⟩) (fun _ => rfl) ?_)
      try simp only [Act.put, List.setIfInBounds_toArray, List.set_cons_zero, List.set_cons_succ]
      first
        | (refine' ordS_take (i := 10) (oi := { dst := some 59, op := Op.load 38 (Operand.tmp 58), type := 38, pos := _, after := #[{ on := 9, ground := Ground.data }], guard := none }) (v := _) rfl (by kernel_rfl) (by kernel_rfl) (by kernel_rfl) (by kernel_rfl) (fun _ _ _ h => h) (by assumption) (Or.inl ⟨by rfl, ?hy11⟩) (fun _ => rfl) ?rest11
           case hy11 => (intro w hSw; (try dsimp only at hSw); go_simp; try with_reducible rfl))
        | (refine ordS_take (i := 10) (oi := { dst := some 59, op := Op.load 38 (Operand.tmp 58), type := 38, pos := _, after := #[{ on := 9, ground := Ground.data }], guard := none }) (v := undef) rfl (by kernel_rfl) (by kernel_rfl) (by kernel_rfl) (by kernel_rfl) (fun _ _ _ h => h) (by assumption) (Or.inr ⟨by rfl, rfl⟩) (fun _ => rfl) ?_)
      try simp only [Act.put, List.setIfInBounds_toArray, List.set_cons_zero, List.set_cons_succ]
      refine ordS_one (i := 11) (o := { dst := some 60, op := Op.call { callee := Callee.value (Operand.func 13), args := #[Operand.tmp 54, Operand.tmp 59], argTypes := #[23, 38] }, type := 41, pos := _, after := #[{ on := 5, ground := Ground.data }, { on := 10, ground := Ground.data }], guard := none }) (by kernel_rfl) rfl (by rfl) (fun K hK => ?_)
      go_simp
      refine ⟨trivial, (callsIn_wide.2 (fset_any A B ca cc zs _ (qc.below hD) (by omega))).mono ?_⟩
      rintro e w2' ⟨p, rfl, hmp, hb2⟩
      rw [HBS.out] at hmp
      have hdz : wr.drew.heap.size = wr.heap.size := rfl
      rw [hdz] at hmp
      have hB2 := bl_tr hD hb2
      have hfl := F.lt
      replace F := F.below hB2
      replace qh := qh.below hB2
      have hA2 := bl_tr hAr hB2
      replace q0 := cell_later hB2 q0
      replace q1 := cell_later hB2 q1
      replace q2 := cell_later hB2 q2
      replace q3 := cell_later hB2 q3
      replace f0 := cell_later hB2 f0
      replace f1 := cell_later hB2 f1
      replace p0 := cell_later hB2 p0
      replace p1 := cell_later hB2 p1
      have hS2w : (fun w' : World => w'.cell? ⟨gb, go + k * 4, none⟩ = some (.int .i64 A) ∧ w'.cell? ⟨gb, go + k * 4 + 1, none⟩ = some (.int .i64 B) ∧ w'.cell? ⟨gb, go + k * 4 + 2, none⟩ = some (.slice fa fs.length fc) ∧ w'.cell? ⟨gb, go + k * 4 + 3, none⟩ = some (.slice ca zs.length cc)) w2' := ⟨q0, q1, q2, q3⟩
      refine hK _ _ hS2w ?_
      clear hK K
      try simp only [Act.put, List.setIfInBounds_toArray, List.set_cons_zero, List.set_cons_succ]
      first
        | (refine' ordS_take (i := 12) (oi := { dst := some 13, op := Op.assign (Operand.tmp 60), type := 41, pos := _, after := #[{ on := 11, ground := Ground.data }, { on := 11, ground := Ground.chain }, { on := 0, ground := Ground.phase }, { on := 1, ground := Ground.phase }, { on := 2, ground := Ground.phase }, { on := 3, ground := Ground.phase }, { on := 4, ground := Ground.phase }, { on := 5, ground := Ground.phase }, { on := 6, ground := Ground.phase }, { on := 7, ground := Ground.phase }, { on := 8, ground := Ground.phase }, { on := 9, ground := Ground.phase }, { on := 10, ground := Ground.phase }, { on := 11, ground := Ground.phase }], guard := none }) (v := _) rfl (by kernel_rfl) (by kernel_rfl) (by kernel_rfl) (by kernel_rfl) (fun _ _ _ h => h) (by assumption) (Or.inl ⟨by rfl, ?hy12⟩) (fun _ => rfl) ?rest12
           case hy12 => (intro w hSw; (try dsimp only at hSw); go_simp; try with_reducible rfl))
        | (refine ordS_take (i := 12) (oi := { dst := some 13, op := Op.assign (Operand.tmp 60), type := 41, pos := _, after := #[{ on := 11, ground := Ground.data }, { on := 11, ground := Ground.chain }, { on := 0, ground := Ground.phase }, { on := 1, ground := Ground.phase }, { on := 2, ground := Ground.phase }, { on := 3, ground := Ground.phase }, { on := 4, ground := Ground.phase }, { on := 5, ground := Ground.phase }, { on := 6, ground := Ground.phase }, { on := 7, ground := Ground.phase }, { on := 8, ground := Ground.phase }, { on := 9, ground := Ground.phase }, { on := 10, ground := Ground.phase }, { on := 11, ground := Ground.phase }], guard := none }) (v := undef) rfl (by kernel_rfl) (by kernel_rfl) (by kernel_rfl) (by kernel_rfl) (fun _ _ _ h => h) (by assumption) (Or.inr ⟨by rfl, rfl⟩) (fun _ => rfl) ?_)
      try simp only [Act.put, List.setIfInBounds_toArray, List.set_cons_zero, List.set_cons_succ]
      refine ordS_done (by kernel_rfl) ?_
      have zwr := hB2.size
      clear hb2 hB2 hD hH hAr qc q3 hS2w
      go_wp2_with fail
      refine (merge_any _ g h N X Y v ms A B fa fc fs bs p _ w2' qh HAH.out F HLEN.out hmp (by omega) (by omega) hv1).mono ?_
      rintro e w3' ⟨a3, c3, rfl, _, _, hf3, hk3⟩
      have zw2 := hA2.size
      rw [HS1.out, HS2.out] at hf3
      have hA3 := KeptT.below hA2 (Nat.le_refl _) hk3 (by omega) (by omega)
      replace q0 := hk3.cell q0 (by omega) (by omega)
      replace q1 := hk3.cell q1 (by omega) (by omega)
      replace q2 := hk3.cell q2 (by omega) (by omega)
      replace f0 := hk3.cell f0 (by omega) (by omega)
      replace f1 := hk3.cell f1 (by omega) (by omega)
      replace p0 := hk3.cell p0 (by omega) (by omega)
      replace p1 := hk3.cell p1 (by omega) (by omega)
      replace hmp := hmp.keptT hk3 (by omega) (by omega)
      obtain ⟨E, hE⟩ : ∃ E, lookE X Y A B fs.length = E := ⟨_, rfl⟩
      obtain ⟨ns, hns⟩ : ∃ ns, (lookS X Y A B fs bs ms).2 = ns := ⟨_, rfl⟩
      rw [hE, hns]
      rw [hns] at HS2
      have F := hf3
      have b1 : (v2 != v2) = false := by simp
      have hv3 : 0 ≤ v2 := by have := HS2.out; split at this <;> omega
      have hv4 : v2 ≤ 1048576 := by have := HS2.out; split at this <;> omega
      clear hf3 hk3 hA2
      by_cases hE0 : E = 0
      · subst hE0
        obtain ⟨m1, hch, hAX, hBY⟩ := lookE_ok hE
        have hgd := HBG.out m1
        rw [hAX, hBY] at hgd
        have HTW := Lib.hid (show lookS X Y A B fs bs ms2 = (ms2, []) by rw [← HS1.out]; exact look_twice hE hgd HLEN.out)
        have HE := Lib.hid hE
        have hkn : knA X Y x y ms2 = if inM X Y bs (x, y) = true then some (fs.getD (numC X (x, y)) 0) else o := by rw [← HS1.out, ← HO.out]; exact kn_look hE hgd HLEN.out
        have htt : hasP A B bs (x, y) = inM X Y bs (x, y) := by unfold hasP; rw [m1, hAX, hBY]; rfl
        have hfl2 : (fs.length : Int) = X * Y := by rw [(chkF_len hch).2, hAX, hBY]
        have hE00 : (0 : Int) = 0 := rfl
        clear hE hch hAX hBY m1 hgd
        cases ht : inM X Y bs (x, y) with
        | true =>
          rw [ht] at htt hkn
          rw [if_pos rfl] at hkn
          have hi := inM_in ht
          dsimp only at hi
          obtain ⟨i1, i2⟩ := idx_lt hi
          obtain ⟨j, hj⟩ : ∃ j : Nat, y * X + x = j := ⟨(y * X + x).toNat, by omega⟩
          have hjl : j < fs.length := by omega
          have hnj : numC X (x, y) = j := by unfold numC; dsimp only; omega
          obtain ⟨z, hz⟩ : ∃ z, fs.getD (numC X (x, y)) 0 = z := ⟨_, rfl⟩
          rw [hz] at hkn
          obtain ⟨gf, gof, efa, hqf⟩ := QH.out.cell hjl
          have hzz : fs[j] = z := by rw [← hz, hnj]; simp [List.getD, hjl]
          rw [hzz] at hqf
          have hjl2 : (j : Int) < (fs.length : Int) := by omega
          have hj0 : (0 : Int) ≤ (j : Int) := by omega
          have HT := Lib.hid htt
          have HKN := Lib.hid hkn
          have HJ := Lib.hid hj
          have HSB2 := Lib.hid (show (some z : Option Int).isSome = true from rfl)
          have HSC2 := Lib.hid (show (some z : Option Int).getD 0 = z from rfl)
          have b2 : (z != z) = false := by simp
          clear hkn htt ht i1 i2 hj hnj hz hzz hfl2
          subst efa
          go_wp2_with fail
          refine (has_ptr A B x y bs p _ _ hmp).mono ?_
          rintro e w4 ⟨rfl, hb⟩
          rw [HT.out]
          replace q0 := cell_later hb q0
          replace q1 := cell_later hb q1
          replace q2 := cell_later hb q2
          replace f0 := cell_later hb f0
          replace f1 := cell_later hb f1
          replace p0 := cell_later hb p0
          replace p1 := cell_later hb p1
          replace F := F.below hb
          replace hmp := hmp.below hb
          have hA4 := bl_tr hA3 hb
          clear hb hA3
          go_wp2_with fail
          refine (index_yes X Y x y _ hi).mono ?_
          rintro e w5 ⟨rfl, hb⟩
          rw [HJ.out]
          replace q0 := cell_later hb q0
          replace q1 := cell_later hb q1
          replace q2 := cell_later hb q2
          replace f0 := cell_later hb f0
          replace f1 := cell_later hb f1
          replace p0 := cell_later hb p0
          replace p1 := cell_later hb p1
          replace F := F.below hb
          replace hmp := hmp.below hb
          have hA5 := bl_tr hA4 hb
          have hq5 := cell_later hA5 hqf
          have zq5 := blk_lt hq5
          clear hb hA4 hqf hi
          by_cases hns0 : ns = []
          · subst hns0
            have hvv : v = v2 := by have := HS2.out; rw [if_pos rfl] at this; omega
            subst hvv
            go_wp2_with fail
            refine (merge_any _ g h N X Y _ ms2 A B _ fc fs bs p _ _ (QH.out.below hA5) HAH.out F HLEN'.out hmp (by omega) (by omega) hv3).mono ?_
            rintro e w6 ⟨a6, c6, rfl, _, _, hf6, hk6⟩
            rw [HTW.out] at hf6
            rw [if_pos rfl, Int.add_zero] at hf6
            rw [HTW.out, HE.out]
            have zw5 := hA5.size
            have hA6 := KeptT.below hA5 (Nat.le_refl _) hk6 (by omega) (by omega)
            replace f0 := hk6.cell f0 (by omega) (by omega)
            replace f1 := hk6.cell f1 (by omega) (by omega)
            replace p0 := hk6.cell p0 (by omega) (by omega)
            replace p1 := hk6.cell p1 (by omega) (by omega)
            clear hk6 hA5 F hmp q0 q1 q2
            go_wp2_with fail
            refine (known_any _ g h N X Y x y _ _ _ hf6 HLEN'.out).mono ?_
            rintro e w7 ⟨rfl, hb⟩
            rw [HKN.out, HSB2.out, HSC2.out]
            replace f0 := cell_later hb f0
            replace f1 := cell_later hb f1
            replace p0 := cell_later hb p0
            replace p1 := cell_later hb p1
            have hA7 := bl_tr hA6 hb
            replace hf6 := hf6.below hb
            clear hb hA6
            go_wp2_with fail
            refine (version_any _ _ _ _ _ _ _ _ _ hf6).mono ?_
            rintro e w8 ⟨rfl, rfl⟩
            have HI2 := Lib.hid (show LastI w g h N X Y x y ls (k + 1) w8 from ⟨by rw [HSP.out, HM2.out, HV2.out]; exact hf6, hA7, f0, f1, p0, p1⟩)
            clear hf6 hA7 f0 f1 p0 p1
            go_wp2
            go_roundw
            case rel => exact ⟨k + 1, by omega, by go_num, by rw [HSP.out, HM2.out, HKN.out, HSB2.out], by rw [HSP.out, HM2.out, HKN.out, HSC2.out], by rw [HSP.out, HV2.out], HI2.out⟩
            case measure => simp [intOf]; omega
          · have hnl : 0 < ns.length := List.length_pos_iff.2 hns0
            have hvv : v + 1 = v2 := by have := HS2.out; rw [if_neg hns0] at this; exact this
            obtain ⟨m, hm⟩ : ∃ m, ns.length = m := ⟨_, rfl⟩
            rw [hm] at hnl
            rw [hm]
            have hnl2 : (0 : Int) < (m : Int) := by omega
            clear hm hns0
            subst hvv
            go_wp2_with fail
            refine (merge_any _ g h N X Y _ ms2 A B _ fc fs bs p _ _ (QH.out.below hA5) HAH.out F HLEN'.out hmp (by omega) (by omega) hv3).mono ?_
            rintro e w6 ⟨a6, c6, rfl, _, _, hf6, hk6⟩
            rw [HTW.out] at hf6
            rw [if_pos rfl, Int.add_zero] at hf6
            rw [HTW.out, HE.out]
            have zw5 := hA5.size
            have hA6 := KeptT.below hA5 (Nat.le_refl _) hk6 (by omega) (by omega)
            replace f0 := hk6.cell f0 (by omega) (by omega)
            replace f1 := hk6.cell f1 (by omega) (by omega)
            replace p0 := hk6.cell p0 (by omega) (by omega)
            replace p1 := hk6.cell p1 (by omega) (by omega)
            clear hk6 hA5 F hmp q0 q1 q2
            go_wp2_with fail
            refine (known_any _ g h N X Y x y _ _ _ hf6 HLEN'.out).mono ?_
            rintro e w7 ⟨rfl, hb⟩
            rw [HKN.out, HSB2.out, HSC2.out]
            replace f0 := cell_later hb f0
            replace f1 := cell_later hb f1
            replace p0 := cell_later hb p0
            replace p1 := cell_later hb p1
            have hA7 := bl_tr hA6 hb
            replace hf6 := hf6.below hb
            clear hb hA6
            go_wp2_with fail
            refine (version_any _ _ _ _ _ _ _ _ _ hf6).mono ?_
            rintro e w8 ⟨rfl, rfl⟩
            have HI2 := Lib.hid (show LastI w g h N X Y x y ls (k + 1) w8 from ⟨by rw [HSP.out, HM2.out, HV2.out]; exact hf6, hA7, f0, f1, p0, p1⟩)
            clear hf6 hA7 f0 f1 p0 p1
            go_wp2
            go_roundw
            case rel => exact ⟨k + 1, by omega, by go_num, by rw [HSP.out, HM2.out, HKN.out, HSB2.out], by rw [HSP.out, HM2.out, HKN.out, HSC2.out], by rw [HSP.out, HV2.out], HI2.out⟩
            case measure => simp [intOf]; omega
        | false =>
          rw [ht] at htt hkn
          rw [if_neg (by decide)] at hkn
          have HT := Lib.hid htt
          have HKN := Lib.hid hkn
          have HSB2 := Lib.hid HSB.out
          have HSC2 := Lib.hid HSC.out
          have b2 : (sc != sc) = false := by simp
          have b3 : (sb != sb) = false := by simp
          clear hkn htt ht hfl2
          go_wp2_with fail
          refine (has_ptr A B x y bs p _ _ hmp).mono ?_
          rintro e w5 ⟨rfl, hb⟩
          rw [HT.out]
          replace q0 := cell_later hb q0
          replace q1 := cell_later hb q1
          replace q2 := cell_later hb q2
          replace f0 := cell_later hb f0
          replace f1 := cell_later hb f1
          replace p0 := cell_later hb p0
          replace p1 := cell_later hb p1
          replace F := F.below hb
          replace hmp := hmp.below hb
          have hA5 := bl_tr hA3 hb
          clear hb hA3
          by_cases hns0 : ns = []
          · subst hns0
            have hvv : v = v2 := by have := HS2.out; rw [if_pos rfl] at this; omega
            subst hvv
            go_wp2_with fail
            refine (merge_any _ g h N X Y _ ms2 A B _ fc fs bs p _ _ (QH.out.below hA5) HAH.out F HLEN'.out hmp (by omega) (by omega) hv3).mono ?_
            rintro e w6 ⟨a6, c6, rfl, _, _, hf6, hk6⟩
            rw [HTW.out] at hf6
            rw [if_pos rfl, Int.add_zero] at hf6
            rw [HTW.out, HE.out]
            have zw5 := hA5.size
            have hA6 := KeptT.below hA5 (Nat.le_refl _) hk6 (by omega) (by omega)
            replace f0 := hk6.cell f0 (by omega) (by omega)
            replace f1 := hk6.cell f1 (by omega) (by omega)
            replace p0 := hk6.cell p0 (by omega) (by omega)
            replace p1 := hk6.cell p1 (by omega) (by omega)
            clear hk6 hA5 F hmp q0 q1 q2
            go_wp2_with fail
            refine (known_any _ g h N X Y x y _ _ _ hf6 HLEN'.out).mono ?_
            rintro e w7 ⟨rfl, hb⟩
            rw [HKN.out, HSB2.out, HSC2.out]
            replace f0 := cell_later hb f0
            replace f1 := cell_later hb f1
            replace p0 := cell_later hb p0
            replace p1 := cell_later hb p1
            have hA7 := bl_tr hA6 hb
            replace hf6 := hf6.below hb
            clear hb hA6
            go_wp2_with fail
            refine (version_any _ _ _ _ _ _ _ _ _ hf6).mono ?_
            rintro e w8 ⟨rfl, rfl⟩
            have HI2 := Lib.hid (show LastI w g h N X Y x y ls (k + 1) w8 from ⟨by rw [HSP.out, HM2.out, HV2.out]; exact hf6, hA7, f0, f1, p0, p1⟩)
            clear hf6 hA7 f0 f1 p0 p1
            go_wp2
            go_roundw
            case rel => exact ⟨k + 1, by omega, by go_num, by rw [HSP.out, HM2.out, HKN.out, HSB2.out], by rw [HSP.out, HM2.out, HKN.out, HSC2.out], by rw [HSP.out, HV2.out], HI2.out⟩
            case measure => simp [intOf]; omega
          · have hnl : 0 < ns.length := List.length_pos_iff.2 hns0
            have hvv : v + 1 = v2 := by have := HS2.out; rw [if_neg hns0] at this; exact this
            obtain ⟨m, hm⟩ : ∃ m, ns.length = m := ⟨_, rfl⟩
            rw [hm] at hnl
            rw [hm]
            have hnl2 : (0 : Int) < (m : Int) := by omega
            clear hm hns0
            subst hvv
            go_wp2_with fail
            refine (merge_any _ g h N X Y _ ms2 A B _ fc fs bs p _ _ (QH.out.below hA5) HAH.out F HLEN'.out hmp (by omega) (by omega) hv3).mono ?_
            rintro e w6 ⟨a6, c6, rfl, _, _, hf6, hk6⟩
            rw [HTW.out] at hf6
            rw [if_pos rfl, Int.add_zero] at hf6
            rw [HTW.out, HE.out]
            have zw5 := hA5.size
            have hA6 := KeptT.below hA5 (Nat.le_refl _) hk6 (by omega) (by omega)
            replace f0 := hk6.cell f0 (by omega) (by omega)
            replace f1 := hk6.cell f1 (by omega) (by omega)
            replace p0 := hk6.cell p0 (by omega) (by omega)
            replace p1 := hk6.cell p1 (by omega) (by omega)
            clear hk6 hA5 F hmp q0 q1 q2
            go_wp2_with fail
            refine (known_any _ g h N X Y x y _ _ _ hf6 HLEN'.out).mono ?_
            rintro e w7 ⟨rfl, hb⟩
            rw [HKN.out, HSB2.out, HSC2.out]
            replace f0 := cell_later hb f0
            replace f1 := cell_later hb f1
            replace p0 := cell_later hb p0
            replace p1 := cell_later hb p1
            have hA7 := bl_tr hA6 hb
            replace hf6 := hf6.below hb
            clear hb hA6
            go_wp2_with fail
            refine (version_any _ _ _ _ _ _ _ _ _ hf6).mono ?_
            rintro e w8 ⟨rfl, rfl⟩
            have HI2 := Lib.hid (show LastI w g h N X Y x y ls (k + 1) w8 from ⟨by rw [HSP.out, HM2.out, HV2.out]; exact hf6, hA7, f0, f1, p0, p1⟩)
            clear hf6 hA7 f0 f1 p0 p1
            go_wp2
            go_roundw
            case rel => exact ⟨k + 1, by omega, by go_num, by rw [HSP.out, HM2.out, HKN.out, HSB2.out], by rw [HSP.out, HM2.out, HKN.out, HSC2.out], by rw [HSP.out, HV2.out], HI2.out⟩
            case measure => simp [intOf]; omega
      · have hoff : lookS X Y A B fs bs ms = (ms, []) := look_off (by rw [hE]; exact hE0)
        have hn0 : ns = [] := by rw [← hns, hoff]
        have hm2 : ms2 = ms := by rw [← HS1.out, hoff]
        subst hn0
        have hvv : v = v2 := by have := HS2.out; rw [if_pos rfl] at this; omega
        have hEf : (E == 0) = false := by rw [beq_eq_false_iff_ne]; exact hE0
        have HKN := Lib.hid (show knA X Y x y ms2 = o by rw [hm2]; exact HO.out)
        have HSB2 := Lib.hid HSB.out
        have HSC2 := Lib.hid HSC.out
        have b2 : (sc != sc) = false := by simp
        have b3 : (sb != sb) = false := by simp
        have hf6 := F
        have hA6 := hA3
        clear F hA3 hE hns hoff hm2 hE0
        subst hvv
        go_wp2_with fail
        refine (known_any _ g h N X Y x y _ _ _ hf6 HLEN'.out).mono ?_
        rintro e w7 ⟨rfl, hb⟩
        rw [HKN.out, HSB2.out, HSC2.out]
        replace f0 := cell_later hb f0
        replace f1 := cell_later hb f1
        replace p0 := cell_later hb p0
        replace p1 := cell_later hb p1
        have hA7 := bl_tr hA6 hb
        replace hf6 := hf6.below hb
        clear hb hA6
        go_wp2_with fail
        refine (version_any _ _ _ _ _ _ _ _ _ hf6).mono ?_
        rintro e w8 ⟨rfl, rfl⟩
        have HI2 := Lib.hid (show LastI w g h N X Y x y ls (k + 1) w8 from ⟨by rw [HSP.out, HM2.out, HV2.out]; exact hf6, hA7, f0, f1, p0, p1⟩)
        clear hf6 hA7 f0 f1 p0 p1
        go_wp2
        go_roundw
        case rel => exact ⟨k + 1, by omega, by go_num, by rw [HSP.out, HM2.out, HKN.out, HSB2.out], by rw [HSP.out, HM2.out, HKN.out, HSC2.out], by rw [HSP.out, HV2.out], HI2.out⟩
        case measure => simp [intOf]; omega
    · have hge : (ls.length : Int) ≤ (k : Int) := by omega
      clear F f0 f1 p0 p1
      go_wp2_with fail
      refine (fawake _).mono ?_
      rintro e w9 ⟨rfl, hb⟩
      have HA := Lib.hid (bl_tr hAr hb)
      clear hb hAr
      go_wp2
      go_ret
      exact ⟨rfl, HA.out⟩
theorem flast_walk (X Y x y : Int) (a : Option Addr) (cap : Nat) (ls : List LookD) (w : World) (hr : RowL w a ls) :
    Calls Try.prog 5 #[.agg #[.int .i64 X, .int .i64 Y], .slice a ls.length cap, .agg #[.int .i64 x, .int .i64 y]] w fun e w' => e = .returned (.bool true) ∧ Below w.heap.size w w' := by
  cases h1 : fewB X Y ls with
  | false => exact flast_out1 X Y x y a cap ls w hr h1
  | true =>
  cases h2 : mayB X Y with
  | false => exact flast_out2 X Y x y a cap ls w hr h1 h2
  | true => exact flast_yes X Y x y a cap ls w hr h1 h2
end Go.Proofs.Ytmcgkoleaomjlaa
