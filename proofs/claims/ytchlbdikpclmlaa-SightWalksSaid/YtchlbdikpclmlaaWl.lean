/- What is seen along a line: the document's answer. -/
import Derived.Test.YtchlbdikpclmlaaWk
namespace Go.Proofs.Ytchlbdikpclmlaa
open Go.RowKit

theorem tail_one {l : List (Int × Int)} (h : l.length ≤ 1) : l.tail = [] := by
  match l, h with
  | [], _ => rfl
  | [_], _ => rfl
set_option maxRecDepth 100000 in
set_option maxHeartbeats 4000000 in
theorem rwalk_any (A B : Int) (a : Option Addr) (cap : Nat) (zs : List Int) (X Y Z V : Int) (n : Nat) (w : World) (hr : RowH w a zs) (hin : AllH zs) (h1 : inB A B X Y = true) (h2 : inB A B Z V = true) (hzn : (zs.length : Int) = A * B) (hf : max (apartI X Z) (apartI Y V) = n) :
    Calls Try.prog 21 #[.agg #[.int .i64 A, .int .i64 B, .slice a zs.length cap], .agg #[.int .i64 X, .int .i64 Y], .agg #[.int .i64 Z, .int .i64 V]] w fun e w' => ∃ b cap2, e = .returned (.slice b (seenF A zs X Y Z V n).length cap2) ∧ RowC w' b (seenF A zs X Y Z V n) ∧ Below w.heap.size w w' := by
  obtain ⟨n', hn', hdx, hdy⟩ := far_nat X Y Z V
  have en : n = n' := by omega
  subst en
  clear hn'
  have hn : n ≤ 255 := by have := far_in h1 h2; omega
  have hA := bl0 w
  have hl1 : ∀ k, k ≤ n → inB A B (lineK X Y Z V n k).1 (lineK X Y Z V n k).2 = true := fun k hk => line_in h1 h2 hdx hdy hk
  have HX := Lib.hid (in_plain h1)
  have HZ := Lib.hid (in_plain h2)
  have HF := Lib.hid hf
  have HL1 := Lib.hid hl1
  have HN := Lib.hid hzn
  clear h1 h2 hf hl1 hzn
  go_enter Try.func21, Try.ntmps21
  go_wp2_with fail
  refine (rline_cap X Y Z V n _ HX.out HZ.out HF.out (by omega)).mono ?_
  rintro e w1 ⟨b, cap2, rfl, hcap, hrc, hb⟩
  have hk : Below w.heap.size w w1 := by first | exact hb | exact bl_tr (bl_al (bl0 _) _) hb | exact bl_tr (bl_dr (bl_al (bl0 _) _)) hb | exact bl_tr (bl_al (bl_al (bl0 _) _) _) hb | exact bl_tr (bl_dr (bl_al (bl_al (bl0 _) _) _)) hb | exact bl_tr (bl_al (bl_al (bl_al (bl0 _) _) _) _) hb | exact bl_tr (bl_dr (bl_al (bl_al (bl_al (bl0 _) _) _) _)) hb | exact bl_tr (bl_al (bl_al (bl_al (bl_al (bl0 _) _) _) _) _) hb | exact bl_tr (bl_dr (bl_al (bl_al (bl_al (bl_al (bl0 _) _) _) _) _)) hb | exact bl_tr (bl_al (bl_al (bl_al (bl_al (bl_al (bl0 _) _) _) _) _) _) hb | exact bl_tr (bl_dr (bl_al (bl_al (bl_al (bl_al (bl_al (bl0 _) _) _) _) _) _)) hb | exact bl_tr (bl_al (bl_al (bl_al (bl_al (bl_al (bl_al (bl0 _) _) _) _) _) _) _) hb | exact bl_tr (bl_dr (bl_al (bl_al (bl_al (bl_al (bl_al (bl_al (bl0 _) _) _) _) _) _) _)) hb | exact bl_tr (bl_dr (bl0 _)) hb
  replace hA := bl_tr hA hk
  have f0 := cell_later hb (v := .int .i64 A) (a := ⟨w.heap.size, 0, none⟩) (by simp [go_sem])
  have f1 := cell_later hb (v := .int .i64 B) (a := ⟨w.heap.size, 1, none⟩) (by simp [go_sem])
  have f2 := cell_later hb (v := .slice a zs.length cap) (a := ⟨w.heap.size, 2, none⟩) (by simp [go_sem])
  clear hb hk
  have zf0 := blk_lt f0
  have zf1 := blk_lt f1
  have zf2 := blk_lt f2
  have hrH := hr.below hA
  have hlen : (lineF X Y Z V n).length = n + 1 := lineF_len
  have hlb : (lineF X Y Z V n).length ≤ 256 := by omega
  have HLn := Lib.hid hlen
  clear hlen
  go_wp2
  go_loopw [8] (fun i wr => ∃ k : Nat, 1 ≤ k ∧ k ≤ (lineF X Y Z V n).length ∧ i = .int .i64 k ∧ (∀ c ∈ ((lineF X Y Z V n).take k).tail, wallB A zs c = false) ∧ Below w1.heap.size w1 wr) (fun i _ => (lineF X Y Z V n).length - (intOf i).toNat)
  case atStart =>
    refine ⟨1, Nat.le_refl _, by have := HLn.out; omega, rfl, ?_, bl0 w1⟩
    rw [tail_one (by rw [List.length_take]; omega)]
    simp
  case round =>
    obtain ⟨k, hk1, hk, rfl, ht, hB⟩ := hrel
    have HT := Lib.hid ht
    clear ht
    by_cases hlt : k < (lineF X Y Z V n).length
    · have hlt2 : (k : Int) < ((lineF X Y Z V n).length : Int) := by omega
      have hk0 : (0 : Int) ≤ (k : Int) := by omega
      obtain ⟨gb, go, rfl, q0, q1⟩ := hrc.cell hlt
      have hat : (lineF X Y Z V n)[k] = lineK X Y Z V n k := by
        have h := lineF_at (X := X) (Y := Y) (Z := Z) (V := V) (n := n) (k := k) (by have := HLn.out; omega)
        rw [List.getElem?_eq_getElem hlt] at h
        exact Option.some.inj h
      rw [hat] at q0 q1
      have HI := Lib.hid (HL1.out k (by have := HLn.out; omega))
      have HSn := Lib.hid (show (lineF X Y Z V n).take (k + 1) = (lineF X Y Z V n).take k ++ [lineK X Y Z V n k] from lineF_snoc (by have := HLn.out; omega))
      have HTE := Lib.hid (show wallB A zs (lineK X Y Z V n k) = true → seenF A zs X Y Z V n = (lineF X Y Z V n).take (k + 1) by
        intro hw
        rw [HSn.out]
        refine walk_stop ?_ ?_ HT.out hw
        · rw [← HSn.out]; exact List.take_prefix _ _
        · intro e
          have := congrArg List.length e
          rw [List.length_take, List.length_nil] at this
          omega)
      have HTN := Lib.hid (show wallB A zs (lineK X Y Z V n k) = false → ∀ c ∈ ((lineF X Y Z V n).take (k + 1)).tail, wallB A zs c = false by
        intro hw c hc
        have hne : (lineF X Y Z V n).take k ≠ [] := by
          intro e
          have := congrArg List.length e
          rw [List.length_take, List.length_nil] at this
          omega
        rw [HSn.out, List.tail_append_of_ne_nil hne, List.mem_append] at hc
        rcases hc with hc | hc
        · exact HT.out c hc
        · simp at hc; rw [hc]; exact hw)
      replace q0 := cell_later hB q0
      replace q1 := cell_later hB q1
      have g0 := cell_later hB f0
      have g1 := cell_later hB f1
      have g2 := cell_later hB f2
      have hrW := hrH.below hB
      have hcapK : k + 1 ≤ cap2 := by omega
      have hcapI : (k : Int) + 1 ≤ (cap2 : Int) := by omega
      clear hat HT HSn
      obtain ⟨x, hx⟩ : ∃ x, (lineK X Y Z V n k).1 = x := ⟨_, rfl⟩
      obtain ⟨y, hy⟩ : ∃ y, (lineK X Y Z V n k).2 = y := ⟨_, rfl⟩
      have HP := Lib.hid (show lineK X Y Z V n k = (x, y) by rw [← hx, ← hy])
      rw [hx] at q0
      rw [hy] at q1
      have hixy : inB A B x y = true := by rw [← hx, ← hy]; exact HI.out
      have HIX := Lib.hid hixy
      clear hx hy HI hixy
      go_wp2_with fail
      have hb2 := bl_dr (bl0 wr)
      go_region_held3 (fun W => W.cell? ⟨w.heap.size, 0, none⟩ = some (.int .i64 A) ∧ W.cell? ⟨w.heap.size, 1, none⟩ = some (.int .i64 B) ∧ W.cell? ⟨w.heap.size, 2, none⟩ = some (.slice a zs.length cap) ∧ W.cell? ⟨gb, go + k * 2, none⟩ = some (.int .i64 x) ∧ W.cell? ⟨gb, go + k * 2 + 1, none⟩ = some (.int .i64 y))
        (exact ⟨cell_later hb2 g0, cell_later hb2 g1, cell_later hb2 g2, cell_later hb2 q0, cell_later hb2 q1⟩)
        (first
          | (go_at_call 43; refine (rcost_any A B a cap zs x y _ (hrW.below hb2) hin HIX.out HN.out).mono ?_; rintro e W2 ⟨⟨z, rfl, hz⟩, hb⟩; replace hb2 := bl_tr hb2 hb; clear hb))
      all_goals
        have hB2 := bl_tr hB hb2
        have hBF := hA.trans (hB2.mono hA.size)
        clear hb2 g0 g1 g2 q0 q1 hB hrW
        cases hw : wallB A zs (x, y)
        · rw [hw] at hz
          have HTN2 := Lib.hid (HTN.out (by rw [HP.out]; exact hw))
          clear hw HTN HTE HP
          go_wp2
          go_roundw
          case rel => exact ⟨k + 1, by omega, by omega, by go_num, HTN2.out, hB2⟩
          case measure => simp [intOf]; omega
        · rw [hw] at hz
          have HTE2 := Lib.hid (HTE.out (by rw [HP.out]; exact hw))
          clear hw HTN HTE HP
          have HRC := Lib.hid (rowC_take (hrc.below hB2) (k + 1))
          go_wp2
          go_ret
          rw [HTE2.out]
          refine ⟨_, cap2, ?_, HRC.out, hBF⟩
          rw [List.length_take, Nat.min_eq_left (by omega)]
          rfl
    · have hge : ((lineF X Y Z V n).length : Int) ≤ (k : Int) := by omega
      have HS := Lib.hid (show seenF A zs X Y Z V n = lineF X Y Z V n by
        have h := HT.out
        rw [List.take_of_length_le (by omega)] at h
        exact walk_free h)
      have HRC := Lib.hid (hrc.below hB)
      have hBF := hA.trans (hB.mono hA.size)
      clear hrc hB
      go_wp2
      go_ret
      rw [HS.out]
      exact ⟨_, cap2, rfl, HRC.out, hBF⟩
end Go.Proofs.Ytchlbdikpclmlaa
