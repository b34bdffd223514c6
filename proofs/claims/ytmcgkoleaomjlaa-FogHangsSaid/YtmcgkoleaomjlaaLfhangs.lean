/- FogHangs: the law's walk. -/
import Derived.Test.YtmcgkoleaomjlaaQ2
namespace Go.Proofs.Ytmcgkoleaomjlaa
open Go.RowKit Go.Shelf
attribute [local go_sem] Oper.semAt_some

/-- What the law's loop holds. -/
def HangI (w : World) (ga ha gb hb N : Nat) (X Y : Int) (a2 : Option Addr) (n2 c2 : Nat) (ls : List LookD) (k : Nat) (W : World) : Prop :=
  FogAt W w.heap.size ga ha N X Y (looksL X Y (ls.take k)).1 (looksL X Y (ls.take k)).2 ∧ FogAt W w.heap.size gb hb N X Y (looksL X Y (ls.take k)).1 (looksL X Y (ls.take k)).2 ∧ Below w.heap.size w W ∧ W.cell? ⟨w.heap.size + 1, 2, none⟩ = some (.slice a2 n2 c2)


set_option maxRecDepth 100000 in
set_option maxHeartbeats 8000000 in
theorem fhangs_walk (X Y U V : Int) (a a2 : Option Addr) (cap c2 : Nat) (ls : List LookD) (gs : List Int) (w : World) (hr : RowL w a ls) (hr2 : RowH w a2 gs) :
    Calls Try.prog 4 #[.agg #[.int .i64 X, .int .i64 Y], .slice a ls.length cap, .agg #[.int .i64 U, .int .i64 V, .slice a2 gs.length c2]] w fun e w' => e = .returned (.bool true) ∧ Below w.heap.size w w' := by
  have hA := bl0 w
  have key : Hid (fewB X Y ls = false) ∨ (Hid (fewB X Y ls = true) ∧ Hid (smallB U V gs.length = false)) ∨ (Hid (fewB X Y ls = true) ∧ Hid (smallB U V gs.length = true) ∧ Hid (mayB X Y = false)) ∨
      (Hid (fewB X Y ls = true) ∧ Hid (smallB U V gs.length = true) ∧ Hid (mayB X Y = true)) := by
    cases h1 : fewB X Y ls with
    | false => exact .inl (Lib.hid rfl)
    | true =>
      cases h2 : smallB U V gs.length with
      | false => exact .inr (.inl ⟨Lib.hid rfl, Lib.hid rfl⟩)
      | true =>
        cases h3 : mayB X Y with
        | false => exact .inr (.inr (.inl ⟨Lib.hid rfl, Lib.hid rfl, Lib.hid rfl⟩))
        | true => exact .inr (.inr (.inr ⟨Lib.hid rfl, Lib.hid rfl, Lib.hid rfl⟩))
  go_enter Try.func4, Try.ntmps4
  go_wp2_with fail
  refine (few_any _ _ _ _ _ _ (hr.below (by first | exact hA | exact (bl_al hA _) | exact (bl_dr (bl_al hA _)) | exact (bl_al (bl_al hA _) _) | exact (bl_dr (bl_al (bl_al hA _) _)) | exact (bl_al (bl_al (bl_al hA _) _) _) | exact (bl_dr (bl_al (bl_al (bl_al hA _) _) _)) | exact (bl_al (bl_al (bl_al (bl_al hA _) _) _) _) | exact (bl_dr (bl_al (bl_al (bl_al (bl_al hA _) _) _) _)) | exact (bl_al (bl_al (bl_al (bl_al (bl_al hA _) _) _) _) _) | exact (bl_dr (bl_al (bl_al (bl_al (bl_al (bl_al hA _) _) _) _) _)) | exact (bl_al (bl_al (bl_al (bl_al (bl_al (bl_al hA _) _) _) _) _) _) | exact (bl_dr (bl_al (bl_al (bl_al (bl_al (bl_al (bl_al hA _) _) _) _) _) _)) | exact (bl_dr hA)))).mono ?_
  rintro e w1 ⟨rfl, hb⟩
  have hk : Below w.heap.size w w1 := by first | exact hb | exact bl_tr (bl_al (bl0 _) _) hb | exact bl_tr (bl_dr (bl_al (bl0 _) _)) hb | exact bl_tr (bl_al (bl_al (bl0 _) _) _) hb | exact bl_tr (bl_dr (bl_al (bl_al (bl0 _) _) _)) hb | exact bl_tr (bl_al (bl_al (bl_al (bl0 _) _) _) _) hb | exact bl_tr (bl_dr (bl_al (bl_al (bl_al (bl0 _) _) _) _)) hb | exact bl_tr (bl_al (bl_al (bl_al (bl_al (bl0 _) _) _) _) _) hb | exact bl_tr (bl_dr (bl_al (bl_al (bl_al (bl_al (bl0 _) _) _) _) _)) hb | exact bl_tr (bl_al (bl_al (bl_al (bl_al (bl_al (bl0 _) _) _) _) _) _) hb | exact bl_tr (bl_dr (bl_al (bl_al (bl_al (bl_al (bl_al (bl0 _) _) _) _) _) _)) hb | exact bl_tr (bl_al (bl_al (bl_al (bl_al (bl_al (bl_al (bl0 _) _) _) _) _) _) _) hb | exact bl_tr (bl_dr (bl_al (bl_al (bl_al (bl_al (bl_al (bl_al (bl0 _) _) _) _) _) _) _)) hb | exact bl_tr (bl_dr (bl0 _)) hb
  replace hA := bl_tr hA hk
  have f0 := cell_later hb (v := .int .i64 X) (a := ⟨w.heap.size, 0, none⟩) (by simp [go_sem])
  have f1 := cell_later hb (v := .int .i64 Y) (a := ⟨w.heap.size, 1, none⟩) (by simp [go_sem])
  have g0 := cell_later hb (v := .int .i64 U) (a := ⟨w.heap.size + 1, 0, none⟩) (by simp [go_sem])
  have g1 := cell_later hb (v := .int .i64 V) (a := ⟨w.heap.size + 1, 1, none⟩) (by simp [go_sem])
  have g2 := cell_later hb (v := .slice a2 gs.length c2) (a := ⟨w.heap.size + 1, 2, none⟩) (by simp [go_sem])
  clear hb hk
  have zf0 := blk_lt f0
  have zf1 := blk_lt f1
  have zg0 := blk_lt g0
  have zg1 := blk_lt g1
  have zg2 := blk_lt g2
  rcases key with H1 | ⟨H1, H2⟩ | ⟨H1, H2, H3⟩ | ⟨H1, H2, H3⟩
  · rw [H1.out]
    go_wp2_with fail
    refine (fawake _).mono ?_
    rintro e w9 ⟨rfl, hb9⟩
    have hA9 := bl_tr hA hb9
    clear hA hb9
    go_wp2
    go_ret
    exact ⟨rfl, hA9⟩
  · rw [H1.out]
    go_wp2_with fail
    refine (small_any _ _ _ _ _ _).mono ?_
    rintro e w2 ⟨rfl, hb⟩
    have hk : Below w1.heap.size w1 w2 := by first | exact hb | exact bl_tr (bl_al (bl0 _) _) hb | exact bl_tr (bl_dr (bl_al (bl0 _) _)) hb | exact bl_tr (bl_al (bl_al (bl0 _) _) _) hb | exact bl_tr (bl_dr (bl_al (bl_al (bl0 _) _) _)) hb | exact bl_tr (bl_al (bl_al (bl_al (bl0 _) _) _) _) hb | exact bl_tr (bl_dr (bl_al (bl_al (bl_al (bl0 _) _) _) _)) hb | exact bl_tr (bl_al (bl_al (bl_al (bl_al (bl0 _) _) _) _) _) hb | exact bl_tr (bl_dr (bl_al (bl_al (bl_al (bl_al (bl0 _) _) _) _) _)) hb | exact bl_tr (bl_al (bl_al (bl_al (bl_al (bl_al (bl0 _) _) _) _) _) _) hb | exact bl_tr (bl_dr (bl_al (bl_al (bl_al (bl_al (bl_al (bl0 _) _) _) _) _) _)) hb | exact bl_tr (bl_al (bl_al (bl_al (bl_al (bl_al (bl_al (bl0 _) _) _) _) _) _) _) hb | exact bl_tr (bl_dr (bl_al (bl_al (bl_al (bl_al (bl_al (bl_al (bl0 _) _) _) _) _) _) _)) hb | exact bl_tr (bl_dr (bl0 _)) hb
    replace hA := bl_tr hA hk
    replace f0 := cell_later hk f0
    replace f1 := cell_later hk f1
    replace g0 := cell_later hk g0
    replace g1 := cell_later hk g1
    replace g2 := cell_later hk g2
    clear hb hk
    have zf0 := blk_lt f0
    have zf1 := blk_lt f1
    have zg0 := blk_lt g0
    have zg1 := blk_lt g1
    have zg2 := blk_lt g2
    rw [H2.out]
    go_wp2_with fail
    refine (fawake _).mono ?_
    rintro e w9 ⟨rfl, hb9⟩
    have hA9 := bl_tr hA hb9
    clear hA hb9
    go_wp2
    go_ret
    exact ⟨rfl, hA9⟩
  · rw [H1.out]
    go_wp2_with fail
    refine (small_any _ _ _ _ _ _).mono ?_
    rintro e w2 ⟨rfl, hb⟩
    have hk : Below w1.heap.size w1 w2 := by first | exact hb | exact bl_tr (bl_al (bl0 _) _) hb | exact bl_tr (bl_dr (bl_al (bl0 _) _)) hb | exact bl_tr (bl_al (bl_al (bl0 _) _) _) hb | exact bl_tr (bl_dr (bl_al (bl_al (bl0 _) _) _)) hb | exact bl_tr (bl_al (bl_al (bl_al (bl0 _) _) _) _) hb | exact bl_tr (bl_dr (bl_al (bl_al (bl_al (bl0 _) _) _) _)) hb | exact bl_tr (bl_al (bl_al (bl_al (bl_al (bl0 _) _) _) _) _) hb | exact bl_tr (bl_dr (bl_al (bl_al (bl_al (bl_al (bl0 _) _) _) _) _)) hb | exact bl_tr (bl_al (bl_al (bl_al (bl_al (bl_al (bl0 _) _) _) _) _) _) hb | exact bl_tr (bl_dr (bl_al (bl_al (bl_al (bl_al (bl_al (bl0 _) _) _) _) _) _)) hb | exact bl_tr (bl_al (bl_al (bl_al (bl_al (bl_al (bl_al (bl0 _) _) _) _) _) _) _) hb | exact bl_tr (bl_dr (bl_al (bl_al (bl_al (bl_al (bl_al (bl_al (bl0 _) _) _) _) _) _) _)) hb | exact bl_tr (bl_dr (bl0 _)) hb
    replace hA := bl_tr hA hk
    replace f0 := cell_later hk f0
    replace f1 := cell_later hk f1
    replace g0 := cell_later hk g0
    replace g1 := cell_later hk g1
    replace g2 := cell_later hk g2
    clear hb hk
    have zf0 := blk_lt f0
    have zf1 := blk_lt f1
    have zg0 := blk_lt g0
    have zg1 := blk_lt g1
    have zg2 := blk_lt g2
    rw [H2.out]
    go_wp2_with fail
    refine (may_any _ _ _).mono ?_
    rintro e w3 ⟨rfl, hb⟩
    have hk : Below w2.heap.size w2 w3 := by first | exact hb | exact bl_tr (bl_al (bl0 _) _) hb | exact bl_tr (bl_dr (bl_al (bl0 _) _)) hb | exact bl_tr (bl_al (bl_al (bl0 _) _) _) hb | exact bl_tr (bl_dr (bl_al (bl_al (bl0 _) _) _)) hb | exact bl_tr (bl_al (bl_al (bl_al (bl0 _) _) _) _) hb | exact bl_tr (bl_dr (bl_al (bl_al (bl_al (bl0 _) _) _) _)) hb | exact bl_tr (bl_al (bl_al (bl_al (bl_al (bl0 _) _) _) _) _) hb | exact bl_tr (bl_dr (bl_al (bl_al (bl_al (bl_al (bl0 _) _) _) _) _)) hb | exact bl_tr (bl_al (bl_al (bl_al (bl_al (bl_al (bl0 _) _) _) _) _) _) hb | exact bl_tr (bl_dr (bl_al (bl_al (bl_al (bl_al (bl_al (bl0 _) _) _) _) _) _)) hb | exact bl_tr (bl_al (bl_al (bl_al (bl_al (bl_al (bl_al (bl0 _) _) _) _) _) _) _) hb | exact bl_tr (bl_dr (bl_al (bl_al (bl_al (bl_al (bl_al (bl_al (bl0 _) _) _) _) _) _) _)) hb | exact bl_tr (bl_dr (bl0 _)) hb
    replace hA := bl_tr hA hk
    replace f0 := cell_later hk f0
    replace f1 := cell_later hk f1
    replace g0 := cell_later hk g0
    replace g1 := cell_later hk g1
    replace g2 := cell_later hk g2
    clear hb hk
    have zf0 := blk_lt f0
    have zf1 := blk_lt f1
    have zg0 := blk_lt g0
    have zg1 := blk_lt g1
    have zg2 := blk_lt g2
    rw [H3.out]
    go_wp2_with fail
    refine (fawake _).mono ?_
    rintro e w9 ⟨rfl, hb9⟩
    have hA9 := bl_tr hA hb9
    clear hA hb9
    go_wp2
    go_ret
    exact ⟨rfl, hA9⟩
  · rw [H1.out]
    go_wp2_with fail
    refine (small_any _ _ _ _ _ _).mono ?_
    rintro e w2 ⟨rfl, hb⟩
    have hk : Below w1.heap.size w1 w2 := by first | exact hb | exact bl_tr (bl_al (bl0 _) _) hb | exact bl_tr (bl_dr (bl_al (bl0 _) _)) hb | exact bl_tr (bl_al (bl_al (bl0 _) _) _) hb | exact bl_tr (bl_dr (bl_al (bl_al (bl0 _) _) _)) hb | exact bl_tr (bl_al (bl_al (bl_al (bl0 _) _) _) _) hb | exact bl_tr (bl_dr (bl_al (bl_al (bl_al (bl0 _) _) _) _)) hb | exact bl_tr (bl_al (bl_al (bl_al (bl_al (bl0 _) _) _) _) _) hb | exact bl_tr (bl_dr (bl_al (bl_al (bl_al (bl_al (bl0 _) _) _) _) _)) hb | exact bl_tr (bl_al (bl_al (bl_al (bl_al (bl_al (bl0 _) _) _) _) _) _) hb | exact bl_tr (bl_dr (bl_al (bl_al (bl_al (bl_al (bl_al (bl0 _) _) _) _) _) _)) hb | exact bl_tr (bl_al (bl_al (bl_al (bl_al (bl_al (bl_al (bl0 _) _) _) _) _) _) _) hb | exact bl_tr (bl_dr (bl_al (bl_al (bl_al (bl_al (bl_al (bl_al (bl0 _) _) _) _) _) _) _)) hb | exact bl_tr (bl_dr (bl0 _)) hb
    replace hA := bl_tr hA hk
    replace f0 := cell_later hk f0
    replace f1 := cell_later hk f1
    replace g0 := cell_later hk g0
    replace g1 := cell_later hk g1
    replace g2 := cell_later hk g2
    clear hb hk
    have zf0 := blk_lt f0
    have zf1 := blk_lt f1
    have zg0 := blk_lt g0
    have zg1 := blk_lt g1
    have zg2 := blk_lt g2
    rw [H2.out]
    go_wp2_with fail
    refine (may_any _ _ _).mono ?_
    rintro e w3 ⟨rfl, hb⟩
    have hk : Below w2.heap.size w2 w3 := by first | exact hb | exact bl_tr (bl_al (bl0 _) _) hb | exact bl_tr (bl_dr (bl_al (bl0 _) _)) hb | exact bl_tr (bl_al (bl_al (bl0 _) _) _) hb | exact bl_tr (bl_dr (bl_al (bl_al (bl0 _) _) _)) hb | exact bl_tr (bl_al (bl_al (bl_al (bl0 _) _) _) _) hb | exact bl_tr (bl_dr (bl_al (bl_al (bl_al (bl0 _) _) _) _)) hb | exact bl_tr (bl_al (bl_al (bl_al (bl_al (bl0 _) _) _) _) _) hb | exact bl_tr (bl_dr (bl_al (bl_al (bl_al (bl_al (bl0 _) _) _) _) _)) hb | exact bl_tr (bl_al (bl_al (bl_al (bl_al (bl_al (bl0 _) _) _) _) _) _) hb | exact bl_tr (bl_dr (bl_al (bl_al (bl_al (bl_al (bl_al (bl0 _) _) _) _) _) _)) hb | exact bl_tr (bl_al (bl_al (bl_al (bl_al (bl_al (bl_al (bl0 _) _) _) _) _) _) _) hb | exact bl_tr (bl_dr (bl_al (bl_al (bl_al (bl_al (bl_al (bl_al (bl0 _) _) _) _) _) _) _)) hb | exact bl_tr (bl_dr (bl0 _)) hb
    replace hA := bl_tr hA hk
    replace f0 := cell_later hk f0
    replace f1 := cell_later hk f1
    replace g0 := cell_later hk g0
    replace g1 := cell_later hk g1
    replace g2 := cell_later hk g2
    clear hb hk
    have zf0 := blk_lt f0
    have zf1 := blk_lt f1
    have zg0 := blk_lt g0
    have zg1 := blk_lt g1
    have zg2 := blk_lt g2
    rw [H3.out]
    obtain ⟨hms0, hl20, hok⟩ := few_iff H1.out
    clear hms0
    have HOK := Lib.hid hok
    have hl2 : (ls.length : Int) ≤ 20 := by omega
    have hab := area_bd H3.out
    obtain ⟨N, hN⟩ : ∃ N : Nat, (N : Int) = X * Y := ⟨(X * Y).toNat, by omega⟩
    have HNN := Lib.hid (show (X * Y).toNat = N by omega)
    have hnew := fun w => fnew_yes X Y w H3.out N hN
    have HNEW := Lib.hid hnew
    clear hok hab hN hnew
    go_wp2_with fail
    refine (HNEW.out _).mono ?_
    rintro e w4 ⟨ga, ha, rfl, Fa, hb⟩
    have z3 := hA.size
    have lFa := Fa.lt
    have lga := Fa.1
    replace f0 := cell_later hb f0
    replace f1 := cell_later hb f1
    replace g2 := cell_later hb g2
    have zg2 := blk_lt g2
    replace Fa := fog_same Fa z3
    have hA4 := bl_tr hA hb
    clear hb hA g0 g1
    go_wp2_with fail
    refine (HNEW.out _).mono ?_
    rintro e w5 ⟨gb, hb', rfl, Fb, hb⟩
    have z4 := hA4.size
    have lFb := Fb.lt
    have lgb := Fb.1
    replace g2 := cell_later hb g2
    replace Fa := Fa.below hb
    replace Fb := fog_same Fb z4
    have hA5 := bl_tr hA4 hb
    have e1 : looksL X Y (ls.take 0) = (List.replicate N none, 0) := by rw [← HNN.out]; rfl
    have hI : HangI w ga ha gb hb' N X Y a2 gs.length c2 ls 0 w5 := ⟨by rw [e1]; exact Fa, by rw [e1]; exact Fb, hA5, g2⟩
    have HI := Lib.hid hI
    have y1 : ga < gb ∧ ha < gb ∧ ga < hb' ∧ ha < hb' := ⟨by omega, by omega, by omega, by omega⟩
    have y2 : w.heap.size + 1 < ga ∧ w.heap.size + 1 < ha := ⟨by omega, by omega⟩
    clear hb hA4 f0 f1 g2 Fa Fb hA5 e1 hI lFa lga lFb lgb z3 z4 zg2
    go_wp2
    go_loopw [11] (fun i wr => ∃ k : Nat, k ≤ ls.length ∧ i = .int .i64 k ∧ HangI w ga ha gb hb' N X Y a2 gs.length c2 ls k wr) (fun i _ => ls.length - (intOf i).toNat)
    case atStart => exact ⟨0, Nat.zero_le _, rfl, HI.out⟩
    case round =>
      obtain ⟨k, hk, rfl, Fa, Fb, hAr, g2⟩ := hrel
      clear HI
      by_cases hlt : k < ls.length
      · have hlt2 : (k : Int) < (ls.length : Int) := by omega
        have hk0 : (0 : Int) ≤ (k : Int) := by omega
        obtain ⟨l, hl⟩ : ∃ l, ls[k]? = some l := ⟨_, List.getElem?_eq_getElem hlt⟩
        obtain ⟨gl, go, rfl, q0, q1, q2, q3, qh, qc⟩ := hr.cell hl
        have hok1 := okL_iff (HOK.out l (List.mem_of_getElem? hl))
        have hzl := hok1.2
        have hfl : l.fs.length ≤ 600 := by
          have h := hok1.1
          unfold smallB at h
          rw [Bool.and_eq_true, decide_eq_true_eq] at h
          omega
        have hS : looksL X Y (ls.take (k + 1)) = stepL X Y (looksL X Y (ls.take k)) l := by rw [List.take_add_one, hl]; exact looksL_snoc X Y _ l
        have hah : ∀ gb o, l.fs ≠ [] → l.a = some ⟨gb, o, none⟩ → gb < w.heap.size := by
          rintro gb o hne e
          rcases qh with h0 | ⟨b', o', e', h'⟩
          · exact absurd h0 hne
          · rw [e] at e'
            cases e'
            have hp := List.length_pos_iff.2 hne
            exact blk_lt (h' 0 _ (List.getElem?_eq_getElem hp))
        have zq := blk_lt q0
        replace q0 := cell_later hAr q0
        replace q1 := cell_later hAr q1
        replace q2 := cell_later hAr q2
        replace q3 := cell_later hAr q3
        have QH := Lib.hid qh
        replace qc := qc.below hAr
        have hv := looksL_ver X Y (ls.take k)
        have hlen := looksL_len X Y (ls.take k) H3.out
        have hlen' := looksL_len X Y (ls.take (k + 1)) H3.out
        have hvl : (ls.take k).length ≤ 20 := Nat.le_trans (List.length_take_le' _ _) (by omega)
        obtain ⟨s, hs⟩ : ∃ s, looksL X Y (ls.take k) = s := ⟨_, rfl⟩
        obtain ⟨s', hs'⟩ : ∃ s', looksL X Y (ls.take (k + 1)) = s' := ⟨_, rfl⟩
        have HSP := Lib.hid hs'
        rw [hs'] at hS hlen'
        rw [hs] at Fa Fb hS hv hlen
        obtain ⟨A, B, fa, fc, fs, ca, cc, zs⟩ := l
        dsimp only [stepL] at q0 q1 q2 q3 qh qc hzl hah hS hfl
        have QH := Lib.hid (show RowH w fa fs from QH.out)
        obtain ⟨bs, hbs⟩ : ∃ bs, setL A B zs = bs := ⟨_, rfl⟩
        have HBS := Lib.hid hbs
        have HBG := Lib.hid (fun hm : mayB A B = true => (show Good A B bs by rw [← hbs]; exact setL_good hm zs))
        rw [hbs] at hS
        obtain ⟨v0, hv'⟩ : ∃ v, s.2 = v := ⟨_, rfl⟩
        obtain ⟨v1, hv1'⟩ : ∃ v, s'.2 = v := ⟨_, rfl⟩
        obtain ⟨ms, hms⟩ : ∃ ms, s.1 = ms := ⟨_, rfl⟩
        obtain ⟨ms2, hms2⟩ : ∃ ms, s'.1 = ms := ⟨_, rfl⟩
        have hS1 : (lookS X Y A B fs bs ms).1 = ms2 := by rw [← hms2, hS, ← hms]
        have hS2 : (v0 + if (lookS X Y A B fs bs ms).2 = [] then 0 else 1) = v1 := by rw [← hv1', hS, ← hv', ← hms]
        rw [hv', hms] at Fa Fb
        rw [hv'] at hv
        rw [hms] at hlen
        rw [hms2] at hlen'
        have hv1 : 0 ≤ v0 := hv.1
        have hv2 : v0 ≤ 1048575 := by omega
        have HS1 := Lib.hid hS1
        have HS2 := Lib.hid hS2
        have HM2 := Lib.hid hms2
        have HV1 := Lib.hid hv1'
        have HLEN := Lib.hid hlen
        have HLEN' := Lib.hid hlen'
        have HAH := Lib.hid hah
        have HMIX := Lib.hid (look_mix (X := X) (Y := Y) (fs := fs) (gs := gs) (ms := ms) HBG.out)
        have HNL := Lib.hid (look_newlen (X := X) (Y := Y) (fs := fs) (ms := ms) HBG.out)
        have HEM := Lib.hid (show lookE X Y A B (mixP A B bs fs gs).length = lookE X Y A B fs.length by rw [mixP_len])
        clear hl hs hs' hv hlen hlen' hah hvl hS hbs hv' hv1' hms hms2 hS1 hS2 qh hok1
        go_wp2
        obtain ⟨w4, hw4⟩ : ∃ w4, wr.alloc (.cells #[.int .i64 A, .int .i64 B, .slice fa fs.length fc] 37) = w4 := ⟨_, rfl⟩
        rw [hw4]
        have hb4 : Below wr.heap.size wr w4 := by rw [← hw4]; exact bl_al (bl0 _) _
        have zw4 : wr.heap.size < w4.heap.size := by rw [← hw4]; simp
        have e0 : w4.cell? ⟨wr.heap.size, 0, none⟩ = some (.int .i64 A) := by rw [← hw4]; simp [go_sem]
        have e1 : w4.cell? ⟨wr.heap.size, 1, none⟩ = some (.int .i64 B) := by rw [← hw4]; simp [go_sem]
        have e2 : w4.cell? ⟨wr.heap.size, 2, none⟩ = some (.slice fa fs.length fc) := by rw [← hw4]; simp [go_sem]
        replace q3 := cell_later hb4 q3
        replace g2 := cell_later hb4 g2
        have lFa := Fa.lt
        have lFb := Fb.lt
        replace Fa := Fa.below hb4
        replace Fb := Fb.below hb4
        replace qc := qc.below hb4
        have hA4 := bl_tr hAr hb4
        have zr := hAr.size
        clear hw4 hb4 hAr q0 q1 q2
        obtain ⟨bx, hbx⟩ : ∃ bx, wr.heap.size = bx := ⟨_, rfl⟩
        rw [hbx] at e0 e1 e2 zw4 lFa lFb zr ⊢
        clear hbx
        refine (wpIn_wide (n := 11)).1 ?_
        have hD := bl_dr (bl0 w4)
        refine ordS_begin (S := (fun w' : World => w'.cell? ⟨bx, 0, none⟩ = some (.int .i64 A) ∧ w'.cell? ⟨bx, 1, none⟩ = some (.int .i64 B) ∧ w'.cell? ⟨gl, go + k * 4 + 3, none⟩ = some (.slice ca zs.length cc))) (by kernel_rfl) ⟨cell_later hD e0, cell_later hD e1, cell_later hD q3⟩ (fun hH => ?_)
        first
          | (refine' ordS_take (i := 0) (oi := { dst := some 72, op := Op.fieldAddr 37 (Operand.tmp 12) 0, type := 0, pos := _, after := #[], guard := none }) (v := _) rfl (by kernel_rfl) (by kernel_rfl) (by kernel_rfl) (by kernel_rfl) (fun _ _ _ h => h) (by assumption) (Or.inl ⟨by rfl, ?hy1⟩) (fun _ => rfl) ?rest1
             case hy1 => (intro w hSw; (try dsimp only at hSw); go_simp; try with_reducible rfl))
          | (refine ordS_take (i := 0) (oi := { dst := some 72, op := Op.fieldAddr 37 (Operand.tmp 12) 0, type := 0, pos := _, after := #[], guard := none }) (v := undef) rfl (by kernel_rfl) (by kernel_rfl) (by kernel_rfl) (by kernel_rfl) (fun _ _ _ h => h) (by assumption) (Or.inr ⟨by rfl, rfl⟩) (fun _ => rfl) ?_)
        try simp only [Act.put, List.setIfInBounds_toArray, List.set_cons_zero, List.set_cons_succ]
        first
          | (refine' ordS_take (i := 1) (oi := { dst := some 73, op := Op.load 23 (Operand.tmp 72), type := 23, pos := _, after := #[{ on := 0, ground := Ground.data }], guard := none }) (v := _) rfl (by kernel_rfl) (by kernel_rfl) (by kernel_rfl) (by kernel_rfl) (fun _ _ _ h => h) (by assumption) (Or.inl ⟨by rfl, ?hy2⟩) (fun _ => rfl) ?rest2
             case hy2 => (intro w hSw; (try dsimp only at hSw); go_simp; try with_reducible rfl))
          | (refine ordS_take (i := 1) (oi := { dst := some 73, op := Op.load 23 (Operand.tmp 72), type := 23, pos := _, after := #[{ on := 0, ground := Ground.data }], guard := none }) (v := undef) rfl (by kernel_rfl) (by kernel_rfl) (by kernel_rfl) (by kernel_rfl) (fun _ _ _ h => h) (by assumption) (Or.inr ⟨by rfl, rfl⟩) (fun _ => rfl) ?_)
        try simp only [Act.put, List.setIfInBounds_toArray, List.set_cons_zero, List.set_cons_succ]
        first
          | (refine' ordS_take (i := 2) (oi := { dst := some 74, op := Op.move (Operand.tmp 1), type := 24, pos := _, after := #[], guard := none }) (v := _) rfl (by kernel_rfl) (by kernel_rfl) (by kernel_rfl) (by kernel_rfl) (fun _ _ _ h => h) (by assumption) (Or.inl ⟨by rfl, ?hy3⟩) (fun _ => rfl) ?rest3
             case hy3 => (intro w hSw; (try dsimp only at hSw); go_simp; try with_reducible rfl))
          | (refine ordS_take (i := 2) (oi := { dst := some 74, op := Op.move (Operand.tmp 1), type := 24, pos := _, after := #[], guard := none }) (v := undef) rfl (by kernel_rfl) (by kernel_rfl) (by kernel_rfl) (by kernel_rfl) (fun _ _ _ h => h) (by assumption) (Or.inr ⟨by rfl, rfl⟩) (fun _ => rfl) ?_)
        try simp only [Act.put, List.setIfInBounds_toArray, List.set_cons_zero, List.set_cons_succ]
        first
          | (refine' ordS_take (i := 3) (oi := { dst := some 75, op := Op.move (Operand.tmp 11), type := 3, pos := _, after := #[], guard := none }) (v := _) rfl (by kernel_rfl) (by kernel_rfl) (by kernel_rfl) (by kernel_rfl) (fun _ _ _ h => h) (by assumption) (Or.inl ⟨by rfl, ?hy4⟩) (fun _ => rfl) ?rest4
             case hy4 => (intro w hSw; (try dsimp only at hSw); go_simp; try with_reducible rfl))
          | (refine ordS_take (i := 3) (oi := { dst := some 75, op := Op.move (Operand.tmp 11), type := 3, pos := _, after := #[], guard := none }) (v := undef) rfl (by kernel_rfl) (by kernel_rfl) (by kernel_rfl) (by kernel_rfl) (fun _ _ _ h => h) (by assumption) (Or.inr ⟨by rfl, rfl⟩) (fun _ => rfl) ?_)
        try simp only [Act.put, List.setIfInBounds_toArray, List.set_cons_zero, List.set_cons_succ]
        first
          | (refine' ordS_take (i := 4) (oi := { dst := some 76, op := Op.indexAddr 24 (Operand.tmp 74) (Operand.tmp 75), type := 0, pos := _, after := #[{ on := 2, ground := Ground.data }, { on := 3, ground := Ground.data }], guard := none }) (v := _) rfl (by kernel_rfl) (by kernel_rfl) (by kernel_rfl) (by kernel_rfl) (fun _ _ _ h => h) (by assumption) (Or.inl ⟨by rfl, ?hy5⟩) (fun _ => rfl) ?rest5
             case hy5 => (intro w hSw; (try dsimp only at hSw); go_simp; try with_reducible rfl))
          | (refine ordS_take (i := 4) (oi := { dst := some 76, op := Op.indexAddr 24 (Operand.tmp 74) (Operand.tmp 75), type := 0, pos := _, after := #[{ on := 2, ground := Ground.data }, { on := 3, ground := Ground.data }], guard := none }) (v := undef) rfl (by kernel_rfl) (by kernel_rfl) (by kernel_rfl) (by kernel_rfl) (fun _ _ _ h => h) (by assumption) (Or.inr ⟨by rfl, rfl⟩) (fun _ => rfl) ?_)
        try simp only [Act.put, List.setIfInBounds_toArray, List.set_cons_zero, List.set_cons_succ]
        first
          | (refine' ordS_take (i := 5) (oi := { dst := some 77, op := Op.fieldAddr 40 (Operand.tmp 76) 1, type := 0, pos := _, after := #[{ on := 4, ground := Ground.data }], guard := none }) (v := _) rfl (by kernel_rfl) (by kernel_rfl) (by kernel_rfl) (by kernel_rfl) (fun _ _ _ h => h) (by assumption) (Or.inl ⟨by rfl, ?hy6⟩) (fun _ => rfl) ?rest6
             case hy6 => (intro w hSw; (try dsimp only at hSw); go_simp; try with_reducible rfl))
          | (refine ordS_take (i := 5) (oi := { dst := some 77, op := Op.fieldAddr 40 (Operand.tmp 76) 1, type := 0, pos := _, after := #[{ on := 4, ground := Ground.data }], guard := none }) (v := undef) rfl (by kernel_rfl) (by kernel_rfl) (by kernel_rfl) (by kernel_rfl) (fun _ _ _ h => h) (by assumption) (Or.inr ⟨by rfl, rfl⟩) (fun _ => rfl) ?_)
        try simp only [Act.put, List.setIfInBounds_toArray, List.set_cons_zero, List.set_cons_succ]
        first
          | (refine' ordS_take (i := 6) (oi := { dst := some 78, op := Op.load 38 (Operand.tmp 77), type := 38, pos := _, after := #[{ on := 5, ground := Ground.data }], guard := none }) (v := _) rfl (by kernel_rfl) (by kernel_rfl) (by kernel_rfl) (by kernel_rfl) (fun _ _ _ h => h) (by assumption) (Or.inl ⟨by rfl, ?hy7⟩) (fun _ => rfl) ?rest7
             case hy7 => (intro w hSw; (try dsimp only at hSw); go_simp; try with_reducible rfl))
          | (refine ordS_take (i := 6) (oi := { dst := some 78, op := Op.load 38 (Operand.tmp 77), type := 38, pos := _, after := #[{ on := 5, ground := Ground.data }], guard := none }) (v := undef) rfl (by kernel_rfl) (by kernel_rfl) (by kernel_rfl) (by kernel_rfl) (fun _ _ _ h => h) (by assumption) (Or.inr ⟨by rfl, rfl⟩) (fun _ => rfl) ?_)
        try simp only [Act.put, List.setIfInBounds_toArray, List.set_cons_zero, List.set_cons_succ]
        refine ordS_one (i := 7) (o := { dst := some 79, op := Op.call { callee := Callee.value (Operand.func 13), args := #[Operand.tmp 73, Operand.tmp 78], argTypes := #[23, 38] }, type := 41, pos := _, after := #[{ on := 1, ground := Ground.data }, { on := 6, ground := Ground.data }], guard := none }) (by kernel_rfl) rfl (by rfl) (fun K hK => ?_)
        go_simp
        refine ⟨trivial, (callsIn_wide.2 (fset_any A B ca cc zs _ (qc.below hD) (by omega))).mono ?_⟩
        rintro e w5 ⟨p, rfl, hmp, hb2⟩
        rw [HBS.out] at hmp
        have hdz : w4.drew.heap.size = w4.heap.size := rfl
        rw [hdz] at hmp
        have hB2 := bl_tr hD hb2
        replace Fa := Fa.below hB2
        replace Fb := Fb.below hB2
        have hA5 := bl_tr hA4 hB2
        replace e0 := cell_later hB2 e0
        replace e1 := cell_later hB2 e1
        replace e2 := cell_later hB2 e2
        replace g2 := cell_later hB2 g2
        replace q3 := cell_later hB2 q3
        have hS5 : (fun w' : World => w'.cell? ⟨bx, 0, none⟩ = some (.int .i64 A) ∧ w'.cell? ⟨bx, 1, none⟩ = some (.int .i64 B) ∧ w'.cell? ⟨gl, go + k * 4 + 3, none⟩ = some (.slice ca zs.length cc)) w5 := ⟨e0, e1, q3⟩
        refine hK _ _ hS5 ?_
        clear hK K
        try simp only [Act.put, List.setIfInBounds_toArray, List.set_cons_zero, List.set_cons_succ]
        first
          | (refine' ordS_take (i := 8) (oi := { dst := some 13, op := Op.assign (Operand.tmp 79), type := 41, pos := _, after := #[{ on := 7, ground := Ground.data }, { on := 7, ground := Ground.chain }, { on := 0, ground := Ground.phase }, { on := 1, ground := Ground.phase }, { on := 2, ground := Ground.phase }, { on := 3, ground := Ground.phase }, { on := 4, ground := Ground.phase }, { on := 5, ground := Ground.phase }, { on := 6, ground := Ground.phase }, { on := 7, ground := Ground.phase }], guard := none }) (v := _) rfl (by kernel_rfl) (by kernel_rfl) (by kernel_rfl) (by kernel_rfl) (fun _ _ _ h => h) (by assumption) (Or.inl ⟨by rfl, ?hy8⟩) (fun _ => rfl) ?rest8
             case hy8 => (intro w hSw; (try dsimp only at hSw); go_simp; try with_reducible rfl))
          | (refine ordS_take (i := 8) (oi := { dst := some 13, op := Op.assign (Operand.tmp 79), type := 41, pos := _, after := #[{ on := 7, ground := Ground.data }, { on := 7, ground := Ground.chain }, { on := 0, ground := Ground.phase }, { on := 1, ground := Ground.phase }, { on := 2, ground := Ground.phase }, { on := 3, ground := Ground.phase }, { on := 4, ground := Ground.phase }, { on := 5, ground := Ground.phase }, { on := 6, ground := Ground.phase }, { on := 7, ground := Ground.phase }], guard := none }) (v := undef) rfl (by kernel_rfl) (by kernel_rfl) (by kernel_rfl) (by kernel_rfl) (fun _ _ _ h => h) (by assumption) (Or.inr ⟨by rfl, rfl⟩) (fun _ => rfl) ?_)
        try simp only [Act.put, List.setIfInBounds_toArray, List.set_cons_zero, List.set_cons_succ]
        refine ordS_done (by kernel_rfl) ?_
        have zw5 := hB2.size
        clear hb2 hB2 hD hH qc q3 hS5 hA4 hdz
        go_wp2
        obtain ⟨w6, hw6⟩ : ∃ w6, w5.alloc (.cells #[.int .i64 A, .int .i64 B, .slice none 0 0] 37) = w6 := ⟨_, rfl⟩
        rw [hw6]
        have hz6 : w5.heap.size < w6.heap.size := by rw [← hw6]; simp
        have hF6 := Lib.hid <| show FAt w6 w5.heap.size (.int .i64 A) (.int .i64 B) (.slice none 0 0) by rw [← hw6]; exact fAt_new _ _ _ _
        have HW6 := Lib.hid (show w5.grownBy w6 (some w5.heap.size) by rw [← hw6]; exact grown_al _ _ _)
        have E0 := Lib.hid e0
        have E1 := Lib.hid e1
        have E2 := Lib.hid e2
        have G2 := Lib.hid g2
        have FA5 := Lib.hid Fa
        have FB5 := Lib.hid Fb
        have HMP := Lib.hid hmp
        clear hw6 e0 e1 e2 g2 Fa Fb hmp
        go_loopw [15] (fun i wq => ∃ j : Nat, j ≤ fs.length ∧ i = .int .i64 j ∧ FieldG wq w6.heap.size w5.heap.size A B ((mixP A B bs fs gs).take j) ∧ w6.grownBy wq (some w5.heap.size)) (fun i _ => fs.length - (intOf i).toNat)
        case atStart => exact ⟨0, Nat.zero_le _, rfl, ⟨_, hF6.out, World.ownsRow_nil _ _ _ _⟩, World.grownBy.refl _ _⟩
        case round =>
          obtain ⟨j, hj, rfl, ⟨v, hFA, hv⟩, hG⟩ := hrel
          have hG5 : w5.grownBy wr (some w5.heap.size) := HW6.out.trans hG
          have hbq : Below w5.heap.size w5 wr := (bl0 w5).grown hG5 (Nat.le_refl _) (fun j e => by cases e; exact Nat.le_refl _)
          have e0 := cell_later hbq E0.out
          have e1 := cell_later hbq E1.out
          have e2 := cell_later hbq E2.out
          have g2 := cell_later hbq G2.out
          have ze2 := blk_lt e2
          have zg2 := blk_lt g2
          have hj0 : (0 : Int) ≤ (j : Int) := by omega
          have hsz6 := hG.size
          by_cases hlt : j < fs.length
          · have hlt2 : (j : Int) < (fs.length : Int) := by omega
            have HN := Lib.hid (mixP_take (A := A) (B := B) (bs := bs) (fs := fs) (gs := gs) hlt)
            have HLK := Lib.hid (show ((mixP A B bs fs gs).take j).length = j by rw [List.length_take, mixP_len]; omega)
            have hmq := HMP.out.below hbq
            have hFAl := hFA.lt
            obtain ⟨gbf, gof, efa, qf0⟩ := QH.out.cell hlt
            obtain rfl := efa
            have zqf := blk_lt qf0
            cases hat : atB A B j with
            | true =>
              have hpk : pickB A B bs gs.length j = (hasP A B bs ((j : Int) % A, (j : Int) / A) || decide (gs.length ≤ j)) := by unfold pickB; rw [hat]; rfl
              have HPK := Lib.hid hpk
              clear hpk
              go_wp2_with fail
              refine (at_yes A B j _ hat).mono ?_
              rintro e w7 ⟨rfl, hb7⟩
              have hm7 := hmq.below hb7
              have FA7 := hFA.later hb7 hFAl
              have hv7 := own_later hv hb7
              have hG7 : w6.grownBy w7 (some w5.heap.size) := hG.trans (grown_weak (grown_of_below hb7) _)
              replace e2 := cell_later hb7 e2
              replace g2 := cell_later hb7 g2
              clear hb7 hFA hv hG hG5 hbq e0 e1 hmq hat
              go_wp2_with fail
              refine (has_ptr A B _ _ bs p _ _ (hm7.below (bl_al (bl0 _) _))).mono ?_
              rintro e w8 ⟨rfl, hb8⟩
              have hb8' := bl_tr (bl_al (bl0 w7) _) hb8
              replace e2 := cell_later hb8' e2
              replace g2 := cell_later hb8' g2
              have FA := Lib.hid (FA7.later hb8' FA7.lt)
              have HVL := Lib.hid (own_later hv7 hb8')
              have HV := Lib.hid (show w8.ownsRow w6.heap.size 53 1 v j (cellsH ((mixP A B bs fs gs).take j)) by have h := HVL.out; rw [HLK.out] at h; exact h)
              have HG8 := Lib.hid (hG7.trans (grown_weak (grown_of_below hb8') _))
              have hA8 : Below w.heap.size w w8 := hA5.grown (HW6.out.trans HG8.out) hA5.size (fun r e => by cases e; omega)
              have qf := cell_later hA8 qf0
              clear hm7 FA7 hv7 hG7 hb8 hb8' qf0
              cases hh : hasP A B bs ((j : Int) % A, (j : Int) / A) with
              | true =>
                have HP := Lib.hid (show pickB A B bs gs.length j = true by rw [HPK.out, hh]; rfl)
                clear hh HPK
                obtain ⟨z, hzz⟩ : ∃ z, fs[j] = z := ⟨_, rfl⟩
                have HZ := Lib.hid (show (mixP A B bs fs gs).take (j + 1) = (mixP A B bs fs gs).take j ++ [z] by rw [HN.out, if_pos HP.out]; simp [← hzz, hlt])
                rw [hzz] at qf
                have qz := qf
                have sq := e2
                clear hzz qf e2
                go_upto_region 18 with fail
                refine (wpIn_wide (n := 11)).1 ?_
                have hD := bl_dr (bl0 w8)
                refine ordZ_begin (z := 10) (S := (fun w' : World => w'.cell? ⟨w5.heap.size, 2, none⟩ = some v ∧ w'.cell? ⟨bx, 2, none⟩ = some (.slice (some ⟨gbf, gof, none⟩) fs.length fc) ∧ w'.cell? ⟨gbf, gof + j, none⟩ = some (.int .u16 z))) (by kernel_rfl) ⟨cell_later hD (FA.out).c2, cell_later hD sq, cell_later hD qz⟩ (fun hH => ?_)
                first
                  | (refine' ordZ_take (i := 0) (oi := { dst := some 111, op := Op.fieldAddr 37 (Operand.tmp 14) 1, type := 0, pos := _, after := #[], guard := none }) (v := _) rfl (by kernel_rfl) (by kernel_rfl) (by kernel_rfl) (by kernel_rfl) (fun _ _ _ h => h) (by assumption) (by kernel_rfl) (by decide) (by rfl) (Or.inl ⟨by rfl, ?hy9⟩) (fun _ => rfl) ?rest9
                     case hy9 => (intro w hSw; (try dsimp only at hSw); go_simp; try with_reducible rfl))
                  | (refine ordZ_take (i := 0) (oi := { dst := some 111, op := Op.fieldAddr 37 (Operand.tmp 14) 1, type := 0, pos := _, after := #[], guard := none }) (v := undef) rfl (by kernel_rfl) (by kernel_rfl) (by kernel_rfl) (by kernel_rfl) (fun _ _ _ h => h) (by assumption) (by kernel_rfl) (by decide) (by rfl) (Or.inr ⟨by rfl, rfl⟩) (fun _ => rfl) ?_)
                try simp only [Act.put, List.setIfInBounds_toArray, List.set_cons_zero, List.set_cons_succ]
                first
                  | (refine' ordZ_take (i := 1) (oi := { dst := some 112, op := Op.load 35 (Operand.tmp 111), type := 35, pos := _, after := #[{ on := 0, ground := Ground.data }], guard := none }) (v := _) rfl (by kernel_rfl) (by kernel_rfl) (by kernel_rfl) (by kernel_rfl) (fun _ _ _ h => h) (by assumption) (by kernel_rfl) (by decide) (by rfl) (Or.inl ⟨by rfl, ?hy10⟩) (fun _ => rfl) ?rest10
                     case hy10 => (intro w hSw; (try dsimp only at hSw); go_simp; try with_reducible rfl))
                  | (refine ordZ_take (i := 1) (oi := { dst := some 112, op := Op.load 35 (Operand.tmp 111), type := 35, pos := _, after := #[{ on := 0, ground := Ground.data }], guard := none }) (v := undef) rfl (by kernel_rfl) (by kernel_rfl) (by kernel_rfl) (by kernel_rfl) (fun _ _ _ h => h) (by assumption) (by kernel_rfl) (by decide) (by rfl) (Or.inr ⟨by rfl, rfl⟩) (fun _ => rfl) ?_)
                try simp only [Act.put, List.setIfInBounds_toArray, List.set_cons_zero, List.set_cons_succ]
                first
                  | (refine' ordZ_take (i := 2) (oi := { dst := some 113, op := Op.fieldAddr 37 (Operand.tmp 12) 1, type := 0, pos := _, after := #[], guard := none }) (v := _) rfl (by kernel_rfl) (by kernel_rfl) (by kernel_rfl) (by kernel_rfl) (fun _ _ _ h => h) (by assumption) (by kernel_rfl) (by decide) (by rfl) (Or.inl ⟨by rfl, ?hy11⟩) (fun _ => rfl) ?rest11
                     case hy11 => (intro w hSw; (try dsimp only at hSw); go_simp; try with_reducible rfl))
                  | (refine ordZ_take (i := 2) (oi := { dst := some 113, op := Op.fieldAddr 37 (Operand.tmp 12) 1, type := 0, pos := _, after := #[], guard := none }) (v := undef) rfl (by kernel_rfl) (by kernel_rfl) (by kernel_rfl) (by kernel_rfl) (fun _ _ _ h => h) (by assumption) (by kernel_rfl) (by decide) (by rfl) (Or.inr ⟨by rfl, rfl⟩) (fun _ => rfl) ?_)
                try simp only [Act.put, List.setIfInBounds_toArray, List.set_cons_zero, List.set_cons_succ]
                first
                  | (refine' ordZ_take (i := 3) (oi := { dst := some 114, op := Op.load 35 (Operand.tmp 113), type := 35, pos := _, after := #[{ on := 2, ground := Ground.data }], guard := none }) (v := _) rfl (by kernel_rfl) (by kernel_rfl) (by kernel_rfl) (by kernel_rfl) (fun _ _ _ h => h) (by assumption) (by kernel_rfl) (by decide) (by rfl) (Or.inl ⟨by rfl, ?hy12⟩) (fun _ => rfl) ?rest12
                     case hy12 => (intro w hSw; (try dsimp only at hSw); go_simp; try with_reducible rfl))
                  | (refine ordZ_take (i := 3) (oi := { dst := some 114, op := Op.load 35 (Operand.tmp 113), type := 35, pos := _, after := #[{ on := 2, ground := Ground.data }], guard := none }) (v := undef) rfl (by kernel_rfl) (by kernel_rfl) (by kernel_rfl) (by kernel_rfl) (fun _ _ _ h => h) (by assumption) (by kernel_rfl) (by decide) (by rfl) (Or.inr ⟨by rfl, rfl⟩) (fun _ => rfl) ?_)
                try simp only [Act.put, List.setIfInBounds_toArray, List.set_cons_zero, List.set_cons_succ]
                first
                  | (refine' ordZ_take (i := 4) (oi := { dst := some 115, op := Op.move (Operand.tmp 15), type := 3, pos := _, after := #[], guard := none }) (v := _) rfl (by kernel_rfl) (by kernel_rfl) (by kernel_rfl) (by kernel_rfl) (fun _ _ _ h => h) (by assumption) (by kernel_rfl) (by decide) (by rfl) (Or.inl ⟨by rfl, ?hy13⟩) (fun _ => rfl) ?rest13
                     case hy13 => (intro w hSw; (try dsimp only at hSw); go_simp; try with_reducible rfl))
                  | (refine ordZ_take (i := 4) (oi := { dst := some 115, op := Op.move (Operand.tmp 15), type := 3, pos := _, after := #[], guard := none }) (v := undef) rfl (by kernel_rfl) (by kernel_rfl) (by kernel_rfl) (by kernel_rfl) (fun _ _ _ h => h) (by assumption) (by kernel_rfl) (by decide) (by rfl) (Or.inr ⟨by rfl, rfl⟩) (fun _ => rfl) ?_)
                try simp only [Act.put, List.setIfInBounds_toArray, List.set_cons_zero, List.set_cons_succ]
                first
                  | (refine' ordZ_take (i := 5) (oi := { dst := some 116, op := Op.indexAddr 35 (Operand.tmp 114) (Operand.tmp 115), type := 0, pos := _, after := #[{ on := 3, ground := Ground.data }, { on := 4, ground := Ground.data }], guard := none }) (v := _) rfl (by kernel_rfl) (by kernel_rfl) (by kernel_rfl) (by kernel_rfl) (fun _ _ _ h => h) (by assumption) (by kernel_rfl) (by decide) (by rfl) (Or.inl ⟨by rfl, ?hy14⟩) (fun _ => rfl) ?rest14
                     case hy14 => (intro w hSw; (try dsimp only at hSw); go_simp; try with_reducible rfl))
                  | (refine ordZ_take (i := 5) (oi := { dst := some 116, op := Op.indexAddr 35 (Operand.tmp 114) (Operand.tmp 115), type := 0, pos := _, after := #[{ on := 3, ground := Ground.data }, { on := 4, ground := Ground.data }], guard := none }) (v := undef) rfl (by kernel_rfl) (by kernel_rfl) (by kernel_rfl) (by kernel_rfl) (fun _ _ _ h => h) (by assumption) (by kernel_rfl) (by decide) (by rfl) (Or.inr ⟨by rfl, rfl⟩) (fun _ => rfl) ?_)
                try simp only [Act.put, List.setIfInBounds_toArray, List.set_cons_zero, List.set_cons_succ]
                first
                  | (refine' ordZ_take (i := 6) (oi := { dst := some 117, op := Op.load 53 (Operand.tmp 116), type := 53, pos := _, after := #[{ on := 5, ground := Ground.data }], guard := none }) (v := _) rfl (by kernel_rfl) (by kernel_rfl) (by kernel_rfl) (by kernel_rfl) (fun _ _ _ h => h) (by assumption) (by kernel_rfl) (by decide) (by rfl) (Or.inl ⟨by rfl, ?hy15⟩) (fun _ => rfl) ?rest15
                     case hy15 => (intro w hSw; (try dsimp only at hSw); go_simp; try with_reducible rfl))
                  | (refine ordZ_take (i := 6) (oi := { dst := some 117, op := Op.load 53 (Operand.tmp 116), type := 53, pos := _, after := #[{ on := 5, ground := Ground.data }], guard := none }) (v := undef) rfl (by kernel_rfl) (by kernel_rfl) (by kernel_rfl) (by kernel_rfl) (fun _ _ _ h => h) (by assumption) (by kernel_rfl) (by decide) (by rfl) (Or.inr ⟨by rfl, rfl⟩) (fun _ => rfl) ?_)
                try simp only [Act.put, List.setIfInBounds_toArray, List.set_cons_zero, List.set_cons_succ]
                refine ordZ_one (i := 7) (o := { dst := some 118, op := Op.buildSlice 35 1 #[(0, Operand.tmp 117)], type := 35, pos := _, after := #[{ on := 6, ground := Ground.data }], guard := none }) (by kernel_rfl) rfl (by rfl) (fun K hK => ?_)
                go_simp
                refine hK _ _ (fun _ => ⟨cell_later (bl_al hD _) (FA.out).c2, cell_later (bl_al hD _) sq, cell_later (bl_al hD _) qz⟩) ?_
                clear hK K hH
                try simp only [Act.put, List.setIfInBounds_toArray, List.set_cons_zero, List.set_cons_succ]
                obtain ⟨i0, hi, hz0, hz1, hz2⟩ := info_parts Try.infoH
                refine ordZ_append (i := 8) (o := { dst := some 119, op := Op.call { callee := Callee.builtin Builtin.append, args := #[Operand.tmp 112, Operand.tmp 118], argTypes := #[35, 35] }, type := 35, pos := _, after := #[{ on := 1, ground := Ground.data }, { on := 7, ground := Ground.data }], guard := none }) _ (by kernel_rfl) rfl (by rfl) _ _ 35 rfl w6.heap.size 53 i0 (.int .u16 0) 1 2 Try.underlying35 hi hz0 hz1 hz2 rfl (by decide) _ _ _ rfl (own_later HV.out (bl_al hD _)) ⟨w8.drew.heap.size, 0, none⟩ 1 1 [.int .u16 z] rfl rfl ?c1 ?c2 ?c3 ?c4 ?c5 ?_
                case c1 =>
                  intro jj u hj
                  cases jj with
                  | succ jj => simp at hj
                  | zero =>
                    simp only [List.getElem?_cons_zero, Option.some.injEq] at hj
                    subst hj
                    simp [go_sem, addr_add]
                case c2 => intro u hu; simp at hu; subst hu; rfl
                case c3 => unfold maxLen; omega
                case c4 => omega
                case c5 => (have := HG8.out.size; simp; omega)
                intro v2 w10 hown hgrow
                obtain ⟨g9, cp9, rfl⟩ := ownsRow_succ hown
                have hgrow2 : ((w8.alloc (.cells #[.int .u16 z] 53)).drew).grownBy w10 v.ownBlock := hgrow
                have hlow : ∀ j, v.ownBlock = some j → w6.heap.size ≤ j := fun j e => (HV.out.lt j e).1
                have hbD : Below w8.heap.size w8 ((w8.alloc (.cells #[.int .u16 z] 53)).drew) := bl_dr (bl_al (bl0 w8) _)
                obtain ⟨p1, p2, p3⟩ := FieldG.next HG8.out (by omega) FA.out HVL.out hbD (by rw [HLK.out]; exact hown) hgrow2
                have hS10 : (fun w' : World => w'.cell? ⟨w5.heap.size, 2, none⟩ = some v ∧ w'.cell? ⟨bx, 2, none⟩ = some (.slice (some ⟨gbf, gof, none⟩) fs.length fc) ∧ w'.cell? ⟨gbf, gof + j, none⟩ = some (.int .u16 z)) w10 :=
                  ⟨p3.c2, hgrow2.cell (cell_later hbD sq) (fun e => by have := hlow _ e.symm; dsimp only at this; omega), hgrow2.cell (cell_later hbD qz) (fun e => by have := hlow _ e.symm; dsimp only at this; omega)⟩
                refine ⟨fun _ => hS10, ?_⟩
                try simp only [Act.put, List.setIfInBounds_toArray, List.set_cons_zero, List.set_cons_succ]
                first
                  | (refine' ordZ_take (i := 9) (oi := { dst := some 120, op := Op.fieldAddr 37 (Operand.tmp 14) 1, type := 0, pos := _, after := #[{ on := 0, ground := Ground.phase }, { on := 1, ground := Ground.phase }, { on := 2, ground := Ground.phase }, { on := 3, ground := Ground.phase }, { on := 4, ground := Ground.phase }, { on := 5, ground := Ground.phase }, { on := 6, ground := Ground.phase }, { on := 7, ground := Ground.phase }, { on := 8, ground := Ground.phase }], guard := none }) (v := _) rfl (by kernel_rfl) (by kernel_rfl) (by kernel_rfl) (by kernel_rfl) (fun _ _ _ h => h) (by assumption) (by kernel_rfl) (by decide) (by rfl) (Or.inl ⟨by rfl, ?hy16⟩) (fun _ => rfl) ?rest16
                     case hy16 => (intro w hSw; (try dsimp only at hSw); go_simp; try with_reducible rfl))
                  | (refine ordZ_take (i := 9) (oi := { dst := some 120, op := Op.fieldAddr 37 (Operand.tmp 14) 1, type := 0, pos := _, after := #[{ on := 0, ground := Ground.phase }, { on := 1, ground := Ground.phase }, { on := 2, ground := Ground.phase }, { on := 3, ground := Ground.phase }, { on := 4, ground := Ground.phase }, { on := 5, ground := Ground.phase }, { on := 6, ground := Ground.phase }, { on := 7, ground := Ground.phase }, { on := 8, ground := Ground.phase }], guard := none }) (v := undef) rfl (by kernel_rfl) (by kernel_rfl) (by kernel_rfl) (by kernel_rfl) (fun _ _ _ h => h) (by assumption) (by kernel_rfl) (by decide) (by rfl) (Or.inr ⟨by rfl, rfl⟩) (fun _ => rfl) ?_)
                try simp only [Act.put, List.setIfInBounds_toArray, List.set_cons_zero, List.set_cons_succ]
                have fz := p3.f2
                have zp := p3.lt
                have hcc := p3.c2
                refine ordZ_one (i := 10) (o := { dst := none, op := Op.store 35 (Operand.tmp 120) (Operand.tmp 119), type := 0, pos := _, after := #[{ on := 9, ground := Ground.data }, { on := 8, ground := Ground.data }, { on := 8, ground := Ground.chain }, { on := 0, ground := Ground.phase }, { on := 1, ground := Ground.phase }, { on := 2, ground := Ground.phase }, { on := 3, ground := Ground.phase }, { on := 4, ground := Ground.phase }, { on := 5, ground := Ground.phase }, { on := 6, ground := Ground.phase }, { on := 7, ground := Ground.phase }, { on := 8, ground := Ground.phase }], guard := none }) (by kernel_rfl) rfl (by rfl) (fun K hK => ?_)
                go_simp
                refine hK _ _ (fun h => by cases h) ?_
                clear hK K
                try simp only [Act.put, List.setIfInBounds_toArray, List.set_cons_zero, List.set_cons_succ]
                refine ordZ_done (by kernel_rfl) ?_
                rw [← HZ.out] at p1
                have P1 := Lib.hid p1
                have P2 := Lib.hid p2
                clear p1 p2 p3 hgrow2 hgrow hown hS10 hlow hbD hD fz hcc zp FA HV HVL HG8 sq qz
                go_wp2
                go_roundw
                case rel => exact ⟨j + 1, by omega, by go_num, P1.out, P2.out⟩
                case measure => simp [intOf]; omega
              | false =>
                by_cases hjg : j < gs.length
                · have HP := Lib.hid (show pickB A B bs gs.length j = false by rw [HPK.out, hh, decide_eq_false (by omega)]; rfl)
                  have hjg2 : (j : Int) < (gs.length : Int) := by omega
                  clear hh HPK
                  obtain ⟨gbgs, gogs, rfl, qg⟩ := hr2.cell hjg
                  have zqg := blk_lt qg
                  replace qg := cell_later hA8 qg
                  obtain ⟨z, hzz⟩ : ∃ z, gs[j] = z := ⟨_, rfl⟩
                  have HZ := Lib.hid (show (mixP A B bs fs gs).take (j + 1) = (mixP A B bs fs gs).take j ++ [z] by rw [HN.out, if_neg (by rw [HP.out]; decide)]; simp [← hzz, hjg])
                  rw [hzz] at qg
                  have qz := qg
                  have sq := g2
                  clear hzz qg g2 e2 qf
                  go_upto_region 19 with fail
                  refine (wpIn_wide (n := 11)).1 ?_
                  have hD := bl_dr (bl0 w8)
                  refine ordZ_begin (z := 10) (S := (fun w' : World => w'.cell? ⟨w5.heap.size, 2, none⟩ = some v ∧ w'.cell? ⟨w.heap.size + 1, 2, none⟩ = some (.slice (some ⟨gbgs, gogs, none⟩) gs.length c2) ∧ w'.cell? ⟨gbgs, gogs + j, none⟩ = some (.int .u16 z))) (by kernel_rfl) ⟨cell_later hD (FA.out).c2, cell_later hD sq, cell_later hD qz⟩ (fun hH => ?_)
                  first
                    | (refine' ordZ_take (i := 0) (oi := { dst := some 121, op := Op.fieldAddr 37 (Operand.tmp 14) 1, type := 0, pos := _, after := #[], guard := none }) (v := _) rfl (by kernel_rfl) (by kernel_rfl) (by kernel_rfl) (by kernel_rfl) (fun _ _ _ h => h) (by assumption) (by kernel_rfl) (by decide) (by rfl) (Or.inl ⟨by rfl, ?hy17⟩) (fun _ => rfl) ?rest17
                       case hy17 => (intro w hSw; (try dsimp only at hSw); go_simp; try with_reducible rfl))
                    | (refine ordZ_take (i := 0) (oi := { dst := some 121, op := Op.fieldAddr 37 (Operand.tmp 14) 1, type := 0, pos := _, after := #[], guard := none }) (v := undef) rfl (by kernel_rfl) (by kernel_rfl) (by kernel_rfl) (by kernel_rfl) (fun _ _ _ h => h) (by assumption) (by kernel_rfl) (by decide) (by rfl) (Or.inr ⟨by rfl, rfl⟩) (fun _ => rfl) ?_)
                  try simp only [Act.put, List.setIfInBounds_toArray, List.set_cons_zero, List.set_cons_succ]
                  first
                    | (refine' ordZ_take (i := 1) (oi := { dst := some 122, op := Op.load 35 (Operand.tmp 121), type := 35, pos := _, after := #[{ on := 0, ground := Ground.data }], guard := none }) (v := _) rfl (by kernel_rfl) (by kernel_rfl) (by kernel_rfl) (by kernel_rfl) (fun _ _ _ h => h) (by assumption) (by kernel_rfl) (by decide) (by rfl) (Or.inl ⟨by rfl, ?hy18⟩) (fun _ => rfl) ?rest18
                       case hy18 => (intro w hSw; (try dsimp only at hSw); go_simp; try with_reducible rfl))
                    | (refine ordZ_take (i := 1) (oi := { dst := some 122, op := Op.load 35 (Operand.tmp 121), type := 35, pos := _, after := #[{ on := 0, ground := Ground.data }], guard := none }) (v := undef) rfl (by kernel_rfl) (by kernel_rfl) (by kernel_rfl) (by kernel_rfl) (fun _ _ _ h => h) (by assumption) (by kernel_rfl) (by decide) (by rfl) (Or.inr ⟨by rfl, rfl⟩) (fun _ => rfl) ?_)
                  try simp only [Act.put, List.setIfInBounds_toArray, List.set_cons_zero, List.set_cons_succ]
                  first
                    | (refine' ordZ_take (i := 2) (oi := { dst := some 123, op := Op.fieldAddr 37 (Operand.tmp 5) 1, type := 0, pos := _, after := #[], guard := none }) (v := _) rfl (by kernel_rfl) (by kernel_rfl) (by kernel_rfl) (by kernel_rfl) (fun _ _ _ h => h) (by assumption) (by kernel_rfl) (by decide) (by rfl) (Or.inl ⟨by rfl, ?hy19⟩) (fun _ => rfl) ?rest19
                       case hy19 => (intro w hSw; (try dsimp only at hSw); go_simp; try with_reducible rfl))
                    | (refine ordZ_take (i := 2) (oi := { dst := some 123, op := Op.fieldAddr 37 (Operand.tmp 5) 1, type := 0, pos := _, after := #[], guard := none }) (v := undef) rfl (by kernel_rfl) (by kernel_rfl) (by kernel_rfl) (by kernel_rfl) (fun _ _ _ h => h) (by assumption) (by kernel_rfl) (by decide) (by rfl) (Or.inr ⟨by rfl, rfl⟩) (fun _ => rfl) ?_)
                  try simp only [Act.put, List.setIfInBounds_toArray, List.set_cons_zero, List.set_cons_succ]
                  first
                    | (refine' ordZ_take (i := 3) (oi := { dst := some 124, op := Op.load 35 (Operand.tmp 123), type := 35, pos := _, after := #[{ on := 2, ground := Ground.data }], guard := none }) (v := _) rfl (by kernel_rfl) (by kernel_rfl) (by kernel_rfl) (by kernel_rfl) (fun _ _ _ h => h) (by assumption) (by kernel_rfl) (by decide) (by rfl) (Or.inl ⟨by rfl, ?hy20⟩) (fun _ => rfl) ?rest20
                       case hy20 => (intro w hSw; (try dsimp only at hSw); go_simp; try with_reducible rfl))
                    | (refine ordZ_take (i := 3) (oi := { dst := some 124, op := Op.load 35 (Operand.tmp 123), type := 35, pos := _, after := #[{ on := 2, ground := Ground.data }], guard := none }) (v := undef) rfl (by kernel_rfl) (by kernel_rfl) (by kernel_rfl) (by kernel_rfl) (fun _ _ _ h => h) (by assumption) (by kernel_rfl) (by decide) (by rfl) (Or.inr ⟨by rfl, rfl⟩) (fun _ => rfl) ?_)
                  try simp only [Act.put, List.setIfInBounds_toArray, List.set_cons_zero, List.set_cons_succ]
                  first
                    | (refine' ordZ_take (i := 4) (oi := { dst := some 125, op := Op.move (Operand.tmp 15), type := 3, pos := _, after := #[], guard := none }) (v := _) rfl (by kernel_rfl) (by kernel_rfl) (by kernel_rfl) (by kernel_rfl) (fun _ _ _ h => h) (by assumption) (by kernel_rfl) (by decide) (by rfl) (Or.inl ⟨by rfl, ?hy21⟩) (fun _ => rfl) ?rest21
                       case hy21 => (intro w hSw; (try dsimp only at hSw); go_simp; try with_reducible rfl))
                    | (refine ordZ_take (i := 4) (oi := { dst := some 125, op := Op.move (Operand.tmp 15), type := 3, pos := _, after := #[], guard := none }) (v := undef) rfl (by kernel_rfl) (by kernel_rfl) (by kernel_rfl) (by kernel_rfl) (fun _ _ _ h => h) (by assumption) (by kernel_rfl) (by decide) (by rfl) (Or.inr ⟨by rfl, rfl⟩) (fun _ => rfl) ?_)
                  try simp only [Act.put, List.setIfInBounds_toArray, List.set_cons_zero, List.set_cons_succ]
                  first
                    | (refine' ordZ_take (i := 5) (oi := { dst := some 126, op := Op.indexAddr 35 (Operand.tmp 124) (Operand.tmp 125), type := 0, pos := _, after := #[{ on := 3, ground := Ground.data }, { on := 4, ground := Ground.data }], guard := none }) (v := _) rfl (by kernel_rfl) (by kernel_rfl) (by kernel_rfl) (by kernel_rfl) (fun _ _ _ h => h) (by assumption) (by kernel_rfl) (by decide) (by rfl) (Or.inl ⟨by rfl, ?hy22⟩) (fun _ => rfl) ?rest22
                       case hy22 => (intro w hSw; (try dsimp only at hSw); go_simp; try with_reducible rfl))
                    | (refine ordZ_take (i := 5) (oi := { dst := some 126, op := Op.indexAddr 35 (Operand.tmp 124) (Operand.tmp 125), type := 0, pos := _, after := #[{ on := 3, ground := Ground.data }, { on := 4, ground := Ground.data }], guard := none }) (v := undef) rfl (by kernel_rfl) (by kernel_rfl) (by kernel_rfl) (by kernel_rfl) (fun _ _ _ h => h) (by assumption) (by kernel_rfl) (by decide) (by rfl) (Or.inr ⟨by rfl, rfl⟩) (fun _ => rfl) ?_)
                  try simp only [Act.put, List.setIfInBounds_toArray, List.set_cons_zero, List.set_cons_succ]
                  first
                    | (refine' ordZ_take (i := 6) (oi := { dst := some 127, op := Op.load 53 (Operand.tmp 126), type := 53, pos := _, after := #[{ on := 5, ground := Ground.data }], guard := none }) (v := _) rfl (by kernel_rfl) (by kernel_rfl) (by kernel_rfl) (by kernel_rfl) (fun _ _ _ h => h) (by assumption) (by kernel_rfl) (by decide) (by rfl) (Or.inl ⟨by rfl, ?hy23⟩) (fun _ => rfl) ?rest23
                       case hy23 => (intro w hSw; (try dsimp only at hSw); go_simp; try with_reducible rfl))
                    | (refine ordZ_take (i := 6) (oi := { dst := some 127, op := Op.load 53 (Operand.tmp 126), type := 53, pos := _, after := #[{ on := 5, ground := Ground.data }], guard := none }) (v := undef) rfl (by kernel_rfl) (by kernel_rfl) (by kernel_rfl) (by kernel_rfl) (fun _ _ _ h => h) (by assumption) (by kernel_rfl) (by decide) (by rfl) (Or.inr ⟨by rfl, rfl⟩) (fun _ => rfl) ?_)
                  try simp only [Act.put, List.setIfInBounds_toArray, List.set_cons_zero, List.set_cons_succ]
                  refine ordZ_one (i := 7) (o := { dst := some 128, op := Op.buildSlice 35 1 #[(0, Operand.tmp 127)], type := 35, pos := _, after := #[{ on := 6, ground := Ground.data }], guard := none }) (by kernel_rfl) rfl (by rfl) (fun K hK => ?_)
                  go_simp
                  refine hK _ _ (fun _ => ⟨cell_later (bl_al hD _) (FA.out).c2, cell_later (bl_al hD _) sq, cell_later (bl_al hD _) qz⟩) ?_
                  clear hK K hH
                  try simp only [Act.put, List.setIfInBounds_toArray, List.set_cons_zero, List.set_cons_succ]
                  obtain ⟨i0, hi, hz0, hz1, hz2⟩ := info_parts Try.infoH
                  refine ordZ_append (i := 8) (o := { dst := some 129, op := Op.call { callee := Callee.builtin Builtin.append, args := #[Operand.tmp 122, Operand.tmp 128], argTypes := #[35, 35] }, type := 35, pos := _, after := #[{ on := 1, ground := Ground.data }, { on := 7, ground := Ground.data }], guard := none }) _ (by kernel_rfl) rfl (by rfl) _ _ 35 rfl w6.heap.size 53 i0 (.int .u16 0) 1 2 Try.underlying35 hi hz0 hz1 hz2 rfl (by decide) _ _ _ rfl (own_later HV.out (bl_al hD _)) ⟨w8.drew.heap.size, 0, none⟩ 1 1 [.int .u16 z] rfl rfl ?c1 ?c2 ?c3 ?c4 ?c5 ?_
                  case c1 =>
                    intro jj u hj
                    cases jj with
                    | succ jj => simp at hj
                    | zero =>
                      simp only [List.getElem?_cons_zero, Option.some.injEq] at hj
                      subst hj
                      simp [go_sem, addr_add]
                  case c2 => intro u hu; simp at hu; subst hu; rfl
                  case c3 => unfold maxLen; omega
                  case c4 => omega
                  case c5 => (have := HG8.out.size; simp; omega)
                  intro v2 w10 hown hgrow
                  obtain ⟨g9, cp9, rfl⟩ := ownsRow_succ hown
                  have hgrow2 : ((w8.alloc (.cells #[.int .u16 z] 53)).drew).grownBy w10 v.ownBlock := hgrow
                  have hlow : ∀ j, v.ownBlock = some j → w6.heap.size ≤ j := fun j e => (HV.out.lt j e).1
                  have hbD : Below w8.heap.size w8 ((w8.alloc (.cells #[.int .u16 z] 53)).drew) := bl_dr (bl_al (bl0 w8) _)
                  obtain ⟨p1, p2, p3⟩ := FieldG.next HG8.out (by omega) FA.out HVL.out hbD (by rw [HLK.out]; exact hown) hgrow2
                  have hS10 : (fun w' : World => w'.cell? ⟨w5.heap.size, 2, none⟩ = some v ∧ w'.cell? ⟨w.heap.size + 1, 2, none⟩ = some (.slice (some ⟨gbgs, gogs, none⟩) gs.length c2) ∧ w'.cell? ⟨gbgs, gogs + j, none⟩ = some (.int .u16 z)) w10 :=
                    ⟨p3.c2, hgrow2.cell (cell_later hbD sq) (fun e => by have := hlow _ e.symm; dsimp only at this; omega), hgrow2.cell (cell_later hbD qz) (fun e => by have := hlow _ e.symm; dsimp only at this; omega)⟩
                  refine ⟨fun _ => hS10, ?_⟩
                  try simp only [Act.put, List.setIfInBounds_toArray, List.set_cons_zero, List.set_cons_succ]
                  first
                    | (refine' ordZ_take (i := 9) (oi := { dst := some 130, op := Op.fieldAddr 37 (Operand.tmp 14) 1, type := 0, pos := _, after := #[{ on := 0, ground := Ground.phase }, { on := 1, ground := Ground.phase }, { on := 2, ground := Ground.phase }, { on := 3, ground := Ground.phase }, { on := 4, ground := Ground.phase }, { on := 5, ground := Ground.phase }, { on := 6, ground := Ground.phase }, { on := 7, ground := Ground.phase }, { on := 8, ground := Ground.phase }], guard := none }) (v := _) rfl (by kernel_rfl) (by kernel_rfl) (by kernel_rfl) (by kernel_rfl) (fun _ _ _ h => h) (by assumption) (by kernel_rfl) (by decide) (by rfl) (Or.inl ⟨by rfl, ?hy24⟩) (fun _ => rfl) ?rest24
                       case hy24 => (intro w hSw; (try dsimp only at hSw); go_simp; try with_reducible rfl))
                    | (refine ordZ_take (i := 9) (oi := { dst := some 130, op := Op.fieldAddr 37 (Operand.tmp 14) 1, type := 0, pos := _, after := #[{ on := 0, ground := Ground.phase }, { on := 1, ground := Ground.phase }, { on := 2, ground := Ground.phase }, { on := 3, ground := Ground.phase }, { on := 4, ground := Ground.phase }, { on := 5, ground := Ground.phase }, { on := 6, ground := Ground.phase }, { on := 7, ground := Ground.phase }, { on := 8, ground := Ground.phase }], guard := none }) (v := undef) rfl (by kernel_rfl) (by kernel_rfl) (by kernel_rfl) (by kernel_rfl) (fun _ _ _ h => h) (by assumption) (by kernel_rfl) (by decide) (by rfl) (Or.inr ⟨by rfl, rfl⟩) (fun _ => rfl) ?_)
                  try simp only [Act.put, List.setIfInBounds_toArray, List.set_cons_zero, List.set_cons_succ]
                  have fz := p3.f2
                  have zp := p3.lt
                  have hcc := p3.c2
                  refine ordZ_one (i := 10) (o := { dst := none, op := Op.store 35 (Operand.tmp 130) (Operand.tmp 129), type := 0, pos := _, after := #[{ on := 9, ground := Ground.data }, { on := 8, ground := Ground.data }, { on := 8, ground := Ground.chain }, { on := 0, ground := Ground.phase }, { on := 1, ground := Ground.phase }, { on := 2, ground := Ground.phase }, { on := 3, ground := Ground.phase }, { on := 4, ground := Ground.phase }, { on := 5, ground := Ground.phase }, { on := 6, ground := Ground.phase }, { on := 7, ground := Ground.phase }, { on := 8, ground := Ground.phase }], guard := none }) (by kernel_rfl) rfl (by rfl) (fun K hK => ?_)
                  go_simp
                  refine hK _ _ (fun h => by cases h) ?_
                  clear hK K
                  try simp only [Act.put, List.setIfInBounds_toArray, List.set_cons_zero, List.set_cons_succ]
                  refine ordZ_done (by kernel_rfl) ?_
                  rw [← HZ.out] at p1
                  have P1 := Lib.hid p1
                  have P2 := Lib.hid p2
                  clear p1 p2 p3 hgrow2 hgrow hown hS10 hlow hbD hD fz hcc zp FA HV HVL HG8 sq qz
                  go_wp2
                  go_roundw
                  case rel => exact ⟨j + 1, by omega, by go_num, P1.out, P2.out⟩
                  case measure => simp [intOf]; omega
                · have HP := Lib.hid (show pickB A B bs gs.length j = true by rw [HPK.out, hh, decide_eq_true (by omega)]; rfl)
                  have hjg2 : (gs.length : Int) ≤ (j : Int) := by omega
                  clear hh HPK hjg
                  obtain ⟨z, hzz⟩ : ∃ z, fs[j] = z := ⟨_, rfl⟩
                  have HZ := Lib.hid (show (mixP A B bs fs gs).take (j + 1) = (mixP A B bs fs gs).take j ++ [z] by rw [HN.out, if_pos HP.out]; simp [← hzz, hlt])
                  rw [hzz] at qf
                  have qz := qf
                  have sq := e2
                  clear hzz qf e2
                  go_upto_region 18 with fail
                  refine (wpIn_wide (n := 11)).1 ?_
                  have hD := bl_dr (bl0 w8)
                  refine ordZ_begin (z := 10) (S := (fun w' : World => w'.cell? ⟨w5.heap.size, 2, none⟩ = some v ∧ w'.cell? ⟨bx, 2, none⟩ = some (.slice (some ⟨gbf, gof, none⟩) fs.length fc) ∧ w'.cell? ⟨gbf, gof + j, none⟩ = some (.int .u16 z))) (by kernel_rfl) ⟨cell_later hD (FA.out).c2, cell_later hD sq, cell_later hD qz⟩ (fun hH => ?_)
                  first
                    | (refine' ordZ_take (i := 0) (oi := { dst := some 111, op := Op.fieldAddr 37 (Operand.tmp 14) 1, type := 0, pos := _, after := #[], guard := none }) (v := _) rfl (by kernel_rfl) (by kernel_rfl) (by kernel_rfl) (by kernel_rfl) (fun _ _ _ h => h) (by assumption) (by kernel_rfl) (by decide) (by rfl) (Or.inl ⟨by rfl, ?hy25⟩) (fun _ => rfl) ?rest25
                       case hy25 => (intro w hSw; (try dsimp only at hSw); go_simp; try with_reducible rfl))
                    | (refine ordZ_take (i := 0) (oi := { dst := some 111, op := Op.fieldAddr 37 (Operand.tmp 14) 1, type := 0, pos := _, after := #[], guard := none }) (v := undef) rfl (by kernel_rfl) (by kernel_rfl) (by kernel_rfl) (by kernel_rfl) (fun _ _ _ h => h) (by assumption) (by kernel_rfl) (by decide) (by rfl) (Or.inr ⟨by rfl, rfl⟩) (fun _ => rfl) ?_)
                  try simp only [Act.put, List.setIfInBounds_toArray, List.set_cons_zero, List.set_cons_succ]
                  first
                    | (refine' ordZ_take (i := 1) (oi := { dst := some 112, op := Op.load 35 (Operand.tmp 111), type := 35, pos := _, after := #[{ on := 0, ground := Ground.data }], guard := none }) (v := _) rfl (by kernel_rfl) (by kernel_rfl) (by kernel_rfl) (by kernel_rfl) (fun _ _ _ h => h) (by assumption) (by kernel_rfl) (by decide) (by rfl) (Or.inl ⟨by rfl, ?hy26⟩) (fun _ => rfl) ?rest26
                       case hy26 => (intro w hSw; (try dsimp only at hSw); go_simp; try with_reducible rfl))
                    | (refine ordZ_take (i := 1) (oi := { dst := some 112, op := Op.load 35 (Operand.tmp 111), type := 35, pos := _, after := #[{ on := 0, ground := Ground.data }], guard := none }) (v := undef) rfl (by kernel_rfl) (by kernel_rfl) (by kernel_rfl) (by kernel_rfl) (fun _ _ _ h => h) (by assumption) (by kernel_rfl) (by decide) (by rfl) (Or.inr ⟨by rfl, rfl⟩) (fun _ => rfl) ?_)
                  try simp only [Act.put, List.setIfInBounds_toArray, List.set_cons_zero, List.set_cons_succ]
                  first
                    | (refine' ordZ_take (i := 2) (oi := { dst := some 113, op := Op.fieldAddr 37 (Operand.tmp 12) 1, type := 0, pos := _, after := #[], guard := none }) (v := _) rfl (by kernel_rfl) (by kernel_rfl) (by kernel_rfl) (by kernel_rfl) (fun _ _ _ h => h) (by assumption) (by kernel_rfl) (by decide) (by rfl) (Or.inl ⟨by rfl, ?hy27⟩) (fun _ => rfl) ?rest27
                       case hy27 => (intro w hSw; (try dsimp only at hSw); go_simp; try with_reducible rfl))
                    | (refine ordZ_take (i := 2) (oi := { dst := some 113, op := Op.fieldAddr 37 (Operand.tmp 12) 1, type := 0, pos := _, after := #[], guard := none }) (v := undef) rfl (by kernel_rfl) (by kernel_rfl) (by kernel_rfl) (by kernel_rfl) (fun _ _ _ h => h) (by assumption) (by kernel_rfl) (by decide) (by rfl) (Or.inr ⟨by rfl, rfl⟩) (fun _ => rfl) ?_)
                  try simp only [Act.put, List.setIfInBounds_toArray, List.set_cons_zero, List.set_cons_succ]
                  first
                    | (refine' ordZ_take (i := 3) (oi := { dst := some 114, op := Op.load 35 (Operand.tmp 113), type := 35, pos := _, after := #[{ on := 2, ground := Ground.data }], guard := none }) (v := _) rfl (by kernel_rfl) (by kernel_rfl) (by kernel_rfl) (by kernel_rfl) (fun _ _ _ h => h) (by assumption) (by kernel_rfl) (by decide) (by rfl) (Or.inl ⟨by rfl, ?hy28⟩) (fun _ => rfl) ?rest28
                       case hy28 => (intro w hSw; (try dsimp only at hSw); go_simp; try with_reducible rfl))
                    | (refine ordZ_take (i := 3) (oi := { dst := some 114, op := Op.load 35 (Operand.tmp 113), type := 35, pos := _, after := #[{ on := 2, ground := Ground.data }], guard := none }) (v := undef) rfl (by kernel_rfl) (by kernel_rfl) (by kernel_rfl) (by kernel_rfl) (fun _ _ _ h => h) (by assumption) (by kernel_rfl) (by decide) (by rfl) (Or.inr ⟨by rfl, rfl⟩) (fun _ => rfl) ?_)
                  try simp only [Act.put, List.setIfInBounds_toArray, List.set_cons_zero, List.set_cons_succ]
                  first
                    | (refine' ordZ_take (i := 4) (oi := { dst := some 115, op := Op.move (Operand.tmp 15), type := 3, pos := _, after := #[], guard := none }) (v := _) rfl (by kernel_rfl) (by kernel_rfl) (by kernel_rfl) (by kernel_rfl) (fun _ _ _ h => h) (by assumption) (by kernel_rfl) (by decide) (by rfl) (Or.inl ⟨by rfl, ?hy29⟩) (fun _ => rfl) ?rest29
                       case hy29 => (intro w hSw; (try dsimp only at hSw); go_simp; try with_reducible rfl))
                    | (refine ordZ_take (i := 4) (oi := { dst := some 115, op := Op.move (Operand.tmp 15), type := 3, pos := _, after := #[], guard := none }) (v := undef) rfl (by kernel_rfl) (by kernel_rfl) (by kernel_rfl) (by kernel_rfl) (fun _ _ _ h => h) (by assumption) (by kernel_rfl) (by decide) (by rfl) (Or.inr ⟨by rfl, rfl⟩) (fun _ => rfl) ?_)
                  try simp only [Act.put, List.setIfInBounds_toArray, List.set_cons_zero, List.set_cons_succ]
                  first
                    | (refine' ordZ_take (i := 5) (oi := { dst := some 116, op := Op.indexAddr 35 (Operand.tmp 114) (Operand.tmp 115), type := 0, pos := _, after := #[{ on := 3, ground := Ground.data }, { on := 4, ground := Ground.data }], guard := none }) (v := _) rfl (by kernel_rfl) (by kernel_rfl) (by kernel_rfl) (by kernel_rfl) (fun _ _ _ h => h) (by assumption) (by kernel_rfl) (by decide) (by rfl) (Or.inl ⟨by rfl, ?hy30⟩) (fun _ => rfl) ?rest30
                       case hy30 => (intro w hSw; (try dsimp only at hSw); go_simp; try with_reducible rfl))
                    | (refine ordZ_take (i := 5) (oi := { dst := some 116, op := Op.indexAddr 35 (Operand.tmp 114) (Operand.tmp 115), type := 0, pos := _, after := #[{ on := 3, ground := Ground.data }, { on := 4, ground := Ground.data }], guard := none }) (v := undef) rfl (by kernel_rfl) (by kernel_rfl) (by kernel_rfl) (by kernel_rfl) (fun _ _ _ h => h) (by assumption) (by kernel_rfl) (by decide) (by rfl) (Or.inr ⟨by rfl, rfl⟩) (fun _ => rfl) ?_)
                  try simp only [Act.put, List.setIfInBounds_toArray, List.set_cons_zero, List.set_cons_succ]
                  first
                    | (refine' ordZ_take (i := 6) (oi := { dst := some 117, op := Op.load 53 (Operand.tmp 116), type := 53, pos := _, after := #[{ on := 5, ground := Ground.data }], guard := none }) (v := _) rfl (by kernel_rfl) (by kernel_rfl) (by kernel_rfl) (by kernel_rfl) (fun _ _ _ h => h) (by assumption) (by kernel_rfl) (by decide) (by rfl) (Or.inl ⟨by rfl, ?hy31⟩) (fun _ => rfl) ?rest31
                       case hy31 => (intro w hSw; (try dsimp only at hSw); go_simp; try with_reducible rfl))
                    | (refine ordZ_take (i := 6) (oi := { dst := some 117, op := Op.load 53 (Operand.tmp 116), type := 53, pos := _, after := #[{ on := 5, ground := Ground.data }], guard := none }) (v := undef) rfl (by kernel_rfl) (by kernel_rfl) (by kernel_rfl) (by kernel_rfl) (fun _ _ _ h => h) (by assumption) (by kernel_rfl) (by decide) (by rfl) (Or.inr ⟨by rfl, rfl⟩) (fun _ => rfl) ?_)
                  try simp only [Act.put, List.setIfInBounds_toArray, List.set_cons_zero, List.set_cons_succ]
                  refine ordZ_one (i := 7) (o := { dst := some 118, op := Op.buildSlice 35 1 #[(0, Operand.tmp 117)], type := 35, pos := _, after := #[{ on := 6, ground := Ground.data }], guard := none }) (by kernel_rfl) rfl (by rfl) (fun K hK => ?_)
                  go_simp
                  refine hK _ _ (fun _ => ⟨cell_later (bl_al hD _) (FA.out).c2, cell_later (bl_al hD _) sq, cell_later (bl_al hD _) qz⟩) ?_
                  clear hK K hH
                  try simp only [Act.put, List.setIfInBounds_toArray, List.set_cons_zero, List.set_cons_succ]
                  obtain ⟨i0, hi, hz0, hz1, hz2⟩ := info_parts Try.infoH
                  refine ordZ_append (i := 8) (o := { dst := some 119, op := Op.call { callee := Callee.builtin Builtin.append, args := #[Operand.tmp 112, Operand.tmp 118], argTypes := #[35, 35] }, type := 35, pos := _, after := #[{ on := 1, ground := Ground.data }, { on := 7, ground := Ground.data }], guard := none }) _ (by kernel_rfl) rfl (by rfl) _ _ 35 rfl w6.heap.size 53 i0 (.int .u16 0) 1 2 Try.underlying35 hi hz0 hz1 hz2 rfl (by decide) _ _ _ rfl (own_later HV.out (bl_al hD _)) ⟨w8.drew.heap.size, 0, none⟩ 1 1 [.int .u16 z] rfl rfl ?c1 ?c2 ?c3 ?c4 ?c5 ?_
                  case c1 =>
                    intro jj u hj
                    cases jj with
                    | succ jj => simp at hj
                    | zero =>
                      simp only [List.getElem?_cons_zero, Option.some.injEq] at hj
                      subst hj
                      simp [go_sem, addr_add]
                  case c2 => intro u hu; simp at hu; subst hu; rfl
                  case c3 => unfold maxLen; omega
                  case c4 => omega
                  case c5 => (have := HG8.out.size; simp; omega)
                  intro v2 w10 hown hgrow
                  obtain ⟨g9, cp9, rfl⟩ := ownsRow_succ hown
                  have hgrow2 : ((w8.alloc (.cells #[.int .u16 z] 53)).drew).grownBy w10 v.ownBlock := hgrow
                  have hlow : ∀ j, v.ownBlock = some j → w6.heap.size ≤ j := fun j e => (HV.out.lt j e).1
                  have hbD : Below w8.heap.size w8 ((w8.alloc (.cells #[.int .u16 z] 53)).drew) := bl_dr (bl_al (bl0 w8) _)
                  obtain ⟨p1, p2, p3⟩ := FieldG.next HG8.out (by omega) FA.out HVL.out hbD (by rw [HLK.out]; exact hown) hgrow2
                  have hS10 : (fun w' : World => w'.cell? ⟨w5.heap.size, 2, none⟩ = some v ∧ w'.cell? ⟨bx, 2, none⟩ = some (.slice (some ⟨gbf, gof, none⟩) fs.length fc) ∧ w'.cell? ⟨gbf, gof + j, none⟩ = some (.int .u16 z)) w10 :=
                    ⟨p3.c2, hgrow2.cell (cell_later hbD sq) (fun e => by have := hlow _ e.symm; dsimp only at this; omega), hgrow2.cell (cell_later hbD qz) (fun e => by have := hlow _ e.symm; dsimp only at this; omega)⟩
                  refine ⟨fun _ => hS10, ?_⟩
                  try simp only [Act.put, List.setIfInBounds_toArray, List.set_cons_zero, List.set_cons_succ]
                  first
                    | (refine' ordZ_take (i := 9) (oi := { dst := some 120, op := Op.fieldAddr 37 (Operand.tmp 14) 1, type := 0, pos := _, after := #[{ on := 0, ground := Ground.phase }, { on := 1, ground := Ground.phase }, { on := 2, ground := Ground.phase }, { on := 3, ground := Ground.phase }, { on := 4, ground := Ground.phase }, { on := 5, ground := Ground.phase }, { on := 6, ground := Ground.phase }, { on := 7, ground := Ground.phase }, { on := 8, ground := Ground.phase }], guard := none }) (v := _) rfl (by kernel_rfl) (by kernel_rfl) (by kernel_rfl) (by kernel_rfl) (fun _ _ _ h => h) (by assumption) (by kernel_rfl) (by decide) (by rfl) (Or.inl ⟨by rfl, ?hy32⟩) (fun _ => rfl) ?rest32
                       case hy32 => (intro w hSw; (try dsimp only at hSw); go_simp; try with_reducible rfl))
                    | (refine ordZ_take (i := 9) (oi := { dst := some 120, op := Op.fieldAddr 37 (Operand.tmp 14) 1, type := 0, pos := _, after := #[{ on := 0, ground := Ground.phase }, { on := 1, ground := Ground.phase }, { on := 2, ground := Ground.phase }, { on := 3, ground := Ground.phase }, { on := 4, ground := Ground.phase }, { on := 5, ground := Ground.phase }, { on := 6, ground := Ground.phase }, { on := 7, ground := Ground.phase }, { on := 8, ground := Ground.phase }], guard := none }) (v := undef) rfl (by kernel_rfl) (by kernel_rfl) (by kernel_rfl) (by kernel_rfl) (fun _ _ _ h => h) (by assumption) (by kernel_rfl) (by decide) (by rfl) (Or.inr ⟨by rfl, rfl⟩) (fun _ => rfl) ?_)
                  try simp only [Act.put, List.setIfInBounds_toArray, List.set_cons_zero, List.set_cons_succ]
                  have fz := p3.f2
                  have zp := p3.lt
                  have hcc := p3.c2
                  refine ordZ_one (i := 10) (o := { dst := none, op := Op.store 35 (Operand.tmp 120) (Operand.tmp 119), type := 0, pos := _, after := #[{ on := 9, ground := Ground.data }, { on := 8, ground := Ground.data }, { on := 8, ground := Ground.chain }, { on := 0, ground := Ground.phase }, { on := 1, ground := Ground.phase }, { on := 2, ground := Ground.phase }, { on := 3, ground := Ground.phase }, { on := 4, ground := Ground.phase }, { on := 5, ground := Ground.phase }, { on := 6, ground := Ground.phase }, { on := 7, ground := Ground.phase }, { on := 8, ground := Ground.phase }], guard := none }) (by kernel_rfl) rfl (by rfl) (fun K hK => ?_)
                  go_simp
                  refine hK _ _ (fun h => by cases h) ?_
                  clear hK K
                  try simp only [Act.put, List.setIfInBounds_toArray, List.set_cons_zero, List.set_cons_succ]
                  refine ordZ_done (by kernel_rfl) ?_
                  rw [← HZ.out] at p1
                  have P1 := Lib.hid p1
                  have P2 := Lib.hid p2
                  clear p1 p2 p3 hgrow2 hgrow hown hS10 hlow hbD hD fz hcc zp FA HV HVL HG8 sq qz
                  go_wp2
                  go_roundw
                  case rel => exact ⟨j + 1, by omega, by go_num, P1.out, P2.out⟩
                  case measure => simp [intOf]; omega
            | false =>
              have hpk : pickB A B bs gs.length j = decide (gs.length ≤ j) := by unfold pickB; rw [hat]; rfl
              have HPK := Lib.hid hpk
              clear hpk
              go_wp2_with fail
              refine (at_no A B j _ hat).mono ?_
              rintro e w7 ⟨rfl, hb7w⟩
              go_upto_region 17 with fail
              obtain ⟨w8, hw8⟩ : ∃ w8, w7.alloc (.cells #[.int .i64 0, .int .i64 0] 26) = w8 := ⟨_, rfl⟩
              rw [hw8]
              have hb7 := bl_tr hb7w (show Below w7.heap.size w7 w8 by rw [← hw8]; exact bl_al (bl0 _) _)
              clear hw8 hb7w
              replace e2 := cell_later hb7 e2
              replace g2 := cell_later hb7 g2
              have FA := Lib.hid (hFA.later hb7 hFAl)
              have HVL := Lib.hid (own_later hv hb7)
              have HV := Lib.hid (show w8.ownsRow w6.heap.size 53 1 v j (cellsH ((mixP A B bs fs gs).take j)) by have h := HVL.out; rw [HLK.out] at h; exact h)
              have HG8 := Lib.hid (hG.trans (grown_weak (grown_of_below hb7) _))
              have hA8 : Below w.heap.size w w8 := hA5.grown (HW6.out.trans HG8.out) hA5.size (fun r e => by cases e; omega)
              have qf := cell_later hA8 qf0
              clear hb7 hFA hv hG hG5 hbq e0 e1 hmq hat qf0
              by_cases hjg : j < gs.length
              · have HP := Lib.hid (show pickB A B bs gs.length j = false by rw [HPK.out, decide_eq_false (by omega)])
                have hjg2 : (j : Int) < (gs.length : Int) := by omega
                clear HPK
                obtain ⟨gbgs, gogs, rfl, qg⟩ := hr2.cell hjg
                have zqg := blk_lt qg
                replace qg := cell_later hA8 qg
                obtain ⟨z, hzz⟩ : ∃ z, gs[j] = z := ⟨_, rfl⟩
                have HZ := Lib.hid (show (mixP A B bs fs gs).take (j + 1) = (mixP A B bs fs gs).take j ++ [z] by rw [HN.out, if_neg (by rw [HP.out]; decide)]; simp [← hzz, hjg])
                rw [hzz] at qg
                have qz := qg
                have sq := g2
                clear hzz qg g2 e2 qf
                go_upto_region 19 with fail
                refine (wpIn_wide (n := 11)).1 ?_
                have hD := bl_dr (bl0 w8)
                refine ordZ_begin (z := 10) (S := (fun w' : World => w'.cell? ⟨w5.heap.size, 2, none⟩ = some v ∧ w'.cell? ⟨w.heap.size + 1, 2, none⟩ = some (.slice (some ⟨gbgs, gogs, none⟩) gs.length c2) ∧ w'.cell? ⟨gbgs, gogs + j, none⟩ = some (.int .u16 z))) (by kernel_rfl) ⟨cell_later hD (FA.out).c2, cell_later hD sq, cell_later hD qz⟩ (fun hH => ?_)
                first
                  | (refine' ordZ_take (i := 0) (oi := { dst := some 121, op := Op.fieldAddr 37 (Operand.tmp 14) 1, type := 0, pos := _, after := #[], guard := none }) (v := _) rfl (by kernel_rfl) (by kernel_rfl) (by kernel_rfl) (by kernel_rfl) (fun _ _ _ h => h) (by assumption) (by kernel_rfl) (by decide) (by rfl) (Or.inl ⟨by rfl, ?hy33⟩) (fun _ => rfl) ?rest33
                     case hy33 => (intro w hSw; (try dsimp only at hSw); go_simp; try with_reducible rfl))
                  | (refine ordZ_take (i := 0) (oi := { dst := some 121, op := Op.fieldAddr 37 (Operand.tmp 14) 1, type := 0, pos := _, after := #[], guard := none }) (v := undef) rfl (by kernel_rfl) (by kernel_rfl) (by kernel_rfl) (by kernel_rfl) (fun _ _ _ h => h) (by assumption) (by kernel_rfl) (by decide) (by rfl) (Or.inr ⟨by rfl, rfl⟩) (fun _ => rfl) ?_)
                try simp only [Act.put, List.setIfInBounds_toArray, List.set_cons_zero, List.set_cons_succ]
                first
                  | (refine' ordZ_take (i := 1) (oi := { dst := some 122, op := Op.load 35 (Operand.tmp 121), type := 35, pos := _, after := #[{ on := 0, ground := Ground.data }], guard := none }) (v := _) rfl (by kernel_rfl) (by kernel_rfl) (by kernel_rfl) (by kernel_rfl) (fun _ _ _ h => h) (by assumption) (by kernel_rfl) (by decide) (by rfl) (Or.inl ⟨by rfl, ?hy34⟩) (fun _ => rfl) ?rest34
                     case hy34 => (intro w hSw; (try dsimp only at hSw); go_simp; try with_reducible rfl))
                  | (refine ordZ_take (i := 1) (oi := { dst := some 122, op := Op.load 35 (Operand.tmp 121), type := 35, pos := _, after := #[{ on := 0, ground := Ground.data }], guard := none }) (v := undef) rfl (by kernel_rfl) (by kernel_rfl) (by kernel_rfl) (by kernel_rfl) (fun _ _ _ h => h) (by assumption) (by kernel_rfl) (by decide) (by rfl) (Or.inr ⟨by rfl, rfl⟩) (fun _ => rfl) ?_)
                try simp only [Act.put, List.setIfInBounds_toArray, List.set_cons_zero, List.set_cons_succ]
                first
                  | (refine' ordZ_take (i := 2) (oi := { dst := some 123, op := Op.fieldAddr 37 (Operand.tmp 5) 1, type := 0, pos := _, after := #[], guard := none }) (v := _) rfl (by kernel_rfl) (by kernel_rfl) (by kernel_rfl) (by kernel_rfl) (fun _ _ _ h => h) (by assumption) (by kernel_rfl) (by decide) (by rfl) (Or.inl ⟨by rfl, ?hy35⟩) (fun _ => rfl) ?rest35
                     case hy35 => (intro w hSw; (try dsimp only at hSw); go_simp; try with_reducible rfl))
                  | (refine ordZ_take (i := 2) (oi := { dst := some 123, op := Op.fieldAddr 37 (Operand.tmp 5) 1, type := 0, pos := _, after := #[], guard := none }) (v := undef) rfl (by kernel_rfl) (by kernel_rfl) (by kernel_rfl) (by kernel_rfl) (fun _ _ _ h => h) (by assumption) (by kernel_rfl) (by decide) (by rfl) (Or.inr ⟨by rfl, rfl⟩) (fun _ => rfl) ?_)
                try simp only [Act.put, List.setIfInBounds_toArray, List.set_cons_zero, List.set_cons_succ]
                first
                  | (refine' ordZ_take (i := 3) (oi := { dst := some 124, op := Op.load 35 (Operand.tmp 123), type := 35, pos := _, after := #[{ on := 2, ground := Ground.data }], guard := none }) (v := _) rfl (by kernel_rfl) (by kernel_rfl) (by kernel_rfl) (by kernel_rfl) (fun _ _ _ h => h) (by assumption) (by kernel_rfl) (by decide) (by rfl) (Or.inl ⟨by rfl, ?hy36⟩) (fun _ => rfl) ?rest36
                     case hy36 => (intro w hSw; (try dsimp only at hSw); go_simp; try with_reducible rfl))
                  | (refine ordZ_take (i := 3) (oi := { dst := some 124, op := Op.load 35 (Operand.tmp 123), type := 35, pos := _, after := #[{ on := 2, ground := Ground.data }], guard := none }) (v := undef) rfl (by kernel_rfl) (by kernel_rfl) (by kernel_rfl) (by kernel_rfl) (fun _ _ _ h => h) (by assumption) (by kernel_rfl) (by decide) (by rfl) (Or.inr ⟨by rfl, rfl⟩) (fun _ => rfl) ?_)
                try simp only [Act.put, List.setIfInBounds_toArray, List.set_cons_zero, List.set_cons_succ]
                first
                  | (refine' ordZ_take (i := 4) (oi := { dst := some 125, op := Op.move (Operand.tmp 15), type := 3, pos := _, after := #[], guard := none }) (v := _) rfl (by kernel_rfl) (by kernel_rfl) (by kernel_rfl) (by kernel_rfl) (fun _ _ _ h => h) (by assumption) (by kernel_rfl) (by decide) (by rfl) (Or.inl ⟨by rfl, ?hy37⟩) (fun _ => rfl) ?rest37
                     case hy37 => (intro w hSw; (try dsimp only at hSw); go_simp; try with_reducible rfl))
                  | (refine ordZ_take (i := 4) (oi := { dst := some 125, op := Op.move (Operand.tmp 15), type := 3, pos := _, after := #[], guard := none }) (v := undef) rfl (by kernel_rfl) (by kernel_rfl) (by kernel_rfl) (by kernel_rfl) (fun _ _ _ h => h) (by assumption) (by kernel_rfl) (by decide) (by rfl) (Or.inr ⟨by rfl, rfl⟩) (fun _ => rfl) ?_)
                try simp only [Act.put, List.setIfInBounds_toArray, List.set_cons_zero, List.set_cons_succ]
                first
                  | (refine' ordZ_take (i := 5) (oi := { dst := some 126, op := Op.indexAddr 35 (Operand.tmp 124) (Operand.tmp 125), type := 0, pos := _, after := #[{ on := 3, ground := Ground.data }, { on := 4, ground := Ground.data }], guard := none }) (v := _) rfl (by kernel_rfl) (by kernel_rfl) (by kernel_rfl) (by kernel_rfl) (fun _ _ _ h => h) (by assumption) (by kernel_rfl) (by decide) (by rfl) (Or.inl ⟨by rfl, ?hy38⟩) (fun _ => rfl) ?rest38
                     case hy38 => (intro w hSw; (try dsimp only at hSw); go_simp; try with_reducible rfl))
                  | (refine ordZ_take (i := 5) (oi := { dst := some 126, op := Op.indexAddr 35 (Operand.tmp 124) (Operand.tmp 125), type := 0, pos := _, after := #[{ on := 3, ground := Ground.data }, { on := 4, ground := Ground.data }], guard := none }) (v := undef) rfl (by kernel_rfl) (by kernel_rfl) (by kernel_rfl) (by kernel_rfl) (fun _ _ _ h => h) (by assumption) (by kernel_rfl) (by decide) (by rfl) (Or.inr ⟨by rfl, rfl⟩) (fun _ => rfl) ?_)
                try simp only [Act.put, List.setIfInBounds_toArray, List.set_cons_zero, List.set_cons_succ]
                first
                  | (refine' ordZ_take (i := 6) (oi := { dst := some 127, op := Op.load 53 (Operand.tmp 126), type := 53, pos := _, after := #[{ on := 5, ground := Ground.data }], guard := none }) (v := _) rfl (by kernel_rfl) (by kernel_rfl) (by kernel_rfl) (by kernel_rfl) (fun _ _ _ h => h) (by assumption) (by kernel_rfl) (by decide) (by rfl) (Or.inl ⟨by rfl, ?hy39⟩) (fun _ => rfl) ?rest39
                     case hy39 => (intro w hSw; (try dsimp only at hSw); go_simp; try with_reducible rfl))
                  | (refine ordZ_take (i := 6) (oi := { dst := some 127, op := Op.load 53 (Operand.tmp 126), type := 53, pos := _, after := #[{ on := 5, ground := Ground.data }], guard := none }) (v := undef) rfl (by kernel_rfl) (by kernel_rfl) (by kernel_rfl) (by kernel_rfl) (fun _ _ _ h => h) (by assumption) (by kernel_rfl) (by decide) (by rfl) (Or.inr ⟨by rfl, rfl⟩) (fun _ => rfl) ?_)
                try simp only [Act.put, List.setIfInBounds_toArray, List.set_cons_zero, List.set_cons_succ]
                refine ordZ_one (i := 7) (o := { dst := some 128, op := Op.buildSlice 35 1 #[(0, Operand.tmp 127)], type := 35, pos := _, after := #[{ on := 6, ground := Ground.data }], guard := none }) (by kernel_rfl) rfl (by rfl) (fun K hK => ?_)
                go_simp
                refine hK _ _ (fun _ => ⟨cell_later (bl_al hD _) (FA.out).c2, cell_later (bl_al hD _) sq, cell_later (bl_al hD _) qz⟩) ?_
                clear hK K hH
                try simp only [Act.put, List.setIfInBounds_toArray, List.set_cons_zero, List.set_cons_succ]
                obtain ⟨i0, hi, hz0, hz1, hz2⟩ := info_parts Try.infoH
                refine ordZ_append (i := 8) (o := { dst := some 129, op := Op.call { callee := Callee.builtin Builtin.append, args := #[Operand.tmp 122, Operand.tmp 128], argTypes := #[35, 35] }, type := 35, pos := _, after := #[{ on := 1, ground := Ground.data }, { on := 7, ground := Ground.data }], guard := none }) _ (by kernel_rfl) rfl (by rfl) _ _ 35 rfl w6.heap.size 53 i0 (.int .u16 0) 1 2 Try.underlying35 hi hz0 hz1 hz2 rfl (by decide) _ _ _ rfl (own_later HV.out (bl_al hD _)) ⟨w8.drew.heap.size, 0, none⟩ 1 1 [.int .u16 z] rfl rfl ?c1 ?c2 ?c3 ?c4 ?c5 ?_
                case c1 =>
                  intro jj u hj
                  cases jj with
                  | succ jj => simp at hj
                  | zero =>
                    simp only [List.getElem?_cons_zero, Option.some.injEq] at hj
                    subst hj
                    simp [go_sem, addr_add]
                case c2 => intro u hu; simp at hu; subst hu; rfl
                case c3 => unfold maxLen; omega
                case c4 => omega
                case c5 => (have := HG8.out.size; simp; omega)
                intro v2 w10 hown hgrow
                obtain ⟨g9, cp9, rfl⟩ := ownsRow_succ hown
                have hgrow2 : ((w8.alloc (.cells #[.int .u16 z] 53)).drew).grownBy w10 v.ownBlock := hgrow
                have hlow : ∀ j, v.ownBlock = some j → w6.heap.size ≤ j := fun j e => (HV.out.lt j e).1
                have hbD : Below w8.heap.size w8 ((w8.alloc (.cells #[.int .u16 z] 53)).drew) := bl_dr (bl_al (bl0 w8) _)
                obtain ⟨p1, p2, p3⟩ := FieldG.next HG8.out (by omega) FA.out HVL.out hbD (by rw [HLK.out]; exact hown) hgrow2
                have hS10 : (fun w' : World => w'.cell? ⟨w5.heap.size, 2, none⟩ = some v ∧ w'.cell? ⟨w.heap.size + 1, 2, none⟩ = some (.slice (some ⟨gbgs, gogs, none⟩) gs.length c2) ∧ w'.cell? ⟨gbgs, gogs + j, none⟩ = some (.int .u16 z)) w10 :=
                  ⟨p3.c2, hgrow2.cell (cell_later hbD sq) (fun e => by have := hlow _ e.symm; dsimp only at this; omega), hgrow2.cell (cell_later hbD qz) (fun e => by have := hlow _ e.symm; dsimp only at this; omega)⟩
                refine ⟨fun _ => hS10, ?_⟩
                try simp only [Act.put, List.setIfInBounds_toArray, List.set_cons_zero, List.set_cons_succ]
                first
                  | (refine' ordZ_take (i := 9) (oi := { dst := some 130, op := Op.fieldAddr 37 (Operand.tmp 14) 1, type := 0, pos := _, after := #[{ on := 0, ground := Ground.phase }, { on := 1, ground := Ground.phase }, { on := 2, ground := Ground.phase }, { on := 3, ground := Ground.phase }, { on := 4, ground := Ground.phase }, { on := 5, ground := Ground.phase }, { on := 6, ground := Ground.phase }, { on := 7, ground := Ground.phase }, { on := 8, ground := Ground.phase }], guard := none }) (v := _) rfl (by kernel_rfl) (by kernel_rfl) (by kernel_rfl) (by kernel_rfl) (fun _ _ _ h => h) (by assumption) (by kernel_rfl) (by decide) (by rfl) (Or.inl ⟨by rfl, ?hy40⟩) (fun _ => rfl) ?rest40
                     case hy40 => (intro w hSw; (try dsimp only at hSw); go_simp; try with_reducible rfl))
                  | (refine ordZ_take (i := 9) (oi := { dst := some 130, op := Op.fieldAddr 37 (Operand.tmp 14) 1, type := 0, pos := _, after := #[{ on := 0, ground := Ground.phase }, { on := 1, ground := Ground.phase }, { on := 2, ground := Ground.phase }, { on := 3, ground := Ground.phase }, { on := 4, ground := Ground.phase }, { on := 5, ground := Ground.phase }, { on := 6, ground := Ground.phase }, { on := 7, ground := Ground.phase }, { on := 8, ground := Ground.phase }], guard := none }) (v := undef) rfl (by kernel_rfl) (by kernel_rfl) (by kernel_rfl) (by kernel_rfl) (fun _ _ _ h => h) (by assumption) (by kernel_rfl) (by decide) (by rfl) (Or.inr ⟨by rfl, rfl⟩) (fun _ => rfl) ?_)
                try simp only [Act.put, List.setIfInBounds_toArray, List.set_cons_zero, List.set_cons_succ]
                have fz := p3.f2
                have zp := p3.lt
                have hcc := p3.c2
                refine ordZ_one (i := 10) (o := { dst := none, op := Op.store 35 (Operand.tmp 130) (Operand.tmp 129), type := 0, pos := _, after := #[{ on := 9, ground := Ground.data }, { on := 8, ground := Ground.data }, { on := 8, ground := Ground.chain }, { on := 0, ground := Ground.phase }, { on := 1, ground := Ground.phase }, { on := 2, ground := Ground.phase }, { on := 3, ground := Ground.phase }, { on := 4, ground := Ground.phase }, { on := 5, ground := Ground.phase }, { on := 6, ground := Ground.phase }, { on := 7, ground := Ground.phase }, { on := 8, ground := Ground.phase }], guard := none }) (by kernel_rfl) rfl (by rfl) (fun K hK => ?_)
                go_simp
                refine hK _ _ (fun h => by cases h) ?_
                clear hK K
                try simp only [Act.put, List.setIfInBounds_toArray, List.set_cons_zero, List.set_cons_succ]
                refine ordZ_done (by kernel_rfl) ?_
                rw [← HZ.out] at p1
                have P1 := Lib.hid p1
                have P2 := Lib.hid p2
                clear p1 p2 p3 hgrow2 hgrow hown hS10 hlow hbD hD fz hcc zp FA HV HVL HG8 sq qz
                go_wp2
                go_roundw
                case rel => exact ⟨j + 1, by omega, by go_num, P1.out, P2.out⟩
                case measure => simp [intOf]; omega
              · have HP := Lib.hid (show pickB A B bs gs.length j = true by rw [HPK.out, decide_eq_true (by omega)])
                have hjg2 : (gs.length : Int) ≤ (j : Int) := by omega
                clear HPK hjg
                obtain ⟨z, hzz⟩ : ∃ z, fs[j] = z := ⟨_, rfl⟩
                have HZ := Lib.hid (show (mixP A B bs fs gs).take (j + 1) = (mixP A B bs fs gs).take j ++ [z] by rw [HN.out, if_pos HP.out]; simp [← hzz, hlt])
                rw [hzz] at qf
                have qz := qf
                have sq := e2
                clear hzz qf e2
                go_upto_region 18 with fail
                refine (wpIn_wide (n := 11)).1 ?_
                have hD := bl_dr (bl0 w8)
                refine ordZ_begin (z := 10) (S := (fun w' : World => w'.cell? ⟨w5.heap.size, 2, none⟩ = some v ∧ w'.cell? ⟨bx, 2, none⟩ = some (.slice (some ⟨gbf, gof, none⟩) fs.length fc) ∧ w'.cell? ⟨gbf, gof + j, none⟩ = some (.int .u16 z))) (by kernel_rfl) ⟨cell_later hD (FA.out).c2, cell_later hD sq, cell_later hD qz⟩ (fun hH => ?_)
                first
                  | (refine' ordZ_take (i := 0) (oi := { dst := some 111, op := Op.fieldAddr 37 (Operand.tmp 14) 1, type := 0, pos := _, after := #[], guard := none }) (v := _) rfl (by kernel_rfl) (by kernel_rfl) (by kernel_rfl) (by kernel_rfl) (fun _ _ _ h => h) (by assumption) (by kernel_rfl) (by decide) (by rfl) (Or.inl ⟨by rfl, ?hy41⟩) (fun _ => rfl) ?rest41
                     case hy41 => (intro w hSw; (try dsimp only at hSw); go_simp; try with_reducible rfl))
                  | (refine ordZ_take (i := 0) (oi := { dst := some 111, op := Op.fieldAddr 37 (Operand.tmp 14) 1, type := 0, pos := _, after := #[], guard := none }) (v := undef) rfl (by kernel_rfl) (by kernel_rfl) (by kernel_rfl) (by kernel_rfl) (fun _ _ _ h => h) (by assumption) (by kernel_rfl) (by decide) (by rfl) (Or.inr ⟨by rfl, rfl⟩) (fun _ => rfl) ?_)
                try simp only [Act.put, List.setIfInBounds_toArray, List.set_cons_zero, List.set_cons_succ]
                first
                  | (refine' ordZ_take (i := 1) (oi := { dst := some 112, op := Op.load 35 (Operand.tmp 111), type := 35, pos := _, after := #[{ on := 0, ground := Ground.data }], guard := none }) (v := _) rfl (by kernel_rfl) (by kernel_rfl) (by kernel_rfl) (by kernel_rfl) (fun _ _ _ h => h) (by assumption) (by kernel_rfl) (by decide) (by rfl) (Or.inl ⟨by rfl, ?hy42⟩) (fun _ => rfl) ?rest42
                     case hy42 => (intro w hSw; (try dsimp only at hSw); go_simp; try with_reducible rfl))
                  | (refine ordZ_take (i := 1) (oi := { dst := some 112, op := Op.load 35 (Operand.tmp 111), type := 35, pos := _, after := #[{ on := 0, ground := Ground.data }], guard := none }) (v := undef) rfl (by kernel_rfl) (by kernel_rfl) (by kernel_rfl) (by kernel_rfl) (fun _ _ _ h => h) (by assumption) (by kernel_rfl) (by decide) (by rfl) (Or.inr ⟨by rfl, rfl⟩) (fun _ => rfl) ?_)
                try simp only [Act.put, List.setIfInBounds_toArray, List.set_cons_zero, List.set_cons_succ]
                first
                  | (refine' ordZ_take (i := 2) (oi := { dst := some 113, op := Op.fieldAddr 37 (Operand.tmp 12) 1, type := 0, pos := _, after := #[], guard := none }) (v := _) rfl (by kernel_rfl) (by kernel_rfl) (by kernel_rfl) (by kernel_rfl) (fun _ _ _ h => h) (by assumption) (by kernel_rfl) (by decide) (by rfl) (Or.inl ⟨by rfl, ?hy43⟩) (fun _ => rfl) ?rest43
                     case hy43 => (intro w hSw; (try dsimp only at hSw); go_simp; try with_reducible rfl))
                  | (refine ordZ_take (i := 2) (oi := { dst := some 113, op := Op.fieldAddr 37 (Operand.tmp 12) 1, type := 0, pos := _, after := #[], guard := none }) (v := undef) rfl (by kernel_rfl) (by kernel_rfl) (by kernel_rfl) (by kernel_rfl) (fun _ _ _ h => h) (by assumption) (by kernel_rfl) (by decide) (by rfl) (Or.inr ⟨by rfl, rfl⟩) (fun _ => rfl) ?_)
                try simp only [Act.put, List.setIfInBounds_toArray, List.set_cons_zero, List.set_cons_succ]
                first
                  | (refine' ordZ_take (i := 3) (oi := { dst := some 114, op := Op.load 35 (Operand.tmp 113), type := 35, pos := _, after := #[{ on := 2, ground := Ground.data }], guard := none }) (v := _) rfl (by kernel_rfl) (by kernel_rfl) (by kernel_rfl) (by kernel_rfl) (fun _ _ _ h => h) (by assumption) (by kernel_rfl) (by decide) (by rfl) (Or.inl ⟨by rfl, ?hy44⟩) (fun _ => rfl) ?rest44
                     case hy44 => (intro w hSw; (try dsimp only at hSw); go_simp; try with_reducible rfl))
                  | (refine ordZ_take (i := 3) (oi := { dst := some 114, op := Op.load 35 (Operand.tmp 113), type := 35, pos := _, after := #[{ on := 2, ground := Ground.data }], guard := none }) (v := undef) rfl (by kernel_rfl) (by kernel_rfl) (by kernel_rfl) (by kernel_rfl) (fun _ _ _ h => h) (by assumption) (by kernel_rfl) (by decide) (by rfl) (Or.inr ⟨by rfl, rfl⟩) (fun _ => rfl) ?_)
                try simp only [Act.put, List.setIfInBounds_toArray, List.set_cons_zero, List.set_cons_succ]
                first
                  | (refine' ordZ_take (i := 4) (oi := { dst := some 115, op := Op.move (Operand.tmp 15), type := 3, pos := _, after := #[], guard := none }) (v := _) rfl (by kernel_rfl) (by kernel_rfl) (by kernel_rfl) (by kernel_rfl) (fun _ _ _ h => h) (by assumption) (by kernel_rfl) (by decide) (by rfl) (Or.inl ⟨by rfl, ?hy45⟩) (fun _ => rfl) ?rest45
                     case hy45 => (intro w hSw; (try dsimp only at hSw); go_simp; try with_reducible rfl))
                  | (refine ordZ_take (i := 4) (oi := { dst := some 115, op := Op.move (Operand.tmp 15), type := 3, pos := _, after := #[], guard := none }) (v := undef) rfl (by kernel_rfl) (by kernel_rfl) (by kernel_rfl) (by kernel_rfl) (fun _ _ _ h => h) (by assumption) (by kernel_rfl) (by decide) (by rfl) (Or.inr ⟨by rfl, rfl⟩) (fun _ => rfl) ?_)
                try simp only [Act.put, List.setIfInBounds_toArray, List.set_cons_zero, List.set_cons_succ]
                first
                  | (refine' ordZ_take (i := 5) (oi := { dst := some 116, op := Op.indexAddr 35 (Operand.tmp 114) (Operand.tmp 115), type := 0, pos := _, after := #[{ on := 3, ground := Ground.data }, { on := 4, ground := Ground.data }], guard := none }) (v := _) rfl (by kernel_rfl) (by kernel_rfl) (by kernel_rfl) (by kernel_rfl) (fun _ _ _ h => h) (by assumption) (by kernel_rfl) (by decide) (by rfl) (Or.inl ⟨by rfl, ?hy46⟩) (fun _ => rfl) ?rest46
                     case hy46 => (intro w hSw; (try dsimp only at hSw); go_simp; try with_reducible rfl))
                  | (refine ordZ_take (i := 5) (oi := { dst := some 116, op := Op.indexAddr 35 (Operand.tmp 114) (Operand.tmp 115), type := 0, pos := _, after := #[{ on := 3, ground := Ground.data }, { on := 4, ground := Ground.data }], guard := none }) (v := undef) rfl (by kernel_rfl) (by kernel_rfl) (by kernel_rfl) (by kernel_rfl) (fun _ _ _ h => h) (by assumption) (by kernel_rfl) (by decide) (by rfl) (Or.inr ⟨by rfl, rfl⟩) (fun _ => rfl) ?_)
                try simp only [Act.put, List.setIfInBounds_toArray, List.set_cons_zero, List.set_cons_succ]
                first
                  | (refine' ordZ_take (i := 6) (oi := { dst := some 117, op := Op.load 53 (Operand.tmp 116), type := 53, pos := _, after := #[{ on := 5, ground := Ground.data }], guard := none }) (v := _) rfl (by kernel_rfl) (by kernel_rfl) (by kernel_rfl) (by kernel_rfl) (fun _ _ _ h => h) (by assumption) (by kernel_rfl) (by decide) (by rfl) (Or.inl ⟨by rfl, ?hy47⟩) (fun _ => rfl) ?rest47
                     case hy47 => (intro w hSw; (try dsimp only at hSw); go_simp; try with_reducible rfl))
                  | (refine ordZ_take (i := 6) (oi := { dst := some 117, op := Op.load 53 (Operand.tmp 116), type := 53, pos := _, after := #[{ on := 5, ground := Ground.data }], guard := none }) (v := undef) rfl (by kernel_rfl) (by kernel_rfl) (by kernel_rfl) (by kernel_rfl) (fun _ _ _ h => h) (by assumption) (by kernel_rfl) (by decide) (by rfl) (Or.inr ⟨by rfl, rfl⟩) (fun _ => rfl) ?_)
                try simp only [Act.put, List.setIfInBounds_toArray, List.set_cons_zero, List.set_cons_succ]
                refine ordZ_one (i := 7) (o := { dst := some 118, op := Op.buildSlice 35 1 #[(0, Operand.tmp 117)], type := 35, pos := _, after := #[{ on := 6, ground := Ground.data }], guard := none }) (by kernel_rfl) rfl (by rfl) (fun K hK => ?_)
                go_simp
                refine hK _ _ (fun _ => ⟨cell_later (bl_al hD _) (FA.out).c2, cell_later (bl_al hD _) sq, cell_later (bl_al hD _) qz⟩) ?_
                clear hK K hH
                try simp only [Act.put, List.setIfInBounds_toArray, List.set_cons_zero, List.set_cons_succ]
                obtain ⟨i0, hi, hz0, hz1, hz2⟩ := info_parts Try.infoH
                refine ordZ_append (i := 8) (o := { dst := some 119, op := Op.call { callee := Callee.builtin Builtin.append, args := #[Operand.tmp 112, Operand.tmp 118], argTypes := #[35, 35] }, type := 35, pos := _, after := #[{ on := 1, ground := Ground.data }, { on := 7, ground := Ground.data }], guard := none }) _ (by kernel_rfl) rfl (by rfl) _ _ 35 rfl w6.heap.size 53 i0 (.int .u16 0) 1 2 Try.underlying35 hi hz0 hz1 hz2 rfl (by decide) _ _ _ rfl (own_later HV.out (bl_al hD _)) ⟨w8.drew.heap.size, 0, none⟩ 1 1 [.int .u16 z] rfl rfl ?c1 ?c2 ?c3 ?c4 ?c5 ?_
                case c1 =>
                  intro jj u hj
                  cases jj with
                  | succ jj => simp at hj
                  | zero =>
                    simp only [List.getElem?_cons_zero, Option.some.injEq] at hj
                    subst hj
                    simp [go_sem, addr_add]
                case c2 => intro u hu; simp at hu; subst hu; rfl
                case c3 => unfold maxLen; omega
                case c4 => omega
                case c5 => (have := HG8.out.size; simp; omega)
                intro v2 w10 hown hgrow
                obtain ⟨g9, cp9, rfl⟩ := ownsRow_succ hown
                have hgrow2 : ((w8.alloc (.cells #[.int .u16 z] 53)).drew).grownBy w10 v.ownBlock := hgrow
                have hlow : ∀ j, v.ownBlock = some j → w6.heap.size ≤ j := fun j e => (HV.out.lt j e).1
                have hbD : Below w8.heap.size w8 ((w8.alloc (.cells #[.int .u16 z] 53)).drew) := bl_dr (bl_al (bl0 w8) _)
                obtain ⟨p1, p2, p3⟩ := FieldG.next HG8.out (by omega) FA.out HVL.out hbD (by rw [HLK.out]; exact hown) hgrow2
                have hS10 : (fun w' : World => w'.cell? ⟨w5.heap.size, 2, none⟩ = some v ∧ w'.cell? ⟨bx, 2, none⟩ = some (.slice (some ⟨gbf, gof, none⟩) fs.length fc) ∧ w'.cell? ⟨gbf, gof + j, none⟩ = some (.int .u16 z)) w10 :=
                  ⟨p3.c2, hgrow2.cell (cell_later hbD sq) (fun e => by have := hlow _ e.symm; dsimp only at this; omega), hgrow2.cell (cell_later hbD qz) (fun e => by have := hlow _ e.symm; dsimp only at this; omega)⟩
                refine ⟨fun _ => hS10, ?_⟩
                try simp only [Act.put, List.setIfInBounds_toArray, List.set_cons_zero, List.set_cons_succ]
                first
                  | (refine' ordZ_take (i := 9) (oi := { dst := some 120, op := Op.fieldAddr 37 (Operand.tmp 14) 1, type := 0, pos := _, after := #[{ on := 0, ground := Ground.phase }, { on := 1, ground := Ground.phase }, { on := 2, ground := Ground.phase }, { on := 3, ground := Ground.phase }, { on := 4, ground := Ground.phase }, { on := 5, ground := Ground.phase }, { on := 6, ground := Ground.phase }, { on := 7, ground := Ground.phase }, { on := 8, ground := Ground.phase }], guard := none }) (v := _) rfl (by kernel_rfl) (by kernel_rfl) (by kernel_rfl) (by kernel_rfl) (fun _ _ _ h => h) (by assumption) (by kernel_rfl) (by decide) (by rfl) (Or.inl ⟨by rfl, ?hy48⟩) (fun _ => rfl) ?rest48
                     case hy48 => (intro w hSw; (try dsimp only at hSw); go_simp; try with_reducible rfl))
                  | (refine ordZ_take (i := 9) (oi := { dst := some 120, op := Op.fieldAddr 37 (Operand.tmp 14) 1, type := 0, pos := _, after := #[{ on := 0, ground := Ground.phase }, { on := 1, ground := Ground.phase }, { on := 2, ground := Ground.phase }, { on := 3, ground := Ground.phase }, { on := 4, ground := Ground.phase }, { on := 5, ground := Ground.phase }, { on := 6, ground := Ground.phase }, { on := 7, ground := Ground.phase }, { on := 8, ground := Ground.phase }], guard := none }) (v := undef) rfl (by kernel_rfl) (by kernel_rfl) (by kernel_rfl) (by kernel_rfl) (fun _ _ _ h => h) (by assumption) (by kernel_rfl) (by decide) (by rfl) (Or.inr ⟨by rfl, rfl⟩) (fun _ => rfl) ?_)
                try simp only [Act.put, List.setIfInBounds_toArray, List.set_cons_zero, List.set_cons_succ]
                have fz := p3.f2
                have zp := p3.lt
                have hcc := p3.c2
                refine ordZ_one (i := 10) (o := { dst := none, op := Op.store 35 (Operand.tmp 120) (Operand.tmp 119), type := 0, pos := _, after := #[{ on := 9, ground := Ground.data }, { on := 8, ground := Ground.data }, { on := 8, ground := Ground.chain }, { on := 0, ground := Ground.phase }, { on := 1, ground := Ground.phase }, { on := 2, ground := Ground.phase }, { on := 3, ground := Ground.phase }, { on := 4, ground := Ground.phase }, { on := 5, ground := Ground.phase }, { on := 6, ground := Ground.phase }, { on := 7, ground := Ground.phase }, { on := 8, ground := Ground.phase }], guard := none }) (by kernel_rfl) rfl (by rfl) (fun K hK => ?_)
                go_simp
                refine hK _ _ (fun h => by cases h) ?_
                clear hK K
                try simp only [Act.put, List.setIfInBounds_toArray, List.set_cons_zero, List.set_cons_succ]
                refine ordZ_done (by kernel_rfl) ?_
                rw [← HZ.out] at p1
                have P1 := Lib.hid p1
                have P2 := Lib.hid p2
                clear p1 p2 p3 hgrow2 hgrow hown hS10 hlow hbD hD fz hcc zp FA HV HVL HG8 sq qz
                go_wp2
                go_roundw
                case rel => exact ⟨j + 1, by omega, by go_num, P1.out, P2.out⟩
                case measure => simp [intOf]; omega
          · obtain rfl : j = fs.length := by omega
            have hall : (mixP A B bs fs gs).take fs.length = mixP A B bs fs gs := by
              have h := List.take_length (l := mixP A B bs fs gs)
              rw [mixP_len] at h
              exact h
            rw [hall] at hv
            obtain ⟨ys, hys⟩ : ∃ ys, mixP A B bs fs gs = ys := ⟨_, rfl⟩
            rw [hys] at hv HMIX HEM
            have hva0 : ∀ j, v.ownBlock = some j → w6.heap.size ≤ j := fun j e => (hv.lt j e).1
            obtain ⟨va, vc, rfl, hrv⟩ := rowH_of_own hv
            have hva : ∀ g o, va = some ⟨g, o, none⟩ → w6.heap.size ≤ g := by rintro g o rfl; exact hva0 g rfl
            have HVA := Lib.hid hva
            have y0 := hFA.c0
            have y1 := hFA.c1
            have y2 := hFA.c2
            have Fa := FA5.out.below hbq
            have Fb := FB5.out.below hbq
            have hmp := HMP.out.below hbq
            have hA6 := bl_tr hA5 hbq
            have zy := blk_lt y0
            have zwr := hA6.size
            have G2p := Lib.hid g2
            clear hv hva hva0 hall hys hFA hG hG5 hbq g2
            go_wp2_with fail
            refine (merge_any _ ga ha N X Y v0 ms A B fa fc fs bs p _ wr (QH.out.below hA6) (fun g o hne e => by have := HAH.out g o hne e; omega) Fa HLEN.out hmp (by omega) (by omega) hv1).mono ?_
            rintro e w7 ⟨a7, c7, rfl, hr7, hl7, Fa7, hk7⟩
            rw [HS1.out, HS2.out] at Fa7
            have z7 := hk7.1.size
            have lw6 : w.heap.size ≤ ga ∧ w.heap.size ≤ ha ∧ w.heap.size ≤ gb ∧ w.heap.size ≤ hb' := ⟨by omega, by omega, by omega, by omega⟩
            have hA7 := KeptT.below hA6 (Nat.le_refl _) hk7 (by omega) (by omega)
            replace y0 := hk7.cell y0 (by omega) (by omega)
            replace y1 := hk7.cell y1 (by omega) (by omega)
            replace y2 := hk7.cell y2 (by omega) (by omega)
            replace Fb := Fb.keptT hk7 (by omega) (by omega) (by omega) (by omega)
            replace hmp := hmp.keptT hk7 (by omega) (by omega)
            have hrv7 := hrv.keptT hk7 (fun g o e => by have := HVA.out g o e; omega)
            have G2w := Lib.hid (hk7.cell G2p.out (by omega) (by omega))
            clear hk7 hA6 Fa hrv e0 e1 e2
            go_wp2_with fail
            refine (merge_any _ gb hb' N X Y v0 ms A B va vc ys bs p _ w7 hrv7 (fun g o _ e => by have := HVA.out g o e; omega) Fb HLEN.out hmp (by omega) (by omega) hv1).mono ?_
            rintro e w8 ⟨a8, c8, rfl, hr8, hl8, Fb8, hk8⟩
            rw [HMIX.out] at hr8 Fb8 ⊢
            rw [HS1.out, HS2.out] at Fb8
            rw [HEM.out]
            obtain ⟨ns, hns⟩ : ∃ ns, (lookS X Y A B fs bs ms).2 = ns := ⟨_, rfl⟩
            obtain ⟨E, hE⟩ : ∃ E, lookE X Y A B fs.length = E := ⟨_, rfl⟩
            rw [hns] at hr7 hr8 HNL ⊢
            rw [hE]
            replace hr7 := hr7.keptT hk8 (fun g o e => by have := hl7 g o e; omega)
            replace Fa7 := Fa7.keptT hk8 (by omega) (by omega) (by omega) (by omega)
            have hA8 := KeptT.below hA7 (Nat.le_refl _) hk8 (by omega) (by omega)
            have G2x := Lib.hid (hk8.cell G2w.out (by omega) (by omega))
            have bE : (E != E) = false := by simp
            have bv : (v1 != v1) = false := by simp
            have hml : ms2.length ≤ 1048576 := by have := area_bd H3.out; have := HLEN'.out; omega
            clear hk8 hA7 Fb hmp hrv7 y0 y1 y2 hl7 hl8 hns hE
            go_wp2_with fail
            refine (fcells_eq a7 a8 c7 c8 ns _ hr7 hr8 HNL.out).mono ?_
            rintro e w9 ⟨rfl, hb⟩
            replace Fa7 := Fa7.below hb
            replace Fb8 := Fb8.below hb
            have hA9 := bl_tr hA8 hb
            have G2y := Lib.hid (cell_later hb G2x.out)
            clear hb hA8 hr7 hr8
            go_wp2_with fail
            refine (version_any _ _ _ _ _ _ _ _ _ Fa7).mono ?_
            rintro e w10 ⟨rfl, rfl⟩
            go_wp2_with fail
            refine (version_any _ _ _ _ _ _ _ _ _ Fb8).mono ?_
            rintro e w11 ⟨rfl, rfl⟩
            go_wp2_with fail
            refine (fsame_eq _ _ _ _ _ _ _ _ _ _ _ _ _ _ Fa7 Fb8 hml).mono ?_
            rintro e w12 ⟨rfl, hb⟩
            replace Fa7 := Fa7.below hb
            replace Fb8 := Fb8.below hb
            have hA12 := bl_tr hA9 hb
            have G2z := Lib.hid (cell_later hb G2y.out)
            clear hb hA9
            go_wp2_with fail
            refine (view_any _ _ _ _ _ _ _ _ _ Fa7 hml).mono ?_
            rintro e w13 ⟨h13, rfl, hq13, _, hb⟩
            replace Fa7 := Fa7.below hb
            replace Fb8 := Fb8.below hb
            have hA13 := bl_tr hA12 hb
            have G2a := Lib.hid (cell_later hb G2z.out)
            have hr13 := rowH_heap hq13
            clear hb hA12 hq13
            go_wp2_with fail
            refine (view_any _ _ _ _ _ _ _ _ _ Fb8 hml).mono ?_
            rintro e w14 ⟨h14, rfl, hq14, _, hb⟩
            replace Fa7 := Fa7.below hb
            replace Fb8 := Fb8.below hb
            have hA14 := bl_tr hA13 hb
            have G2b := Lib.hid (cell_later hb G2a.out)
            have hr14 := rowH_heap hq14
            replace hr13 := hr13.below hb
            clear hb hA13 hq14
            have hcall := gsame_eq X Y (some ⟨h13, 0, none⟩) (some ⟨h14, 0, none⟩) ms2.length ms2.length (viewL ms2) w14 hr13 hr14 (by rw [viewL_len]; omega)
            rw [viewL_len] at hcall
            have HCL := Lib.hid hcall
            clear hcall hr13 hr14
            go_wp2_with fail
            refine HCL.out.mono ?_
            rintro e w15 ⟨rfl, hb⟩
            have HI2 := Lib.hid (show HangI w ga ha gb hb' N X Y a2 gs.length c2 ls (k + 1) w15 from ⟨by rw [HSP.out, HM2.out, HV1.out]; exact Fa7.below hb, by rw [HSP.out, HM2.out, HV1.out]; exact Fb8.below hb, bl_tr hA14 hb, cell_later hb G2b.out⟩)
            clear hb hA14 Fa7 Fb8 HCL
            go_wp2
            go_roundw
            case rel => exact ⟨k + 1, by omega, by go_num, HI2.out⟩
            case measure => simp [intOf]; omega
      · have hge : (ls.length : Int) ≤ (k : Int) := by omega
        have hA := hAr
        clear Fa Fb g2 hAr
        go_wp2_with fail
        refine (fawake _).mono ?_
        rintro e w9 ⟨rfl, hb9⟩
        have hA9 := bl_tr hA hb9
        clear hA hb9
        go_wp2
        go_ret
        exact ⟨rfl, hA9⟩
end Go.Proofs.Ytmcgkoleaomjlaa
