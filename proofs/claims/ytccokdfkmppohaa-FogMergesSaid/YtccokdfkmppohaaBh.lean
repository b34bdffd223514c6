/- FogMerges: the reference's Merge of any look: one contract. -/
import Derived.Test.YtccokdfkmppohaaBg
namespace Go.Proofs.Ytccokdfkmppohaa
open Go.RowKit Go.Shelf

theorem bitQ_zero (m i : Nat) : bitAt (List.replicate m 0) i = false := by
  unfold bitAt
  have e : (List.replicate m 0).getD (i / 8) 0 = 0 := by
    rw [List.getD_eq_getElem?_getD, List.getElem?_replicate]
    split <;> rfl
  rw [e]
  simp
/-- The law's list as a row of truths: the bits of the law's set. -/
theorem inQ_set {A B : Int} {n : Nat} (hm : mayB A B = true) (hn : (n : Int) = A * B) (zs : List (Int × Int)) (i : Nat) (hi : i < n) : (inQ A B n zs).getD i false = bitAt (setL A B zs) i := by
  unfold inQ setL
  refine inQ_bit hn zs _ _ (good_zero0 hm) (by simp) (fun j hj => ?_) i hi
  rw [bitQ_zero]
  simp [List.getD_eq_getElem?_getD, hj]

/-- What the reference's Merge tells and leaves. -/
def RMergeR (w : World) (C g h n cap : Nat) (X Y k A B : Int) (fs : List Int) (bs : List Nat) (ms : List (Option Int)) (e : Ending) (w' : World) : Prop := ∃ (a' : Option Addr) (cap' : Nat), e = .returned (.tuple #[.slice a' (lookS X Y A B fs bs ms).2.length cap', .int .i64 (lookE X Y A B fs.length)]) ∧
  RowC w' a' (lookS X Y A B fs bs ms).2 ∧ (∀ gb o, a' = some ⟨gb, o, none⟩ → w.heap.size ≤ gb) ∧ RFogAt w' C g X Y (.slice (some ⟨h, 0, none⟩) n cap) (costR (lookS X Y A B fs bs ms).1) (k + if (lookS X Y A B fs bs ms).2 = [] then 0 else 1) ∧ KeptT g h w w'
theorem rmerge_off {w w' : World} {C g h n cap : Nat} {X Y k A B : Int} {fs : List Int} {bs : List Nat} {ms : List (Option Int)} {e : Ending} {q : Int} (hf : RFogAt w C g X Y (.slice (some ⟨h, 0, none⟩) n cap) (costR ms) k) (he : e = .returned (.tuple #[.slice none 0 0, .int .i64 q])) (hb : Below w.heap.size w w')
    (hq : lookE X Y A B fs.length = q) (hq0 : q ≠ 0) : RMergeR w C g h n cap X Y k A B fs bs ms e w' := by
  have e1 : lookS X Y A B fs bs ms = (ms, []) := by unfold lookS; rw [if_neg (by rw [hq]; exact hq0)]
  unfold RMergeR
  rw [e1, hq]
  refine ⟨none, 0, he, .inl rfl, (fun gb o h => by cases h), ?_, keptT_of_below hb⟩
  rw [if_pos rfl, Int.add_zero]
  exact hf.below hb
theorem rmerge_any (C g h n cap : Nat) (X Y k : Int) (ms : List (Option Int)) (A B : Int) (a : Option Addr) (c q m : Nat) (fs : List Int) (zs : List (Int × Int)) (w : World) (hmay : mayB A B = true) (hm : (m : Int) = A * B) (hn : (n : Int) = X * Y) (hml : ms.length = n)
    (hrf : RowH w a fs) (hu : AllH fs) (hah : ∀ gb o, fs ≠ [] → a = some ⟨gb, o, none⟩ → gb ≠ h) (hf : RFogAt w C g X Y (.slice (some ⟨h, 0, none⟩) n cap) (costR ms) k) (hq : RowQ w q (inQ A B m zs)) (hk : k ≤ 1048576) (hk0 : 0 ≤ k) :
    Calls Try.prog 10 #[.pointer (some ⟨g, 0, none⟩), .agg #[.int .i64 A, .int .i64 B, .slice a fs.length c], .agg #[.int .i64 A, .int .i64 B], .slice (some ⟨q, 0, none⟩) m m] w (RMergeR w C g h n cap X Y k A B fs (setL A B zs) ms) := by
  by_cases hc : chkF A B fs.length = 0
  · by_cases hs : A = X ∧ B = Y
    · obtain ⟨rfl, rfl⟩ := hs
      obtain ⟨_, hlen⟩ := chkF_len hc
      have hpos := area_bd hmay
      obtain rfl : m = n := by omega
      have hfl : fs.length = m := by omega
      have hne : fs ≠ [] := by rintro rfl; simp at hfl; omega
      have e0 : lookE A B A B fs.length = 0 := by unfold lookE; rw [if_neg (by rw [hmay]; decide), if_pos hc, if_pos ⟨rfl, rfl⟩]
      have e1 : lookS A B A B fs (setL A B zs) ms = mergeS A fs ms (cellsM A B (setL A B zs)) := by unfold lookS; rw [if_pos e0]
      have e2 := merge_is (qs := inQ A B m zs) (setL_good hmay zs) hm hu hfl hml (inQ_set hmay hm zs)
      have h := rmerge_yes C g h cap A B k (costR ms) a q c m m fs (inQ A B m zs) w (by rw [← hfl]; exact hc) hmay hm hfl ((costR_len ms).trans hml) (inQ_len A B m zs) hf hrf hu (fun gb o e => hah gb o hne e) hq hk hk0
      rw [hfl]
      refine h.mono fun e w' hr => ?_
      unfold RMR at hr
      rw [e2] at hr
      unfold RMergeR
      rw [e0, e1]
      obtain ⟨a', cap', h1, h2, h3, h4, h5⟩ := hr
      refine ⟨a', cap', h1, h2, h3, ?_, h5⟩
      by_cases hz : (mergeS A fs ms (cellsM A B (setL A B zs))).2 = []
      · rw [if_pos hz] at h4 ⊢
        rw [Int.add_zero]
        exact h4
      · rw [if_neg hz] at h4 ⊢
        exact h4
    · exact (rmerge_arg C g X Y A B _ _ k a _ fs.length c m m w hc hs hf).mono fun e w' ⟨he, hbl⟩ => rmerge_off hf he hbl (by unfold lookE; rw [if_neg (by rw [hmay]; decide), if_pos hc, if_neg hs]) (by decide)
  · exact (rmerge_chk g A B A B a _ fs.length c m m w hc).mono fun e w' ⟨he, hbl⟩ => rmerge_off hf he hbl (by unfold lookE; rw [if_neg (by rw [hmay]; decide), if_neg hc]) hc
end Go.Proofs.Ytccokdfkmppohaa
