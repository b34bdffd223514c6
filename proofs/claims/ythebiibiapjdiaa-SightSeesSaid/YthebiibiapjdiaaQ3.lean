/- Texts joined: Wl, Shelf, Ka, Km, Kb, Kc, Kd, Ke, Kf, Kn, Jm, Ja, Jt, Jb, Jc, Jn, Gd, Ia. -/
import Derived.Test.YthebiibiapjdiaaQ2
import Derived.Shelf.Small.Bits
import Derived.Shelf.Bytes.SlSearch0
import Derived.Shelf.Bytes.SlEqualAll
import Derived.Shelf.Bytes.Small
import Derived.Test.YthebiibiapjdiaaProg
import Derived.Test.YthebiibiapjdiaaQ1
import Derived.WalkKit
import Derived.WalkSmall
import Derived.Deep.RegionHeld3
import Derived.Deep.CutRange
import Derived.Laws.AppendOwn
import Derived.Laws.Rows
import Derived.Lib.Hide
import Derived.OwnWalk
import Derived.Deep.OwnRows
import Derived.Laws.CopyOwn
import Derived.LoopTactic
import Derived.RangeFuncNested
import Derived.RangeFuncBound
import Derived.RangeFuncBox
import Derived.RangeFuncCalls
import Derived.RangeFuncLeaves
import Derived.Shelf.Abstract
import Derived.Shelf.RegionOpen
import Derived.OwnWalkIn
import Derived.TacticsInMore
import Derived.LoopNIn
import Derived.LoopIn
/- What is seen along a line: the document's answer. -/
namespace Go.Proofs.Ythebiibiapjdiaa
open Go.RowKit

theorem tail_one {l : List (Int × Int)} (h : l.length ≤ 1) : l.tail = [] := by
  match l, h with
  | [], _ => rfl
  | [_], _ => rfl
set_option maxRecDepth 100000 in
set_option maxHeartbeats 4000000 in
theorem rwalk_any (A B : Int) (a : Option Addr) (cap : Nat) (zs : List Int) (X Y Z V : Int) (n : Nat) (w : World) (hr : RowH w a zs) (hin : AllH zs) (h1 : inB A B X Y = true) (h2 : inB A B Z V = true) (hzn : (zs.length : Int) = A * B) (hf : max (apartI X Z) (apartI Y V) = n) :
    Calls Try.prog 72 #[.agg #[.int .i64 A, .int .i64 B, .slice a zs.length cap], .agg #[.int .i64 X, .int .i64 Y], .agg #[.int .i64 Z, .int .i64 V]] w fun e w' => ∃ b cap2, e = .returned (.slice b (seenF A zs X Y Z V n).length cap2) ∧ RowC w' b (seenF A zs X Y Z V n) ∧ Below w.heap.size w w' := by
  obtain ⟨n', hn', hdx, hdy⟩ := far_nat X Y Z V
  have en : n = n' := by omega
  subst en
  clear hn'
  have hn : n ≤ 255 := by have := far_in h1 h2; omega
  have hA := bl0 w
  have hl1 : ∀ k, k ≤ n → inB A B (lineK X Y Z V n k).1 (lineK X Y Z V n k).2 = true := fun k hk => line_in h1 h2 hdx hdy hk
  have HX := Lib.hid (in_plain h1)
  have HZ := Lib.hid (in_plain h2)
  have HF := Lib.hid hf
  have HL1 := Lib.hid hl1
  have HN := Lib.hid hzn
  clear h1 h2 hf hl1 hzn
  go_enter Try.func72, Try.ntmps72
  go_wp2_with fail
  refine (rline_cap X Y Z V n _ HX.out HZ.out HF.out (by omega)).mono ?_
  rintro e w1 ⟨b, cap2, rfl, hcap, hrc, hb⟩
  have hk : Below w.heap.size w w1 := by first | exact hb | exact bl_tr (bl_al (bl0 _) _) hb | exact bl_tr (bl_dr (bl_al (bl0 _) _)) hb | exact bl_tr (bl_al (bl_al (bl0 _) _) _) hb | exact bl_tr (bl_dr (bl_al (bl_al (bl0 _) _) _)) hb | exact bl_tr (bl_al (bl_al (bl_al (bl0 _) _) _) _) hb | exact bl_tr (bl_dr (bl_al (bl_al (bl_al (bl0 _) _) _) _)) hb | exact bl_tr (bl_al (bl_al (bl_al (bl_al (bl0 _) _) _) _) _) hb | exact bl_tr (bl_dr (bl_al (bl_al (bl_al (bl_al (bl0 _) _) _) _) _)) hb | exact bl_tr (bl_al (bl_al (bl_al (bl_al (bl_al (bl0 _) _) _) _) _) _) hb | exact bl_tr (bl_dr (bl_al (bl_al (bl_al (bl_al (bl_al (bl0 _) _) _) _) _) _)) hb | exact bl_tr (bl_al (bl_al (bl_al (bl_al (bl_al (bl_al (bl0 _) _) _) _) _) _) _) hb | exact bl_tr (bl_dr (bl_al (bl_al (bl_al (bl_al (bl_al (bl_al (bl0 _) _) _) _) _) _) _)) hb | exact bl_tr (bl_dr (bl0 _)) hb
  replace hA := bl_tr hA hk
  have f0 := cell_later hb (v := .int .i64 A) (a := ⟨w.heap.size, 0, none⟩) (by simp [go_sem])
  have f1 := cell_later hb (v := .int .i64 B) (a := ⟨w.heap.size, 1, none⟩) (by simp [go_sem])
  have f2 := cell_later hb (v := .slice a zs.length cap) (a := ⟨w.heap.size, 2, none⟩) (by simp [go_sem])
  clear hb hk
  have zf0 := blk_lt f0
  have zf1 := blk_lt f1
  have zf2 := blk_lt f2
  have hrH := hr.below hA
  have hlen : (lineF X Y Z V n).length = n + 1 := lineF_len
  have hlb : (lineF X Y Z V n).length ≤ 256 := by omega
  have HLn := Lib.hid hlen
  clear hlen
  go_wp2
  go_loopw [8] (fun i wr => ∃ k : Nat, 1 ≤ k ∧ k ≤ (lineF X Y Z V n).length ∧ i = .int .i64 k ∧ (∀ c ∈ ((lineF X Y Z V n).take k).tail, wallB A zs c = false) ∧ Below w1.heap.size w1 wr) (fun i _ => (lineF X Y Z V n).length - (intOf i).toNat)
  case atStart =>
    refine ⟨1, Nat.le_refl _, by have := HLn.out; omega, rfl, ?_, bl0 w1⟩
    rw [tail_one (by rw [List.length_take]; omega)]
    simp
  case round =>
    obtain ⟨k, hk1, hk, rfl, ht, hB⟩ := hrel
    have HT := Lib.hid ht
    clear ht
    by_cases hlt : k < (lineF X Y Z V n).length
    · have hlt2 : (k : Int) < ((lineF X Y Z V n).length : Int) := by omega
      have hk0 : (0 : Int) ≤ (k : Int) := by omega
      obtain ⟨gb, go, rfl, q0, q1⟩ := hrc.cell hlt
      have hat : (lineF X Y Z V n)[k] = lineK X Y Z V n k := by
        have h := lineF_at (X := X) (Y := Y) (Z := Z) (V := V) (n := n) (k := k) (by have := HLn.out; omega)
        rw [List.getElem?_eq_getElem hlt] at h
        exact Option.some.inj h
      rw [hat] at q0 q1
      have HI := Lib.hid (HL1.out k (by have := HLn.out; omega))
      have HSn := Lib.hid (show (lineF X Y Z V n).take (k + 1) = (lineF X Y Z V n).take k ++ [lineK X Y Z V n k] from lineF_snoc (by have := HLn.out; omega))
      have HTE := Lib.hid (show wallB A zs (lineK X Y Z V n k) = true → seenF A zs X Y Z V n = (lineF X Y Z V n).take (k + 1) by
        intro hw
        rw [HSn.out]
        refine walk_stop ?_ ?_ HT.out hw
        · rw [← HSn.out]; exact List.take_prefix _ _
        · intro e
          have := congrArg List.length e
          rw [List.length_take, List.length_nil] at this
          omega)
      have HTN := Lib.hid (show wallB A zs (lineK X Y Z V n k) = false → ∀ c ∈ ((lineF X Y Z V n).take (k + 1)).tail, wallB A zs c = false by
        intro hw c hc
        have hne : (lineF X Y Z V n).take k ≠ [] := by
          intro e
          have := congrArg List.length e
          rw [List.length_take, List.length_nil] at this
          omega
        rw [HSn.out, List.tail_append_of_ne_nil hne, List.mem_append] at hc
        rcases hc with hc | hc
        · exact HT.out c hc
        · simp at hc; rw [hc]; exact hw)
      replace q0 := cell_later hB q0
      replace q1 := cell_later hB q1
      have g0 := cell_later hB f0
      have g1 := cell_later hB f1
      have g2 := cell_later hB f2
      have hrW := hrH.below hB
      have hcapK : k + 1 ≤ cap2 := by omega
      have hcapI : (k : Int) + 1 ≤ (cap2 : Int) := by omega
      clear hat HT HSn
      obtain ⟨x, hx⟩ : ∃ x, (lineK X Y Z V n k).1 = x := ⟨_, rfl⟩
      obtain ⟨y, hy⟩ : ∃ y, (lineK X Y Z V n k).2 = y := ⟨_, rfl⟩
      have HP := Lib.hid (show lineK X Y Z V n k = (x, y) by rw [← hx, ← hy])
      rw [hx] at q0
      rw [hy] at q1
      have hixy : inB A B x y = true := by rw [← hx, ← hy]; exact HI.out
      have HIX := Lib.hid hixy
      clear hx hy HI hixy
      go_wp2_with fail
      have hb2 := bl_dr (bl0 wr)
      go_region_held3 (fun W => W.cell? ⟨w.heap.size, 0, none⟩ = some (.int .i64 A) ∧ W.cell? ⟨w.heap.size, 1, none⟩ = some (.int .i64 B) ∧ W.cell? ⟨w.heap.size, 2, none⟩ = some (.slice a zs.length cap) ∧ W.cell? ⟨gb, go + k * 2, none⟩ = some (.int .i64 x) ∧ W.cell? ⟨gb, go + k * 2 + 1, none⟩ = some (.int .i64 y))
        (exact ⟨cell_later hb2 g0, cell_later hb2 g1, cell_later hb2 g2, cell_later hb2 q0, cell_later hb2 q1⟩)
        (first
          | (go_at_call 95; refine (rcost_any A B a cap zs x y _ (hrW.below hb2) hin HIX.out HN.out).mono ?_; rintro e W2 ⟨⟨z, rfl, hz⟩, hb⟩; replace hb2 := bl_tr hb2 hb; clear hb))
      all_goals
        have hB2 := bl_tr hB hb2
        have hBF := hA.trans (hB2.mono hA.size)
        clear hb2 g0 g1 g2 q0 q1 hB hrW
        cases hw : wallB A zs (x, y)
        · rw [hw] at hz
          have HTN2 := Lib.hid (HTN.out (by rw [HP.out]; exact hw))
          clear hw HTN HTE HP
          go_wp2
          go_roundw
          case rel => exact ⟨k + 1, by omega, by omega, by go_num, HTN2.out, hB2⟩
          case measure => simp [intOf]; omega
        · rw [hw] at hz
          have HTE2 := Lib.hid (HTE.out (by rw [HP.out]; exact hw))
          clear hw HTN HTE HP
          have HRC := Lib.hid (rowC_take (hrc.below hB2) (k + 1))
          go_wp2
          go_ret
          rw [HTE2.out]
          refine ⟨_, cap2, ?_, HRC.out, hBF⟩
          rw [List.length_take, Nat.min_eq_left (by omega)]
          rfl
    · have hge : ((lineF X Y Z V n).length : Int) ≤ (k : Int) := by omega
      have HS := Lib.hid (show seenF A zs X Y Z V n = lineF X Y Z V n by
        have h := HT.out
        rw [List.take_of_length_le (by omega)] at h
        exact walk_free h)
      have HRC := Lib.hid (hrc.below hB)
      have hBF := hA.trans (hB.mono hA.size)
      clear hrc hB
      go_wp2
      go_ret
      rw [HS.out]
      exact ⟨_, cap2, rfl, HRC.out, hBF⟩
end Go.Proofs.Ythebiibiapjdiaa

/- The contracts of the library that this program calls, as the kit lays them: by name. -/
namespace Go.Proofs
open Go.Shelf
def Try.lays135_ren : Go.Shelf.Ren := ⟨fun | 135 => 83 | n => n, fun | 5 => 5 | 3 => 3 | 9 => 9 | n => n, fun | n => n⟩
theorem Try.lays135 : Go.Proofs.Lays.n135 Try.prog Try.lays135_ren := {
  mixed := by kernel_rfl
  f135 := Try.func83.trans (congrArg some (by kernel_rfl))
  t3 := Try.underlying3
  a3 := Try.isAgg3
  z3 := Try.sizeOf3
  v3 := Try.zeroValue3
  t5 := Try.underlying5
  a5 := Try.isAgg5
  z5 := Try.sizeOf5
  v5 := Try.zeroValue5
  t9 := Try.underlying9
  a9 := Try.isAgg9
  z9 := Try.sizeOf9
  v9 := Try.zeroValue9 }
theorem Try.bits_OnesCount8 (x : Int) (w : World) (h0 : 0 ≤ x) (h1 : x ≤ 255) :
    Calls Try.prog 83 #[.int .u8 x] w fun e w' => e = .returned (.int .i64 (Lib.onesCount x.toNat)) ∧ w' = w := Any.bits_OnesCount8 Try.lays135 x w h0 h1
def Try.lays136_ren : Go.Shelf.Ren := ⟨fun | 136 => 104 | n => n, fun | 5 => 5 | 3 => 3 | 9 => 9 | n => n, fun | n => n⟩
theorem Try.lays136 : Go.Proofs.Lays.n136 Try.prog Try.lays136_ren := {
  mixed := by kernel_rfl
  f136 := Try.func104.trans (congrArg some (by kernel_rfl))
  t3 := Try.underlying3
  a3 := Try.isAgg3
  z3 := Try.sizeOf3
  v3 := Try.zeroValue3
  t5 := Try.underlying5
  a5 := Try.isAgg5
  z5 := Try.sizeOf5
  v5 := Try.zeroValue5
  t9 := Try.underlying9
  a9 := Try.isAgg9
  z9 := Try.sizeOf9
  v9 := Try.zeroValue9 }
theorem Try.bits_TrailingZeros8 (x : Int) (w : World) (h0 : 0 ≤ x) (h1 : x ≤ 255) :
    Calls Try.prog 104 #[.int .u8 x] w fun e w' => e = .returned (.int .i64 (Lib.trailingZeros8 x.toNat)) ∧ w' = w := Any.bits_TrailingZeros8 Try.lays136 x w h0 h1
def Try.lays115_ren : Go.Shelf.Ren := ⟨fun | 115 => 74 | n => n, fun | 37 => 118 | 4 => 4 | 9 => 9 | 5 => 5 | n => n, fun | n => n⟩
theorem Try.lays115 : Go.Proofs.Lays.n115 Try.prog Try.lays115_ren := {
  mixed := by kernel_rfl
  f115 := Try.func74.trans (congrArg some (by kernel_rfl))
  t4 := Try.underlying4
  a4 := Try.isAgg4
  z4 := Try.sizeOf4
  v4 := Try.zeroValue4
  t9 := Try.underlying9
  a9 := Try.isAgg9
  z9 := Try.sizeOf9
  v9 := Try.zeroValue9
  t37 := Try.underlying118
  a37 := Try.isAgg118
  z37 := Try.sizeOf118
  v37 := Try.zeroValue118 }
open Go.Proofs Go.RowKit Go.Lib in
theorem Try.bytes_Equal_strs (v1 v2 : Value) (t1 t2 : ByteArray) (w : World) (h1 : (convert 118 9 v1).run Try.prog w = .ok (.string t1) w) (h2 : (convert 118 9 v2).run Try.prog w = .ok (.string t2) w) :
    Calls Try.prog 74 #[v1, v2] w fun e w' => e = .returned (.bool (t1.toList == t2.toList)) ∧ w' = w := Any.bytes_Equal_strs Try.lays115 v1 v2 t1 t2 w h1 h2
def Try.laysnb115_ren : Go.Shelf.Ren := ⟨fun | 115 => 74 | n => n, fun | 37 => 118 | 4 => 4 | 9 => 9 | 5 => 5 | n => n, fun | n => n⟩
theorem Try.laysnb115 : Go.Proofs.Lays.nb115 Try.prog Try.laysnb115_ren := {
  mixed := by kernel_rfl
  f115 := Try.func74.trans (congrArg some (by kernel_rfl))
  t4 := Try.underlying4
  a4 := Try.isAgg4
  z4 := Try.sizeOf4
  v4 := Try.zeroValue4
  t9 := Try.underlying9
  a9 := Try.isAgg9
  z9 := Try.sizeOf9
  v9 := Try.zeroValue9
  t37 := Try.underlying118
  a37 := Try.isAgg118
  z37 := Try.sizeOf118
  v37 := Try.zeroValue118
  t5 := Try.underlying5
  a5 := Try.isAgg5
  z5 := Try.sizeOf5
  v5 := Try.zeroValue5 }
theorem Try.bytes_Equal_all (p1 p2 : Option Addr) (n c m d : Nat) (xs ys : List Int) (w : World) (hx : xs.length = n) (hy : ys.length = m) (h1 : Lib.BytesIn w p1 n xs) (h2 : Lib.BytesIn w p2 m ys) :
    Calls Try.prog 74 #[.slice p1 n c, .slice p2 m d] w fun e w' => e = .returned (.bool (Lib.bytesOf xs == Lib.bytesOf ys)) ∧ w' = w := Any.bytes_Equal_all Try.laysnb115 p1 p2 n c m d xs ys w hx hy h1 h2
theorem Try.bytes_Equal (v1 v2 : Value) (xs ys : List Int) (w : World) (h1 : (convert 118 9 v1).run Try.prog w = .ok (.string (strOfNums xs)) w) (h2 : (convert 118 9 v2).run Try.prog w = .ok (.string (strOfNums ys)) w) :
    Calls Try.prog 74 #[v1, v2] w fun e w' => e = .returned (.bool (Lib.bytesOf xs == Lib.bytesOf ys)) ∧ w' = w := Any.bytes_Equal Try.lays115 v1 v2 xs ys w h1 h2
end Go.Proofs

/- Package mask: its small functions: how many bytes a set has, where a bit stands, which bits are no cell's. -/
namespace Go.Proofs.Ythebiibiapjdiaa
open Go.RowKit

set_option maxHeartbeats 400000 in
theorem length_any (W H : Int) (w : World) (hm : mayB W H = true) :
    Calls Try.prog 86 #[.agg #[.int .i64 W, .int .i64 H]] w fun e w' => e = .returned (.int .i64 ((W * H + 7) / 8)) ∧ Below w.heap.size w w' := by
  obtain ⟨h1, h2, h3, h4⟩ := mayB_iff.1 hm
  obtain ⟨m1, m2⟩ : 0 ≤ W * H ∧ W * H ≤ 65536 := ⟨Int.mul_nonneg (by omega) (by omega), by have a : W * H ≤ 256 * H := Int.mul_le_mul_of_nonneg_right h2 (by omega); omega⟩
  go_enter Try.func86, Try.ntmps86
  go_wp2
  go_ret
  exact ⟨rfl, bl_al (bl0 _) _⟩

set_option maxHeartbeats 400000 in
theorem place_any (i : Int) (w : World) (h0 : 0 ≤ i) (h1 : i ≤ 65536) :
    Calls Try.prog 73 #[.int .i64 i] w fun e w' => e = .returned (.tuple #[.int .i64 (i / 8), .int .u8 (2 ^ (i % 8).toNat % 256)]) ∧ Below w.heap.size w w' := by
  go_enter Try.func73, Try.ntmps73
  go_wp2
  go_quiet (fail)
  go_wp2
  go_ret2
  exact ⟨rfl, bl_drn _ _⟩

end Go.Proofs.Ythebiibiapjdiaa

/- Sets of cells cs bytes: the mathematics. -/
namespace Go.Proofs.Ythebiibiapjdiaa
open Go.RowKit

/-! The bits of a byte cs the program reckons them -/
theorem u8_or (a b : Nat) (ha : a < 256) (hb : b < 256) : bits .or .u8 (a : Int) (b : Int) = ((a ||| b : Nat) : Int) := by
  have h : (a ||| b) < 256 := Nat.or_lt_two_pow (n := 8) ha hb
  have e : (BitVec.ofNat 8 a ||| BitVec.ofNat 8 b).toNat = a ||| b := by rw [BitVec.toNat_or, BitVec.toNat_ofNat, BitVec.toNat_ofNat, Nat.mod_eq_of_lt ha, Nat.mod_eq_of_lt hb]
  have e' : (BitVec.ofInt 8 (a : Int) ||| BitVec.ofInt 8 (b : Int)).toNat = a ||| b := by rw [BitVec.ofInt_natCast, BitVec.ofInt_natCast]; exact e
  show IntKind.u8.wrap (((BitVec.ofInt 8 (a : Int) ||| BitVec.ofInt 8 (b : Int)).toNat : Nat) : Int) = _
  rw [e']
  exact IntWalk.u8_in _ (by omega)
theorem u8_and (a b : Nat) (ha : a < 256) (hb : b < 256) : bits .and .u8 (a : Int) (b : Int) = ((a &&& b : Nat) : Int) := by
  have h : (a &&& b) < 256 := Nat.lt_of_le_of_lt Nat.and_le_left ha
  have e : (BitVec.ofNat 8 a &&& BitVec.ofNat 8 b).toNat = a &&& b := by rw [BitVec.toNat_and, BitVec.toNat_ofNat, BitVec.toNat_ofNat, Nat.mod_eq_of_lt ha, Nat.mod_eq_of_lt hb]
  have e' : (BitVec.ofInt 8 (a : Int) &&& BitVec.ofInt 8 (b : Int)).toNat = a &&& b := by rw [BitVec.ofInt_natCast, BitVec.ofInt_natCast]; exact e
  show IntKind.u8.wrap (((BitVec.ofInt 8 (a : Int) &&& BitVec.ofInt 8 (b : Int)).toNat : Nat) : Int) = _
  rw [e']
  exact IntWalk.u8_in _ (by omega)
theorem u8_xor (a b : Nat) (ha : a < 256) (hb : b < 256) : bits .xor .u8 (a : Int) (b : Int) = ((a ^^^ b : Nat) : Int) := by
  have h : (a ^^^ b) < 256 := Nat.xor_lt_two_pow (n := 8) ha hb
  have e : (BitVec.ofNat 8 a ^^^ BitVec.ofNat 8 b).toNat = a ^^^ b := by rw [BitVec.toNat_xor, BitVec.toNat_ofNat, BitVec.toNat_ofNat, Nat.mod_eq_of_lt ha, Nat.mod_eq_of_lt hb]
  have e' : (BitVec.ofInt 8 (a : Int) ^^^ BitVec.ofInt 8 (b : Int)).toNat = a ^^^ b := by rw [BitVec.ofInt_natCast, BitVec.ofInt_natCast]; exact e
  show IntKind.u8.wrap (((BitVec.ofInt 8 (a : Int) ^^^ BitVec.ofInt 8 (b : Int)).toNat : Nat) : Int) = _
  rw [e']
  exact IntWalk.u8_in _ (by omega)
theorem u8_andNot (a b : Nat) (ha : a < 256) (hb : b < 256) : bits .andNot .u8 (a : Int) (b : Int) = ((a &&& (255 - b) : Nat) : Int) := by
  have h : (a &&& (255 - b)) < 256 := Nat.lt_of_le_of_lt Nat.and_le_left ha
  have e : (BitVec.ofNat 8 a &&& ~~~(BitVec.ofNat 8 b)).toNat = a &&& (255 - b) := by rw [BitVec.toNat_and, BitVec.toNat_not, BitVec.toNat_ofNat, BitVec.toNat_ofNat, Nat.mod_eq_of_lt ha, Nat.mod_eq_of_lt hb]
  have e' : (BitVec.ofInt 8 (a : Int) &&& ~~~(BitVec.ofInt 8 (b : Int))).toNat = a &&& (255 - b) := by rw [BitVec.ofInt_natCast, BitVec.ofInt_natCast]; exact e
  show IntKind.u8.wrap (((BitVec.ofInt 8 (a : Int) &&& ~~~(BitVec.ofInt 8 (b : Int))).toNat : Nat) : Int) = _
  rw [e']
  exact IntWalk.u8_in _ (by omega)

theorem and_pow_bit (o k : Nat) : (o &&& 2 ^ k != 0) = o.testBit k := by
  cases hb : o.testBit k
  · have : o &&& 2 ^ k = 0 := by
      apply Nat.eq_of_testBit_eq
      intro i
      rw [Nat.testBit_and, Nat.testBit_two_pow]
      by_cases hi : k = i
      · subst hi; simp [hb]
      · simp [hi]
    simp [this]
  · have h1 : (o &&& 2 ^ k).testBit k = true := by rw [Nat.testBit_and, hb]; simp
    rw [bne_iff_ne]
    intro h0
    rw [h0] at h1
    simp at h1

/-! A set's bytes -/
def IsBytes (bs : List Nat) : Prop := ∀ x ∈ bs, x < 256
def bitAt (bs : List Nat) (i : Nat) : Bool := (bs.getD (i / 8) 0).testBit (i % 8)
def setB (bs : List Nat) (i : Nat) (v : Bool) : List Nat := bs.set (i / 8) (if v then bs.getD (i / 8) 0 ||| 2 ^ (i % 8) else bs.getD (i / 8) 0 &&& (255 - 2 ^ (i % 8)))
theorem setB_len (bs : List Nat) (i : Nat) (v : Bool) : (setB bs i v).length = bs.length := by simp [setB]
theorem IsBytes.getD {bs : List Nat} (h : IsBytes bs) (k : Nat) : bs.getD k 0 < 256 := by
  rw [List.getD_eq_getElem?_getD]
  cases e : bs[k]? with
  | none => simp
  | some x => simpa using h x (List.mem_of_getElem? e)
theorem pow8 (i : Nat) : 2 ^ (i % 8) < 256 := by
  have : i % 8 < 8 := Nat.mod_lt _ (by omega)
  calc 2 ^ (i % 8) < 2 ^ 8 := Nat.pow_lt_pow_right (by omega) this
    _ = 256 := rfl
theorem setB_bytes {bs : List Nat} (h : IsBytes bs) (i : Nat) (v : Bool) : IsBytes (setB bs i v) := by
  intro x hx
  rcases List.mem_or_eq_of_mem_set hx with hx | rfl
  · exact h x hx
  · have hg := h.getD (i / 8)
    cases v
    · exact Nat.lt_of_le_of_lt Nat.and_le_left hg
    · exact Nat.or_lt_two_pow (n := 8) hg (pow8 i)
theorem bitAt_setB {bs : List Nat} (i j : Nat) (v : Bool) (hi : i / 8 < bs.length) : bitAt (setB bs i v) j = if j = i then v else bitAt bs j := by
  unfold bitAt setB
  by_cases hj : j / 8 = i / 8
  · rw [hj, List.getD_eq_getElem?_getD, List.getElem?_set_self hi, Option.getD_some]
    by_cases hji : j = i
    · subst hji
      cases v
      · rw [if_pos rfl]
        simp only [Bool.false_eq_true, if_false, Nat.testBit_and]
        rw [show 255 - 2 ^ (j % 8) = 2 ^ 8 - (2 ^ (j % 8) + 1) by have := pow8 j; omega, Nat.testBit_two_pow_sub_succ (pow8 j)]
        simp
      · simp
    · have hne : i % 8 ≠ j % 8 := by omega
      have h8 : j % 8 < 8 := Nat.mod_lt _ (by omega)
      rw [if_neg hji]
      cases v
      · simp only [Bool.false_eq_true, if_false, Nat.testBit_and]
        rw [show 255 - 2 ^ (i % 8) = 2 ^ 8 - (2 ^ (i % 8) + 1) by have := pow8 i; omega, Nat.testBit_two_pow_sub_succ (pow8 i)]
        simp [hne, h8]
      · simp [Nat.testBit_or, hne]
  · have hji : j ≠ i := fun e => hj (by rw [e])
    rw [if_neg hji, List.getD_eq_getElem?_getD, List.getElem?_set_ne (Ne.symm hj), ← List.getD_eq_getElem?_getD]
theorem bitAt_out {bs : List Nat} {i : Nat} (h : 8 * bs.length ≤ i) : bitAt bs i = false := by
  unfold bitAt
  rw [List.getD_eq_getElem?_getD, List.getElem?_eq_none (by omega)]
  simp
/-- Bytes with the same bits are the same. -/
theorem ext_bits {cs bs : List Nat} (ha : IsBytes cs) (hb : IsBytes bs) (hl : cs.length = bs.length) (h : ∀ i, i < 8 * cs.length → bitAt cs i = bitAt bs i) : cs = bs := by
  apply List.ext_getElem hl
  intro k h1 h2
  apply Nat.eq_of_testBit_eq
  intro i
  by_cases hi : i < 8
  · have := h (8 * k + i) (by omega)
    unfold bitAt at this
    rw [show (8 * k + i) / 8 = k by omega, show (8 * k + i) % 8 = i by omega] at this
    simpa [List.getD_eq_getElem?_getD, h1, h2] using this
  · have h256 : 256 ≤ 2 ^ i := Nat.le_trans (show 256 ≤ 2 ^ 8 by decide) (Nat.pow_le_pow_right (by decide) (by omega))
    have hx : cs[k] < 2 ^ i := Nat.lt_of_lt_of_le (ha _ (List.getElem_mem h1)) h256
    have hy : bs[k] < 2 ^ i := Nat.lt_of_lt_of_le (hb _ (List.getElem_mem h2)) h256
    rw [Nat.testBit_lt_two_pow hx, Nat.testBit_lt_two_pow hy]

/-! Two sets joined byte by byte -/
def joinB (f : Nat → Nat → Nat) (cs bs : List Nat) : List Nat := List.zipWith f cs bs
theorem joinB_len (f : Nat → Nat → Nat) {cs bs : List Nat} (h : cs.length = bs.length) : (joinB f cs bs).length = cs.length := by simp [joinB, h]
theorem joinB_getD (f : Nat → Nat → Nat) (hf : f 0 0 = 0) {cs bs : List Nat} (h : cs.length = bs.length) (k : Nat) : (joinB f cs bs).getD k 0 = f (cs.getD k 0) (bs.getD k 0) := by
  simp only [joinB, List.getD_eq_getElem?_getD, List.getElem?_zipWith]
  by_cases hk : k < cs.length
  · rw [List.getElem?_eq_getElem hk, List.getElem?_eq_getElem (h ▸ hk)]; rfl
  · rw [List.getElem?_eq_none (by omega), List.getElem?_eq_none (by omega)]; simp [hf]
theorem bitAt_or {cs bs : List Nat} (h : cs.length = bs.length) (i : Nat) : bitAt (joinB (· ||| ·) cs bs) i = (bitAt cs i || bitAt bs i) := by
  unfold bitAt; rw [joinB_getD _ rfl h]; exact Nat.testBit_or _ _ _
theorem bitAt_and {cs bs : List Nat} (h : cs.length = bs.length) (i : Nat) : bitAt (joinB (· &&& ·) cs bs) i = (bitAt cs i && bitAt bs i) := by
  unfold bitAt; rw [joinB_getD _ rfl h]; exact Nat.testBit_and _ _ _
theorem joinB_bytes {f : Nat → Nat → Nat} (hf : ∀ a b, a < 256 → b < 256 → f a b < 256) {cs bs : List Nat} (ha : IsBytes cs) (hb : IsBytes bs) : IsBytes (joinB f cs bs) := by
  intro x hx
  obtain ⟨k, hk⟩ := List.getElem?_of_mem hx
  rw [joinB, List.getElem?_zipWith] at hk
  split at hk
  · rename_i a b h1 h2
    simp at hk; subst hk
    exact hf _ _ (ha _ (List.mem_of_getElem? h1)) (hb _ (List.mem_of_getElem? h2))
  · simp at hk
theorem or_lt8 (a b : Nat) (ha : a < 256) (hb : b < 256) : a ||| b < 256 := Nat.or_lt_two_pow (n := 8) ha hb
theorem and_lt8 (a b : Nat) (ha : a < 256) (_ : b < 256) : a &&& b < 256 := Nat.lt_of_le_of_lt Nat.and_le_left ha
end Go.Proofs.Ythebiibiapjdiaa

/- Package mask: how a set lies in memory; Set and Has. -/
namespace Go.Proofs.Ythebiibiapjdiaa
open Go.RowKit

/-- A set at block b, its bytes at block h. -/
def MaskAt (W : World) (b h : Nat) (X Y : Int) (bs : List Nat) : Prop :=
  W.heap[b]? = some (.cells #[.int .i64 X, .int .i64 Y, .slice (some ⟨h, 0, none⟩) bs.length bs.length] 120 (0, 0)) ∧
  W.heap[h]? = some (.cells (bs.map (fun x : Nat => Value.int .u8 (x : Int))).toArray 5 (0, 0))
theorem MaskAt.c0 {W : World} {b h : Nat} {X Y : Int} {bs : List Nat} (m : MaskAt W b h X Y bs) : W.cell? ⟨b, 0, none⟩ = some (.int .i64 X) := by simp [World.cell?, m.1]
theorem MaskAt.c1 {W : World} {b h : Nat} {X Y : Int} {bs : List Nat} (m : MaskAt W b h X Y bs) : W.cell? ⟨b, 1, none⟩ = some (.int .i64 Y) := by simp [World.cell?, m.1]
theorem MaskAt.c2 {W : World} {b h : Nat} {X Y : Int} {bs : List Nat} (m : MaskAt W b h X Y bs) : W.cell? ⟨b, 2, none⟩ = some (.slice (some ⟨h, 0, none⟩) bs.length bs.length) := by simp [World.cell?, m.1]
theorem MaskAt.at {W : World} {b h k : Nat} {X Y : Int} {bs : List Nat} (m : MaskAt W b h X Y bs) {x : Nat} (hk : bs[k]? = some x) : W.cell? ⟨h, k, none⟩ = some (.int .u8 (x : Int)) := by simp [World.cell?, m.2, hk]
theorem MaskAt.fz {W : World} {b h k : Nat} {X Y : Int} {bs : List Nat} (m : MaskAt W b h X Y bs) : W.frozen? ⟨h, k, none⟩ = false := by simp [World.frozen?, m.2]
theorem MaskAt.lt {W : World} {b h : Nat} {X Y : Int} {bs : List Nat} (m : MaskAt W b h X Y bs) : b < W.heap.size ∧ h < W.heap.size := ⟨(Array.getElem?_eq_some_iff.1 m.1).1, (Array.getElem?_eq_some_iff.1 m.2).1⟩
theorem MaskAt.kept {W W' : World} {row : Option Nat} {b h : Nat} {X Y : Int} {bs : List Nat} (m : MaskAt W b h X Y bs) (hg : W.grownBy W' row) (hb : some b ≠ row) (hh : some h ≠ row) : MaskAt W' b h X Y bs :=
  ⟨(hg.block b m.lt.1 hb).trans m.1, (hg.block h m.lt.2 hh).trans m.2⟩
theorem MaskAt.below {W W' : World} {b h : Nat} {X Y : Int} {bs : List Nat} (m : MaskAt W b h X Y bs) (hb : Below W.heap.size W W') : MaskAt W' b h X Y bs :=
  ⟨(hb.block b m.lt.1).trans m.1, (hb.block h m.lt.2).trans m.2⟩

theorem grown_tr {A B C : World} {row : Option Nat} (h : A.grownBy B row) (k : B.grownBy C row) : A.grownBy C row :=
  ⟨k.os.trans h.os, k.tape.trans h.tape, k.output.trans h.output, Nat.le_trans h.size k.size, fun i hi hr => (k.block i (Nat.lt_of_lt_of_le hi h.size) hr).trans (h.block i hi hr)⟩
theorem grown_weak {A B : World} (h : A.grownBy B none) (row : Option Nat) : A.grownBy B row := ⟨h.os, h.tape, h.output, h.size, fun i hi _ => h.block i hi (by simp)⟩
theorem grown_set (W : World) (h k : Nat) (u : Value) : W.grownBy (W.setCell ⟨h, k, none⟩ u) (some h) :=
  ⟨rfl, rfl, rfl, by simp, fun i _ hi => Below.heap_setCell _ _ _ i (fun e => hi (by rw [e]))⟩

/-- What a set's bytes are: as many as its cells need, and no bit beyond its cells. -/
def Good (X Y : Int) (bs : List Nat) : Prop := mayB X Y = true ∧ (bs.length : Int) = (X * Y + 7) / 8 ∧ IsBytes bs ∧ ∀ i : Nat, X * Y ≤ (i : Int) → bitAt bs i = false

theorem idx_lt {X Y x y : Int} (hi : inB X Y x y = true) : 0 ≤ y * X + x ∧ y * X + x < X * Y := by
  obtain ⟨h1, h2, h3, h4, h5, h6, h7, h8⟩ := inB_iff.1 hi
  have a : 0 ≤ y * X := Int.mul_nonneg h7 (by omega)
  have b : (y + 1) * X ≤ Y * X := Int.mul_le_mul_of_nonneg_right (by omega) (by omega)
  rw [Int.add_mul, Int.one_mul] at b
  rw [Int.mul_comm X Y]
  omega
theorem Good.idx {X Y x y : Int} {bs : List Nat} (g : Good X Y bs) (hi : inB X Y x y = true) : (y * X + x).toNat / 8 < bs.length := by
  obtain ⟨a, b⟩ := idx_lt hi
  have := g.2.1
  omega
theorem Good.small {X Y : Int} {bs : List Nat} (g : Good X Y bs) : bs.length ≤ 65536 := by
  obtain ⟨h1, h2, h3, h4⟩ := mayB_iff.1 g.1
  have a : X * Y ≤ 256 * Y := Int.mul_le_mul_of_nonneg_right h2 (by omega)
  have := g.2.1
  omega
theorem Good.set {X Y x y : Int} {bs : List Nat} (g : Good X Y bs) (hi : inB X Y x y = true) (v : Bool) : Good X Y (setB bs (y * X + x).toNat v) := by
  obtain ⟨a, b⟩ := idx_lt hi
  refine ⟨g.1, by rw [setB_len]; exact g.2.1, setB_bytes g.2.2.1 _ _, fun i hX => ?_⟩
  rw [bitAt_setB _ _ _ (g.idx hi), if_neg (by omega)]
  exact g.2.2.2 i hX

theorem heap_set_same (w : World) (g i : Nat) (cs : Array Value) (t : TypeId) (v : Value) (hg : w.heap[g]? = some (.cells cs t (0, 0))) : (w.setCell ⟨g, i, none⟩ v).heap[g]? = some (.cells (cs.setIfInBounds i v) t (0, 0)) := heap_setCell_same w g i cs t v hg
theorem MaskAt.set {W : World} {b h : Nat} {X Y : Int} {bs : List Nat} (m : MaskAt W b h X Y bs) (hne : b ≠ h) (n : Nat) (v : Bool) {u : Int} (hu : u = ((if v then bs.getD (n / 8) 0 ||| 2 ^ (n % 8) else bs.getD (n / 8) 0 &&& (255 - 2 ^ (n % 8)) : Nat) : Int)) :
    MaskAt (W.setCell ⟨h, n / 8, none⟩ (.int .u8 u)) b h X Y (setB bs n v) := by
  subst hu
  refine ⟨(Below.heap_setCell _ _ _ b (show b ≠ h from hne)).trans (by rw [setB_len]; exact m.1), ?_⟩
  rw [heap_set_same _ _ _ _ _ _ m.2]
  simp [setB, List.map_set]

set_option maxHeartbeats 1600000 in
theorem set_yes (b h : Nat) (X Y x y : Int) (bs : List Nat) (v : Bool) (w : World) (hm : MaskAt w b h X Y bs) (hg : Good X Y bs) (hne : b ≠ h) (hi : inB X Y x y = true) :
    Calls Try.prog 57 #[.pointer (some ⟨b, 0, none⟩), .agg #[.int .i64 x, .int .i64 y], .bool v] w fun e w' => e = .returned (.int .i64 0) ∧ MaskAt w' b h X Y (setB bs (y * X + x).toNat v) ∧ w.grownBy w' (some h) := by
  obtain ⟨i0, i1⟩ := idx_lt hi
  have hix := hg.idx hi
  obtain ⟨o, ho⟩ : ∃ o, bs[(y * X + x).toNat / 8]? = some o := ⟨_, List.getElem?_eq_getElem hix⟩
  have hod : bs.getD ((y * X + x).toNat / 8) 0 = o := by rw [List.getD_eq_getElem?_getD, ho]; rfl
  have hob : o < 256 := hg.2.2.1 o (List.mem_of_getElem? ho)
  have hk : (y * X + x).toNat / 8 = ((y * X + x) / 8).toNat := by omega
  have hp := pow8 (y * X + x).toNat
  have hp2 : (2 : Int) ^ ((y * X + x) % 8).toNat % 256 = ((2 ^ ((y * X + x).toNat % 8) : Nat) : Int) := by
    have e1 : ((y * X + x) % 8).toNat = (y * X + x).toNat % 8 := by omega
    have e2 : ((2 ^ ((y * X + x).toNat % 8) : Nat) : Int) = (2 : Int) ^ ((y * X + x).toNat % 8) := by simp
    rw [e1, ← e2]; exact Int.emod_eq_of_lt (Int.natCast_nonneg _) (Int.ofNat_lt.2 hp)
  have hor : v = true → bits .or .u8 (o : Int) ((2 : Int) ^ ((y * X + x) % 8).toNat % 256) = ((if v then bs.getD ((y * X + x).toNat / 8) 0 ||| 2 ^ ((y * X + x).toNat % 8) else bs.getD ((y * X + x).toNat / 8) 0 &&& (255 - 2 ^ ((y * X + x).toNat % 8)) : Nat) : Int) := by
    intro hv; rw [hp2, u8_or _ _ hob hp, hod, hv]; rfl
  have han : v = false → bits .andNot .u8 (o : Int) ((2 : Int) ^ ((y * X + x) % 8).toNat % 256) = ((if v then bs.getD ((y * X + x).toNat / 8) 0 ||| 2 ^ ((y * X + x).toNat % 8) else bs.getD ((y * X + x).toNat / 8) 0 &&& (255 - 2 ^ ((y * X + x).toNat % 8)) : Nat) : Int) := by
    intro hv; rw [hp2, u8_andNot _ _ hob hp, hod, hv]; rfl
  have HO := Lib.hid hor
  have HN := Lib.hid han
  have HK := Lib.hid hk
  rw [hk] at ho hix
  have c0 := hm.c0
  have c1 := hm.c1
  have c2 := hm.c2
  have q := hm.at ho
  have fz := hm.fz (k := ((y * X + x) / 8).toNat)
  have z0 := hm.lt.1
  have z1 := hm.lt.2
  have k0 : 0 ≤ (y * X + x) / 8 := by omega
  have k1 : (y * X + x) / 8 < (bs.length : Int) := by omega
  have i2 : y * X + x ≤ 65536 := by
    obtain ⟨h1, h2, h3, h4, h5, h6, h7, h8⟩ := inB_iff.1 hi
    have := (mul_bd h7 (by omega) h1 h2).2
    omega
  clear hor han hp2 hod hk ho hp hob
  go_enter Try.func57, Try.ntmps57
  go_wp2_with fail
  obtain ⟨w1, hw1⟩ : ∃ w1, w.alloc (.cells #[.int .i64 x, .int .i64 y] 37) = w1 := ⟨_, rfl⟩
  have hb1 : Below w.heap.size w w1 := by rw [← hw1]; exact bl_al (bl0 _) _
  have d0 : w1.cell? ⟨w.heap.size, 0, none⟩ = some (.int .i64 x) := by rw [← hw1]; simp [go_sem]
  have d1 : w1.cell? ⟨w.heap.size, 1, none⟩ = some (.int .i64 y) := by rw [← hw1]; simp [go_sem]
  replace fz := frozen_later hb1 q fz
  replace c0 := cell_later hb1 c0
  replace c1 := cell_later hb1 c1
  replace c2 := cell_later hb1 c2
  replace q := cell_later hb1 q
  rw [hw1]
  clear hw1
  have hA := bl_dr (bl0 w1)
  go_region_held3 (fun w' => w'.cell? ⟨b, 0, none⟩ = some (.int .i64 X) ∧ w'.cell? ⟨b, 1, none⟩ = some (.int .i64 Y) ∧ w'.cell? ⟨w.heap.size, 0, none⟩ = some (.int .i64 x) ∧ w'.cell? ⟨w.heap.size, 1, none⟩ = some (.int .i64 y))
    (exact ⟨cell_later hA c0, cell_later hA c1, cell_later hA d0, cell_later hA d1⟩)
    ((go_at_call 30; refine (index_yes _ _ _ _ _ hi).mono ?_; rintro e W2 ⟨rfl, hb⟩; replace hA := bl_tr hA hb; clear hb))
  replace fz := frozen_later hA q fz
  replace c2 := cell_later hA c2
  replace q := cell_later hA q
  clear c0 c1 d0 d1
  go_wp2_with fail
  refine (place_any _ _ i0 i2).mono ?_
  rintro e W3 ⟨rfl, hb⟩
  replace fz := frozen_later hb q fz
  replace c2 := cell_later hb c2
  replace q := cell_later hb q
  have hm3 := ((hm.below hb1).below hA).below hb
  have hB3 := bl_tr (bl_tr hb1 hA) hb
  have HM := Lib.hid hm3
  clear hm hm3 hb hA hb1
  cases v
  case' true =>
    go_wp2
    go_ret
    have hm4 := HM.out.set hne (y * X + x).toNat true (HO.out (by trivial))
    rw [HK.out] at hm4
    exact ⟨rfl, hm4, grown_tr (grown_weak (grown_of_below hB3) _) (grown_set _ _ _ _)⟩
  case' false =>
    go_wp2
    go_ret
    have hm4 := HM.out.set hne (y * X + x).toNat false (HN.out (by trivial))
    rw [HK.out] at hm4
    exact ⟨rfl, hm4, grown_tr (grown_weak (grown_of_below hB3) _) (grown_set _ _ _ _)⟩
end Go.Proofs.Ythebiibiapjdiaa

/- Package mask: Has, Set off the map, of nothing, and Size. -/
namespace Go.Proofs.Ythebiibiapjdiaa
open Go.RowKit

set_option maxHeartbeats 1600000 in
theorem has_yes (b h : Nat) (X Y x y : Int) (bs : List Nat) (w : World) (hm : MaskAt w b h X Y bs) (hg : Good X Y bs) (hi : inB X Y x y = true) :
    Calls Try.prog 25 #[.pointer (some ⟨b, 0, none⟩), .agg #[.int .i64 x, .int .i64 y]] w fun e w' => e = .returned (.bool (bitAt bs (y * X + x).toNat)) ∧ Below w.heap.size w w' := by
  obtain ⟨i0, i1⟩ := idx_lt hi
  have hix := hg.idx hi
  obtain ⟨o, ho⟩ : ∃ o, bs[(y * X + x).toNat / 8]? = some o := ⟨_, List.getElem?_eq_getElem hix⟩
  have hod : bs.getD ((y * X + x).toNat / 8) 0 = o := by rw [List.getD_eq_getElem?_getD, ho]; rfl
  have hob : o < 256 := hg.2.2.1 o (List.mem_of_getElem? ho)
  have hk : (y * X + x).toNat / 8 = ((y * X + x) / 8).toNat := by omega
  have hp := pow8 (y * X + x).toNat
  have hp2 : (2 : Int) ^ ((y * X + x) % 8).toNat % 256 = ((2 ^ ((y * X + x).toNat % 8) : Nat) : Int) := by
    have e1 : ((y * X + x) % 8).toNat = (y * X + x).toNat % 8 := by omega
    have e2 : ((2 ^ ((y * X + x).toNat % 8) : Nat) : Int) = (2 : Int) ^ ((y * X + x).toNat % 8) := by simp
    rw [e1, ← e2]; exact Int.emod_eq_of_lt (Int.natCast_nonneg _) (Int.ofNat_lt.2 hp)
  have hb2 : (bits .and .u8 (o : Int) ((2 : Int) ^ ((y * X + x) % 8).toNat % 256) != 0) = bitAt bs (y * X + x).toNat := by
    rw [hp2, u8_and _ _ hob hp]
    unfold bitAt
    rw [hod, ← and_pow_bit]
    rw [Bool.eq_iff_iff]
    simp only [bne_iff_ne, ne_eq]
    omega
  have HB := Lib.hid hb2
  rw [hk] at ho hix
  have c0 := hm.c0
  have c1 := hm.c1
  have c2 := hm.c2
  have q := hm.at ho
  have z0 := hm.lt.1
  have z1 := hm.lt.2
  have k0 : 0 ≤ (y * X + x) / 8 := by omega
  have k1 : (y * X + x) / 8 < (bs.length : Int) := by omega
  have i2 : y * X + x ≤ 65536 := by
    obtain ⟨h1, h2, h3, h4, h5, h6, h7, h8⟩ := inB_iff.1 hi
    have := (mul_bd h7 (by omega) h1 h2).2
    omega
  clear hb2 hp2 hod hk ho hp hob
  go_enter Try.func25, Try.ntmps25
  go_wp2_with fail
  obtain ⟨w1, hw1⟩ : ∃ w1, w.alloc (.cells #[.int .i64 x, .int .i64 y] 37) = w1 := ⟨_, rfl⟩
  have hb1 : Below w.heap.size w w1 := by rw [← hw1]; exact bl_al (bl0 _) _
  have d0 : w1.cell? ⟨w.heap.size, 0, none⟩ = some (.int .i64 x) := by rw [← hw1]; simp [go_sem]
  have d1 : w1.cell? ⟨w.heap.size, 1, none⟩ = some (.int .i64 y) := by rw [← hw1]; simp [go_sem]
  replace c0 := cell_later hb1 c0
  replace c1 := cell_later hb1 c1
  replace c2 := cell_later hb1 c2
  replace q := cell_later hb1 q
  rw [hw1]
  clear hw1
  have hA := bl_dr (bl0 w1)
  go_region_held3 (fun w' => w'.cell? ⟨b, 0, none⟩ = some (.int .i64 X) ∧ w'.cell? ⟨b, 1, none⟩ = some (.int .i64 Y) ∧ w'.cell? ⟨w.heap.size, 0, none⟩ = some (.int .i64 x) ∧ w'.cell? ⟨w.heap.size, 1, none⟩ = some (.int .i64 y))
    (exact ⟨cell_later hA c0, cell_later hA c1, cell_later hA d0, cell_later hA d1⟩)
    ((go_at_call 30; refine (index_yes _ _ _ _ _ hi).mono ?_; rintro e W2 ⟨rfl, hb⟩; replace hA := bl_tr hA hb; clear hb))
  replace c2 := cell_later hA c2
  replace q := cell_later hA q
  clear c0 c1 d0 d1
  go_wp2_with fail
  refine (place_any _ _ i0 i2).mono ?_
  rintro e W3 ⟨rfl, hb⟩
  replace c2 := cell_later hb c2
  replace q := cell_later hb q
  have hB3 := bl_tr (bl_tr hb1 hA) hb
  clear hm hb hA hb1
  go_wp2
  go_ret
  exact ⟨ret_bool HB.out, hB3⟩

set_option maxHeartbeats 1600000 in
theorem has_no (b h : Nat) (X Y x y : Int) (bs : List Nat) (w : World) (hm : MaskAt w b h X Y bs) (hi : inB X Y x y = false) :
    Calls Try.prog 25 #[.pointer (some ⟨b, 0, none⟩), .agg #[.int .i64 x, .int .i64 y]] w fun e w' => e = .returned (.bool false) ∧ Below w.heap.size w w' := by
  have c0 := hm.c0
  have c1 := hm.c1
  have z0 := hm.lt.1
  clear hm
  go_enter Try.func25, Try.ntmps25
  go_wp2_with fail
  obtain ⟨w1, hw1⟩ : ∃ w1, w.alloc (.cells #[.int .i64 x, .int .i64 y] 37) = w1 := ⟨_, rfl⟩
  have hb1 : Below w.heap.size w w1 := by rw [← hw1]; exact bl_al (bl0 _) _
  have d0 : w1.cell? ⟨w.heap.size, 0, none⟩ = some (.int .i64 x) := by rw [← hw1]; simp [go_sem]
  have d1 : w1.cell? ⟨w.heap.size, 1, none⟩ = some (.int .i64 y) := by rw [← hw1]; simp [go_sem]
  replace c0 := cell_later hb1 c0
  replace c1 := cell_later hb1 c1
  rw [hw1]
  clear hw1
  have hA := bl_dr (bl0 w1)
  go_region_held3 (fun w' => w'.cell? ⟨b, 0, none⟩ = some (.int .i64 X) ∧ w'.cell? ⟨b, 1, none⟩ = some (.int .i64 Y) ∧ w'.cell? ⟨w.heap.size, 0, none⟩ = some (.int .i64 x) ∧ w'.cell? ⟨w.heap.size, 1, none⟩ = some (.int .i64 y))
    (exact ⟨cell_later hA c0, cell_later hA c1, cell_later hA d0, cell_later hA d1⟩)
    ((go_at_call 30; refine (index_no _ _ _ _ _ hi).mono ?_; rintro e W2 ⟨rfl, hb⟩; replace hA := bl_tr hA hb; clear hb))
  clear c0 c1 d0 d1
  go_wp2
  go_ret
  exact ⟨rfl, bl_tr hb1 hA⟩

set_option maxHeartbeats 1600000 in
theorem set_no (b h : Nat) (X Y x y : Int) (bs : List Nat) (v : Bool) (w : World) (hm : MaskAt w b h X Y bs) (hi : inB X Y x y = false) :
    Calls Try.prog 57 #[.pointer (some ⟨b, 0, none⟩), .agg #[.int .i64 x, .int .i64 y], .bool v] w fun e w' => e = .returned (.int .i64 10) ∧ Below w.heap.size w w' := by
  have c0 := hm.c0
  have c1 := hm.c1
  have z0 := hm.lt.1
  clear hm
  go_enter Try.func57, Try.ntmps57
  go_wp2_with fail
  obtain ⟨w1, hw1⟩ : ∃ w1, w.alloc (.cells #[.int .i64 x, .int .i64 y] 37) = w1 := ⟨_, rfl⟩
  have hb1 : Below w.heap.size w w1 := by rw [← hw1]; exact bl_al (bl0 _) _
  have d0 : w1.cell? ⟨w.heap.size, 0, none⟩ = some (.int .i64 x) := by rw [← hw1]; simp [go_sem]
  have d1 : w1.cell? ⟨w.heap.size, 1, none⟩ = some (.int .i64 y) := by rw [← hw1]; simp [go_sem]
  replace c0 := cell_later hb1 c0
  replace c1 := cell_later hb1 c1
  rw [hw1]
  clear hw1
  have hA := bl_dr (bl0 w1)
  go_region_held3 (fun w' => w'.cell? ⟨b, 0, none⟩ = some (.int .i64 X) ∧ w'.cell? ⟨b, 1, none⟩ = some (.int .i64 Y) ∧ w'.cell? ⟨w.heap.size, 0, none⟩ = some (.int .i64 x) ∧ w'.cell? ⟨w.heap.size, 1, none⟩ = some (.int .i64 y))
    (exact ⟨cell_later hA c0, cell_later hA c1, cell_later hA d0, cell_later hA d1⟩)
    ((go_at_call 30; refine (index_no _ _ _ _ _ hi).mono ?_; rintro e W2 ⟨rfl, hb⟩; replace hA := bl_tr hA hb; clear hb))
  clear c0 c1 d0 d1
  go_wp2
  go_ret
  exact ⟨rfl, bl_tr hb1 hA⟩

set_option maxHeartbeats 400000 in
theorem has_nil (x y : Int) (w : World) :
    Calls Try.prog 25 #[.pointer none, .agg #[.int .i64 x, .int .i64 y]] w fun e w' => e = .returned (.bool false) ∧ Below w.heap.size w w' := by
  go_enter Try.func25, Try.ntmps25
  go_wp2
  go_ret
  exact ⟨rfl, bl_al (bl0 _) _⟩

set_option maxHeartbeats 400000 in
theorem set_nil (x y : Int) (v : Bool) (w : World) :
    Calls Try.prog 57 #[.pointer none, .agg #[.int .i64 x, .int .i64 y], .bool v] w fun e w' => e = .returned (.int .i64 2) ∧ Below w.heap.size w w' := by
  go_enter Try.func57, Try.ntmps57
  go_wp2
  go_ret
  exact ⟨rfl, bl_al (bl0 _) _⟩

set_option maxHeartbeats 400000 in
theorem size_any (b h : Nat) (X Y : Int) (bs : List Nat) (w : World) (hm : MaskAt w b h X Y bs) :
    Calls Try.prog 67 #[.pointer (some ⟨b, 0, none⟩)] w fun e w' => e = .returned (.agg #[.int .i64 X, .int .i64 Y]) ∧ Below w.heap.size w w' := by
  have c0 := hm.c0
  have c1 := hm.c1
  have z0 := hm.lt.1
  clear hm
  go_enter Try.func67, Try.ntmps67
  go_wp2
  refine bodyPost_ret (v := .agg #[.int .i64 X, .int .i64 Y]) (by simp [results, Try.results67, go_sem]) rfl ⟨rfl, ?_⟩
  exact bl_al (bl0 _) _

set_option maxHeartbeats 400000 in
theorem size_nil (w : World) :
    Calls Try.prog 67 #[.pointer none] w fun e w' => e = .returned (.agg #[.int .i64 0, .int .i64 0]) ∧ Below w.heap.size w w' := by
  go_enter Try.func67, Try.ntmps67
  go_wp2
  refine bodyPost_ret (v := .agg #[.int .i64 0, .int .i64 0]) (by simp [results, Try.results67, go_sem]) rfl ⟨rfl, ?_⟩
  exact bl_al (bl0 _) _
end Go.Proofs.Ythebiibiapjdiaa

/- Package mask: New, Bytes, Clone. -/
namespace Go.Proofs.Ythebiibiapjdiaa
open Go.RowKit

set_option maxHeartbeats 1600000 in
theorem new_no (X Y : Int) (w : World) (hm : mayB X Y = false) :
    Calls Try.prog 55 #[.agg #[.int .i64 X, .int .i64 Y]] w fun e w' => e = .returned (.tuple #[.pointer none, .int .i64 10]) ∧ Below w.heap.size w w' := by
  have hA := bl0 w
  go_enter Try.func55, Try.ntmps55
  go_wp2_with (go_at_call 51; refine (may_any _ _ _).mono ?_; rintro e w' ⟨rfl, hb⟩; obtain ⟨hc, hf⟩ := bcell hb)
  go_ret2
  exact ⟨rfl, bl_tr (bl_al (bl0 _) _) hb⟩

theorem Try.infoU8 : (Try.prog.info? 5).map (fun i => (i.zero, i.size, i.bytes)) = some (some (.int .u8 0), 1, 1) := by kernel_rfl
theorem made_eq (n : Nat) (v : Value) : madeCells #[v] n = Array.replicate n v := by
  apply Array.ext
  · simp [madeCells]
  · intro i h1 h2
    simp [madeCells, Nat.mod_one]
theorem make_u8 (n : Nat) (hn : n ≤ 1048576) (w : World) : (Instr.makeSlice 118 (.int .i64 (n : Int)) (.int .i64 (n : Int))).run Try.prog w = .ok (.slice (some ⟨w.heap.size, 0, none⟩) n n) (w.alloc (.cells (Array.replicate n (Value.int .u8 0)) 5)) := by
  have := run_make_row' (P := Try.prog) 118 5 (.int .u8 0) 1 Try.underlying118 Try.infoU8 rfl .i64 .i64 n (by omega) (by omega) w
  rw [made_eq] at this
  exact this

set_option maxHeartbeats 1600000 in
theorem new_yes (X Y : Int) (w : World) (hm : mayB X Y = true) :
    Calls Try.prog 55 #[.agg #[.int .i64 X, .int .i64 Y]] w fun e w' => ∃ b h, e = .returned (.tuple #[.pointer (some ⟨b, 0, none⟩), .int .i64 0]) ∧ MaskAt w' b h X Y (List.replicate ((X * Y + 7) / 8).toNat 0) ∧ w.heap.size ≤ b ∧ w.heap.size ≤ h ∧ b ≠ h ∧ Below w.heap.size w w' := by
  obtain ⟨h1, h2, h3, h4⟩ := mayB_iff.1 hm
  obtain ⟨m1, m2⟩ : 0 ≤ X * Y ∧ X * Y ≤ 65536 := ⟨Int.mul_nonneg (by omega) (by omega), by have a : X * Y ≤ 256 * Y := Int.mul_le_mul_of_nonneg_right h2 (by omega); omega⟩
  obtain ⟨n, hn⟩ : ∃ n : Nat, (n : Int) = (X * Y + 7) / 8 := ⟨((X * Y + 7) / 8).toNat, by omega⟩
  have hmk := fun w => make_u8 n (by omega) w
  rw [hn] at hmk
  have HN := Lib.hid (show ((X * Y + 7) / 8).toNat = n by omega)
  go_enter Try.func55, Try.ntmps55
  clear hn
  go_wp2_with (go_at_call 51; refine (may_any _ _ _).mono ?_; rintro e w' ⟨rfl, hb⟩; obtain ⟨hc, hf⟩ := bcell hb)
  have c0 : w'.cell? ⟨w.heap.size, 0, none⟩ = some (.int .i64 X) := (hc _ _ (by simp)).trans (by simp [go_sem])
  have c1 : w'.cell? ⟨w.heap.size, 1, none⟩ = some (.int .i64 Y) := (hc _ _ (by simp)).trans (by simp [go_sem])
  have hbw := bl_tr (bl_al (bl0 w) _) hb
  clear hc hf hb
  have hA := bl_dr (bl0 w')
  go_region_held3 (fun w2 => w2.cell? ⟨w.heap.size, 0, none⟩ = some (.int .i64 X) ∧ w2.cell? ⟨w.heap.size, 1, none⟩ = some (.int .i64 Y))
    (first | exact ⟨cell_later hA c0, cell_later hA c1⟩ | exact ⟨cell_later (bl_al hA _) c0, cell_later (bl_al hA _) c1⟩ | exact ⟨cell_later (bl_al (bl_al hA _) _) c0, cell_later (bl_al (bl_al hA _) _) c1⟩)
    ((go_at_call 86; refine (length_any _ _ _ hm).mono ?_; rintro e W2 ⟨rfl, hb⟩; replace hA := bl_tr hA hb; clear hb))
  go_wp2
  go_ret2
  have hsz := bl_tr hbw hA
  have h9 := hsz.size
  refine ⟨W2.heap.size + 1, W2.heap.size, rfl, ?_, by omega, by omega, by omega, bl_al (bl_al hsz _) _⟩
  rw [HN.out]
  refine ⟨?_, ?_⟩
  · rw [List.length_replicate]
    have h := heap_alloc_new (W2.alloc (.cells (Array.replicate n (Value.int .u8 0)) 5)) (.cells #[.int .i64 X, .int .i64 Y, .slice (some ⟨W2.heap.size, 0, none⟩) n n] 120)
    rw [World.size_alloc] at h
    exact h
  · rw [Below.heap_alloc _ _ _ (by simp), heap_alloc_new]
    simp

end Go.Proofs.Ythebiibiapjdiaa

/- Package mask: Clone, Count, and what is told of nothing. -/
namespace Go.Proofs.Ythebiibiapjdiaa
open Go.RowKit


/-- How many bits bytes have. -/
def ones (bs : List Nat) : Nat := (bs.map Lib.onesCount).sum
theorem ones_le : ∀ bs : List Nat, IsBytes bs → ones bs ≤ 8 * bs.length
  | [], _ => by simp [ones]
  | x :: bs, h => by
    have a := Lib.onesCount_le8 ⟨x, h x (by simp)⟩
    have b := ones_le bs (fun y hy => h y (by simp [hy]))
    simp only [ones, List.map_cons, List.sum_cons, List.length_cons] at b ⊢
    simp only at a
    omega
theorem ones_succ (bs : List Nat) (k : Nat) (hk : k < bs.length) : ones (bs.take (k + 1)) = ones (bs.take k) + Lib.onesCount bs[k] := by
  rw [List.take_succ_eq_append_getElem hk]
  unfold ones
  rw [List.map_append, List.sum_append]
  simp only [List.map_cons, List.map_nil, List.sum_cons, List.sum_nil, Nat.add_zero]
theorem IsBytes.take {bs : List Nat} (h : IsBytes bs) (k : Nat) : IsBytes (bs.take k) := fun x hx => h x (List.mem_of_mem_take hx)
theorem room_arith (s c l : Nat) (h : s + c ≤ 8 * l) (hl : l ≤ 65536) : (s : Int) + (c : Int) ≤ 600000 ∧ (0 : Int) ≤ (s : Int) ∧ (0 : Int) ≤ (c : Int) := by omega
theorem ones_room (bs : List Nat) (hb : IsBytes bs) (hl : bs.length ≤ 65536) (k : Nat) (hk : k < bs.length) : (ones (bs.take k) : Int) + (Lib.onesCount bs[k] : Int) ≤ 600000 ∧ (0 : Int) ≤ (ones (bs.take k) : Int) ∧ (0 : Int) ≤ (Lib.onesCount bs[k] : Int) := by
  exact room_arith _ _ _ (Nat.le_trans (Nat.le_of_eq (ones_succ bs k hk).symm) (Nat.le_trans (ones_le _ (hb.take _)) (Nat.mul_le_mul_left 8 (List.length_take_le' _ _)))) hl
theorem ones_call (x : Nat) (hx : x < 256) (w : World) : Calls Try.prog 83 #[.int .u8 (x : Int)] w fun e w' => e = .returned (.int .i64 (Lib.onesCount x : Nat)) ∧ w = w' := by
  refine (Try.bits_OnesCount8 (x : Int) w (by omega) (by omega)).mono ?_
  rintro e w' ⟨rfl, rfl⟩
  exact ⟨rfl, rfl⟩

set_option maxHeartbeats 1600000 in
theorem count_any (b h : Nat) (X Y : Int) (bs : List Nat) (w : World) (hm : MaskAt w b h X Y bs) (hb : IsBytes bs) (hl : bs.length ≤ 65536) :
    Calls Try.prog 46 #[.pointer (some ⟨b, 0, none⟩)] w fun e w' => e = .returned (.int .i64 (ones bs : Nat)) ∧ w = w' := by
  have c2 := hm.c2
  have z0 := hm.lt.1
  have hl2 : (bs.length : Int) ≤ 65536 := by omega
  go_enter Try.func46, Try.ntmps46
  go_wp2
  go_loop [3, 13] (fun n i => ∃ k : Nat, k ≤ bs.length ∧ i = .int .i64 k ∧ n = .int .i64 (ones (bs.take k) : Nat)) (fun _ i => bs.length - (intOf i).toNat)
  case atStart => exact ⟨0, Nat.zero_le _, rfl, rfl⟩
  case round =>
    obtain ⟨k, hk, rfl, rfl⟩ := hrel
    by_cases hlt : k < bs.length
    · have q := hm.at (List.getElem?_eq_getElem hlt)
      have hx : bs[k] < 256 := hb _ (List.getElem_mem hlt)
      have hlt2 : (k : Int) < (bs.length : Int) := by omega
      have HS := Lib.hid (ones_succ bs k hlt)
      obtain ⟨hle2, hle3, hle4⟩ := ones_room bs hb hl k hlt
      go_wp2_with fail
      refine (ones_call _ hx _).mono ?_
      rintro e w' ⟨rfl, rfl⟩
      go_wp2
      go_round
      case rel => exact ⟨k + 1, by omega, by go_num, by rw [HS.out]; go_num⟩
      case measure => simp [intOf]; omega
    · obtain rfl : k = bs.length := by omega
      have ht : bs.take bs.length = bs := List.take_length
      go_wp2
      go_ret
      exact ⟨rfl, rfl⟩

theorem count_nil (w : World) : Calls Try.prog 46 #[.pointer none] w fun e w' => e = .returned (.int .i64 0) ∧ w = w' := by
  go_enter Try.func46, Try.ntmps46
  go_wp2
  go_ret
  exact ⟨rfl, rfl⟩
end Go.Proofs.Ythebiibiapjdiaa

/- Package mask: Add and Keep: two sets cut to one another. -/
namespace Go.Proofs.Ythebiibiapjdiaa
open Go.RowKit

/-- The bytes behind k rounds. -/
def cutK (f : Nat → Nat → Nat) (cs ds : List Nat) (k : Nat) : List Nat := joinB f (cs.take k) (ds.take k) ++ cs.drop k
/-- How many bits k rounds have turned. -/
def turnK (f : Nat → Nat → Nat) (cs ds : List Nat) (k : Nat) : Nat := ones (List.zipWith (fun x y => x ^^^ f x y) (cs.take k) (ds.take k))
theorem cutK_len (f : Nat → Nat → Nat) {cs ds : List Nat} (h : cs.length = ds.length) (k : Nat) : (cutK f cs ds k).length = cs.length := by
  unfold cutK
  rw [List.length_append, joinB_len _ (by simp [h])]
  simp
  omega
theorem cutK_zero (f : Nat → Nat → Nat) (cs ds : List Nat) : cutK f cs ds 0 = cs := by simp [cutK, joinB]
theorem cutK_all (f : Nat → Nat → Nat) {cs ds : List Nat} (h : cs.length = ds.length) : cutK f cs ds cs.length = joinB f cs ds := by
  unfold cutK
  rw [List.take_length, h, List.take_length, ← h, List.drop_length, List.append_nil]
theorem cutK_at (f : Nat → Nat → Nat) {cs ds : List Nat} (h : cs.length = ds.length) (k : Nat) (hk : k < cs.length) : (cutK f cs ds k)[k]? = some cs[k] := by
  unfold cutK
  have hl : (joinB f (cs.take k) (ds.take k)).length = k := by rw [joinB_len _ (by simp [h])]; simp; omega
  rw [List.getElem?_append_right (by omega), hl, Nat.sub_self, List.getElem?_drop]
  simp [hk]
theorem cutK_set (f : Nat → Nat → Nat) {cs ds : List Nat} (h : cs.length = ds.length) (k : Nat) (hk : k < cs.length) : (cutK f cs ds k).set k (f cs[k] (ds[k]'(h ▸ hk))) = cutK f cs ds (k + 1) := by
  have hl : (joinB f (cs.take k) (ds.take k)).length = k := by rw [joinB_len _ (by simp [h])]; simp; omega
  unfold cutK
  rw [List.set_append_right _ _ (by omega), hl, Nat.sub_self, List.drop_eq_getElem_cons hk, List.set_cons_zero]
  rw [List.take_succ_eq_append_getElem hk, List.take_succ_eq_append_getElem (h ▸ hk)]
  unfold joinB
  rw [List.zipWith_append (by simp [h])]
  simp
theorem turnK_zero (f : Nat → Nat → Nat) (cs ds : List Nat) : turnK f cs ds 0 = 0 := by simp [turnK, ones]
theorem turnK_succ (f : Nat → Nat → Nat) {cs ds : List Nat} (h : cs.length = ds.length) (k : Nat) (hk : k < cs.length) : turnK f cs ds (k + 1) = turnK f cs ds k + Lib.onesCount (cs[k] ^^^ f cs[k] (ds[k]'(h ▸ hk))) := by
  unfold turnK
  rw [List.take_succ_eq_append_getElem hk, List.take_succ_eq_append_getElem (h ▸ hk), List.zipWith_append (by simp [h])]
  unfold ones
  rw [List.map_append, List.sum_append]
  simp only [List.zipWith_cons_cons, List.zipWith_nil_right, List.map_cons, List.map_nil, List.sum_cons, List.sum_nil, Nat.add_zero]
theorem turnK_room (f : Nat → Nat → Nat) (hf : ∀ a b, a < 256 → b < 256 → f a b < 256) {cs ds : List Nat} (hc : IsBytes cs) (hd : IsBytes ds) (h : cs.length = ds.length) (hl : cs.length ≤ 65536) (k : Nat) (hk : k < cs.length) :
    (turnK f cs ds k : Int) + (Lib.onesCount (cs[k] ^^^ f cs[k] (ds[k]'(h ▸ hk))) : Int) ≤ 600000 ∧ (0 : Int) ≤ (turnK f cs ds k : Int) ∧ (0 : Int) ≤ (Lib.onesCount (cs[k] ^^^ f cs[k] (ds[k]'(h ▸ hk))) : Int) := by
  have hb : IsBytes (List.zipWith (fun x y => x ^^^ f x y) (cs.take (k + 1)) (ds.take (k + 1))) :=
    joinB_bytes (f := fun x y => x ^^^ f x y) (fun a b ha hb => Nat.xor_lt_two_pow (n := 8) ha (hf a b ha hb)) (hc.take _) (hd.take _)
  have hn : (List.zipWith (fun x y => x ^^^ f x y) (cs.take (k + 1)) (ds.take (k + 1))).length ≤ cs.length := by simp; omega
  exact room_arith _ _ _ (Nat.le_trans (Nat.le_of_eq (turnK_succ f h k hk).symm) (Nat.le_trans (ones_le _ hb) (Nat.mul_le_mul_left 8 hn))) hl

theorem or_call (a b : Nat) (ha : a < 256) (hb : b < 256) (w : World) : Calls Try.prog 80 #[.int .u8 (a : Int), .int .u8 (b : Int)] w fun e w' => e = .returned (.int .u8 ((a ||| b : Nat) : Int)) ∧ w = w' := by
  have h := u8_or a b ha hb
  have H := Lib.hid h
  clear h
  go_enter Try.func80, Try.ntmps80
  go_wp2
  go_ret
  exact ⟨ret_int H.out, rfl⟩

theorem MaskAt.put {W : World} {b h : Nat} {X Y : Int} {bs : List Nat} (m : MaskAt W b h X Y bs) (hne : b ≠ h) (k v : Nat) : MaskAt (W.setCell ⟨h, k, none⟩ (.int .u8 (v : Int))) b h X Y (bs.set k v) := by
  refine ⟨(Below.heap_setCell _ _ _ b (show b ≠ h from hne)).trans (by rw [List.length_set]; exact m.1), ?_⟩
  rw [heap_set_same _ _ _ _ _ _ m.2]
  simp [List.map_set]
theorem MaskAt.apart {W : World} {b h g k : Nat} {X Y : Int} {bs : List Nat} (m : MaskAt W b h X Y bs) (h1 : b ≠ g) (h2 : h ≠ g) (u : Value) : MaskAt (W.setCell ⟨g, k, none⟩ u) b h X Y bs :=
  ⟨(Below.heap_setCell _ _ _ b (show b ≠ g from h1)).trans m.1, (Below.heap_setCell _ _ _ h (show h ≠ g from h2)).trans m.2⟩

set_option maxHeartbeats 1600000 in
theorem cut_or (f : Nat → Nat → Nat) (hff : f = fun a b => a ||| b)
    (b h b2 h2 : Nat) (X Y : Int) (cs ds : List Nat) (w : World) (hm : MaskAt w b h X Y cs) (hm2 : MaskAt w b2 h2 X Y ds) (hc : IsBytes cs) (hd : IsBytes ds) (hl : cs.length = ds.length) (hl6 : cs.length ≤ 65536) (n1 : b ≠ h) (n2 : b2 ≠ h) (n3 : h2 ≠ h) :
    Calls Try.prog 79 #[.pointer (some ⟨b, 0, none⟩), .pointer (some ⟨b2, 0, none⟩), .func (.func 80) #[] #[]] w fun e w' => e = .returned (.tuple #[.int .i64 (turnK f cs ds cs.length : Nat), .int .i64 0]) ∧ MaskAt w' b h X Y (joinB f cs ds) ∧ w.grownBy w' (some h) := by
  have hf8 : ∀ a b, a < 256 → b < 256 → f a b < 256 := by subst hff; exact or_lt8
  have hf : ∀ (a b : Nat) (_ : a < 256) (_ : b < 256) (w : World), Calls Try.prog 80 #[.int .u8 (a : Int), .int .u8 (b : Int)] w fun e w' => e = .returned (.int .u8 ((f a b : Nat) : Int)) ∧ w = w' := by subst hff; exact or_call
  clear hff
  have c0 := hm.c0
  have c1 := hm.c1
  have c2 := hm.c2
  have d0 := hm2.c0
  have d1 := hm2.c1
  have z0 := hm.lt.1
  have hl2 : (cs.length : Int) ≤ 65536 := by omega
  go_enter Try.func79, Try.ntmps79
  go_wp2
  go_quiet (fail)
  go_wp2
  have hB := bl_drn w nq
  have hm' := hm.below hB
  have hm2' := hm2.below hB
  have hg' := grown_weak (grown_of_below hB) (some h)
  clear hB c0 c1 c2 d0 d1 hm hm2
  go_loopw [8, 32] (fun n i wr => ∃ k : Nat, k ≤ cs.length ∧ i = .int .i64 k ∧ n = .int .i64 (turnK f cs ds k : Nat) ∧ MaskAt wr b h X Y (cutK f cs ds k) ∧ MaskAt wr b2 h2 X Y ds ∧ w.grownBy wr (some h)) (fun _ i _ => cs.length - (intOf i).toNat)
  case atStart => exact ⟨0, Nat.zero_le _, rfl, by rw [turnK_zero]; rfl, by rw [cutK_zero]; exact hm', hm2', hg'⟩
  case round =>
    obtain ⟨k, hk, rfl, rfl, ha, hb, hgr⟩ := hrel
    have c2 := ha.c2
    have d2 := hb.c2
    rw [cutK_len f hl] at c2
    clear hm' hm2' hg'
    by_cases hlt : k < cs.length
    · have hltd : k < ds.length := hl ▸ hlt
      have q := ha.at (cutK_at f hl k hlt)
      have q2 := hb.at (List.getElem?_eq_getElem hltd)
      have fz := ha.fz (k := k)
      have hx : cs[k] < 256 := hc _ (List.getElem_mem hlt)
      have hy : ds[k] < 256 := hd _ (List.getElem_mem hltd)
      have hv := hf8 _ _ hx hy
      have hxor := u8_xor cs[k] (f cs[k] ds[k]) hx hv
      have hxb : cs[k] ^^^ f cs[k] ds[k] < 256 := Nat.xor_lt_two_pow (n := 8) hx hv
      have HS := Lib.hid (turnK_succ f hl k hlt)
      have HC := Lib.hid (cutK_set f hl k hlt)
      obtain ⟨hle2, hle3, hle4⟩ := turnK_room f hf8 hc hd hl hl6 k hlt
      have hlt2 : (k : Int) < (cs.length : Int) := by omega
      have hlt3 : (k : Int) < (ds.length : Int) := by omega
      have hk0 : (0 : Int) ≤ (k : Int) := by omega
      go_wp2_with fail
      refine (hf _ _ hx hy _).mono ?_
      rintro e w' ⟨rfl, rfl⟩
      go_wp2_with fail
      refine (ones_call _ hxb _).mono ?_
      rintro e w' ⟨rfl, rfl⟩
      go_wp2
      go_roundw
      case rel =>
        refine ⟨k + 1, by omega, by go_num, by rw [HS.out]; go_num, ?_, hb.apart n2 n3 _, grown_tr hgr (grown_set _ _ _ _)⟩
        have hp := ha.put n1 k (f cs[k] ds[k])
        rw [HC.out] at hp
        exact hp
      case measure => simp [intOf]; omega
    · obtain rfl : k = cs.length := by omega
      go_wp2
      go_ret2
      rw [cutK_all f hl] at ha
      exact ⟨rfl, ha, hgr⟩
end Go.Proofs.Ythebiibiapjdiaa

/- Sets joined and kept: how many bits there are, and the laws of both. -/
namespace Go.Proofs.Ythebiibiapjdiaa
open Go.RowKit

/-! How many bits a byte has, bit by bit -/
def b2n (b : Bool) : Nat := if b then 1 else 0
def bits8 (x : Nat) : Nat := b2n (x.testBit 0) + b2n (x.testBit 1) + b2n (x.testBit 2) + b2n (x.testBit 3) + b2n (x.testBit 4) + b2n (x.testBit 5) + b2n (x.testBit 6) + b2n (x.testBit 7)
theorem ones_bits8 : ∀ n : Fin 256, Lib.onesCount n.val = bits8 n.val := by decide +kernel
theorem ones_b (x : Nat) (h : x < 256) : Lib.onesCount x = bits8 x := ones_bits8 ⟨x, h⟩
theorem b2n_or (a b : Bool) : b2n (a || b) = b2n a + b2n (a ^^ (a || b)) := by cases a <;> cases b <;> rfl
theorem b2n_and (a b : Bool) : b2n (a && b) + b2n (a ^^ (a && b)) = b2n a := by cases a <;> cases b <;> rfl
theorem b2n_sum (a b : Bool) : b2n (a || b) + b2n (a && b) = b2n a + b2n b := by cases a <;> cases b <;> rfl
theorem ones_or (a b : Nat) (ha : a < 256) (hb : b < 256) : Lib.onesCount (a ||| b) = Lib.onesCount a + Lib.onesCount (a ^^^ (a ||| b)) := by
  rw [ones_b _ (or_lt8 a b ha hb), ones_b a ha, ones_b _ (Nat.xor_lt_two_pow (n := 8) ha (or_lt8 a b ha hb))]
  simp only [bits8, Nat.testBit_or, Nat.testBit_xor]
  rw [b2n_or (a.testBit 0), b2n_or (a.testBit 1), b2n_or (a.testBit 2), b2n_or (a.testBit 3), b2n_or (a.testBit 4), b2n_or (a.testBit 5), b2n_or (a.testBit 6), b2n_or (a.testBit 7)]
  omega
theorem ones_and (a b : Nat) (ha : a < 256) (hb : b < 256) : Lib.onesCount (a &&& b) + Lib.onesCount (a ^^^ (a &&& b)) = Lib.onesCount a := by
  rw [ones_b _ (and_lt8 a b ha hb), ones_b a ha, ones_b _ (Nat.xor_lt_two_pow (n := 8) ha (and_lt8 a b ha hb))]
  simp only [bits8, Nat.testBit_and, Nat.testBit_xor]
  rw [← b2n_and (a.testBit 0) (b.testBit 0), ← b2n_and (a.testBit 1) (b.testBit 1), ← b2n_and (a.testBit 2) (b.testBit 2), ← b2n_and (a.testBit 3) (b.testBit 3), ← b2n_and (a.testBit 4) (b.testBit 4), ← b2n_and (a.testBit 5) (b.testBit 5), ← b2n_and (a.testBit 6) (b.testBit 6), ← b2n_and (a.testBit 7) (b.testBit 7)]
  omega
theorem ones_sum (a b : Nat) (ha : a < 256) (hb : b < 256) : Lib.onesCount (a ||| b) + Lib.onesCount (a &&& b) = Lib.onesCount a + Lib.onesCount b := by
  rw [ones_b _ (or_lt8 a b ha hb), ones_b _ (and_lt8 a b ha hb), ones_b a ha, ones_b b hb]
  simp only [bits8, Nat.testBit_and, Nat.testBit_or]
  have e := fun i => b2n_sum (a.testBit i) (b.testBit i)
  have e0 := e 0; have e1 := e 1; have e2 := e 2; have e3 := e 3; have e4 := e 4; have e5 := e 5; have e6 := e 6; have e7 := e 7
  omega

theorem ones_cons (x : Nat) (bs : List Nat) : ones (x :: bs) = Lib.onesCount x + ones bs := by simp [ones]
theorem add3 {a b c d e f : Nat} (h : a = b + c) (k : d = e + f) : a + d = b + e + (c + f) := by omega
theorem join_or : ∀ (cs ds : List Nat), cs.length = ds.length → IsBytes cs → IsBytes ds → ones (joinB (fun a b => a ||| b) cs ds) = ones cs + ones (List.zipWith (fun x y => x ^^^ (x ||| y)) cs ds)
  | [], [], _, _, _ => rfl
  | c :: cs, d :: ds, h, hc, hd => by
    have ih := join_or cs ds (by simpa using h) (fun x hx => hc x (by simp [hx])) (fun x hx => hd x (by simp [hx]))
    have e := ones_or c d (hc c (by simp)) (hd d (by simp))
    unfold joinB at ih ⊢
    rw [List.zipWith_cons_cons, List.zipWith_cons_cons, ones_cons, ones_cons, ones_cons]
    exact add3 e ih
theorem join_and : ∀ (cs ds : List Nat), cs.length = ds.length → IsBytes cs → IsBytes ds → ones cs = ones (joinB (fun a b => a &&& b) cs ds) + ones (List.zipWith (fun x y => x ^^^ (x &&& y)) cs ds)
  | [], [], _, _, _ => rfl
  | c :: cs, d :: ds, h, hc, hd => by
    have ih := join_and cs ds (by simpa using h) (fun x hx => hc x (by simp [hx])) (fun x hx => hd x (by simp [hx]))
    have e := (ones_and c d (hc c (by simp)) (hd d (by simp))).symm
    unfold joinB at ih ⊢
    rw [List.zipWith_cons_cons, List.zipWith_cons_cons, ones_cons, ones_cons, ones_cons]
    exact add3 e ih
theorem add4 {a b c d e f g h : Nat} (p : a + b = c + d) (q : e + f = g + h) : a + e + (b + f) = c + g + (d + h) := by omega
theorem join_sum : ∀ (cs ds : List Nat), cs.length = ds.length → IsBytes cs → IsBytes ds → ones (joinB (fun a b => a ||| b) cs ds) + ones (joinB (fun a b => a &&& b) cs ds) = ones cs + ones ds
  | [], [], _, _, _ => rfl
  | c :: cs, d :: ds, h, hc, hd => by
    have ih := join_sum cs ds (by simpa using h) (fun x hx => hc x (by simp [hx])) (fun x hx => hd x (by simp [hx]))
    have e := ones_sum c d (hc c (by simp)) (hd d (by simp))
    unfold joinB at ih ⊢
    rw [List.zipWith_cons_cons, List.zipWith_cons_cons, ones_cons, ones_cons, ones_cons, ones_cons]
    exact add4 e ih
theorem turnK_full (f : Nat → Nat → Nat) {cs ds : List Nat} (h : cs.length = ds.length) : turnK f cs ds cs.length = ones (List.zipWith (fun x y => x ^^^ f x y) cs ds) := by
  unfold turnK
  rw [List.take_length, h, List.take_length]

/-! The laws -/
theorem jext {cs ds : List Nat} (hl : cs.length = ds.length) (h : ∀ i (h1 : i < cs.length) (h2 : i < ds.length), cs[i] = ds[i]) : cs = ds := List.ext_getElem hl h
theorem or_comm_b {cs ds : List Nat} (h : cs.length = ds.length) : joinB (fun a b => a ||| b) cs ds = joinB (fun a b => a ||| b) ds cs :=
  jext (by simp [joinB, h]) fun i _ _ => by simp only [joinB, List.getElem_zipWith]; exact Nat.or_comm _ _
theorem and_comm_b {cs ds : List Nat} (h : cs.length = ds.length) : joinB (fun a b => a &&& b) cs ds = joinB (fun a b => a &&& b) ds cs :=
  jext (by simp [joinB, h]) fun i _ _ => by simp only [joinB, List.getElem_zipWith]; exact Nat.and_comm _ _
theorem or_assoc_b (cs ds es : List Nat) : joinB (fun a b => a ||| b) (joinB (fun a b => a ||| b) cs ds) es = joinB (fun a b => a ||| b) cs (joinB (fun a b => a ||| b) ds es) :=
  jext (by simp [joinB, Nat.min_assoc]) fun i _ _ => by simp [joinB, Nat.or_assoc]
theorem and_assoc_b (cs ds es : List Nat) : joinB (fun a b => a &&& b) (joinB (fun a b => a &&& b) cs ds) es = joinB (fun a b => a &&& b) cs (joinB (fun a b => a &&& b) ds es) :=
  jext (by simp [joinB, Nat.min_assoc]) fun i _ _ => by simp [joinB, Nat.and_assoc]
theorem and_or_b (cs ds es : List Nat) (_ : cs.length = ds.length) (_ : cs.length = es.length) : joinB (fun a b => a &&& b) cs (joinB (fun a b => a ||| b) ds es) = joinB (fun a b => a ||| b) (joinB (fun a b => a &&& b) cs ds) (joinB (fun a b => a &&& b) cs es) :=
  jext (by simp [joinB]; omega) fun i _ _ => by simp [joinB, Nat.and_or_distrib_left]
theorem absorb_b {cs ds : List Nat} (h : cs.length = ds.length) : joinB (fun a b => a ||| b) cs (joinB (fun a b => a &&& b) cs ds) = cs :=
  jext (by simp [joinB, h]) fun i _ _ => by
    simp only [joinB, List.getElem_zipWith]
    apply Nat.eq_of_testBit_eq
    intro j
    rw [Nat.testBit_or, Nat.testBit_and]
    cases cs[i].testBit j <;> rfl
theorem Good.or {X Y : Int} {cs ds : List Nat} (gc : Good X Y cs) (gd : Good X Y ds) : Good X Y (joinB (fun a b => a ||| b) cs ds) := by
  have hl : cs.length = ds.length := by have := gc.2.1; have := gd.2.1; omega
  exact ⟨gc.1, by rw [joinB_len _ hl]; exact gc.2.1, joinB_bytes or_lt8 gc.2.2.1 gd.2.2.1, fun i hi => by rw [bitAt_or hl, gc.2.2.2 i hi, gd.2.2.2 i hi]; rfl⟩
theorem Good.and {X Y : Int} {cs ds : List Nat} (gc : Good X Y cs) (gd : Good X Y ds) : Good X Y (joinB (fun a b => a &&& b) cs ds) := by
  have hl : cs.length = ds.length := by have := gc.2.1; have := gd.2.1; omega
  exact ⟨gc.1, by rw [joinB_len _ hl]; exact gc.2.1, joinB_bytes and_lt8 gc.2.2.1 gd.2.2.1, fun i hi => by rw [bitAt_and hl, gc.2.2.2 i hi, gd.2.2.2 i hi]; rfl⟩
theorem Good.len {X Y : Int} {cs ds : List Nat} (gc : Good X Y cs) (gd : Good X Y ds) : cs.length = ds.length := by have := gc.2.1; have := gd.2.1; omega
end Go.Proofs.Ythebiibiapjdiaa

/- The numbers of a set's cells: the mathematics. -/
namespace Go.Proofs.Ythebiibiapjdiaa
open Go.RowKit

/-- The bits of a byte, the lowest first. -/
def bl (x : Nat) : List Nat := (List.range 8).filter (fun i => x.testBit i)
theorem bl_zero : bl 0 = [] := by decide
theorem bl_steps : ∀ n : Fin 256, n.val = 0 ∨ (bl n.val = Lib.trailingZeros8 n.val :: bl (n.val &&& (n.val - 1)) ∧ (n.val &&& (n.val - 1)) < n.val ∧ Lib.trailingZeros8 n.val < 8) := by decide +kernel
theorem bl_step (x : Nat) (h : x < 256) (h0 : x ≠ 0) : bl x = Lib.trailingZeros8 x :: bl (x &&& (x - 1)) ∧ (x &&& (x - 1)) < x ∧ Lib.trailingZeros8 x < 8 := by
  rcases bl_steps ⟨x, h⟩ with h1 | h1
  · exact absurd h1 h0
  · exact h1
/-- The numbers that the first k bytes tell. -/
def numOf (k i : Nat) : Int := (k : Int) * 8 + (i : Int)
def numsTo (bs : List Nat) (k : Nat) : List Int := (List.range k).flatMap (fun j => (bl (bs.getD j 0)).map (numOf j))
theorem numsTo_zero (bs : List Nat) : numsTo bs 0 = [] := rfl
theorem numsTo_succ (bs : List Nat) (k : Nat) : numsTo bs (k + 1) = numsTo bs k ++ (bl (bs.getD k 0)).map (numOf k) := by simp [numsTo, List.range_succ, List.flatMap_append]
theorem numsTo_prefix (bs : List Nat) {k m : Nat} (h : k ≤ m) : numsTo bs k <+: numsTo bs m := by
  induction m with
  | zero => obtain rfl : k = 0 := by omega
            exact List.prefix_refl _
  | succ m ih =>
    by_cases hk : k ≤ m
    · exact (ih hk).trans ⟨_, (numsTo_succ bs m).symm⟩
    · obtain rfl : k = m + 1 := by omega
      exact List.prefix_refl _
def numsOf (bs : List Nat) : List Int := numsTo bs bs.length
theorem part_prefix (bs : List Nat) (k : Nat) (hk : k < bs.length) (d r : List Nat) (h : bl (bs.getD k 0) = d ++ r) : numsTo bs k ++ d.map (numOf k) <+: numsOf bs := by
  have h1 : numsTo bs k ++ d.map (numOf k) <+: numsTo bs (k + 1) := by
    rw [numsTo_succ, h, List.map_append, ← List.append_assoc]
    exact ⟨_, rfl⟩
  exact h1.trans (numsTo_prefix bs hk)
theorem part_lt (bs : List Nat) (k : Nat) (hk : k < bs.length) (d r : List Nat) (z : Nat) (h : bl (bs.getD k 0) = d ++ z :: r) : (numsTo bs k ++ d.map (numOf k)).length < (numsOf bs).length := by
  have h1 := (part_prefix bs k hk (d ++ [z]) r (by rw [h]; simp)).length_le
  simp at h1 ⊢
  omega
theorem tz_call (x : Nat) (hx : x < 256) (w : World) : Calls Try.prog 104 #[.int .u8 (x : Int)] w fun e w' => e = .returned (.int .i64 (Lib.trailingZeros8 x : Nat)) ∧ w = w' := by
  refine (Try.bits_TrailingZeros8 (x : Int) w (by omega) (by omega)).mono ?_
  rintro e w' ⟨rfl, rfl⟩
  exact ⟨rfl, rfl⟩
end Go.Proofs.Ythebiibiapjdiaa

/- The numbers of a set's cells, as an iterator: its contract. -/
namespace Go.Proofs.Ythebiibiapjdiaa
open Go.RowKit Go.Shelf
attribute [local go_sem] Oper.semAt_some

/-- Three blocks lie as they lay: a pointer's box, a set, its bytes. -/
def Keep3 (p b h : Nat) (A B : World) : Prop := B.heap[p]? = A.heap[p]? ∧ B.heap[b]? = A.heap[b]? ∧ B.heap[h]? = A.heap[h]?
theorem Keep3.refl (p b h : Nat) (A : World) : Keep3 p b h A A := ⟨rfl, rfl, rfl⟩
theorem Keep3.trans {p b h : Nat} {A B C : World} (x : Keep3 p b h A B) (y : Keep3 p b h B C) : Keep3 p b h A C := ⟨y.1.trans x.1, y.2.1.trans x.2.1, y.2.2.trans x.2.2⟩
/-- A pointer to a set in a box of its own. -/
def SetAt (W : World) (p b h : Nat) (X Y : Int) (bs : List Nat) : Prop := W.cell? ⟨p, 0, none⟩ = some (.pointer (some ⟨b, 0, none⟩)) ∧ MaskAt W b h X Y bs
theorem SetAt.kept {W W' : World} {p b h : Nat} {X Y : Int} {bs : List Nat} (s : SetAt W p b h X Y bs) (k : Keep3 p b h W W') : SetAt W' p b h X Y bs :=
  ⟨(World.cell?_of_block (a := ⟨p, 0, none⟩) k.1).trans s.1, k.2.1.trans s.2.1, k.2.2.trans s.2.2⟩

set_option maxRecDepth 100000 in
set_option maxHeartbeats 4000000 in
theorem nums1_in (n l p b h : Nat) (X Y : Int) (bs : List Nat) (J Jx : List Int → World → Prop) (W : World) (hbs : IsBytes bs) (hl : bs.length ≤ 65536)
    (hY : ∀ pre x W1, J pre W1 → pre.length < (numsOf bs).length → YieldAt Fence.wide (n - 1) Try.prog l #[.int .i64 x] W1 fun e W' =>
      (e = .returned (.bool true) ∧ J (pre ++ [x]) W' ∧ Keep3 p b h W1 W') ∨ (e = .returned (.bool false) ∧ Jx (pre ++ [x]) W'))
    (hs : SetAt W p b h X Y bs) (h0 : J [] W) :
    CallsIn Fence.wide n Try.prog 103 #[.func (.yield l) #[] #[], .pointer (some ⟨p, 0, none⟩)] W fun e W' => (∃ v, e = .returned v) ∧
      (J (numsOf bs) W' ∨ ∃ q, q <+: numsOf bs ∧ Jx q W') := by
  have c0 := hs.1
  have c2 := hs.2.c2
  have hl2 : (bs.length : Int) ≤ 65536 := by omega
  refine callsIn_of_wp Try.func103 rfl trivial ?_ rfl
  simp only [Try.ntmps103, List.size_toArray, List.length_cons, List.length_nil, Nat.reduceAdd, Nat.reduceSub, Array.replicate_succ, Array.replicate_zero, List.push_toArray, List.append_toArray, List.nil_append, List.cons_append]
  gi_wp2
  gi_loopw [12] (fun i wr => ∃ k : Nat, k ≤ bs.length ∧ i = .int .i64 k ∧ J (numsTo bs k) wr ∧ SetAt wr p b h X Y bs) (fun i _ => bs.length - (intOf i).toNat)
  case atStart => exact ⟨0, Nat.zero_le _, rfl, h0, hs⟩
  case round =>
    obtain ⟨k, hk, rfl, hJ, hsr⟩ := hrel
    clear c0 c2
    by_cases hlt : k < bs.length
    · have hlt2 : (k : Int) < (bs.length : Int) := by omega
      have hk0 : (0 : Int) ≤ (k : Int) := by omega
      have q := hsr.2.at (List.getElem?_eq_getElem hlt)
      have hx : bs[k] < 256 := hbs _ (List.getElem_mem hlt)
      have hgd : bs.getD k 0 = bs[k] := by simp [List.getD_eq_getElem?_getD, hlt]
      have HG := Lib.hid hgd
      clear hgd
      gi_wp2
      gi_loopw [4] (fun v wx => ∃ d c, bl (bs.getD k 0) = d ++ bl c ∧ c < 256 ∧ v = .int .u8 (c : Nat) ∧ J (numsTo bs k ++ d.map (numOf k)) wx ∧ SetAt wx p b h X Y bs) (fun v _ => (intOf v).toNat)
      case atStart => exact ⟨[], bs[k], by rw [HG.out]; rfl, hx, rfl, by rw [List.map_nil, List.append_nil]; exact hJ, hsr⟩
      case round =>
        obtain ⟨d, c, hdc, hc, rfl, hJd, hsx⟩ := hrel
        clear hJ hsr q
        by_cases hc0 : c = 0
        · subst hc0
          gi_wp2
          go_roundw
          case rel => exact ⟨k + 1, by omega, by go_num, by rw [numsTo_succ, hdc, bl_zero, List.append_nil]; exact hJd, hsx⟩
          case measure => simp [intOf]; omega
        · have hc1 : (c : Int) ≠ 0 := by omega
          obtain ⟨s1, s2, s3⟩ := bl_step c hc hc0
          have hlen := part_lt bs k hlt d _ _ (hdc.trans (congrArg (d ++ ·) s1))
          have hdc2 : bl (bs.getD k 0) = (d ++ [Lib.trailingZeros8 c]) ++ bl (c &&& (c - 1)) := by rw [hdc, s1]; simp
          have hm2 : numsTo bs k ++ d.map (numOf k) ++ [numOf k (Lib.trailingZeros8 c)] = numsTo bs k ++ (d ++ [Lib.trailingZeros8 c]).map (numOf k) := by simp
          have hpre := part_prefix bs k hlt _ _ hdc2
          rw [← hm2] at hpre
          have hb1 : (c : Int) - 1 = ((c - 1 : Nat) : Int) := by omega
          have hband := u8_and c (c - 1) hc (by omega)
          have H8 := Lib.hid hband
          clear hband
          obtain ⟨fn, tmps, assign, body, hy, hR⟩ := hY _ (numOf k (Lib.trailingZeros8 c)) wr hJd hlen
          have s3' : ((Lib.trailingZeros8 c : Nat) : Int) < 8 := by omega
          have s4' : (0 : Int) ≤ ((Lib.trailingZeros8 c : Nat) : Int) := Int.natCast_nonneg _
          have hc2 : (1 : Int) ≤ (c : Int) := by omega
          have hc3 : (c : Int) < 256 := by omega
          generalize ht : Lib.trailingZeros8 c = t at *
          unfold numOf at hy
          have H1 := Lib.hid hdc
          have H2 := Lib.hid hdc2
          have H3 := Lib.hid hm2
          have H4 := Lib.hid hpre
          have H5 := Lib.hid hlen
          have H6 := Lib.hid s1
          have H7 := Lib.hid s2
          clear hdc hdc2 hm2 hpre hlen s1 s2
          gi_wp2_with fail
          refine ⟨trivial, (fun h => by cases h), ?_⟩
          refine (callsIn_wide.2 (tz_call c hc _)).mono ?_
          rintro e W1 ⟨rfl, rfl⟩
          rw [ht]
          gi_wp2
          refine ⟨(fun h => by cases h), hR.mono ?_⟩
          rintro e W3 (⟨rfl, hJ3, hk3⟩ | ⟨rfl, hJx3⟩)
          · gi_wp2
            go_roundw
            case rel => exact ⟨_, _, H2.out, Nat.lt_of_lt_of_le H7.out (by omega), by rw [H8.out], by rw [← H3.out]; exact hJ3, hsx.kept hk3⟩
            case measure =>
              rw [H8.out]
              show (((c &&& (c - 1) : Nat) : Int)).toNat < ((c : Nat) : Int).toNat
              rw [Int.toNat_natCast, Int.toNat_natCast]
              exact H7.out
          · gi_wp2
            refine bodyPost_ret (results_none rfl _ _ _) rfl ?_
            exact ⟨⟨_, rfl⟩, .inr ⟨_, H4.out, hJx3⟩⟩
    · obtain rfl : k = bs.length := by omega
      gi_wp2
      go_end0
      exact ⟨⟨_, rfl⟩, .inl hJ⟩
end Go.Proofs.Ythebiibiapjdiaa

/- Package geom: the contract of At outside a map, and anywhere. -/
namespace Go.Proofs.Ythebiibiapjdiaa
open Go.RowKit

set_option maxHeartbeats 400000 in
theorem at_no (W H i : Int) (w : World) (hi : atB W H i = false) :
    Calls Try.prog 24 #[.agg #[.int .i64 W, .int .i64 H], .int .i64 i] w fun e w' => e = .returned (.tuple #[.agg #[.int .i64 0, .int .i64 0], .int .i64 10]) ∧ Below w.heap.size w w' := by
  have hi' : ¬ (1 ≤ W ∧ W ≤ 256 ∧ 1 ≤ H ∧ H ≤ 256 ∧ 0 ≤ i ∧ i < W * H) := by simpa [atB] using hi
  cases hm : mayB W H
  · go_enter Try.func24, Try.ntmps24
    go_wp2_with (go_at_call 51; refine (may_any _ _ _).mono ?_; rintro e w' ⟨rfl, hb⟩; obtain ⟨hc, hf⟩ := bcell hb)
    have q0 : w'.cell? ⟨w.heap.size + 1, 0, none⟩ = some (.int .i64 0) := (hc _ _ (by simp)).trans (by simp [go_sem])
    have q1 : w'.cell? ⟨w.heap.size + 1, 1, none⟩ = some (.int .i64 0) := (hc _ _ (by simp)).trans (by simp [go_sem])
    clear hc hf
    refine bodyPost_ret (v := .tuple #[.agg #[.int .i64 0, .int .i64 0], .int .i64 10]) (by simp [results, Try.results24, go_sem, q0, q1]) rfl ⟨rfl, ?_⟩
    exact bl_st (bl_st (bl_tr (bl_al (bl_al (bl0 _) _) _) hb) (by omega) _) (by omega) _
  · obtain ⟨h1, h2, h3, h4⟩ := mayB_iff.1 hm
    obtain ⟨m1, m2⟩ : 0 ≤ W * H ∧ W * H ≤ 65536 := ⟨Int.mul_nonneg (by omega) (by omega), by have a : W * H ≤ 256 * H := Int.mul_le_mul_of_nonneg_right h2 (by omega); omega⟩
    have hj : i < 0 ∨ W * H ≤ i := by omega
    clear hi'
    by_cases hl : i < 0
    all_goals
      go_enter Try.func24, Try.ntmps24
      go_wp2_with (go_at_call 51; refine (may_any _ _ _).mono ?_; rintro e w' ⟨rfl, hb⟩; obtain ⟨hc, hf⟩ := bcell hb)
      have q0 : w'.cell? ⟨w.heap.size + 1, 0, none⟩ = some (.int .i64 0) := (hc _ _ (by simp)).trans (by simp [go_sem])
      have q1 : w'.cell? ⟨w.heap.size + 1, 1, none⟩ = some (.int .i64 0) := (hc _ _ (by simp)).trans (by simp [go_sem])
      clear hc hf
      refine bodyPost_ret (v := .tuple #[.agg #[.int .i64 0, .int .i64 0], .int .i64 10]) (by simp [results, Try.results24, go_sem, q0, q1]) rfl ⟨rfl, ?_⟩
      exact bl_st (bl_st (bl_tr (bl_al (bl_al (bl0 _) _) _) hb) (by omega) _) (by omega) _

/-- The cell that At answers. -/
def cellAt (X Y i : Int) : Int × Int := if atB X Y i = true then (i % X, i / X) else (0, 0)
theorem at_any (X Y i : Int) (w : World) : Calls Try.prog 24 #[.agg #[.int .i64 X, .int .i64 Y], .int .i64 i] w fun e w' =>
    ∃ r : Int, e = .returned (.tuple #[.agg #[.int .i64 (cellAt X Y i).1, .int .i64 (cellAt X Y i).2], .int .i64 r]) ∧ Below w.heap.size w w' := by
  cases h : atB X Y i
  · refine (at_no X Y i w h).mono ?_
    rintro e w' ⟨rfl, hb⟩
    exact ⟨10, by simp [cellAt, h], hb⟩
  · refine (at_yes X Y i w h).mono ?_
    rintro e w' ⟨rfl, hb⟩
    exact ⟨0, by simp [cellAt, h], hb⟩
end Go.Proofs.Ythebiibiapjdiaa

/- The cells of a set, as an iterator: its contract, for whoever keeps what the iterator laid. -/
namespace Go.Proofs.Ythebiibiapjdiaa
open Go.RowKit Go.Shelf
attribute [local go_sem] Oper.semAt_some

set_option maxHeartbeats 1000000 in
theorem numbers_in (n : Nat) (v : Option Addr) (w : World) :
    CallsIn Fence.wide n Try.prog 91 #[.pointer v] w fun e w' => e = .returned (.func (.func 103) #[] #[.pointer (some ⟨w.heap.size, 0, none⟩)]) ∧ w' = w.alloc (.cells #[.pointer v] 30) := by
  refine callsIn_of_wp Try.func91 rfl trivial ?_ rfl
  simp only [Try.ntmps91, List.size_toArray, List.length_cons, List.length_nil, Nat.reduceAdd, Nat.reduceSub, Array.replicate_succ, Array.replicate_zero, List.push_toArray, List.append_toArray, List.nil_append, List.cons_append]
  gi_wp2
  go_ret
  exact ⟨rfl, rfl⟩
set_option maxHeartbeats 1000000 in
theorem mcells_in (n : Nat) (v : Option Addr) (w : World) :
    CallsIn Fence.wide n Try.prog 62 #[.pointer v] w fun e w' => e = .returned (.func (.func 90) #[] #[.pointer (some ⟨w.heap.size, 0, none⟩)]) ∧ w' = w.alloc (.cells #[.pointer v] 30) := by
  refine callsIn_of_wp Try.func62 rfl trivial ?_ rfl
  simp only [Try.ntmps62, List.size_toArray, List.length_cons, List.length_nil, Nat.reduceAdd, Nat.reduceSub, Array.replicate_succ, Array.replicate_zero, List.push_toArray, List.append_toArray, List.nil_append, List.cons_append]
  gi_wp2
  go_ret
  exact ⟨rfl, rfl⟩

theorem SetAt.below {W W' : World} {p b h : Nat} {X Y : Int} {bs : List Nat} (s : SetAt W p b h X Y bs) (hb : Below W.heap.size W W') : SetAt W' p b h X Y bs := ⟨cell_later hb s.1, s.2.below hb⟩
theorem SetAt.lt {W : World} {p b h : Nat} {X Y : Int} {bs : List Nat} (s : SetAt W p b h X Y bs) : p < W.heap.size ∧ b < W.heap.size ∧ h < W.heap.size := ⟨blk_lt s.1, s.2.lt.1, s.2.lt.2⟩
theorem setAt_own {α : Type} (p b h : Nat) (X Y : Int) (bs : List Nat) : Own (fun (_ : α) W => SetAt W p b h X Y bs) := fun _ W W' row hs hg hr =>
  ⟨cell_kept hs.1 hg hr, hs.2.kept hg (fun e => by obtain ⟨o, h1, h2⟩ := hr _ e.symm; rw [hs.2.1] at h1; cases h1; simp [Obj.isCells] at h2) (fun e => by obtain ⟨o, h1, h2⟩ := hr _ e.symm; rw [hs.2.2] at h1; cases h1; simp [Obj.isCells] at h2)⟩

/-- **The numbers of a set hand back a value that 'SeqStopsK'**. -/
theorem nums_stops (n p b h : Nat) (X Y : Int) (bs : List Nat) (hbs : IsBytes bs) (hl : bs.length ≤ 65536) (w : World) (hs : SetAt w p b h X Y bs) :
    SeqStopsK Fence.wide n Try.prog 103 #[.pointer (some ⟨p, 0, none⟩)] (fun x : Int => #[Value.int .i64 x]) (Keep3 p b h) (fun ys => ys = numsOf bs) (fun pre => pre <+: numsOf bs) (numsOf bs).length w := fun l J Jx W hW _ _ hY h0 => by
  refine (nums1_in n l p b h X Y bs J Jx W hbs hl hY ((hs.below hW)) h0).mono ?_
  rintro e W' ⟨he, hj | ⟨q, hq, hj⟩⟩
  · exact ⟨he, .inl ⟨_, rfl, hj⟩⟩
  · exact ⟨he, .inr ⟨_, hq, hj⟩⟩

/-- Three blocks, and c blocks from n on, lie as they lay, and whatever from n on is no cells. -/
def KeptM (p b h n c : Nat) (A B : World) : Prop := A.heap.size ≤ B.heap.size ∧ (∀ k, (k = p ∨ k = b ∨ k = h ∨ (n ≤ k ∧ k < n + c)) → k < A.heap.size → B.heap[k]? = A.heap[k]?) ∧ (∀ (k : Nat) (o : Obj), n ≤ k → A.heap[k]? = some o → o.isCells = false → B.heap[k]? = some o)
theorem KeptM.refl (p b h n c : Nat) (A : World) : KeptM p b h n c A A := ⟨Nat.le_refl _, fun _ _ _ => rfl, fun _ _ _ ho _ => ho⟩
theorem KeptM.trans {p b h n c : Nat} {A B C : World} (x : KeptM p b h n c A B) (k : KeptM p b h n c B C) : KeptM p b h n c A C :=
  ⟨Nat.le_trans x.1 k.1, fun i hi hl => (k.2.1 i hi (Nat.lt_of_lt_of_le hl x.1)).trans (x.2.1 i hi hl), fun i o hi ho hc => k.2.2 i o hi (x.2.2 i o hi ho hc) hc⟩
theorem KeptM.from {p b h n c B : Nat} {A C : World} (x : KeptM p b h n c A C) (hB : n ≤ B) : KeepsFrom B A C :=
  ⟨x.1, fun k o hk ho hc => x.2.2 k o (by omega) ho hc⟩
theorem KeptM.of_below {p b h n c : Nat} {A B : World} (hb : Below A.heap.size A B) : KeptM p b h n c A B := ⟨hb.size, fun k _ hl => hb.block k hl, fun k _ _ ho _ => (hb.block k (Array.getElem?_eq_some_iff.1 ho).1).trans ho⟩
theorem KeptM.set {p b h n c : Nat} {A B : World} {X Y : Int} {bs : List Nat} (x : KeptM p b h n c A B) (s : SetAt A p b h X Y bs) : SetAt B p b h X Y bs :=
  s.kept ⟨x.2.1 p (.inl rfl) s.lt.1, x.2.1 b (.inr (.inl rfl)) s.lt.2.1, x.2.1 h (.inr (.inr (.inl rfl))) s.lt.2.2⟩
theorem KeptM.cell {p b h n c k o : Nat} {A B : World} {v : Value} (x : KeptM p b h n c A B) (hk : n ≤ k) (hk2 : k < n + c) (q : A.cell? ⟨k, o, none⟩ = some v) : B.cell? ⟨k, o, none⟩ = some v :=
  (World.cell?_of_block (a := ⟨k, o, none⟩) (x.2.1 k (.inr (.inr (.inr ⟨hk, hk2⟩))) (blk_lt q))).trans q

theorem mYieldAt_any {m : Nat} (m' : Nat) {P : Program} {l : Nat} {args : Array Value} {W : World} {R : Ending → World → Prop} (x : YieldAt Fence.wide m P l args W R) : YieldAt Fence.wide m' P l args W R := by
  obtain ⟨fn, tmps, assign, body, hy, hR⟩ := x
  exact ⟨fn, tmps, assign, body, hy, ⟨hR.1, fun c cs _ => hR.2 c cs (room_wide _)⟩⟩
theorem mRoundIn_in {F : Fence} (l' : Nat) {m : Nat} {P : Program} {l : Nat} {f : FuncId} {tmps : Array Value} {assign body : Code} {w : World} {R : Ending → World → Prop}
    (x : RoundIn F m P l f tmps assign body w R) : RoundIn (F.inRound l') m P l f tmps assign body w R := x

set_option maxRecDepth 100000 in
set_option maxHeartbeats 4000000 in
theorem mcells1_in (l p b h : Nat) (X Y : Int) (bs : List Nat) (hbs : IsBytes bs) (hl : bs.length ≤ 65536) (J Jx : List (Int × Int) → World → Prop) (W : World) (hJ : OwnFrom W.heap.size J) (hJx : OwnFrom W.heap.size Jx)
    (hY : ∀ pre c W1, J pre W1 → W.heap.size + 2 ≤ W1.heap.size → pre.length < (numsOf bs).length → (∃ i, c = cellAt X Y i) → YieldAt Fence.wide 0 Try.prog l #[.agg #[.int .i64 c.1, .int .i64 c.2]] W1 fun e W' =>
      (e = .returned (.bool true) ∧ J (pre ++ [c]) W' ∧ KeptM p b h W.heap.size 2 W1 W') ∨ (e = .returned (.bool false) ∧ Jx (pre ++ [c]) W' ∧ KeptM p b h W.heap.size 2 W1 W'))
    (hs : SetAt W p b h X Y bs) (h0 : J [] W) :
    CallsIn Fence.wide 10 Try.prog 90 #[.func (.yield l) #[] #[], .pointer (some ⟨p, 0, none⟩)] W fun e W' => (∃ v, e = .returned v) ∧
      (J ((numsOf bs).map (cellAt X Y)) W' ∨ ∃ q, q <+: (numsOf bs).map (cellAt X Y) ∧ Jx q W') := by
  obtain ⟨hlp, hlb, hlh⟩ := hs.lt
  have s0 := hs.1
  refine callsIn_of_wp_marks Try.func90 rfl trivial ?_ rfl
  simp only [Try.ntmps90, List.size_toArray, List.length_cons, List.length_nil, Nat.reduceAdd, Nat.reduceSub, Array.replicate_succ, Array.replicate_zero, List.push_toArray, List.append_toArray, List.nil_append, List.cons_append]
  gi_wp2_with fail
  refine ⟨trivial, (numbers_in _ _ _).mono ?_⟩
  rintro e w1 ⟨rfl, rfl⟩
  gi_wp2_with fail
  obtain ⟨W0, hW0⟩ : ∃ W0, (W.alloc (.cells #[.func (.yield l) #[] #[]] 48)).alloc (.cells #[.pointer (some ⟨b, 0, none⟩)] 30) = W0 := ⟨_, rfl⟩
  have hz : W0.heap.size = W.heap.size + 2 := by rw [← hW0]; simp
  have hk0 : Below W.heap.size W W0 := by rw [← hW0]; exact bl_al (bl_al (bl0 _) _) _
  have y0 : W0.cell? ⟨W.heap.size, 0, none⟩ = some (.func (.yield l) #[] #[]) := by rw [← hW0]; simp [go_sem]
  have hs0 : SetAt W0 p b h X Y bs := hs.below hk0
  have hR : SetAt W0 (W.heap.size + 1) b h X Y bs := ⟨by rw [← hW0]; simp [go_sem], hs0.2⟩
  have hJ0 : J [] W0 := hJ [] W W0 none h0 (grown_of_below hk0) (fun r e => by cases e)
  rw [hW0]
  clear hW0
  refine wpIn_rangeFunc_ownG rfl (by decide) (gf := 103) (lb := #[.pointer (some ⟨W.heap.size + 1, 0, none⟩)]) rfl trivial (enters_of Try.func103 (by kernel_rfl) rfl)
    (nums_stops _ (W.heap.size + 1) b h X Y bs hbs hl W0 hR) (fun x k => x.trans k) (fun W' l' o o' hl ho hc _ => ?_) (Below.refl _ _) (fun _ => rfl)
    (fun pre W' => (J (pre.map (cellAt X Y)) W' ∧ SetAt W' p b h X Y bs) ∧ W'.cell? ⟨W.heap.size, 0, none⟩ = some (.func (.yield l) #[] #[]) ∧ SetAt W' (W.heap.size + 1) b h X Y bs)
    (fun c pre W' => c = .ret ∧ Jx (pre.map (cellAt X Y)) W')
    (fun s A B row hs hg hr => ⟨⟨hJ _ A B row hs.1.1 hg (fun r e => by obtain ⟨h1, h2⟩ := hr r e; exact ⟨by omega, h2⟩), setAt_own p b h X Y bs s A B row hs.1.2 hg (fun r e => (hr r e).2)⟩, cell_kept hs.2.1 hg (fun r e => (hr r e).2), setAt_own _ b h X Y bs s A B row hs.2.2 hg (fun r e => (hr r e).2)⟩)
    (fun c s A B row hs hg hr => ⟨hs.1, hJx _ A B row hs.2 hg (fun r e => by obtain ⟨h1, h2⟩ := hr r e; exact ⟨by omega, h2⟩)⟩)
    ⟨⟨hJ0, hs0⟩, y0, hR⟩
    (fun x => { tmps := #[.func (.yield l) #[] #[], .pointer (some ⟨p, 0, none⟩), .pointer (some ⟨W.heap.size, 0, none⟩), .int .i64 x, undef, undef, .pointer (some ⟨b, 0, none⟩), .func (.func 103) #[] #[.pointer (some ⟨W.heap.size + 1, 0, none⟩)], .int .i64 x, undef, undef, undef, undef, undef, undef, undef, undef, undef, undef, undef, undef, undef], defers := [] })
    ?assign ?body ?done ?stop
  · exact ⟨World.putObj_heap_other (by omega), World.putObj_heap_other (by omega), World.putObj_heap_other (by omega)⟩
  case assign =>
    intro l' x W' K hK
    gi_wp2
    exact hK
  case body =>
    rintro l' pre x W' ⟨⟨hj, hsp⟩, y1, hrow⟩ hlen
    have c0 := hsp.2.c0
    have c1 := hsp.2.c1
    have c2 := hsp.1
    clear s0 y0
    gi_wp2_with fail
    refine ⟨trivial, (CallsIn.inRound l' (callsIn_wide.2 (at_any _ _ _ _))).mono ?_⟩
    rintro e W2 ⟨r, rfl, hb2⟩
    have hk2 : KeptM p b h W.heap.size 2 W' W2 := KeptM.of_below hb2
    have hj2 : J (pre.map (cellAt X Y)) W2 := hJ _ W' W2 none hj (grown_of_below hb2) (fun r e => by cases e)
    have hrl := hrow.lt
    replace hsp := hsp.below hb2
    replace hrow := hrow.below hb2
    replace y1 := cell_later hb2 y1
    have hyl := blk_lt y1
    have hyl2 : W.heap.size < W2.heap.size + 1 := by omega
    have hx3 : cellAt X Y x = cellAt X Y x := rfl
    clear hj c0 c1 c2
    have hk3 : Below W2.heap.size W2 (W2.alloc (.cells #[.int .i64 (cellAt X Y x).1, .int .i64 (cellAt X Y x).2] 37)) := bl_al (bl0 _) _
    obtain ⟨fn, tmps, assign, body, hy, hR⟩ := mYieldAt_any 7 (hY _ (cellAt X Y x) (W2.alloc (.cells #[.int .i64 (cellAt X Y x).1, .int .i64 (cellAt X Y x).2] 37)) (hJ _ W2 _ none hj2 (grown_of_below hk3) (fun r e => by cases e)) (by rw [World.size_alloc]; have := hrl.1; omega) (by rw [List.length_map]; exact hlen) ⟨x, rfl⟩)
    have hsp3 := hsp.below hk3
    have hrow3 := hrow.below hk3
    have y3 := cell_later hk3 y1
    have hk4 : KeptM p b h W.heap.size 2 W' (W2.alloc (.cells #[.int .i64 (cellAt X Y x).1, .int .i64 (cellAt X Y x).2] 37)) := hk2.trans (KeptM.of_below hk3)
    have hm : pre.map (cellAt X Y) ++ [cellAt X Y x] = (pre ++ [x]).map (cellAt X Y) := by simp
    rw [hm] at hR
    clear hm hx3
    have H1 := Lib.hid hsp3
    have H2 := Lib.hid hrow3
    have H3 := Lib.hid hk4
    have H4 := Lib.hid y3
    clear hsp3 hrow3 hk4 y3 hk3 hk2 hj2 hsp hrow
    generalize cellAt X Y x = cx at *
    gi_wp2
    refine (mRoundIn_in l' hR).mono ?_
    rintro e W3 (⟨rfl, hJ3, hk5⟩ | ⟨rfl, hJx3, hk5⟩)
    · have hsp4 := hk5.set H1.out
      have y4 := hk5.cell (Nat.le_refl _) (by omega) H4.out
      have q4 := hk5.cell (by omega) (by omega) H2.out.1
      have hk6 := H3.out.trans hk5
      clear H1 H2 H3 H4 y1
      gi_wp2
      exact ⟨hk6.from (by omega), ⟨hk6.2.1 _ (.inr (.inr (.inr ⟨by omega, by omega⟩))) hrl.1, hk6.2.1 _ (.inr (.inl rfl)) hrl.2.1, hk6.2.1 _ (.inr (.inr (.inl rfl))) hrl.2.2⟩, ⟨hJ3, hsp4⟩, y4, q4, hsp4.2⟩
    · have hk6 := H3.out.trans hk5
      clear H1 H2 H3 H4 y1
      gi_wp2
      exact ⟨hk6.from (by omega), rfl, hJx3⟩
  case done =>
    rintro D ys W' hD rfl ⟨⟨hj, _⟩, _⟩ hK
    gi_wp2
    refine ⟨by simp, .inl ⟨_, _, rfl, run_takeDeferred hK, ?_⟩⟩
    exact ⟨_, results_none rfl _ _ _, ⟨_, rfl⟩, .inl (hJ _ W' _ _ hj (grownBy_putObj' W' D (.deferred none)) (fun r e => by cases e; exact ⟨by omega, _, hK, rfl⟩))⟩
  case stop =>
    rintro D c pre W' hD hpre ⟨rfl, hx⟩ hK
    gi_wp2
    refine ⟨by simp, .inl ⟨_, _, rfl, run_takeDeferred hK, ?_⟩⟩
    exact ⟨_, results_none rfl _ _ _, ⟨_, rfl⟩, .inr ⟨_, hpre.map _, hJx _ W' _ _ hx (grownBy_putObj' W' D (.deferred none)) (fun r e => by cases e; exact ⟨by omega, _, hK, rfl⟩)⟩⟩
end Go.Proofs.Ythebiibiapjdiaa

/- A loop over the cells of a set: the law for whoever writes it. -/
namespace Go.Proofs.Ythebiibiapjdiaa
open Go.RowKit Go.Shelf
attribute [local go_sem] Oper.semAt_some

/-- An iterator over cells, by its contract: it hands in the cells cs, each as P says, and lets three blocks lie. -/
def IterMP (P : Int × Int → Prop) (p b h gf : Nat) (lb : Array Value) (cs : List (Int × Int)) (w : World) : Prop :=
  ∀ (l : Nat) (J Jx : List (Int × Int) → World → Prop) (W : World), Below w.heap.size w W → OwnFrom W.heap.size J → OwnFrom W.heap.size Jx →
    (∀ pre c W1, J pre W1 → W.heap.size + 2 ≤ W1.heap.size → pre.length < cs.length → P c → YieldAt Fence.wide 0 Try.prog l #[.agg #[.int .i64 c.1, .int .i64 c.2]] W1 fun e W' =>
      (e = .returned (.bool true) ∧ J (pre ++ [c]) W' ∧ KeptM p b h W.heap.size 2 W1 W') ∨ (e = .returned (.bool false) ∧ Jx (pre ++ [c]) W' ∧ KeptM p b h W.heap.size 2 W1 W')) →
    J [] W →
    CallsIn Fence.wide 10 Try.prog gf (#[.func (.yield l) #[] #[]] ++ lb) W fun e W' => (∃ v, e = .returned v) ∧ (J cs W' ∨ ∃ q, q <+: cs ∧ Jx q W')

/-- The same, of any cells. -/
def IterM (p b h gf : Nat) (lb : Array Value) (cs : List (Int × Int)) (w : World) : Prop := IterMP (fun _ => True) p b h gf lb cs w

/-- The cells of a set. -/
def cellsM (X Y : Int) (bs : List Nat) : List (Int × Int) := (numsOf bs).map (cellAt X Y)
theorem cellAt_in {X Y : Int} (hm : mayB X Y = true) (i : Int) : inB X Y (cellAt X Y i).1 (cellAt X Y i).2 = true := by
  obtain ⟨h1, h2, h3, h4⟩ := mayB_iff.1 hm
  unfold cellAt
  split
  · rename_i h
    obtain ⟨_, _, _, _, h5, h6⟩ := atB_iff.1 h
    have q0 := Int.emod_nonneg i (show X ≠ 0 by omega)
    have q1 := Int.emod_lt_of_pos i (show 0 < X by omega)
    have q2 : 0 ≤ i / X := Int.ediv_nonneg h5 (by omega)
    have q3 : i / X < Y := Int.ediv_lt_of_lt_mul (by omega) (by rw [Int.mul_comm]; exact h6)
    exact inB_iff.2 ⟨h1, h2, h3, h4, q0, q1, q2, q3⟩
  · exact inB_iff.2 ⟨h1, h2, h3, h4, Int.le_refl _, h1, Int.le_refl _, h3⟩
theorem iter_setP (p b h : Nat) (X Y : Int) (bs : List Nat) (hm : mayB X Y = true) (hbs : IsBytes bs) (hl : bs.length ≤ 65536) (w : World) (hs : SetAt w p b h X Y bs) : IterMP (fun c => inB X Y c.1 c.2 = true) p b h 90 #[.pointer (some ⟨p, 0, none⟩)] (cellsM X Y bs) w :=
  fun l J Jx W hW hJ hJx hY h0 => mcells1_in l p b h X Y bs hbs hl J Jx W hJ hJx (fun pre c W1 hj hz hlt hc => hY pre c W1 hj hz (by rw [cellsM, List.length_map]; exact hlt) (by obtain ⟨i, rfl⟩ := hc; exact cellAt_in hm i)) (hs.below hW) h0
theorem iter_set (p b h : Nat) (X Y : Int) (bs : List Nat) (hbs : IsBytes bs) (hl : bs.length ≤ 65536) (w : World) (hs : SetAt w p b h X Y bs) : IterM p b h 90 #[.pointer (some ⟨p, 0, none⟩)] (cellsM X Y bs) w :=
  fun l J Jx W hW hJ hJx hY h0 => mcells1_in l p b h X Y bs hbs hl J Jx W hJ hJx (fun pre c W1 hj hz hlt _ => hY pre c W1 hj hz (by rw [cellsM, List.length_map]; exact hlt) trivial) (hs.below hW) h0

/-- How the body of a round may be left: at its end, by a return, or out of the loop. -/
def bodyM (p b h n₁ : Nat) (I : List (Int × Int) → World → Prop) (Ix : Code → List (Int × Int) → World → Prop) (xs : List (Int × Int)) (W : World) : Exit → Act → World → Prop
  | .normal, _, W' => KeptM p b h n₁ 4 W W' ∧ I xs W'
  | .ret, _, W' => KeptM p b h n₁ 4 W W' ∧ Ix .ret xs W'
  | .exit id, _, W' => KeptM p b h n₁ 4 W W' ∧ Ix (.exit id) xs W'
  | _, _, _ => False

theorem KeptM.put {p b h n c l : Nat} {A : World} (o : Obj) (hl : l < n) (hp : l ≠ p) (hb : l ≠ b) (hh : l ≠ h) : KeptM p b h n c A (A.putObj l o) :=
  ⟨by simp, fun k hk _ => World.putObj_heap_other (by rcases hk with h | h | h | h <;> omega), fun k o hk ho _ => (World.putObj_heap_other (by omega)).trans ho⟩
theorem KeptM.up {p b h n₁ n₂ c₁ c₂ : Nat} {A B : World} (x : KeptM p b h n₁ c₁ A B) (hn : n₁ ≤ n₂) (hc : n₂ + c₂ ≤ n₁ + c₁) : KeptM p b h n₂ c₂ A B := ⟨x.1, fun k hk hl => x.2.1 k (by omega) hl, fun k o hk ho hc => x.2.2 k o (by omega) ho hc⟩
theorem KeptM.heap {p b h n c k : Nat} {A B : World} {o : Obj} (x : KeptM p b h n c A B) (hk : n ≤ k) (ho : A.heap[k]? = some o) (hc : o.isCells = false) : B.heap[k]? = some o := x.2.2 k o hk ho hc

set_option maxHeartbeats 1000000 in
theorem range_iterP {P : Int × Int → Prop} {ps : Array Tmp} {assign body : Code} {g : Operand} {Q : Exit → Act → World → Prop} {a : Act} {w : World} (p b h gf : Nat) (lb : Array Value) (cs : List (Int × Int)) (hit : IterMP P p b h gf lb cs w)
    (hg : a.eval g = .func (.func gf) #[] lb) (hps : ps.size = 1) (hp : p < w.heap.size) (hb : b < w.heap.size) (hh : h < w.heap.size)
    (hen : ∀ args w', (callFunc gf args).run Try.prog w' = .ok (.enter gf args) w')
    (I : List (Int × Int) → World → Prop) (Ix : Code → List (Int × Int) → World → Prop) (hI : OwnFrom w.heap.size I) (hIx : ∀ c, OwnFrom w.heap.size (Ix c)) (h0 : I [] w)
    (Ax : Int × Int → Act → World → Prop) (hAx : ∀ p a', OwnFrom w.heap.size (fun (_ : Unit) W => Ax p a' W))
    (hassign : ∀ (l : Nat) (pre : List (Int × Int)) (c : Int × Int) (W : World) (K : Act → World → Prop), I pre W → (∀ a' W', KeptM p b h w.heap.size 4 W W' → I pre W' → Ax c a' W' → K a' W') →
      assign.wpIn (Fence.wide.inRound l) 7 Try.prog (Exit.then K (fun _ _ _ => False)) { tmps := (ps.zip #[.agg #[.int .i64 c.1, .int .i64 c.2]]).foldl (fun t (p, v) => t.setIfInBounds p v) a.tmps, defers := [] } W)
    (hbody : ∀ (l : Nat) (pre : List (Int × Int)) (c : Int × Int) (a' : Act) (W : World), (∃ r, W.heap[l]? = some (.loop r)) → P c → I pre W → Ax c a' W → w.heap.size + 4 ≤ W.heap.size → pre.length < cs.length → body.wpIn (Fence.wide.inRound l) 7 Try.prog (bodyM p b h w.heap.size I Ix (pre ++ [c]) W) a' W)
    (hdone : ∀ (D : Nat) (W : World), w.heap.size ≤ D → I cs W → W.heap[D]? = some (.deferred (some [])) → Q .normal { a with defers := { target := .collected D, args := #[] } :: a.defers } W)
    (hstop : ∀ (D : Nat) (c : Code) (q : List (Int × Int)) (W : World), w.heap.size ≤ D → q <+: cs → Ix c q W → W.heap[D]? = some (.deferred (some [])) → c.wpIn Fence.wide 11 Try.prog Q { a with defers := { target := .collected D, args := #[] } :: a.defers } W) :
    (Code.rangeFunc g ps assign body).wpIn Fence.wide 11 Try.prog Q a w := by
  refine wpIn_rangeFunc fun fn hfn => ?_
  obtain ⟨R, hR⟩ : ∃ R : LoopState → Option Code → Loop, R = fun st pe => { state := st, pending := pe, fn, tmps := a.tmps, params := ps, assign, body, defers := w.heap.size } := ⟨_, rfl⟩
  obtain ⟨W1, hW1⟩ : ∃ W1, (w.alloc (.deferred (some []))).alloc (.loop (R .ready none)) = W1 := ⟨_, rfl⟩
  have hz : W1.heap.size = w.heap.size + 2 := by rw [← hW1]; simp
  have hk1 : Below w.heap.size w W1 := by rw [← hW1]; exact bl_al (bl_al (bl0 _) _) _
  have hL1 : W1.heap[w.heap.size + 1]? = some (.loop (R .ready none)) := by
    have h := World.alloc_heap_new (w.alloc (.deferred (some []))) (.loop (R .ready none))
    rw [World.size_alloc] at h
    rw [← hW1]; exact h
  have hD1 : W1.heap[w.heap.size]? = some (.deferred (some [])) := by
    rw [← hW1]; exact (Below.heap_alloc _ _ _ (by simp)).trans (World.alloc_heap_new w _)
  have hI1 : I [] W1 := hI [] w W1 none h0 (grown_of_below hk1) (fun r e => by cases e)
  refine ⟨w.heap.size + 1, [{ target := .collected w.heap.size, args := #[] }], W1, { target := .fn (.func gf) lb, args := #[.func (.yield (w.heap.size + 1)) #[] #[]] }, W1, gf,
    #[.func (.yield (w.heap.size + 1)) #[] #[]] ++ lb, W1, ?_, ?_, ?_, ?_, (fun h => by cases h), ?_⟩
  · rw [← hW1, hR]; exact run_enterLoop_outer _ _ _ _ _
  · simp only [resolve, hg]
    simp [go_sem]
  · intro f' _; exact trivial
  · simpa [invoke, go_sem] using hen _ _
  refine (hit (w.heap.size + 1)
    (fun pre W => I pre W ∧ W.heap[w.heap.size + 1]? = some (.loop (R .ready none)) ∧ W.heap[w.heap.size]? = some (.deferred (some [])))
    (fun pre W => ∃ c, Ix c pre W ∧ W.heap[w.heap.size + 1]? = some (.loop (R .done (some c))) ∧ W.heap[w.heap.size]? = some (.deferred (some [])))
    W1 hk1 ?oJ ?oJx ?round ⟨hI1, hL1, hD1⟩).mono ?behind
  case oJ =>
    intro s A B row hs hg' hr
    refine ⟨hI s A B row hs.1 hg' (fun r e => ⟨by have := (hr r e).1; omega, (hr r e).2⟩), (hg'.block _ (Array.getElem?_eq_some_iff.1 hs.2.1).1 (fun e => by have := (hr _ e.symm).1; omega)).trans hs.2.1, (hg'.block _ (Array.getElem?_eq_some_iff.1 hs.2.2).1 (fun e => by have := (hr _ e.symm).1; omega)).trans hs.2.2⟩
  case oJx =>
    rintro s A B row ⟨c, hs⟩ hg' hr
    refine ⟨c, hIx c s A B row hs.1 hg' (fun r e => ⟨by have := (hr r e).1; omega, (hr r e).2⟩), (hg'.block _ (Array.getElem?_eq_some_iff.1 hs.2.1).1 (fun e => by have := (hr _ e.symm).1; omega)).trans hs.2.1, (hg'.block _ (Array.getElem?_eq_some_iff.1 hs.2.2).1 (fun e => by have := (hr _ e.symm).1; omega)).trans hs.2.2⟩
  case behind =>
    rintro e W2 ⟨⟨v, rfl⟩, (⟨hi, hl, hk⟩ | ⟨q, hq, c, hi, hl, hk⟩)⟩
    · have he := run_endLoop (P := Try.prog) hl (by rw [hR]; simp)
      rw [hR] at he
      exact ⟨none, _, he, hdone _ _ (Nat.le_refl _) (hI _ W2 _ _ hi (grownBy_putObj' W2 _ _) (fun r e => by cases e; exact ⟨by omega, _, hl, rfl⟩)) ((World.putObj_heap_other (by omega)).trans hk)⟩
    · have he := run_endLoop (P := Try.prog) hl (by rw [hR]; simp)
      rw [hR] at he
      exact ⟨some c, _, he, hstop _ c q _ (Nat.le_refl _) hq (hIx c _ W2 _ _ hi (grownBy_putObj' W2 _ _) (fun r e => by cases e; exact ⟨by omega, _, hl, rfl⟩)) ((World.putObj_heap_other (by omega)).trans hk)⟩
  case round =>
    rintro pre c W ⟨hi, hl, hk⟩ hsz hlen hPc
    rw [hz]
    have hy := run_yield (P := Try.prog) (args := #[.agg #[.int .i64 c.1, .int .i64 c.2]]) hl (by rw [hR]; simp [hps])
    rw [hR] at hy
    refine mYieldAt_any (m := 7) 0 ⟨fn, _, assign, body, hy, roundIn_of_wpIn hfn (hassign _ pre c W _ hi ?_)⟩
    intro a' Wa hka hia hax
    have hl2 := hka.heap (k := w.heap.size + 1) (by omega) hl rfl
    have hk2 := hka.heap (k := w.heap.size) (by omega) hk rfl
    refine ⟨_, run_beginRound hl2 (by rw [hR]), ?_⟩
    obtain ⟨W3, hW3⟩ : ∃ W3, Wa.putObj (w.heap.size + 1) (.loop { R .ready none with state := .busy }) = W3 := ⟨_, rfl⟩
    rw [hW3]
    have hl3 : W3.heap[w.heap.size + 1]? = some (.loop { R .ready none with state := .busy }) := by rw [← hW3]; exact World.putObj_heap_same (Array.getElem?_eq_some_iff.1 hl2).1
    have hk3 : W3.heap[w.heap.size]? = some (.deferred (some [])) := by rw [← hW3]; exact (World.putObj_heap_other (by omega)).trans hk2
    have hp3 : KeptM p b h (w.heap.size + 2) 2 Wa W3 := by rw [← hW3]; exact KeptM.put _ (by omega) (by omega) (by omega) (by omega)
    have hg3 : Wa.grownBy W3 (some (w.heap.size + 1)) := by rw [← hW3]; exact grownBy_putObj' _ _ _
    have hr3 : ∀ r, some (w.heap.size + 1) = some r → w.heap.size ≤ r ∧ ∃ o : Obj, Wa.heap[r]? = some o ∧ o.isCells = false := fun r e => by cases e; exact ⟨by omega, _, hl2, rfl⟩
    refine wpIn_mono (hbody _ pre c a' W3 ⟨_, hl3⟩ hPc (hI _ Wa W3 _ hia hg3 hr3) (hAx c a' () Wa W3 _ hax hg3 hr3) (by have h1 := hka.1; have h2 := hp3.1; omega) hlen) ?_
    have stop : ∀ (cc : Code) (W4 : World), KeptM p b h w.heap.size 4 W3 W4 → Ix cc (pre ++ [c]) W4 → ∀ o, o = Obj.loop { R .ready none with state := .done, pending := some cc } → (W4.putObj (w.heap.size + 1) o).heap[w.heap.size + 1]? = some (.loop (R .done (some cc))) ∧ (W4.putObj (w.heap.size + 1) o).heap[w.heap.size]? = some (.deferred (some [])) ∧ Ix cc (pre ++ [c]) (W4.putObj (w.heap.size + 1) o) ∧ KeptM p b h (w.heap.size + 2) 2 W (W4.putObj (w.heap.size + 1) o) := by
      rintro cc W4 hb4 hi4 o rfl
      have hl4 := hb4.heap (k := w.heap.size + 1) (by omega) hl3 rfl
      have hk4 := hb4.heap (k := w.heap.size) (by omega) hk3 rfl
      refine ⟨?_, (World.putObj_heap_other (by omega)).trans hk4, hIx cc _ W4 _ _ hi4 (grownBy_putObj' W4 _ _) (fun r e => by cases e; exact ⟨by omega, _, hl4, rfl⟩), ((((hka.up (by omega) (by omega)).trans hp3).trans (hb4.up (by omega) (by omega))).trans (KeptM.put _ (by omega) (by omega) (by omega) (by omega)))⟩
      rw [World.putObj_heap_same (Array.getElem?_eq_some_iff.1 hl4).1, hR]
    rintro e a3 W4 hp'
    cases e with
    | normal =>
      obtain ⟨hb4, hi4⟩ := hp'
      have hl4 := hb4.heap (k := w.heap.size + 1) (by omega) hl3 rfl
      have hk4 := hb4.heap (k := w.heap.size) (by omega) hk3 rfl
      have he := run_endRound (P := Try.prog) none hl4
      refine ⟨_, _, he, .inl ⟨rfl, ⟨hI _ W4 _ _ hi4 (grownBy_putObj' W4 _ _) (fun r e => by cases e; exact ⟨by omega, _, hl4, rfl⟩), ?_, (World.putObj_heap_other (by omega)).trans hk4⟩, ?_⟩⟩
      · rw [World.putObj_heap_same (Array.getElem?_eq_some_iff.1 hl4).1, hR]; rfl
      · exact ((((hka.up (by omega) (by omega)).trans hp3).trans (hb4.up (by omega) (by omega))).trans (KeptM.put _ (by omega) (by omega) (by omega) (by omega)))
    | ret =>
      obtain ⟨hb4, hi4⟩ := hp'
      have he := run_endRound (P := Try.prog) (some .ret) (hb4.heap (k := w.heap.size + 1) (by omega) hl3 rfl)
      obtain ⟨q1, q2, q3, q4⟩ := stop .ret W4 hb4 hi4 _ rfl
      exact ⟨_, _, he, .inr ⟨rfl, ⟨_, q3, q1, q2⟩, q4⟩⟩
    | exit id =>
      obtain ⟨hb4, hi4⟩ := hp'
      have he := run_endRound (P := Try.prog) (some (.exit id)) (hb4.heap (k := w.heap.size + 1) (by omega) hl3 rfl)
      obtain ⟨q1, q2, q3, q4⟩ := stop (.exit id) W4 hb4 hi4 _ rfl
      exact ⟨_, _, he, .inr ⟨rfl, ⟨_, q3, q1, q2⟩, q4⟩⟩
    | goto t => exact hp'.elim
    | panic ch => exact hp'.elim
    | outgrown => exact hp'.elim
/-- The same, for a body that asks nothing of its own loop. -/
theorem range_iter {ps : Array Tmp} {assign body : Code} {g : Operand} {Q : Exit → Act → World → Prop} {a : Act} {w : World} (p b h gf : Nat) (lb : Array Value) (cs : List (Int × Int)) (hit : IterM p b h gf lb cs w)
    (hg : a.eval g = .func (.func gf) #[] lb) (hps : ps.size = 1) (hp : p < w.heap.size) (hb : b < w.heap.size) (hh : h < w.heap.size)
    (hen : ∀ args w', (callFunc gf args).run Try.prog w' = .ok (.enter gf args) w')
    (I : List (Int × Int) → World → Prop) (Ix : Code → List (Int × Int) → World → Prop) (hI : OwnFrom w.heap.size I) (hIx : ∀ c, OwnFrom w.heap.size (Ix c)) (h0 : I [] w)
    (Ax : Int × Int → Act → World → Prop) (hAx : ∀ p a', OwnFrom w.heap.size (fun (_ : Unit) W => Ax p a' W))
    (hassign : ∀ (l : Nat) (pre : List (Int × Int)) (c : Int × Int) (W : World) (K : Act → World → Prop), I pre W → (∀ a' W', KeptM p b h w.heap.size 4 W W' → I pre W' → Ax c a' W' → K a' W') →
      assign.wpIn (Fence.wide.inRound l) 7 Try.prog (Exit.then K (fun _ _ _ => False)) { tmps := (ps.zip #[.agg #[.int .i64 c.1, .int .i64 c.2]]).foldl (fun t (p, v) => t.setIfInBounds p v) a.tmps, defers := [] } W)
    (hbody : ∀ (l : Nat) (pre : List (Int × Int)) (c : Int × Int) (a' : Act) (W : World), I pre W → Ax c a' W → w.heap.size + 4 ≤ W.heap.size → pre.length < cs.length → body.wpIn (Fence.wide.inRound l) 7 Try.prog (bodyM p b h w.heap.size I Ix (pre ++ [c]) W) a' W)
    (hdone : ∀ (D : Nat) (W : World), w.heap.size ≤ D → I cs W → W.heap[D]? = some (.deferred (some [])) → Q .normal { a with defers := { target := .collected D, args := #[] } :: a.defers } W)
    (hstop : ∀ (D : Nat) (c : Code) (q : List (Int × Int)) (W : World), w.heap.size ≤ D → q <+: cs → Ix c q W → W.heap[D]? = some (.deferred (some [])) → c.wpIn Fence.wide 11 Try.prog Q { a with defers := { target := .collected D, args := #[] } :: a.defers } W) :
    (Code.rangeFunc g ps assign body).wpIn Fence.wide 11 Try.prog Q a w :=
  range_iterP (P := fun _ => True) p b h gf lb cs hit hg hps hp hb hh hen I Ix hI hIx h0 Ax hAx hassign (fun l pre c a' W _ _ => hbody l pre c a' W) hdone hstop
end Go.Proofs.Ythebiibiapjdiaa

/- The numbers of a set's cells: which they are, and how many. -/
namespace Go.Proofs.Ythebiibiapjdiaa
open Go.RowKit

theorem numsTo_range (bs : List Nat) (k : Nat) : numsTo bs k = ((List.range (k * 8)).filter (fun i => bitAt bs i)).map (fun i : Nat => (i : Int)) := by
  induction k with
  | zero => rfl
  | succ k ih =>
    rw [numsTo_succ, ih, Nat.add_mul, Nat.one_mul, List.range_add, List.filter_append, List.map_append, List.filter_map, List.map_map]
    congr 1
    have e : (List.range 8).filter ((fun i => bitAt bs i) ∘ fun x => k * 8 + x) = bl (bs.getD k 0) := by
      unfold bl
      refine List.filter_congr fun i hi => ?_
      rw [List.mem_range] at hi
      show bitAt bs (k * 8 + i) = _
      unfold bitAt
      rw [show (k * 8 + i) / 8 = k by omega, show (k * 8 + i) % 8 = i by omega]
    rw [e]
    refine List.map_congr_left fun i _ => ?_
    simp [numOf]
theorem numsOf_range (bs : List Nat) : numsOf bs = ((List.range (bs.length * 8)).filter (fun i => bitAt bs i)).map (fun i : Nat => (i : Int)) := numsTo_range bs _
theorem bl_lens : ∀ n : Fin 256, (bl n.val).length = Lib.onesCount n.val := by decide +kernel
theorem bl_len (x : Nat) (h : x < 256) : (bl x).length = Lib.onesCount x := bl_lens ⟨x, h⟩
theorem numsTo_len (bs : List Nat) (hbs : IsBytes bs) : ∀ k, k ≤ bs.length → (numsTo bs k).length = ones (bs.take k)
  | 0, _ => by simp [numsTo_zero, ones]
  | k + 1, hk => by
    have h := numsTo_len bs hbs k (by omega)
    have hx : bs.getD k 0 = bs[k] := by simp [List.getD_eq_getElem?_getD, show k < bs.length from hk]
    rw [numsTo_succ, List.length_append, List.length_map, h, hx, bl_len _ (hbs _ (List.getElem_mem hk)), List.take_succ_eq_append_getElem hk]
    simp only [ones, List.map_append, List.sum_append, List.map_cons, List.map_nil, List.sum_cons, List.sum_nil, Nat.add_zero]
theorem numsOf_len (bs : List Nat) (hbs : IsBytes bs) : (numsOf bs).length = ones bs := by
  have h := numsTo_len bs hbs bs.length (Nat.le_refl _)
  rwa [List.take_length] at h
theorem cellsM_len (X Y : Int) (bs : List Nat) (hbs : IsBytes bs) : (cellsM X Y bs).length = ones bs := by rw [cellsM, List.length_map, numsOf_len bs hbs]
theorem bit_out (bs : List Nat) (i : Nat) (h : bs.length * 8 ≤ i) : bitAt bs i = false := by
  unfold bitAt
  have h2 : bs.length ≤ i / 8 := by omega
  simp [List.getD_eq_getElem?_getD, h2]
theorem mem_nums (bs : List Nat) (i : Int) : i ∈ numsOf bs ↔ 0 ≤ i ∧ bitAt bs i.toNat = true := by
  rw [numsOf_range]
  simp only [List.mem_map, List.mem_filter, List.mem_range]
  constructor
  · rintro ⟨j, ⟨_, hj⟩, rfl⟩
    exact ⟨Int.natCast_nonneg _, by rwa [Int.toNat_natCast]⟩
  · rintro ⟨h0, hb⟩
    refine ⟨i.toNat, ⟨?_, hb⟩, by omega⟩
    refine Nat.lt_of_not_le fun hle => ?_
    rw [bit_out bs _ hle] at hb
    cases hb
/-- A set's numbers rise. -/
theorem nums_sorted (bs : List Nat) : (numsOf bs).Pairwise (· < ·) := by
  rw [numsOf_range, List.pairwise_map]
  refine List.Pairwise.filter _ ?_
  exact (List.pairwise_lt_range).imp (fun h => by omega)
/-- Every number of a set is a cell of its map. -/
theorem nums_at {X Y : Int} {bs : List Nat} (hg : Good X Y bs) {i : Int} (hi : i ∈ numsOf bs) : atB X Y i = true := by
  obtain ⟨h0, hb⟩ := (mem_nums bs i).1 hi
  obtain ⟨m, _, _, g⟩ := hg
  obtain ⟨h1, h2, h3, h4⟩ := mayB_iff.1 m
  refine atB_iff.2 ⟨h1, h2, h3, h4, h0, ?_⟩
  refine Int.lt_of_not_ge fun hle => ?_
  rw [g i.toNat (by omega)] at hb
  cases hb
theorem cell_of_num {X Y : Int} {bs : List Nat} (hg : Good X Y bs) {i : Int} (hi : i ∈ numsOf bs) : cellAt X Y i = (i % X, i / X) := by simp [cellAt, nums_at hg hi]
/-- .. and its cell's number is it. -/
theorem num_of_cell {X Y : Int} {bs : List Nat} (hg : Good X Y bs) {i : Int} (hi : i ∈ numsOf bs) : (cellAt X Y i).2 * X + (cellAt X Y i).1 = i ∧ inB X Y (cellAt X Y i).1 (cellAt X Y i).2 = true := by
  rw [cell_of_num hg hi]
  obtain ⟨h1, h2, h3, h4, h5, h6⟩ := atB_iff.1 (nums_at hg hi)
  have e := Int.emod_add_mul_ediv i X
  have q0 := Int.emod_nonneg i (show X ≠ 0 by omega)
  have q1 := Int.emod_lt_of_pos i (show 0 < X by omega)
  have q2 : 0 ≤ i / X := Int.ediv_nonneg h5 (by omega)
  have q3 : i / X < Y := Int.ediv_lt_of_lt_mul (by omega) (by rw [Int.mul_comm]; exact h6)
  refine ⟨?_, ?_⟩
  · dsimp only
    rw [Int.mul_comm]; omega
  · rw [inB_iff]
    dsimp only
    refine ⟨?_, ?_, ?_, ?_, ?_, ?_, ?_, ?_⟩ <;> omega
end Go.Proofs.Ythebiibiapjdiaa

/- Package geom: contracts of At outside a map, and of boxes. -/
namespace Go.Proofs.Ythebiibiapjdiaa
open Go.RowKit

def rightB (X Y W H : Int) : Bool := decide (-1048576 ≤ X ∧ X ≤ 1048576 ∧ -1048576 ≤ Y ∧ Y ≤ 1048576 ∧ 0 ≤ W ∧ W ≤ 256 ∧ 0 ≤ H ∧ H ≤ 256)
theorem rightB_iff {X Y W H : Int} : rightB X Y W H = true ↔ -1048576 ≤ X ∧ X ≤ 1048576 ∧ -1048576 ≤ Y ∧ Y ≤ 1048576 ∧ 0 ≤ W ∧ W ≤ 256 ∧ 0 ≤ H ∧ H ≤ 256 := by simp [rightB]
def hasB (X Y W H A B : Int) : Bool := rightB X Y W H && decide (X ≤ A ∧ A < X + W ∧ Y ≤ B ∧ B < Y + H)
theorem hasB_iff {X Y W H A B : Int} : hasB X Y W H A B = true ↔ rightB X Y W H = true ∧ X ≤ A ∧ A < X + W ∧ Y ≤ B ∧ B < Y + H := by simp [hasB]
def fitsB (U V X Y W H : Int) : Bool := rightB X Y W H && mayB U V && decide (0 < W ∧ 0 < H ∧ 0 ≤ X ∧ 0 ≤ Y ∧ X + W ≤ U ∧ Y + H ≤ V)
theorem fitsB_iff {U V X Y W H : Int} : fitsB U V X Y W H = true ↔ rightB X Y W H = true ∧ mayB U V = true ∧ 0 < W ∧ 0 < H ∧ 0 ≤ X ∧ 0 ≤ Y ∧ X + W ≤ U ∧ Y + H ≤ V := by simp [fitsB, and_assoc]

set_option maxHeartbeats 800000 in
theorem right_any (X Y W H : Int) (w : World) :
    Calls Try.prog 102 #[.agg #[.int .i64 X, .int .i64 Y, .int .i64 W, .int .i64 H]] w fun e w' => e = .returned (.bool (rightB X Y W H)) ∧ Below w.heap.size w w' := by
  cases hx : nearB X <;> cases hy : nearB Y
  all_goals
    go_enter Try.func102, Try.ntmps102
    go_wp2_with (go_at_call 96; refine (near_any _ _).mono ?_; rintro e w' ⟨rfl, rfl⟩)
    all_goals
      go_ret
      refine ⟨ret_bool (by rw [Bool.eq_iff_iff]; have hx' := @nearB_iff X; have hy' := @nearB_iff Y; simp_all [rightB] <;> omega), ?_⟩
      exact bl_al (bl0 _) _


end Go.Proofs.Ythebiibiapjdiaa

/- The rows of a box, as an iterator: its contract. -/
namespace Go.Proofs.Ythebiibiapjdiaa
open Go.RowKit Go.Shelf
attribute [local go_sem] Oper.semAt_some

/-- f 0, .., f (k - 1). -/
def upto {α : Type} (f : Nat → α) (k : Nat) : List α := (List.range k).map f
theorem upto_zero {α : Type} (f : Nat → α) : upto f 0 = [] := rfl
theorem upto_succ {α : Type} (f : Nat → α) (k : Nat) : upto f (k + 1) = upto f k ++ [f k] := by simp [upto, List.range_succ]
theorem upto_length {α : Type} (f : Nat → α) (k : Nat) : (upto f k).length = k := by simp [upto]

/-- The box's four cells. -/
def BoxAt (W : World) (b : Nat) (X Y U V : Int) : Prop := W.cell? ⟨b, 0, none⟩ = some (.int .i64 X) ∧ W.cell? ⟨b, 1, none⟩ = some (.int .i64 Y) ∧ W.cell? ⟨b, 2, none⟩ = some (.int .i64 U) ∧ W.cell? ⟨b, 3, none⟩ = some (.int .i64 V)
/-- Block b lies as it lay. -/
def KeepB (b : Nat) (A B : World) : Prop := B.heap[b]? = A.heap[b]?
theorem BoxAt.kept {b : Nat} {W W' : World} {X Y U V : Int} (h : BoxAt W b X Y U V) (hb : KeepB b W W') : BoxAt W' b X Y U V :=
  ⟨(World.cell?_of_block (a := ⟨b, 0, none⟩) hb).trans h.1, (World.cell?_of_block (a := ⟨b, 1, none⟩) hb).trans h.2.1, (World.cell?_of_block (a := ⟨b, 2, none⟩) hb).trans h.2.2.1, (World.cell?_of_block (a := ⟨b, 3, none⟩) hb).trans h.2.2.2⟩

set_option maxHeartbeats 1000000 in
theorem rows_in (n : Nat) (X Y U V : Int) (w : World) :
    CallsIn Fence.wide n Try.prog 88 #[.agg #[.int .i64 X, .int .i64 Y, .int .i64 U, .int .i64 V]] w fun e w' => e = .returned (.func (.func 101) #[] #[.pointer (some ⟨w.heap.size, 0, none⟩)]) ∧ w' = w.alloc (.cells #[.int .i64 X, .int .i64 Y, .int .i64 U, .int .i64 V] 100) := by
  refine callsIn_of_wp Try.func88 rfl trivial ?_ rfl
  simp only [Try.ntmps88, List.size_toArray, List.length_cons, List.length_nil, Nat.reduceAdd, Nat.reduceSub, Array.replicate_succ, Array.replicate_zero, List.push_toArray, List.append_toArray, List.nil_append, List.cons_append]
  gi_wp2
  go_ret
  exact ⟨rfl, rfl⟩

set_option maxRecDepth 100000 in
set_option maxHeartbeats 2000000 in
theorem rows1_in (n : Nat) (l b : Nat) (X Y U V : Int) (m : Nat) (hm : m = if rightB X Y U V = true then V.toNat else 0) (J Jx : List Int → World → Prop) (W : World)
    (hAb : AbidesFrom W.heap.size J)
    (hY : ∀ pre x W, J pre W → pre.length < m → YieldAt Fence.wide (n - 1) Try.prog l #[.int .i64 x] W fun e W' =>
      (e = .returned (.bool true) ∧ J (pre ++ [x]) W' ∧ KeepB b W W') ∨ (e = .returned (.bool false) ∧ Jx (pre ++ [x]) W'))
    (hB : BoxAt W b X Y U V) (h0 : J [] W) :
    CallsIn Fence.wide n Try.prog 101 #[.func (.yield l) #[] #[], .pointer (some ⟨b, 0, none⟩)] W fun e W' => (∃ v, e = .returned v) ∧
      ((∃ ys, ys = upto (fun j => Y + (j : Int)) m ∧ J ys W') ∨ (∃ pre, (∃ k, k ≤ m ∧ pre = upto (fun j => Y + (j : Int)) k) ∧ Jx pre W')) := by
  obtain ⟨b0, b1, b2, b3⟩ := hB
  refine callsIn_of_wp Try.func101 rfl trivial ?_ rfl
  simp only [Try.ntmps101, List.size_toArray, List.length_cons, List.length_nil, Nat.reduceAdd, Nat.reduceSub, Array.replicate_succ, Array.replicate_zero, List.push_toArray, List.append_toArray, List.nil_append, List.cons_append]
  gi_wp2_with fail
  refine ⟨trivial, (fun h => by cases h), ?_⟩
  refine (callsIn_wide.2 (right_any _ _ _ _ _)).mono ?_
  rintro e w1 ⟨rfl, hb1⟩
  have j0 : J [] w1 := hAb [] W w1 none h0 (grown_of_below hb1) (fun r e => by cases e)
  replace b0 := cell_later hb1 b0
  replace b1 := cell_later hb1 b1
  replace b2 := cell_later hb1 b2
  replace b3 := cell_later hb1 b3
  clear hb1
  cases hr : rightB X Y U V
  · simp only [hr, Bool.false_eq_true, if_false] at hm
    subst hm
    gi_wp2
    refine bodyPost_ret (results_none rfl _ _ _) rfl ?_
    exact ⟨⟨_, rfl⟩, .inl ⟨[], rfl, j0⟩⟩
  · obtain ⟨r1, r2, r3, r4, r5, r6, r7, r8⟩ := rightB_iff.1 hr
    simp only [hr, if_true] at hm
    obtain ⟨Vn, rfl⟩ := Int.eq_ofNat_of_zero_le r7
    rw [Int.toNat_natCast] at hm
    subst hm
    gi_wp2
    gi_loopw [9] (fun i wr => ∃ k : Nat, k ≤ m ∧ i = .int .i64 k ∧ J (upto (fun j => Y + (j : Int)) k) wr ∧ BoxAt wr b X Y U m) (fun i _ => m - (intOf i).toNat)
    case atStart => exact ⟨0, Nat.zero_le _, rfl, j0, b0, b1, b2, b3⟩
    case round =>
      obtain ⟨k, hk, rfl, hJs, hB⟩ := hrel
      clear j0 b0 b1 b2 b3
      obtain ⟨q0, q1, q2, q3⟩ := hB
      by_cases hlt : k < m
      · have hlt' : (k : Int) < (m : Int) := by omega
        obtain ⟨fn, tmps, assign, body, hy, hR⟩ := hY _ (Y + (k : Int)) wr hJs (by rw [upto_length]; exact hlt)
        gi_wp2
        refine ⟨(fun h => by cases h), hR.mono ?_⟩
        rintro e W3 (⟨rfl, hJ3, hk3⟩ | ⟨rfl, hJx3⟩)
        · gi_wp2
          go_roundw
          case rel => exact ⟨k + 1, by omega, by go_num, by rw [upto_succ]; exact hJ3, BoxAt.kept ⟨q0, q1, q2, q3⟩ hk3⟩
          case measure => simp [intOf]; omega
        · gi_wp2
          refine bodyPost_ret (results_none rfl _ _ _) rfl ?_
          exact ⟨⟨_, rfl⟩, .inr ⟨_, ⟨k + 1, by omega, (upto_succ _ _).symm⟩, hJx3⟩⟩
      · obtain rfl : k = m := by omega
        gi_wp2
        go_end0
        exact ⟨⟨_, rfl⟩, .inl ⟨_, rfl, hJs⟩⟩

theorem upto_prefix {α : Type} (f : Nat → α) {k m : Nat} (h : k ≤ m) : upto f k <+: upto f m := by
  obtain ⟨d, rfl⟩ := Nat.exists_eq_add_of_le h
  refine ⟨(List.range d).map (fun j => f (k + j)), ?_⟩
  simp [upto, List.range_add]

/-- How many rows come. -/
def rowsOf (X Y U V : Int) : Nat := if rightB X Y U V = true then V.toNat else 0

/-- **The rows of a box hand back a value that 'SeqStopsK'**. -/
theorem rows_stops (n b : Nat) (X Y U V : Int) (w : World) (hB : BoxAt w b X Y U V) :
    SeqStopsK Fence.wide n Try.prog 101 #[.pointer (some ⟨b, 0, none⟩)] (fun x : Int => #[Value.int .i64 x]) (KeepB b) (fun ys => ys = upto (fun j => Y + (j : Int)) (rowsOf X Y U V)) (fun pre => pre <+: upto (fun j => Y + (j : Int)) (rowsOf X Y U V)) (rowsOf X Y U V) w := fun l J Jx W hW hJ _ hY h0 => by
  refine (rows1_in n l b X Y U V (rowsOf X Y U V) rfl J Jx W hJ hY (hB.kept (hW.block b (blk_lt hB.1))) h0).mono ?_
  rintro e W' ⟨he, ⟨ys, rfl, hj⟩ | ⟨pre, ⟨k, hk, rfl⟩, hj⟩⟩
  · exact ⟨he, .inl ⟨_, rfl, hj⟩⟩
  · exact ⟨he, .inr ⟨_, upto_prefix _ hk, hj⟩⟩
end Go.Proofs.Ythebiibiapjdiaa
