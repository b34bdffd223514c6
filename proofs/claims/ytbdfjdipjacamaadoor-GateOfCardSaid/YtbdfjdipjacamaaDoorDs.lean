/- Parts: the reference's cluster of a cell. -/
import Derived.Test.YtbdfjdipjacamaaDoorDr
namespace Go.Proofs.YtbdfjdipjacamaaDoor
open Go.RowKit

theorem has8_k {W H S : Int} {k : Nat} (c : IC) (hr : rightP W H S = true) (hk : k < cntN W H S) (hc : w64 c.1 ∧ w64 c.2) (w : World) :
    Calls Tryd.prog 19 #[.agg #[.int .i64 (bxF W H S k).1.1, .int .i64 (bxF W H S k).1.2, .int .i64 (bxF W H S k).2.1, .int .i64 (bxF W H S k).2.2], .agg #[.int .i64 c.1, .int .i64 c.2]] w fun e w' => e = .returned (.bool (hasK W H S c k)) ∧ Below w.heap.size w w' := by
  obtain ⟨e, _, _⟩ := cntN_eq hr
  obtain ⟨p1, p2, p3, p4, _⟩ := plc_in (id := (k : Int)) hr (by omega) (by omega)
  obtain ⟨⟨t1, t2, t3, t4⟩, ⟨t5, t6, t7, t8⟩, t9, t10⟩ := bx_bd hr p1 p2 p3 p4
  exact has8_p (bxX S (plcP W S k)) (bxY S (plcP W S k)) (bxW W S (plcP W S k)) (bxH H S (plcP W S k)) c w ⟨⟨by omega, by omega, by omega, by omega⟩, by omega, by omega, by omega, by omega⟩ hc

end Go.Proofs.YtbdfjdipjacamaaDoor
