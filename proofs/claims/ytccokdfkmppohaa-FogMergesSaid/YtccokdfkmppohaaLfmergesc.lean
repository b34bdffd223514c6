/- FogMerges: the law's walk, for all arguments. -/
import Derived.Test.YtccokdfkmppohaaLfmergesb
namespace Go.Proofs.Ytccokdfkmppohaa
open Go.RowKit Go.Shelf

theorem fmerges_walk (X Y x y : Int) (a : Option Addr) (cap : Nat) (ls : List LookD) (w : World) (hr : RowL w a ls) (hu : ∀ l ∈ ls, AllH l.fs) :
    Calls Try.prog 3 #[.agg #[.int .i64 X, .int .i64 Y], .slice a ls.length cap, .agg #[.int .i64 x, .int .i64 y]] w fun e w' => e = .returned (.bool true) ∧ Below w.heap.size w w' := by
  cases h1 : fewB X Y ls with
  | false => exact fmerges_out1 X Y x y a cap ls w hr h1
  | true =>
  cases h2 : mayB X Y with
  | false => exact fmerges_out2 X Y x y a cap ls w hr h1 h2
  | true => exact fmerges_yes X Y x y a cap ls w hr hu h1 h2
end Go.Proofs.Ytccokdfkmppohaa
