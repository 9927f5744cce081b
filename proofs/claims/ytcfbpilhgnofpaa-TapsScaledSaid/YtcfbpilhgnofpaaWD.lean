/- The document's answers for long numbers (layer 2): going round, signs, bits of a number. -/
import Derived.Test.YtcfbpilhgnofpaaWA
namespace Go.Proofs.Ytcfbpilhgnofpaa
open Go.RowKit

theorem times_to (a b P : Int) (hP : a * b = P) (a0 : 0 ≤ a) (a1 : a < 18446744073709551616) (b0 : 0 ≤ b) (b1 : b < 18446744073709551616) (w : World) :
    Calls Try.prog 54 #[.int .u64 a, .int .u64 b] w fun e w' => e = .returned (.agg #[.int .u64 (hi P), .int .u64 (lo P)]) ∧ Below w.heap.size w w' := by
  subst hP
  exact times_any a b a0 a1 b0 b1 w
end Go.Proofs.Ytcfbpilhgnofpaa
