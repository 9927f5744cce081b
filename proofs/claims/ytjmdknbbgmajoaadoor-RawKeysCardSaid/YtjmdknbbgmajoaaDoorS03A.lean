/- The exponential function, in integers: plain arithmetic. -/
import Derived.Test.YtjmdknbbgmajoaaDoorN
import Derived.Test.YtjmdknbbgmajoaaDoorF
namespace Go.Proofs.YtjmdknbbgmajoaaDoor
open Go.RowKit

theorem near_in {X d m : Int} (hd : 0 < d) (h0 : 0 ≤ X) (h1 : X ≤ m * d) : 0 ≤ nearQ X d ∧ nearQ X d ≤ m := by
  unfold nearQ
  rw [if_neg (by omega)]
  refine ⟨Int.ediv_nonneg (by omega) (by omega), ?_⟩
  have h : (2 * X + d) / (2 * d) < m + 1 := by
    apply Int.ediv_lt_of_lt_mul (by omega)
    have e : (m + 1) * (2 * d) = 2 * (m * d) + 2 * d := by rw [Int.add_mul, Int.mul_left_comm]; omega
    rw [e]; omega
  omega
end Go.Proofs.YtjmdknbbgmajoaaDoor
