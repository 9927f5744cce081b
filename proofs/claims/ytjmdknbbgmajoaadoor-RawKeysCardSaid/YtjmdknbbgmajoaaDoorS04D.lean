/- The sine's series in integers, and the polynomial that it stands for. -/
import Derived.Test.YtjmdknbbgmajoaaDoorS04A
import Derived.Test.YtjmdknbbgmajoaaDoorFB
namespace Go.Proofs.YtjmdknbbgmajoaaDoor
open Go.RowKit


theorem near_err {X d : Int} (hd : 0 < d) : -d ≤ 2 * (d * nearQ X d) - 2 * X ∧ 2 * (d * nearQ X d) - 2 * X ≤ d := by
  unfold nearQ
  rw [if_neg (by omega)]
  have e := Int.mul_ediv_add_emod (2 * X + d) (2 * d)
  have r0 := Int.emod_nonneg (2 * X + d) (show 2 * d ≠ 0 by omega)
  have r1 := Int.emod_lt_of_pos (2 * X + d) (show 0 < 2 * d by omega)
  rw [Int.mul_assoc] at e
  omega
end Go.Proofs.YtjmdknbbgmajoaaDoor
