/- A number of 128 bits that lies in a block of the call's own: what calls, stores and new blocks leave of it. -/
import Derived.Test.YthakcpjlnopcfaaDoorI
import Derived.Test.YthakcpjlnopcfaaDoorF
import Derived.Deep.DeepCutAuto
namespace Go.Proofs.YthakcpjlnopcfaaDoor
open Go.RowKit

/-! ### The plain arithmetic of a shift -/
theorem near_pow (x : Int) (m : Nat) : nearQ x (2 ^ (m + 1)) = (x / 2 ^ m + 1) / 2 := by
  have p := pow2_pos m
  have e : (2 : Int) ^ (m + 1) = 2 * 2 ^ m := by rw [Int.pow_succ, Int.mul_comm]
  unfold nearQ
  rw [if_neg (by omega), e, ← Int.mul_add, Int.mul_ediv_mul_of_pos _ _ (by decide), Int.mul_comm 2 (2 ^ m), ← Int.ediv_ediv_of_nonneg (Int.le_of_lt p), Int.add_ediv_of_dvd_right (Int.dvd_refl _), Int.ediv_self (Int.ne_of_gt p)]
end Go.Proofs.YthakcpjlnopcfaaDoor
