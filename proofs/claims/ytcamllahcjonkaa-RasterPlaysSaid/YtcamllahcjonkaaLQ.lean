/- Quotients, and what is left, of numbers that aren't below 0, as runs for all worlds: facts for regions that draw their order. -/
import Derived.Test.YtcamllahcjonkaaB
import Derived.IntWalk
namespace Go.Proofs.Ytcamllahcjonkaa
open Go.RowKit

theorem rem_run {x y z : Int} (x0 : 0 ≤ x) (y0 : 1 ≤ y) (h : x % y = z) (w : World) : (binOp .rem 3 (.int .i64 x) (.int .i64 y)).run Try.prog w = .ok (.int .i64 z) w := by
  have hz : (y == 0) = false := beq_eq_false_iff_ne.2 (by omega)
  have hm : x.tmod y = z := by rw [Int.tmod_eq_emod_of_nonneg x0]; exact h
  go_simp
  omega
theorem quo_run {x y z : Int} (x0 : 0 ≤ x) (x1 : x ≤ 9223372036854775807) (y0 : 1 ≤ y) (h : x / y = z) (w : World) : (binOp .quo 3 (.int .i64 x) (.int .i64 y)).run Try.prog w = .ok (.int .i64 z) w := by
  have hz : (y == 0) = false := beq_eq_false_iff_ne.2 (by omega)
  go_simp
  have h1 := Int.ediv_le_self y x0
  have h0 := Int.ediv_nonneg x0 (show 0 ≤ y by omega)
  have hm : x.tdiv y = z := by rw [Int.tdiv_eq_ediv_of_nonneg x0]; exact h
  have hw : IntKind.i64.wrap z = z := IntWalk.i64_in _ (by omega)
  rw [if_neg (by omega), hm, hw]
end Go.Proofs.Ytcamllahcjonkaa
