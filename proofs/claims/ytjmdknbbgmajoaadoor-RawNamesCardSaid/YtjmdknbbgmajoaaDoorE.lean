/- Quotients: the program's and the document's, each as plain arithmetic. -/
import Derived.Test.YtjmdknbbgmajoaaDoorD
import Derived.Test.YtjmdknbbgmajoaaDoorN
import Derived.IntWalk
namespace Go.Proofs.YtjmdknbbgmajoaaDoor
open Go.RowKit

/-! ### The document's -/
theorem refsize_to (a x : Int) (hx : absI a = x) (h0 : -9223372036854775808 ≤ a) (h1 : a ≤ 9223372036854775807) (w : World) :
    Calls Tryd.prog 45 #[.int .i64 a] w fun e w' => e = .returned (.int .u64 x) ∧ w = w' := by
  subst hx
  exact refsize_any a h0 h1 w
end Go.Proofs.YtjmdknbbgmajoaaDoor
