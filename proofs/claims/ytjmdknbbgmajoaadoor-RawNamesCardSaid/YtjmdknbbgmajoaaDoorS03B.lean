/- The program's and the document's exponential function: what each call answers. -/
import Derived.Test.YtjmdknbbgmajoaaDoorS03A
import Derived.Test.YtjmdknbbgmajoaaDoorE
import Derived.Test.YtjmdknbbgmajoaaDoorQ
import Derived.Test.YtjmdknbbgmajoaaDoorWP
import Derived.Test.YtjmdknbbgmajoaaDoorWT
namespace Go.Proofs.YtjmdknbbgmajoaaDoor
open Go.RowKit


theorem refmuldiv_to (a b d v : Int) (hv : divF (a * b) d = v) (h0 : -9223372036854775808 ≤ a) (h1 : a ≤ 9223372036854775807) (k0 : -9223372036854775808 ≤ b) (k1 : b ≤ 9223372036854775807) (d0 : -9223372036854775808 ≤ d) (d1 : d ≤ 9223372036854775807) (w : World) :
    Calls Tryd.prog 30 #[.int .i64 a, .int .i64 b, .int .i64 d] w fun e w' => e = .returned (.int .i64 v) ∧ Below w.heap.size w w' := by
  subst hv
  exact refmuldiv_any a b d h0 h1 k0 k1 d0 d1 w
end Go.Proofs.YtjmdknbbgmajoaaDoor
