/- The program's and the document's exponential function: what each call answers. -/
import Derived.Test.YthakcpjlnopcfaaS03A
import Derived.Test.YthakcpjlnopcfaaE
import Derived.Test.YthakcpjlnopcfaaQ
import Derived.Test.YthakcpjlnopcfaaWP
import Derived.Test.YthakcpjlnopcfaaWT
namespace Go.Proofs.Ythakcpjlnopcfaa
open Go.RowKit


theorem refmuldiv_to (a b d v : Int) (hv : divF (a * b) d = v) (h0 : -9223372036854775808 ≤ a) (h1 : a ≤ 9223372036854775807) (k0 : -9223372036854775808 ≤ b) (k1 : b ≤ 9223372036854775807) (d0 : -9223372036854775808 ≤ d) (d1 : d ≤ 9223372036854775807) (w : World) :
    Calls Try.prog 20 #[.int .i64 a, .int .i64 b, .int .i64 d] w fun e w' => e = .returned (.int .i64 v) ∧ Below w.heap.size w w' := by
  subst hv
  exact refmuldiv_any a b d h0 h1 k0 k1 d0 d1 w
end Go.Proofs.Ythakcpjlnopcfaa
