/- The law on the signs of long products and quotients. -/
import Derived.Test.YtcfbpilhgnofpaaWC
import Derived.Test.YtcfbpilhgnofpaaWD
import Derived.Test.YtcfbpilhgnofpaaF
import Derived.Test.YtcfbpilhgnofpaaD
import Derived.Test.YtcfbpilhgnofpaaWG
namespace Go.Proofs.Ytcfbpilhgnofpaa
open Go.RowKit


/-- A product divided, for every divisor. -/
theorem muldiv_full (a b d : Int) (h0 : -9223372036854775808 ≤ a) (h1 : a ≤ 9223372036854775807) (k0 : -9223372036854775808 ≤ b) (k1 : b ≤ 9223372036854775807) (d0 : -9223372036854775808 ≤ d) (d1 : d ≤ 9223372036854775807) (w : World) :
    Calls Try.prog 32 #[.int .i64 a, .int .i64 b, .int .i64 d] w fun e w' => e = .returned (.int .i64 (divF (a * b) d)) ∧ Below w.heap.size w w' := by
  refine muldiv_any a b d h0 h1 k0 k1 d0 d1 (fun hz => ?_) w
  have hp : 0 < absI d := by unfold absI; split <;> omega
  have hq : absI d ≤ 9223372036854775808 := absI1 d0 (by omega)
  have r := rest_in (x := hi (absI (a * b))) hp
  by_cases h : hi (absI (a * b)) % absI d = 0
  · rw [h]
    exact div64_zero _ _ (lo0 _) (lo1 _) hp (by omega)
  · exact div64_full _ _ _ (by omega) r.2 (lo0 _) (lo1 _) (by omega)
theorem muldiv_to (a b d v : Int) (hv : divF (a * b) d = v) (h0 : -9223372036854775808 ≤ a) (h1 : a ≤ 9223372036854775807) (k0 : -9223372036854775808 ≤ b) (k1 : b ≤ 9223372036854775807) (d0 : -9223372036854775808 ≤ d) (d1 : d ≤ 9223372036854775807) (w : World) :
    Calls Try.prog 32 #[.int .i64 a, .int .i64 b, .int .i64 d] w fun e w' => e = .returned (.int .i64 v) ∧ Below w.heap.size w w' := by
  subst hv
  exact muldiv_full a b d h0 h1 k0 k1 d0 d1 w
end Go.Proofs.Ytcfbpilhgnofpaa
