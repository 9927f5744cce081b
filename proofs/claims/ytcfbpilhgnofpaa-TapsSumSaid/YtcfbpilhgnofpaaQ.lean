/- The law on shifts. -/
import Derived.Test.YtcfbpilhgnofpaaP
import Derived.Test.YtcfbpilhgnofpaaE
import Derived.Test.YtcfbpilhgnofpaaF
import Derived.Test.YtcfbpilhgnofpaaD
namespace Go.Proofs.Ytcfbpilhgnofpaa
open Go.RowKit


theorem refshift_any (x n : Int) (h0 : -9223372036854775808 ≤ x) (h1 : x ≤ 9223372036854775807) (w : World) :
    Calls Try.prog 59 #[.int .i64 x, .int .i64 n] w fun e w' => e = .returned (.int .i64 (shiftF x n)) ∧ Below w.heap.size w w' := by
  by_cases hs : n < 1
  · rw [show shiftF x n = x from if_pos (by omega)]
    exact (refshift_small x n hs w).mono fun e w' ⟨he, hw⟩ => ⟨he, hw ▸ Below.refl _ _⟩
  by_cases hg : 64 < n
  · rw [show shiftF x n = 0 from (if_neg (by omega)).trans (if_pos (by omega))]
    exact (refshift_great x n hg w).mono fun e w' ⟨he, hw⟩ => ⟨he, hw ▸ Below.refl _ _⟩
  obtain ⟨N, rfl⟩ : ∃ N : Nat, n = (N : Int) + 1 := ⟨n.toNat - 1, by omega⟩
  exact refshift_mid x _ N rfl h0 h1 (by omega) w
end Go.Proofs.Ytcfbpilhgnofpaa
