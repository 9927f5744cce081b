/- Products, held: the program's (fixed.Mul). -/
import Derived.Test.YtjmdknbbgmajoaaDoorI
import Derived.Test.YtjmdknbbgmajoaaDoorF
namespace Go.Proofs.YtjmdknbbgmajoaaDoor
open Go.RowKit

/-- A product, by its factors without signs. -/
theorem mul_signs (a b : Int) : (a < 0 → b < 0 → a * b = absI a * absI b) ∧ (a < 0 → 0 ≤ b → a * b = -(absI a * absI b)) ∧ (0 ≤ a → b < 0 → a * b = -(absI a * absI b)) ∧ (0 ≤ a → 0 ≤ b → a * b = absI a * absI b) := by
  refine ⟨fun h k => ?_, fun h k => ?_, fun h k => ?_, fun h k => ?_⟩
  · rw [absI_neg h, absI_neg k, Int.neg_mul_neg]
  · rw [absI_neg h, absI_pos k, Int.neg_mul, Int.neg_neg]
  · rw [absI_pos h, absI_neg k, Int.mul_neg, Int.neg_neg]
  · rw [absI_pos h, absI_pos k]
theorem abs_mul_le {a b : Int} (h0 : -9223372036854775808 ≤ a) (h1 : a ≤ 9223372036854775807) (k0 : -9223372036854775808 ≤ b) (k1 : b ≤ 9223372036854775807) : 0 ≤ absI a * absI b ∧ absI a * absI b ≤ 85070591730234615865843651857942052864 := by
  have a0 := absI0 a
  have b0 := absI0 b
  have a1 : absI a ≤ 9223372036854775808 := absI1 h0 (by omega)
  have b1 : absI b ≤ 9223372036854775808 := absI1 k0 (by omega)
  exact ⟨Int.mul_nonneg a0 b0, by have := Int.mul_le_mul a1 b1 b0 (by omega); omega⟩
theorem mul64_int (x y : Int) (x0 : 0 ≤ x) (x1 : x < 18446744073709551616) (y0 : 0 ≤ y) (y1 : y < 18446744073709551616) (w : World) :
    Calls Tryd.prog 57 #[.int .u64 x, .int .u64 y] w fun e w' => e = .returned (.tuple #[.int .u64 (x * y / 18446744073709551616), .int .u64 (x * y % 18446744073709551616)]) ∧ w = w' := by
  obtain ⟨x, rfl⟩ := Int.eq_ofNat_of_zero_le x0
  obtain ⟨y, rfl⟩ := Int.eq_ofNat_of_zero_le y0
  have h := mul64_any x y (by omega) (by omega) w
  simpa using h
end Go.Proofs.YtjmdknbbgmajoaaDoor
