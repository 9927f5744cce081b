/- Plain arithmetic for this seat: long numbers of 128 bits with a sign, going round. No program text in sight. -/
import Derived.Test.YtcfbpilhgnofpaaN
import Derived.Laws.Bits64b
namespace Go.Proofs.Ytcfbpilhgnofpaa


/-- A whole number, gone round at 2^128 to where long numbers are. -/
def wrapL (x : Int) : Int := (x + 170141183460469231731687303715884105728) % 340282366920938463463374607431768211456 - 170141183460469231731687303715884105728
theorem wrapL_in {x : Int} (h0 : -170141183460469231731687303715884105728 ≤ x) (h1 : x < 170141183460469231731687303715884105728) : wrapL x = x := by unfold wrapL; omega
theorem hiS0 {x : Int} (h0 : -170141183460469231731687303715884105728 ≤ x) : -9223372036854775808 ≤ hi x := by unfold hi; omega
theorem hiS1 {x : Int} (h1 : x < 170141183460469231731687303715884105728) : hi x ≤ 9223372036854775807 := by unfold hi; omega
theorem lo_sum (x y : Int) : (lo x + lo y) % 18446744073709551616 = lo (wrapL (x + y)) := by unfold lo wrapL; omega
theorem hi_sum (x y : Int) : (hi x + hi y + (lo x + lo y) / 18446744073709551616 + 9223372036854775808) % 18446744073709551616 - 9223372036854775808 = hi (wrapL (x + y)) := by unfold hi lo wrapL; omega
theorem lo_neg (x : Int) : (0 - lo x) % 18446744073709551616 = lo (wrapL (-x)) := by unfold lo wrapL; omega
theorem hi_neg (x : Int) : (0 - hi x - (if 0 < lo x then 1 else 0) + 9223372036854775808) % 18446744073709551616 - 9223372036854775808 = hi (wrapL (-x)) := by unfold hi lo wrapL; split <;> omega
theorem hi_sum64 (x y : Int) : ((hi x % 18446744073709551616 + hi y % 18446744073709551616 + (lo x + lo y) / 18446744073709551616) % 18446744073709551616 + 9223372036854775808) % 18446744073709551616 - 9223372036854775808 = hi (wrapL (x + y)) := by rw [← hi_sum]; omega
theorem lo_neg0 {x : Int} (h : lo x = 0) : lo (wrapL (-x)) = 0 := by unfold lo at h; unfold lo wrapL; omega
theorem hi_neg0 {x : Int} (h : lo x = 0) : (-(hi x % 18446744073709551616) % 18446744073709551616 + 9223372036854775808) % 18446744073709551616 - 9223372036854775808 = hi (wrapL (-x)) := by rw [← hi_neg, if_neg (by omega)]; omega
theorem lo_neg1 {x : Int} (_h : 0 < lo x) : -lo x % 18446744073709551616 = lo (wrapL (-x)) := by rw [← lo_neg]; omega
theorem hi_neg1 {x : Int} (h : 0 < lo x) : ((-(hi x % 18446744073709551616) - 1) % 18446744073709551616 + 9223372036854775808) % 18446744073709551616 - 9223372036854775808 = hi (wrapL (-x)) := by rw [← hi_neg, if_pos h]; omega
theorem hiS_one {x : Int} (h0 : -9223372036854775808 ≤ x) (h1 : x ≤ 9223372036854775807) : x / 9223372036854775808 = hi x := by unfold hi; omega
/-- Two numbers that share no bit, put together. -/
theorem or_apart (a b : Int) (k : Nat) (a0 : 0 ≤ a) (a1 : a * 2 ^ k < 18446744073709551616) (b0 : 0 ≤ b) (b1 : b < 2 ^ k) (b2 : b < 18446744073709551616) : bits .or .u64 (a * 2 ^ k) b = a * 2 ^ k + b := by
  obtain ⟨a, rfl⟩ := Int.eq_ofNat_of_zero_le a0
  obtain ⟨b, rfl⟩ := Int.eq_ofNat_of_zero_le b0
  have hk : (2 : Int) ^ k = ((2 ^ k : Nat) : Int) := by simp
  rw [hk] at a1 b1 ⊢
  have e : (a : Int) * ((2 ^ k : Nat) : Int) = ((a * 2 ^ k : Nat) : Int) := by simp
  rw [e] at a1 ⊢
  rw [bits_or_u64_nat _ _ (by omega) (by omega)]
  have h := Nat.two_pow_add_eq_or_of_lt (show b < 2 ^ k by omega) a
  rw [Nat.mul_comm a]
  omega
theorem pow_split {n : Nat} (h : n ≤ 64) : (18446744073709551616 : Int) = 2 ^ n * 2 ^ (64 - n) := by
  have h2 : (18446744073709551616 : Int) = 2 ^ (n + (64 - n)) := by
    have : n + (64 - n) = 64 := by omega
    rw [this]; rfl
  rw [h2, Int.pow_add]
/-- A long quotient, by halves. -/
theorem div_halves {x d : Int} (d0 : 0 < d) : hi x / d = hi (x / d) ∧ (hi x % d * 18446744073709551616 + lo x) / d = lo (x / d) ∧ (hi x % d * 18446744073709551616 + lo x) % d = x % d := by
  have hx := hl x
  have l0 := lo0 x
  have l1 := lo1 x
  have e := Int.mul_ediv_add_emod (hi x) d
  have r := rest_in (x := hi x) d0
  generalize hi x % d = R at *
  generalize hi x / d = Q at *
  have e2 := Int.mul_ediv_add_emod (R * 18446744073709551616 + lo x) d
  have r2 := rest_in (x := R * 18446744073709551616 + lo x) d0
  have q1 : (R * 18446744073709551616 + lo x) / d < 18446744073709551616 := Int.ediv_lt_of_lt_mul d0 (by
    have : (R + 1) * 18446744073709551616 ≤ d * 18446744073709551616 := Int.mul_le_mul_of_nonneg_right (by omega) (by decide)
    rw [Int.mul_comm 18446744073709551616 d] at *
    omega)
  have q0 : 0 ≤ (R * 18446744073709551616 + lo x) / d := Int.ediv_nonneg (by omega) (by omega)
  generalize (R * 18446744073709551616 + lo x) / d = q at *
  generalize (R * 18446744073709551616 + lo x) % d = r at *
  have ex : x = d * (Q * 18446744073709551616 + q) + r := by
    rw [Int.mul_add, ← Int.mul_assoc]
    generalize d * q = dq at *
    have : d * Q * 18446744073709551616 = (hi x - R) * 18446744073709551616 := by congr 1; omega
    rw [this]
    omega
  rw [div_of ex r2.1 r2.2, mod_of ex r2.1 r2.2]
  exact ⟨hi_of rfl q0 q1, lo_of rfl q0 q1, rfl⟩
end Go.Proofs.Ytcfbpilhgnofpaa
