/- Plain arithmetic for this seat: quotients, numbers of 128 bits as two halves. No program text in sight. -/
namespace Go.Proofs.Ytcfbpilhgnofpaa


/-- The halves of a number of 128 bits. -/
def hi (x : Int) : Int := x / 18446744073709551616
def lo (x : Int) : Int := x % 18446744073709551616
theorem hl (x : Int) : hi x * 18446744073709551616 + lo x = x := by unfold hi lo; omega
theorem lo0 (x : Int) : 0 ≤ lo x := by unfold lo; omega
theorem lo1 (x : Int) : lo x < 18446744073709551616 := by unfold lo; omega
theorem hi0 {x : Int} (h : 0 ≤ x) : 0 ≤ hi x := by unfold hi; omega
theorem hi1 {x : Int} (h : x < 340282366920938463463374607431768211456) : hi x < 18446744073709551616 := by unfold hi; omega
theorem hi_small {x : Int} (h0 : 0 ≤ x) (h1 : x < 18446744073709551616) : hi x = 0 := by unfold hi; omega
theorem lo_small {x : Int} (h0 : 0 ≤ x) (h1 : x < 18446744073709551616) : lo x = x := by unfold lo; omega
theorem hi_of {x h l : Int} (e : h * 18446744073709551616 + l = x) (l0 : 0 ≤ l) (l1 : l < 18446744073709551616) : h = hi x := by unfold hi; omega
theorem lo_of {x h l : Int} (e : h * 18446744073709551616 + l = x) (l0 : 0 ≤ l) (l1 : l < 18446744073709551616) : l = lo x := by unfold lo; omega
theorem div_of {a b q r : Int} (e : a = b * q + r) (h0 : 0 ≤ r) (h1 : r < b) : a / b = q :=
  ((Int.ediv_emod_unique (Int.lt_of_le_of_lt h0 h1)).2 ⟨by rw [e, Int.add_comm], h0, h1⟩).1
theorem mod_of {a b q r : Int} (e : a = b * q + r) (h0 : 0 ≤ r) (h1 : r < b) : a % b = r :=
  ((Int.ediv_emod_unique (Int.lt_of_le_of_lt h0 h1)).2 ⟨by rw [e, Int.add_comm], h0, h1⟩).2
/-- A number without sign. -/
def absI (x : Int) : Int := if x < 0 then -x else x
theorem absI_neg {x : Int} (h : x < 0) : absI x = -x := if_pos h
theorem absI_pos {x : Int} (h : 0 ≤ x) : absI x = x := if_neg (by omega)
theorem absI0 (x : Int) : 0 ≤ absI x := by unfold absI; split <;> omega
theorem absI1 {x : Int} (h0 : -9223372036854775808 ≤ x) (h1 : x < 9223372036854775808) : absI x ≤ 9223372036854775808 := by unfold absI; split <;> omega
/-- A bit. -/
def bitI (x : Int) (i : Nat) : Int := x / 2 ^ i % 2
theorem bitI0 (x : Int) (i : Nat) : 0 ≤ bitI x i := by unfold bitI; omega
theorem bitI1 (x : Int) (i : Nat) : bitI x i ≤ 1 := by unfold bitI; omega
theorem pow2_pos (i : Nat) : (0 : Int) < 2 ^ i := Int.pow_pos (by decide)
theorem bitI_hi (x : Int) (i : Nat) (h : 64 ≤ i) : hi x / 2 ^ (i - 64) % 2 = bitI x i := by
  unfold hi bitI
  have e : (2 : Int) ^ i = 18446744073709551616 * 2 ^ (i - 64) := by
    have h2 : (2 : Int) ^ i = 2 ^ (64 + (i - 64)) := by congr 1; omega
    rw [h2, Int.pow_add]; rfl
  rw [e, Int.ediv_ediv_of_nonneg (by decide)]
theorem bitI_lo (x : Int) (i : Nat) (h : i < 64) : lo x / 2 ^ i % 2 = bitI x i := by
  have e : (18446744073709551616 : Int) = 2 ^ i * (2 * 2 ^ (63 - i)) := by
    have h2 : (18446744073709551616 : Int) = 2 ^ (i + (1 + (63 - i))) := by
      have : i + (1 + (63 - i)) = 64 := by omega
      rw [this]; rfl
    rw [h2, Int.pow_add, Int.pow_add]; rfl
  have hx := hl x
  have e2 : x = lo x + hi x * (2 * 2 ^ (63 - i)) * 2 ^ i := by
    have e3 : hi x * (2 * 2 ^ (63 - i)) * 2 ^ i = hi x * 18446744073709551616 := by
      rw [e, Int.mul_assoc]; congr 1; rw [Int.mul_comm]
    omega
  unfold bitI
  conv => rhs; rw [e2]
  rw [Int.add_mul_ediv_right _ _ (Int.ne_of_gt (pow2_pos i))]
  have e4 : hi x * (2 * 2 ^ (63 - i)) = 2 * (hi x * 2 ^ (63 - i)) := by rw [Int.mul_left_comm]
  rw [e4]
  omega
/-- One bit more of what is divided. -/
theorem half_pow (x : Int) (j : Nat) : x / 2 ^ j = 2 * (x / 2 ^ (j + 1)) + bitI x j := by
  unfold bitI
  have e : x / 2 ^ (j + 1) = x / 2 ^ j / 2 := by rw [Int.pow_succ, Int.ediv_ediv_of_nonneg (Int.le_of_lt (pow2_pos j))]
  rw [e]; omega
theorem step_lt {p d b : Int} (hd : 0 < d) (hb : 0 ≤ b) (h : 2 * (p % d) + b < d) : (2 * p + b) / d = 2 * (p / d) ∧ (2 * p + b) % d = 2 * (p % d) + b := by
  have e := Int.mul_ediv_add_emod p d
  have r0 := Int.emod_nonneg p (Int.ne_of_gt hd)
  have e2 : 2 * p + b = d * (2 * (p / d)) + (2 * (p % d) + b) := by
    rw [Int.mul_left_comm]; omega
  exact ⟨div_of e2 (by omega) h, mod_of e2 (by omega) h⟩
theorem step_ge {p d b : Int} (hd : 0 < d) (hb : b ≤ 1) (h : d ≤ 2 * (p % d) + b) : (2 * p + b) / d = 2 * (p / d) + 1 ∧ (2 * p + b) % d = 2 * (p % d) + b - d := by
  have e := Int.mul_ediv_add_emod p d
  have r1 := Int.emod_lt_of_pos p hd
  have e2 : 2 * p + b = d * (2 * (p / d) + 1) + (2 * (p % d) + b - d) := by
    rw [Int.mul_add, Int.mul_left_comm]; omega
  exact ⟨div_of e2 (by omega) (by omega), mod_of e2 (by omega) (by omega)⟩
/-- Within 64 bits, with a sign. -/
def holdI (x : Int) : Int := if x < -9223372036854775808 then -9223372036854775808 else if 9223372036854775807 < x then 9223372036854775807 else x
theorem holdI_in {x : Int} (h0 : -9223372036854775808 ≤ x) (h1 : x ≤ 9223372036854775807) : holdI x = x := by unfold holdI; rw [if_neg (by omega), if_neg (by omega)]
theorem holdI_lo {x : Int} (h : x ≤ -9223372036854775808) : holdI x = -9223372036854775808 := by unfold holdI; split <;> (try split) <;> omega
theorem holdI_hi {x : Int} (h : 9223372036854775807 ≤ x) : holdI x = 9223372036854775807 := by unfold holdI; split <;> (try split) <;> omega
theorem holdI0 (x : Int) : -9223372036854775808 ≤ holdI x := by unfold holdI; split <;> (try split) <;> omega
theorem holdI1 (x : Int) : holdI x ≤ 9223372036854775807 := by unfold holdI; split <;> (try split) <;> omega
/-- The quotient downwards, and what is left. -/
def floorQ (a b : Int) : Int := if b < 0 then (-a) / (-b) else a / b
def floorR (a b : Int) : Int := if b < 0 then -((-a) % (-b)) else a % b
/-- The nearest number: a half goes up. -/
def nearQ (a b : Int) : Int := if b < 0 then (2 * (-a) + (-b)) / (2 * (-b)) else (2 * a + b) / (2 * b)
theorem near_up {a b : Int} (hb : 0 < b) : (2 * a + b) / (2 * b) = a / b + (if b ≤ 2 * (a % b) then 1 else 0) := by
  have e := Int.mul_ediv_add_emod a b
  have r0 := Int.emod_nonneg a (Int.ne_of_gt hb)
  have r1 := Int.emod_lt_of_pos a hb
  split
  · exact div_of (r := 2 * (a % b) - b) (by rw [Int.mul_add, Int.mul_assoc]; omega) (by omega) (by omega)
  · exact div_of (r := 2 * (a % b) + b) (by rw [Int.mul_add, Int.mul_assoc]; omega) (by omega) (by omega)
theorem neg_mul_two (b Q k : Int) : 2 * b * -(Q + k) = -(2 * (b * Q)) - 2 * (b * k) := by
  rw [Int.mul_neg, Int.mul_assoc, Int.mul_add]; omega
theorem near_below {a b : Int} (hb : 0 < b) : (2 * (-a) + b) / (2 * b) = -(a / b + (if b < 2 * (a % b) then 1 else 0)) := by
  have e := Int.mul_ediv_add_emod a b
  have r0 := Int.emod_nonneg a (Int.ne_of_gt hb)
  have r1 := Int.emod_lt_of_pos a hb
  split
  · exact div_of (r := b - 2 * (a % b) + 2 * b) (by rw [neg_mul_two]; omega) (by omega) (by omega)
  · exact div_of (r := b - 2 * (a % b)) (by rw [neg_mul_two]; omega) (by omega) (by omega)
theorem floor_below {a b : Int} (hb : 0 < b) : (-a) / b = -(a / b + (if 0 < a % b then 1 else 0)) := by
  have e := Int.mul_ediv_add_emod a b
  have r0 := Int.emod_nonneg a (Int.ne_of_gt hb)
  have r1 := Int.emod_lt_of_pos a hb
  split
  · exact div_of (r := b - a % b) (by rw [Int.mul_neg, Int.mul_add]; omega) (by omega) (by omega)
  · exact div_of (r := 0) (by rw [Int.mul_neg, Int.mul_add]; omega) (by omega) (by omega)
end Go.Proofs.Ytcfbpilhgnofpaa
