/- Plain arithmetic for this seat: quotients, numbers of 128 bits as two halves. No program text in sight. -/
namespace Go.Proofs.Ythhdclgpllnenaa


/-- The halves of a number of 128 bits. -/
def hi (x : Int) : Int := x / 18446744073709551616
def lo (x : Int) : Int := x % 18446744073709551616
theorem hl (x : Int) : hi x * 18446744073709551616 + lo x = x := by unfold hi lo; omega
theorem div_of {a b q r : Int} (e : a = b * q + r) (h0 : 0 ≤ r) (h1 : r < b) : a / b = q :=
  ((Int.ediv_emod_unique (Int.lt_of_le_of_lt h0 h1)).2 ⟨by rw [e, Int.add_comm], h0, h1⟩).1
theorem mod_of {a b q r : Int} (e : a = b * q + r) (h0 : 0 ≤ r) (h1 : r < b) : a % b = r :=
  ((Int.ediv_emod_unique (Int.lt_of_le_of_lt h0 h1)).2 ⟨by rw [e, Int.add_comm], h0, h1⟩).2
/-- Within 64 bits, with a sign. -/
def holdI (x : Int) : Int := if x < -9223372036854775808 then -9223372036854775808 else if 9223372036854775807 < x then 9223372036854775807 else x
theorem holdI_in {x : Int} (h0 : -9223372036854775808 ≤ x) (h1 : x ≤ 9223372036854775807) : holdI x = x := by unfold holdI; rw [if_neg (by omega), if_neg (by omega)]
theorem holdI_lo {x : Int} (h : x ≤ -9223372036854775808) : holdI x = -9223372036854775808 := by unfold holdI; split <;> (try split) <;> omega
theorem holdI_hi {x : Int} (h : 9223372036854775807 ≤ x) : holdI x = 9223372036854775807 := by unfold holdI; split <;> (try split) <;> omega
theorem holdI0 (x : Int) : -9223372036854775808 ≤ holdI x := by unfold holdI; split <;> (try split) <;> omega
theorem holdI1 (x : Int) : holdI x ≤ 9223372036854775807 := by unfold holdI; split <;> (try split) <;> omega
/-- The quotient downwards, and what is left. -/
def floorQ (a b : Int) : Int := if b < 0 then (-a) / (-b) else a / b
def floorR (a b : Int) : Int := if b < 0 then -((-a) % (-b)) else a % b
theorem floor_below {a b : Int} (hb : 0 < b) : (-a) / b = -(a / b + (if 0 < a % b then 1 else 0)) := by
  have e := Int.mul_ediv_add_emod a b
  have r0 := Int.emod_nonneg a (Int.ne_of_gt hb)
  have r1 := Int.emod_lt_of_pos a hb
  split
  · exact div_of (r := b - a % b) (by rw [Int.mul_neg, Int.mul_add]; omega) (by omega) (by omega)
  · exact div_of (r := 0) (by rw [Int.mul_neg, Int.mul_add]; omega) (by omega) (by omega)
end Go.Proofs.Ythhdclgpllnenaa
