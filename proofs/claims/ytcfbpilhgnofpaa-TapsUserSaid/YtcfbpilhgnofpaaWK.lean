/- Plain arithmetic for this seat: one digit of a long quotient. No program text in sight. -/
import Derived.Test.YtcfbpilhgnofpaaWM
namespace Go.Proofs.Ytcfbpilhgnofpaa


/-- What a digit's search stands on: the divisor's two halves, what is left so far, the next half. -/
structure DigC (a c U v : Int) : Prop where
  a0 : 2147483648 ≤ a
  a1 : a < 4294967296
  c0 : 0 ≤ c
  c1 : c < 4294967296
  u0 : 0 ≤ U
  u1 : U < a * 4294967296 + c
  v0 : 0 ≤ v
  v1 : v < 4294967296
/-- The digit itself. -/
def digQ (a c U v : Int) : Int := (U * 4294967296 + v) / (a * 4294967296 + c)
def digR (a c U v : Int) : Int := (U * 4294967296 + v) % (a * 4294967296 + c)
theorem dig_eq (a c U v : Int) : (a * 4294967296 + c) * digQ a c U v + digR a c U v = U * 4294967296 + v := Int.mul_ediv_add_emod _ _
theorem dig_in {a c U v : Int} (C : DigC a c U v) : 0 ≤ digQ a c U v ∧ digQ a c U v < 4294967296 ∧ 0 ≤ digR a c U v ∧ digR a c U v < a * 4294967296 + c := by
  obtain ⟨a0, a1, c0, c1, u0, u1, v0, v1⟩ := C
  refine ⟨Int.ediv_nonneg (by omega) (by omega), Int.ediv_lt_of_lt_mul (by omega) (by omega), Int.emod_nonneg _ (by omega), Int.emod_lt_of_pos _ (by omega)⟩
/-- A guess of the digit, and what it leaves. -/
structure Dig (a c U v q r : Int) : Prop where
  e : q * a + r = U
  r0 : 0 ≤ r
  lo : digQ a c U v ≤ q
  hi : q ≤ 4294967297
theorem Dig.first {a c U v : Int} (C : DigC a c U v) : Dig a c U v (U / a) (U % a) ∧ U % a < 4294967296 := by
  obtain ⟨a0, a1, c0, c1, u0, u1, v0, v1⟩ := C
  have ap : 0 < a := by omega
  have e := Int.mul_ediv_add_emod U a
  have r := rest_in (x := U) ap
  refine ⟨⟨by rw [Int.mul_comm]; exact e, r.1, ?_, ?_⟩, by omega⟩
  · have q0 : 0 ≤ U / a := Int.ediv_nonneg u0 (by omega)
    have p0 := Int.mul_nonneg q0 c0
    have h1 : digQ a c U v < U / a + 1 := Int.ediv_lt_of_lt_mul (by omega) (by
      have h2 : (U / a + 1) * (a * 4294967296 + c) = (a * (U / a)) * 4294967296 + (U / a) * c + (a * 4294967296 + c) := by
        rw [Int.add_mul, Int.one_mul, Int.mul_add, ← Int.mul_assoc, Int.mul_comm (U / a) a]
      rw [h2]
      omega)
    omega
  · have : U / a < 4294967298 := Int.ediv_lt_of_lt_mul ap (by omega)
    omega
/-- How a guess times the divisor stands to what is divided. -/
theorem Dig.times {a c U v q r : Int} (h : Dig a c U v q r) : (a * 4294967296 + c) * q = (U - r) * 4294967296 + q * c := by
  have e := h.e
  have e2 : (a * 4294967296 + c) * q = q * a * 4294967296 + q * c := by
    rw [Int.add_mul, Int.mul_comm c q, Int.mul_right_comm, Int.mul_comm a q]
  rw [e2]
  have : q * a = U - r := by omega
  rw [this]
theorem Dig.above {a c U v q r : Int} (C : DigC a c U v) (h : Dig a c U v q r) (hc : 4294967296 * r + v < q * c) : digQ a c U v < q := by
  have t := h.times
  have := C.a0; have := C.c0
  exact Int.ediv_lt_of_lt_mul (by omega) (by rw [Int.mul_comm q, t]; omega)
theorem Dig.below {a c U v q r : Int} (C : DigC a c U v) (h : Dig a c U v q r) (hc : q * c ≤ 4294967296 * r + v) : digQ a c U v = q := by
  have t := h.times
  have := C.a0; have := C.c0
  have h2 : q ≤ digQ a c U v := Int.le_ediv_of_mul_le (by omega) (by rw [Int.mul_comm, t]; omega)
  have := h.lo
  omega
theorem Dig.next {a c U v q r : Int} (C : DigC a c U v) (h : Dig a c U v q r) (hq : digQ a c U v < q) : Dig a c U v (q - 1) (r + a) := by
  have := C.a0
  have e := h.e
  have r0 := h.r0
  have hi := h.hi
  refine ⟨?_, by omega, by omega, by omega⟩
  rw [Int.sub_mul, Int.one_mul]
  omega
theorem Dig.stop {a c U v q r : Int} (C : DigC a c U v) (h : Dig a c U v q r) (hq : digQ a c U v < q) (hr : 4294967296 ≤ r + a) : digQ a c U v = q - 1 := by
  refine (h.next C hq).below C ?_
  have hi := h.hi
  have := C.c0; have := C.c1; have := C.v0
  have d := (dig_in C).1
  have m := Int.mul_le_mul (show q - 1 ≤ 4294967296 by omega) (show c ≤ 4294967295 by omega) (by omega) (by omega)
  omega
theorem Dig.prod {a c U v q r : Int} (C : DigC a c U v) (h : Dig a c U v q r) (hq : q < 4294967296) : 0 ≤ q * c ∧ q * c ≤ 18446744065119617025 := by
  have lo := h.lo
  have := C.c0; have := C.c1
  have d := (dig_in C).1
  refine ⟨Int.mul_nonneg (by omega) (by omega), ?_⟩
  have m := Int.mul_le_mul (show q ≤ 4294967295 by omega) (show c ≤ 4294967295 by omega) (by omega) (by omega)
  omega
end Go.Proofs.Ytcfbpilhgnofpaa
