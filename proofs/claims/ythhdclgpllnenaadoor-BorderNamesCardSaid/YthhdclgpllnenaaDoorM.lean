/- Plain arithmetic for this seat: quotients, numbers of 128 bits as two halves. No program text in sight. -/
namespace Go.Proofs.YthhdclgpllnenaaDoor


/-- The halves of a number of 128 bits. -/
def hi (x : Int) : Int := x / 18446744073709551616
def lo (x : Int) : Int := x % 18446744073709551616
theorem hl (x : Int) : hi x * 18446744073709551616 + lo x = x := by unfold hi lo; omega
theorem div_of {a b q r : Int} (e : a = b * q + r) (h0 : 0 ≤ r) (h1 : r < b) : a / b = q :=
  ((Int.ediv_emod_unique (Int.lt_of_le_of_lt h0 h1)).2 ⟨by rw [e, Int.add_comm], h0, h1⟩).1
theorem mod_of {a b q r : Int} (e : a = b * q + r) (h0 : 0 ≤ r) (h1 : r < b) : a % b = r :=
  ((Int.ediv_emod_unique (Int.lt_of_le_of_lt h0 h1)).2 ⟨by rw [e, Int.add_comm], h0, h1⟩).2
/-- The quotient downwards, and what is left. -/
def floorQ (a b : Int) : Int := if b < 0 then (-a) / (-b) else a / b
def floorR (a b : Int) : Int := if b < 0 then -((-a) % (-b)) else a % b
theorem floor_below {a b : Int} (hb : 0 < b) : (-a) / b = -(a / b + (if 0 < a % b then 1 else 0)) := by
  have e := Int.mul_ediv_add_emod a b
  have r0 := Int.emod_nonneg a (Int.ne_of_gt hb)
  have r1 := Int.emod_lt_of_pos a hb
  split
  · exact div_of (r := b - a % b) (by rw [Int.mul_neg, Int.mul_add]; omega) (by omega) (by omega)
  · exact div_of (r := 0) (by rw [Int.mul_neg, Int.mul_add]; omega) (by omega) (by omega)
end Go.Proofs.YthhdclgpllnenaaDoor
