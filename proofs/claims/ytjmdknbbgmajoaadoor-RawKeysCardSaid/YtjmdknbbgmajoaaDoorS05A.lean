/- What each source sample weighs: Keys' cubic, in integers and by float64. -/
import Derived.Test.YtjmdknbbgmajoaaDoorS04E
import Derived.Test.YtjmdknbbgmajoaaDoorS04H
import Derived.Test.YtjmdknbbgmajoaaDoorS04B
namespace Go.Proofs.YtjmdknbbgmajoaaDoor
open Go.RowKit Ieee


theorem mul_step {x y : Nat} {a b A B e f M N g : Rat} (fx : Fin64 x a) (fy : Fin64 y b) (ha : InR (a - A) e) (hb : InR (b - B) f) (hA : InR A M) (hB : InR B N) (h1 : M * N + (M * f + e * N + e * f) ≤ 2 ^ 100) (hg : M * f + e * N + e * f + ((M * N + (M * f + e * N + e * f)) / 2 ^ 53 + 1 / 2 ^ 150) ≤ g) :
    ∃ r v, double.mul x y = some r ∧ Fin64 r v ∧ InR (v - A * B) g := by
  have p := mul_near ha hb hA hB
  obtain ⟨r, v, r1, r2, r3⟩ := mul_in fx fy (near_in_add p (inR_mul hA hB)) h1
  refine ⟨r, v, r1, r2, ?_⟩
  have := inR_add p r3
  rw [show a * b - A * B + (v - a * b) = v - A * B by grind] at this
  exact inR_mono this hg
theorem add_step {x y : Nat} {a b A B e f M N g : Rat} (fx : Fin64 x a) (fy : Fin64 y b) (ha : InR (a - A) e) (hb : InR (b - B) f) (hA : InR A M) (hB : InR B N) (h1 : M + N + (e + f) ≤ 2 ^ 100) (hg : e + f + ((M + N + (e + f)) / 2 ^ 53 + 1 / 2 ^ 150) ≤ g) :
    ∃ r v, double.add x y = some r ∧ Fin64 r v ∧ InR (v - (A + B)) g := by
  have p : InR (a + b - (A + B)) (e + f) := by
    have := inR_add ha hb
    rw [show a - A + (b - B) = a + b - (A + B) by grind] at this
    exact this
  obtain ⟨r, v, r1, r2, r3⟩ := add_in fx fy (near_in_add p (inR_add hA hB)) h1
  refine ⟨r, v, r1, r2, ?_⟩
  have := inR_add p r3
  rw [show a + b - (A + B) + (v - (a + b)) = v - (A + B) by grind] at this
  exact inR_mono this hg
theorem sub_step {x y : Nat} {a b A B e f M N g : Rat} (fx : Fin64 x a) (fy : Fin64 y b) (ha : InR (a - A) e) (hb : InR (b - B) f) (hA : InR A M) (hB : InR B N) (h1 : M + N + (e + f) ≤ 2 ^ 100) (hg : e + f + ((M + N + (e + f)) / 2 ^ 53 + 1 / 2 ^ 150) ≤ g) :
    ∃ r v, double.sub x y = some r ∧ Fin64 r v ∧ InR (v - (A - B)) g := by
  have p : InR (a - b - (A - B)) (e + f) := by
    have := inR_add ha (inR_neg hb)
    rw [show a - A + -(b - B) = a - b - (A - B) by grind] at this
    exact this
  have q : InR (A - B) (M + N) := by
    have := inR_add hA (inR_neg hB)
    rw [show A + -B = A - B by grind] at this
    exact this
  obtain ⟨r, v, r1, r2, r3⟩ := sub_in fx fy (near_in_add p q) h1
  refine ⟨r, v, r1, r2, ?_⟩
  have := inR_add p r3
  rw [show a - b - (A - B) + (v - (a - b)) = v - (A - B) by grind] at this
  exact inR_mono this hg
theorem self_near (a : Rat) : InR (a - a) 0 := by unfold InR; constructor <;> grind
/-- Keys' cubic, as a raw weight. -/
def lowK (p q : Int) : Int := 3 * (p * p * p) - 5 * (p * p) * q + 2 * (q * q * q)
def highK (p q : Int) : Int := 5 * (p * p) * q - p * p * p - 8 * p * (q * q) + 4 * (q * q * q)
def keysF (p q : Int) : Int := if 1 ≤ q ∧ q ≤ 262144 ∧ p < 2 * q ∧ -2 * q < p then (if absI p < q then divF (lowK (absI p) q * 1073741824) (2 * (q * q * q)) else divF (highK (absI p) q * 1073741824) (2 * (q * q * q))) else 0
theorem keysF_neg (p q : Int) : keysF (-p) q = keysF p q := by
  have e : (1 ≤ q ∧ q ≤ 262144 ∧ -p < 2 * q ∧ -2 * q < -p) ↔ (1 ≤ q ∧ q ≤ 262144 ∧ p < 2 * q ∧ -2 * q < p) := by omega
  unfold keysF
  rw [abs_minus]
  simp only [e]
def lowR (x : Rat) : Rat := 3 / 2 * x * x * x - 5 / 2 * x * x + 1
def highR (x : Rat) : Rat := -1 / 2 * x * x * x + 5 / 2 * x * x - 4 * x + 2
theorem cubes {q : Int} (q0 : 1 ≤ q) (q1 : q ≤ 262144) : 1 ≤ q * q ∧ q * q ≤ 68719476736 ∧ 1 ≤ q * q * q ∧ q * q * q ≤ 18014398509481984 := by
  have a : 1 * 1 ≤ q * q := Int.mul_le_mul q0 q0 (by omega) (by omega)
  have b : q * q ≤ 262144 * 262144 := Int.mul_le_mul q1 q1 (by omega) (by omega)
  have c : 1 * 1 ≤ q * q * q := Int.mul_le_mul a q0 (by omega) (by omega)
  have d : q * q * q ≤ 262144 * 262144 * 262144 := Int.mul_le_mul b q1 (by omega) (by omega)
  omega
/-- In range, the rounded quotient is near the number itself. -/
theorem divF_near {X D : Int} {t : Rat} (hD : 0 < D) (ht : t * (D : Rat) = (X : Rat)) (hb : InR t 9000000000000000000) : InR ((divF X D : Rat) - t) (1 / 2) := by
  have nr := near_rat hD ht
  have nb := near_in_add nr hb
  have nb2 : InR (nearQ X D : Rat) 9223372036854775807 := inR_mono nb (by decide +kernel)
  obtain ⟨n0, n1⟩ := nb2
  have n0' : -9223372036854775807 ≤ nearQ X D := by
    rw [show (-9223372036854775807 : Rat) = ((-9223372036854775807 : Int) : Rat) from rfl] at n0
    exact Rat.intCast_le_intCast.1 n0
  have n1' : nearQ X D ≤ 9223372036854775807 := by
    rw [show (9223372036854775807 : Rat) = ((9223372036854775807 : Int) : Rat) from rfl] at n1
    exact Rat.intCast_le_intCast.1 n1
  rw [divF_of (by omega), holdI_in (by omega) n1']
  exact nr
theorem lowR_in {x : Rat} (h : InR x 2) : InR (lowR x) 32 := by
  have a := inR_mul h h
  have b := inR_mul a h
  unfold lowR
  have e1 : 3 / 2 * x * x * x = 3 / 2 * (x * x * x) := by grind
  have e2 : 5 / 2 * x * x = 5 / 2 * (x * x) := by grind
  rw [e1, e2]
  generalize x * x * x = y at *
  generalize x * x = z at *
  unfold InR at *; constructor <;> grind
theorem highR_in {x : Rat} (h : InR x 2) : InR (highR x) 40 := by
  have a := inR_mul h h
  have b := inR_mul a h
  unfold highR
  have e1 : -1 / 2 * x * x * x = -1 / 2 * (x * x * x) := by grind
  have e2 : 5 / 2 * x * x = 5 / 2 * (x * x) := by grind
  rw [e1, e2]
  generalize x * x * x = y at *
  generalize x * x = z at *
  unfold InR at *; constructor <;> grind
theorem keysF_near {a d : Int} {x : Rat} (d0 : 1 ≤ d) (d1 : d ≤ 262144) (h0 : -2 * d < a) (h1 : a < 2 * d) (hx : x * (d : Rat) = (absI a : Rat)) (hb : InR x 2) :
    (absI a < d → InR ((keysF a d : Rat) - lowR x * 1073741824) (1 / 2)) ∧ (d ≤ absI a → InR ((keysF a d : Rat) - highR x * 1073741824) (1 / 2)) := by
  obtain ⟨_, _, c0, c1⟩ := cubes d0 d1
  unfold keysF
  rw [if_pos ⟨d0, d1, h1, h0⟩]
  constructor
  · intro g
    rw [if_pos g]
    refine divF_near (by omega) ?_ (inR_mono (inR_mul (lowR_in hb) (show InR (1073741824 : Rat) 1073741824 by unfold InR; decide +kernel)) (by decide +kernel))
    unfold lowK lowR
    simp only [Rat.intCast_mul, Rat.intCast_sub, Rat.intCast_add]
    rw [← hx, show ((2 : Int) : Rat) = 2 from rfl, show ((3 : Int) : Rat) = 3 from rfl, show ((5 : Int) : Rat) = 5 from rfl, show ((1073741824 : Int) : Rat) = 1073741824 from rfl]
    generalize (d : Rat) = D
    grind
  · intro g
    rw [if_neg (by omega)]
    refine divF_near (by omega) ?_ (inR_mono (inR_mul (highR_in hb) (show InR (1073741824 : Rat) 1073741824 by unfold InR; decide +kernel)) (by decide +kernel))
    unfold highK highR
    simp only [Rat.intCast_mul, Rat.intCast_sub, Rat.intCast_add]
    rw [← hx, show ((2 : Int) : Rat) = 2 from rfl, show ((4 : Int) : Rat) = 4 from rfl, show ((5 : Int) : Rat) = 5 from rfl, show ((8 : Int) : Rat) = 8 from rfl, show ((1073741824 : Int) : Rat) = 1073741824 from rfl]
    generalize (d : Rat) = D
    grind
end Go.Proofs.YtjmdknbbgmajoaaDoor
