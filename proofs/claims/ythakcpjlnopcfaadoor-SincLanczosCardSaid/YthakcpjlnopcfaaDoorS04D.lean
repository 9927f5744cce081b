/- The sine's series in integers, and the polynomial that it stands for. -/
import Derived.Test.YthakcpjlnopcfaaDoorS04A
import Derived.Test.YthakcpjlnopcfaaDoorFB
namespace Go.Proofs.YthakcpjlnopcfaaDoor
open Go.RowKit


theorem near_err {X d : Int} (hd : 0 < d) : -d ≤ 2 * (d * nearQ X d) - 2 * X ∧ 2 * (d * nearQ X d) - 2 * X ≤ d := by
  unfold nearQ
  rw [if_neg (by omega)]
  have e := Int.mul_ediv_add_emod (2 * X + d) (2 * d)
  have r0 := Int.emod_nonneg (2 * X + d) (show 2 * d ≠ 0 by omega)
  have r1 := Int.emod_lt_of_pos (2 * X + d) (show 0 < 2 * d by omega)
  rw [Int.mul_assoc] at e
  omega
theorem termS_eq {u : Int} (h0 : 0 ≤ u) (h1 : u ≤ 173627916808752) (n : Nat) (hn : n < 30) : termS u (n + 1) = nearQ (termS u n * u) (divS n) := by
  obtain ⟨a0, a1⟩ := termS_in h0 h1 n (by omega)
  obtain ⟨d0, d1⟩ := divS_in n (by omega)
  obtain ⟨t0, t1⟩ := topS_in n (by omega)
  obtain ⟨_, t3⟩ := topS_in (n + 1) (by omega)
  have p0 : 0 ≤ termS u n * u := Int.mul_nonneg a0 h0
  have p1 : termS u n * u ≤ topS n * 173627916808752 := Int.mul_le_mul a1 h1 h0 (by omega)
  have p2 : topS n * 173627916808752 < (topS n * 173627916808752 / divS n + 1) * divS n := Int.lt_mul_of_ediv_lt (by omega) (by omega)
  have q := near_in (X := termS u n * u) (d := divS n) (m := topS (n + 1)) (by omega) p0 (by
    show _ ≤ (topS n * 173627916808752 / divS n + 1) * divS n
    omega)
  show divF _ _ = _
  rw [divF_of (by omega), holdI_in (by omega) (by omega)]
/-- The terms without rounding, and their sum. -/
def stepT (n : Nat) : Rat := ((2 * n + 2 : Nat) : Rat) * ((2 * n + 3 : Nat) : Rat)
def realT (U : Rat) : Nat → Rat
  | 0 => 1
  | n + 1 => realT U n * (U * (stepT n)⁻¹)
def preT (U : Rat) : Nat → Rat
  | 0 => 0
  | n + 1 => preT U n + (if n % 2 = 1 then -realT U n else realT U n)
theorem coefT_pre (U : Rat) (k : Nat) : ∀ (n : Nat) (X c : Rat), n + k = 30 → X * c = realT U n → preT U n + X * evalP (coefT (n % 2 == 1) k c) U = preT U 31 := by
  induction k with
  | zero =>
    intro n X c hn hX
    obtain rfl : n = 30 := by omega
    show preT U 30 + X * (c + U * 0) = preT U 30 + realT U 30
    rw [← hX]; grind
  | succ k ih =>
    intro n X c hn hX
    have e1 : 60 - 2 * k = 2 * n + 2 := by omega
    have e2 : 61 - 2 * k = 2 * n + 3 := by omega
    have e3 : (!(n % 2 == 1)) = ((n + 1) % 2 == 1) := by
      by_cases g : n % 2 = 1
      · rw [show (n % 2 == 1) = true from beq_iff_eq.2 g, show ((n + 1) % 2 == 1) = false from beq_eq_false_iff_ne.2 (by omega)]; rfl
      · rw [show (n % 2 == 1) = false from beq_eq_false_iff_ne.2 g, show ((n + 1) % 2 == 1) = true from beq_iff_eq.2 (by omega)]; rfl
    have h := ih (n + 1) (X * U) (c / (((2 * n + 2 : Nat) : Rat) * ((2 * n + 3 : Nat) : Rat))) (by omega) (by
      show X * U * (c * (stepT n)⁻¹) = realT U n * (U * (stepT n)⁻¹)
      rw [← hX]; grind)
    rw [← h]
    simp only [coefT, evalP]
    rw [e1, e2, e3]
    show _ = preT U n + (if n % 2 = 1 then -realT U n else realT U n) + _
    rw [← hX]
    by_cases g : n % 2 = 1
    · rw [if_pos g, show (n % 2 == 1) = true from beq_iff_eq.2 g]; simp only [if_true]; grind
    · rw [if_neg g, show (n % 2 == 1) = false from beq_eq_false_iff_ne.2 g]; simp only [Bool.false_eq_true, if_false]; grind
theorem polyT_pre (U : Rat) : evalP polyT U = preT U 31 := by
  have h := coefT_pre U 30 0 1 1 rfl (by show (1 : Rat) * 1 = 1; grind)
  rw [← h]
  show evalP (coefT false 30 1) U = 0 + 1 * evalP (coefT false 30 1) U
  grind
def errT : Nat → Rat
  | 0 => 0
  | n + 1 => errT n * (158 * (stepT n)⁻¹) + 1 / 2199023255552
def allT : Nat → Rat
  | 0 => 0
  | n + 1 => allT n + errT (n + 1)
theorem allT_small : allT 30 ≤ 1 / 2 ^ 31 := by decide +kernel
theorem stepT_pos (n : Nat) : 0 < stepT n := Rat.mul_pos (Rat.natCast_pos.2 (by omega)) (Rat.natCast_pos.2 (by omega))
theorem stepT_inv (n : Nat) : 0 ≤ (stepT n)⁻¹ := Rat.le_of_lt (Rat.inv_pos.2 (stepT_pos n))
theorem divS_rat (n : Nat) : ((divS n : Int) : Rat) = stepT n * 1099511627776 := by
  unfold divS stepT
  rw [show (2 * ((n : Int) + 1) * (2 * ((n : Int) + 1) + 1) * 1099511627776 : Int) = (((2 * n + 2) * (2 * n + 3) * 1099511627776 : Nat) : Int) by
    rw [Int.natCast_mul, Int.natCast_mul, Int.natCast_add, Int.natCast_mul, Int.natCast_add, Int.natCast_mul]
    rw [show (2 * ((n : Int) + 1)) = ((2 : Nat) : Int) * n + ((2 : Nat) : Int) by omega]
    congr 2]
  rw [Rat.intCast_natCast, Rat.natCast_mul, Rat.natCast_mul]
  rfl
theorem stepTerm {t u t' D : Rat} (hD : 0 < D) (h0 : -(D * 1099511627776) ≤ 2 * (D * 1099511627776 * t') - 2 * (t * u)) (h1 : 2 * (D * 1099511627776 * t') - 2 * (t * u) ≤ D * 1099511627776) :
    InR (t' / 1099511627776 - t / 1099511627776 * (u / 1099511627776 * D⁻¹)) (1 / 2199023255552) := by
  have hi : D * D⁻¹ = 1 := Rat.mul_inv_cancel D (by grind)
  have i0 : 0 ≤ D⁻¹ := Rat.le_of_lt (Rat.inv_pos.2 hD)
  generalize D⁻¹ = I at *
  have a := Rat.mul_le_mul_of_nonneg_right h0 i0
  have b := Rat.mul_le_mul_of_nonneg_right h1 i0
  have e1 : -(D * 1099511627776) * I = -1099511627776 := by grind
  have e2 : D * 1099511627776 * I = 1099511627776 := by grind
  have e3 : (2 * (D * 1099511627776 * t') - 2 * (t * u)) * I = 2 * 1099511627776 * t' - 2 * (t * u * I) := by grind
  rw [e1, e3] at a
  rw [e2, e3] at b
  unfold InR
  constructor <;> grind
theorem termS_real {u : Int} (h0 : 0 ≤ u) (h1 : u ≤ 173627916808752) (n : Nat) (hn : n < 31) : InR ((termS u n : Rat) / 1099511627776 - realT ((u : Rat) / 1099511627776) n) (errT n) := by
  have u0 : (0 : Rat) ≤ (u : Rat) / 1099511627776 := by
    have : (0 : Rat) ≤ (u : Rat) := Rat.intCast_nonneg.2 h0
    grind
  have u1 : (u : Rat) / 1099511627776 ≤ 158 := by
    have : ((u : Int) : Rat) ≤ ((173627916808752 : Int) : Rat) := Rat.intCast_le_intCast.2 h1
    rw [show ((173627916808752 : Int) : Rat) = 173627916808752 from rfl] at this
    grind
  induction n with
  | zero => show InR (((1099511627776 : Int) : Rat) / 1099511627776 - 1) 0; unfold InR; decide +kernel
  | succ n ih =>
    have ih := ih (by omega)
    obtain ⟨d0, d1⟩ := divS_in n (by omega)
    have ne := near_err (X := termS u n * u) (d := divS n) (by omega)
    rw [← termS_eq h0 h1 n (by omega)] at ne
    obtain ⟨n0, n1⟩ := ne
    have n0' : ((-(divS n) : Int) : Rat) ≤ ((2 * (divS n * termS u (n + 1)) - 2 * (termS u n * u) : Int) : Rat) := Rat.intCast_le_intCast.2 n0
    have n1' : ((2 * (divS n * termS u (n + 1)) - 2 * (termS u n * u) : Int) : Rat) ≤ ((divS n : Int) : Rat) := Rat.intCast_le_intCast.2 n1
    simp only [Rat.intCast_sub, Rat.intCast_mul, Rat.intCast_neg, divS_rat] at n0' n1'
    rw [show ((2 : Int) : Rat) = 2 from rfl] at n0' n1'
    have st := stepTerm (stepT_pos n) n0' n1'
    show InR (_ - realT _ n * (_ * (stepT n)⁻¹)) (errT n * (158 * (stepT n)⁻¹) + 1 / 2199023255552)
    have i0 := stepT_inv n
    generalize (stepT n)⁻¹ = I at *
    generalize (u : Rat) / 1099511627776 = U at *
    have hU : InR (U * I) (158 * I) := by
      have a := Rat.mul_le_mul_of_nonneg_right u1 i0
      have b := Rat.mul_nonneg u0 i0
      unfold InR; constructor <;> grind
    have q := inR_add (inR_mul ih hU) st
    generalize (termS u (n + 1) : Rat) / 1099511627776 = a at *
    generalize (termS u n : Rat) / 1099511627776 = b at *
    unfold InR at *
    constructor <;> grind
theorem sumS_real {u : Int} (h0 : 0 ≤ u) (h1 : u ≤ 173627916808752) (n : Nat) (hn : n < 31) : InR ((sumS u n : Rat) / 1099511627776 - preT ((u : Rat) / 1099511627776) (n + 1)) (allT n) := by
  induction n with
  | zero =>
    show InR (((1099511627776 : Int) : Rat) / 1099511627776 - (0 + 1)) 0; unfold InR; decide +kernel
  | succ n ih =>
    have ih := ih (by omega)
    have t := termS_real h0 h1 (n + 1) hn
    have e : preT ((u : Rat) / 1099511627776) (n + 1 + 1) = preT ((u : Rat) / 1099511627776) (n + 1) + (if (n + 1) % 2 = 1 then -realT ((u : Rat) / 1099511627776) (n + 1) else realT ((u : Rat) / 1099511627776) (n + 1)) := rfl
    rw [e]
    show InR _ (allT n + errT (n + 1))
    generalize preT ((u : Rat) / 1099511627776) (n + 1) = p at *
    generalize realT ((u : Rat) / 1099511627776) (n + 1) = r at *
    unfold sumS
    by_cases g : n % 2 = 0
    · rw [if_pos g, if_pos (by omega), Rat.intCast_sub]
      unfold InR at *; constructor <;> grind
    · rw [if_neg g, if_neg (by omega), Rat.intCast_add]
      unfold InR at *; constructor <;> grind
/-- THE SERIES IN INTEGERS IS THE POLYNOMIAL, NEARLY. -/
theorem sumS_poly {u : Int} (h0 : 0 ≤ u) (h1 : u ≤ 173627916808752) : InR ((sumS u 30 : Rat) / 1099511627776 - evalP polyT ((u : Rat) / 1099511627776)) (1 / 2 ^ 31) := by
  rw [polyT_pre]
  exact inR_mono (sumS_real h0 h1 30 (by omega)) allT_small
end Go.Proofs.YthakcpjlnopcfaaDoor
