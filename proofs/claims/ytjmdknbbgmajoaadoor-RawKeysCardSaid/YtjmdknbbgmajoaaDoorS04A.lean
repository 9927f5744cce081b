/- The sine, divided by what it is of, in integers: plain arithmetic. -/
import Derived.Test.YtjmdknbbgmajoaaDoorN
import Derived.Test.YtjmdknbbgmajoaaDoorF
import Derived.Test.YtjmdknbbgmajoaaDoorS03A
import Derived.Test.YtjmdknbbgmajoaaDoorWC
namespace Go.Proofs.YtjmdknbbgmajoaaDoor
open Go.RowKit


/-- The i-th divisor, for i = k + 1. -/
def divS (k : Nat) : Int := 2 * ((k : Int) + 1) * (2 * ((k : Int) + 1) + 1) * 1099511627776
/-- The terms, and their sum, with signs in turn. -/
def termS (u : Int) : Nat → Int
  | 0 => 1099511627776
  | n + 1 => divF (termS u n * u) (divS n)
def sumS (u : Int) : Nat → Int
  | 0 => 1099511627776
  | n + 1 => if n % 2 = 0 then sumS u n - termS u (n + 1) else sumS u n + termS u (n + 1)
/-- Above the terms. -/
def topS : Nat → Int
  | 0 => 1099511627776
  | n + 1 => topS n * 173627916808752 / divS n + 1
def uF (p q : Int) : Int := divF (divF (10851744800547 * p) q * p) q
def mayF (p q : Int) : Bool := decide (1 ≤ q) && decide (q ≤ 1048576) && decide (-4 * q ≤ p) && decide (p ≤ 4 * q)
def seriesF (p q : Int) : Int := sumS (uF (absI p) q) 30
def lanczosF (p q : Int) : Int := if mayF p q = true ∧ -3 * q < p ∧ p < 3 * q then shiftF (mulShiftF (seriesF p q) (seriesF p (3 * q)) 40) 10 else 0
theorem divS_in : ∀ k < 30, 6 * 1099511627776 ≤ divS k ∧ divS k ≤ 3660 * 1099511627776 := by decide
theorem mulS_in : ∀ k : Nat, k < 30 → 6 ≤ 2 * ((k : Int) + 1) * (2 * ((k : Int) + 1) + 1) ∧ 2 * ((k : Int) + 1) * (2 * ((k : Int) + 1) + 1) ≤ 3660 := by decide
theorem topS_in : ∀ k < 31, 1 ≤ topS k ∧ topS k ≤ 4503599627370496 := by decide +kernel
theorem termS_in {u : Int} (h0 : 0 ≤ u) (h1 : u ≤ 173627916808752) (n : Nat) (hn : n < 31) : 0 ≤ termS u n ∧ termS u n ≤ topS n := by
  induction n with
  | zero => simp [termS, topS]
  | succ n ih =>
    obtain ⟨a0, a1⟩ := ih (by omega)
    obtain ⟨d0, d1⟩ := divS_in n (by omega)
    obtain ⟨t0, t1⟩ := topS_in n (by omega)
    obtain ⟨_, t3⟩ := topS_in (n + 1) hn
    have p0 : 0 ≤ termS u n * u := Int.mul_nonneg a0 h0
    have p1 : termS u n * u ≤ topS n * 173627916808752 := Int.mul_le_mul a1 h1 h0 (by omega)
    have p2 : topS n * 173627916808752 < (topS n * 173627916808752 / divS n + 1) * divS n := Int.lt_mul_of_ediv_lt (by omega) (by omega)
    have q := near_in (X := termS u n * u) (d := divS n) (m := topS (n + 1)) (by omega) p0 (by
      show _ ≤ (topS n * 173627916808752 / divS n + 1) * divS n
      omega)
    show 0 ≤ divF _ _ ∧ divF _ _ ≤ _
    rw [divF_of (by omega), holdI_in (by omega) (by omega)]
    exact q
theorem termS_all {u : Int} (h0 : 0 ≤ u) (h1 : u ≤ 173627916808752) (n : Nat) (hn : n < 31) : 0 ≤ termS u n ∧ termS u n ≤ 4503599627370496 := by
  obtain ⟨a, b⟩ := termS_in h0 h1 n hn
  obtain ⟨_, d⟩ := topS_in n hn
  exact ⟨a, by omega⟩
theorem sumS_in {u : Int} (h0 : 0 ≤ u) (h1 : u ≤ 173627916808752) (n : Nat) (hn : n < 31) : -(((n : Int) + 1) * 4503599627370496) ≤ sumS u n ∧ sumS u n ≤ ((n : Int) + 1) * 4503599627370496 := by
  induction n with
  | zero => simp [sumS]
  | succ n ih =>
    have t := termS_all h0 h1 (n + 1) hn
    have := ih (by omega)
    unfold sumS
    split <;> omega
/-- The two steps ahead of the terms. -/
theorem uF_in {p q : Int} (hq : 0 < q) (h0 : 0 ≤ p) (h1 : p ≤ 4 * q) : 0 ≤ divF (10851744800547 * p) q ∧ divF (10851744800547 * p) q ≤ 43406979202188 ∧ 0 ≤ uF p q ∧ uF p q ≤ 173627916808752 := by
  have a := near_in (X := 10851744800547 * p) (d := q) (m := 43406979202188) hq (by omega) (by omega)
  have e1 : divF (10851744800547 * p) q = nearQ (10851744800547 * p) q := by rw [divF_of (by omega), holdI_in (by omega) (by omega)]
  unfold uF
  rw [e1]
  generalize nearQ (10851744800547 * p) q = v at *
  obtain ⟨a0, a1⟩ := a
  have p0 : 0 ≤ v * p := Int.mul_nonneg a0 h0
  have p1 : v * p ≤ 43406979202188 * (4 * q) := Int.mul_le_mul a1 h1 h0 (by omega)
  have b := near_in (X := v * p) (d := q) (m := 173627916808752) hq p0 (by omega)
  rw [divF_of (by omega), holdI_in (by omega) (by omega)]
  exact ⟨a0, a1, b⟩
theorem abs_small {p q : Int} (h0 : -(4 * q) ≤ p) (h1 : p ≤ 4 * q) : 0 ≤ absI p ∧ absI p ≤ 4 * q := by
  unfold absI; split <;> omega
theorem seriesF_in {p q : Int} (hq : 0 < q) (h0 : -(4 * q) ≤ p) (h1 : p ≤ 4 * q) : -139611588448485376 ≤ seriesF p q ∧ seriesF p q ≤ 139611588448485376 := by
  obtain ⟨a0, a1⟩ := abs_small h0 h1
  obtain ⟨_, _, u0, u1⟩ := uF_in hq a0 a1
  have := sumS_in u0 u1 30 (by omega)
  unfold seriesF
  omega
theorem mayF_at (p q : Int) : (mayF p q = true ∧ 1 ≤ q ∧ q ≤ 1048576 ∧ -4 * q ≤ p ∧ p ≤ 4 * q) ∨ (mayF p q = false ∧ (q < 1 ∨ 1048576 < q ∨ p < -4 * q ∨ 4 * q < p)) := by
  unfold mayF
  by_cases a : 1 ≤ q <;> by_cases b : q ≤ 1048576 <;> by_cases c : -4 * q ≤ p <;> by_cases d : p ≤ 4 * q <;> simp [a, b, c, d] <;> omega
theorem abs_minus (p : Int) : absI (-p) = absI p := by unfold absI; split <;> split <;> omega
end Go.Proofs.YtjmdknbbgmajoaaDoor
