/- Parts, joined. -/
import Derived.Test.YtaafhjngnjjcmaaGreatDoorProg
import Derived.WalkKit
import Derived.WalkSpells
import Derived.WalkLawsBesides
/- Plain arithmetic for this seat: quotients, numbers of 128 bits as two halves. No program text in sight. -/
namespace Go.Proofs.YtaafhjngnjjcmaaGreatDoor


/-- The halves of a number of 128 bits. -/
def hi (x : Int) : Int := x / 18446744073709551616
def lo (x : Int) : Int := x % 18446744073709551616
theorem hl (x : Int) : hi x * 18446744073709551616 + lo x = x := by unfold hi lo; omega
theorem lo0 (x : Int) : 0 ≤ lo x := by unfold lo; omega
theorem lo1 (x : Int) : lo x < 18446744073709551616 := by unfold lo; omega
theorem hi0 {x : Int} (h : 0 ≤ x) : 0 ≤ hi x := by unfold hi; omega
theorem hi1 {x : Int} (h : x < 340282366920938463463374607431768211456) : hi x < 18446744073709551616 := by unfold hi; omega
theorem hi_small {x : Int} (h0 : 0 ≤ x) (h1 : x < 18446744073709551616) : hi x = 0 := by unfold hi; omega
theorem lo_small {x : Int} (h0 : 0 ≤ x) (h1 : x < 18446744073709551616) : lo x = x := by unfold lo; omega
theorem hi_of {x h l : Int} (e : h * 18446744073709551616 + l = x) (l0 : 0 ≤ l) (l1 : l < 18446744073709551616) : h = hi x := by unfold hi; omega
theorem lo_of {x h l : Int} (e : h * 18446744073709551616 + l = x) (l0 : 0 ≤ l) (l1 : l < 18446744073709551616) : l = lo x := by unfold lo; omega
theorem div_of {a b q r : Int} (e : a = b * q + r) (h0 : 0 ≤ r) (h1 : r < b) : a / b = q :=
  ((Int.ediv_emod_unique (Int.lt_of_le_of_lt h0 h1)).2 ⟨by rw [e, Int.add_comm], h0, h1⟩).1
theorem mod_of {a b q r : Int} (e : a = b * q + r) (h0 : 0 ≤ r) (h1 : r < b) : a % b = r :=
  ((Int.ediv_emod_unique (Int.lt_of_le_of_lt h0 h1)).2 ⟨by rw [e, Int.add_comm], h0, h1⟩).2
/-- A number without sign. -/
def absI (x : Int) : Int := if x < 0 then -x else x
theorem absI_neg {x : Int} (h : x < 0) : absI x = -x := if_pos h
theorem absI_pos {x : Int} (h : 0 ≤ x) : absI x = x := if_neg (by omega)
theorem absI0 (x : Int) : 0 ≤ absI x := by unfold absI; split <;> omega
theorem absI1 {x : Int} (h0 : -9223372036854775808 ≤ x) (h1 : x < 9223372036854775808) : absI x ≤ 9223372036854775808 := by unfold absI; split <;> omega
/-- A bit. -/
def bitI (x : Int) (i : Nat) : Int := x / 2 ^ i % 2
theorem bitI0 (x : Int) (i : Nat) : 0 ≤ bitI x i := by unfold bitI; omega
theorem bitI1 (x : Int) (i : Nat) : bitI x i ≤ 1 := by unfold bitI; omega
theorem pow2_pos (i : Nat) : (0 : Int) < 2 ^ i := Int.pow_pos (by decide)
theorem bitI_hi (x : Int) (i : Nat) (h : 64 ≤ i) : hi x / 2 ^ (i - 64) % 2 = bitI x i := by
  unfold hi bitI
  have e : (2 : Int) ^ i = 18446744073709551616 * 2 ^ (i - 64) := by
    have h2 : (2 : Int) ^ i = 2 ^ (64 + (i - 64)) := by congr 1; omega
    rw [h2, Int.pow_add]; rfl
  rw [e, Int.ediv_ediv_of_nonneg (by decide)]
theorem bitI_lo (x : Int) (i : Nat) (h : i < 64) : lo x / 2 ^ i % 2 = bitI x i := by
  have e : (18446744073709551616 : Int) = 2 ^ i * (2 * 2 ^ (63 - i)) := by
    have h2 : (18446744073709551616 : Int) = 2 ^ (i + (1 + (63 - i))) := by
      have : i + (1 + (63 - i)) = 64 := by omega
      rw [this]; rfl
    rw [h2, Int.pow_add, Int.pow_add]; rfl
  have hx := hl x
  have e2 : x = lo x + hi x * (2 * 2 ^ (63 - i)) * 2 ^ i := by
    have e3 : hi x * (2 * 2 ^ (63 - i)) * 2 ^ i = hi x * 18446744073709551616 := by
      rw [e, Int.mul_assoc]; congr 1; rw [Int.mul_comm]
    omega
  unfold bitI
  conv => rhs; rw [e2]
  rw [Int.add_mul_ediv_right _ _ (Int.ne_of_gt (pow2_pos i))]
  have e4 : hi x * (2 * 2 ^ (63 - i)) = 2 * (hi x * 2 ^ (63 - i)) := by rw [Int.mul_left_comm]
  rw [e4]
  omega
/-- One bit more of what is divided. -/
theorem half_pow (x : Int) (j : Nat) : x / 2 ^ j = 2 * (x / 2 ^ (j + 1)) + bitI x j := by
  unfold bitI
  have e : x / 2 ^ (j + 1) = x / 2 ^ j / 2 := by rw [Int.pow_succ, Int.ediv_ediv_of_nonneg (Int.le_of_lt (pow2_pos j))]
  rw [e]; omega
theorem step_lt {p d b : Int} (hd : 0 < d) (hb : 0 ≤ b) (h : 2 * (p % d) + b < d) : (2 * p + b) / d = 2 * (p / d) ∧ (2 * p + b) % d = 2 * (p % d) + b := by
  have e := Int.mul_ediv_add_emod p d
  have r0 := Int.emod_nonneg p (Int.ne_of_gt hd)
  have e2 : 2 * p + b = d * (2 * (p / d)) + (2 * (p % d) + b) := by
    rw [Int.mul_left_comm]; omega
  exact ⟨div_of e2 (by omega) h, mod_of e2 (by omega) h⟩
theorem step_ge {p d b : Int} (hd : 0 < d) (hb : b ≤ 1) (h : d ≤ 2 * (p % d) + b) : (2 * p + b) / d = 2 * (p / d) + 1 ∧ (2 * p + b) % d = 2 * (p % d) + b - d := by
  have e := Int.mul_ediv_add_emod p d
  have r1 := Int.emod_lt_of_pos p hd
  have e2 : 2 * p + b = d * (2 * (p / d) + 1) + (2 * (p % d) + b - d) := by
    rw [Int.mul_add, Int.mul_left_comm]; omega
  exact ⟨div_of e2 (by omega) (by omega), mod_of e2 (by omega) (by omega)⟩
/-- Within 64 bits, with a sign. -/
def holdI (x : Int) : Int := if x < -9223372036854775808 then -9223372036854775808 else if 9223372036854775807 < x then 9223372036854775807 else x
theorem holdI_in {x : Int} (h0 : -9223372036854775808 ≤ x) (h1 : x ≤ 9223372036854775807) : holdI x = x := by unfold holdI; rw [if_neg (by omega), if_neg (by omega)]
theorem holdI_lo {x : Int} (h : x ≤ -9223372036854775808) : holdI x = -9223372036854775808 := by unfold holdI; split <;> (try split) <;> omega
theorem holdI_hi {x : Int} (h : 9223372036854775807 ≤ x) : holdI x = 9223372036854775807 := by unfold holdI; split <;> (try split) <;> omega
theorem holdI0 (x : Int) : -9223372036854775808 ≤ holdI x := by unfold holdI; split <;> (try split) <;> omega
theorem holdI1 (x : Int) : holdI x ≤ 9223372036854775807 := by unfold holdI; split <;> (try split) <;> omega
/-- The quotient downwards, and what is left. -/
def floorQ (a b : Int) : Int := if b < 0 then (-a) / (-b) else a / b
def floorR (a b : Int) : Int := if b < 0 then -((-a) % (-b)) else a % b
/-- The nearest number: a half goes up. -/
def nearQ (a b : Int) : Int := if b < 0 then (2 * (-a) + (-b)) / (2 * (-b)) else (2 * a + b) / (2 * b)
theorem near_up {a b : Int} (hb : 0 < b) : (2 * a + b) / (2 * b) = a / b + (if b ≤ 2 * (a % b) then 1 else 0) := by
  have e := Int.mul_ediv_add_emod a b
  have r0 := Int.emod_nonneg a (Int.ne_of_gt hb)
  have r1 := Int.emod_lt_of_pos a hb
  split
  · exact div_of (r := 2 * (a % b) - b) (by rw [Int.mul_add, Int.mul_assoc]; omega) (by omega) (by omega)
  · exact div_of (r := 2 * (a % b) + b) (by rw [Int.mul_add, Int.mul_assoc]; omega) (by omega) (by omega)
theorem neg_mul_two (b Q k : Int) : 2 * b * -(Q + k) = -(2 * (b * Q)) - 2 * (b * k) := by
  rw [Int.mul_neg, Int.mul_assoc, Int.mul_add]; omega
theorem near_below {a b : Int} (hb : 0 < b) : (2 * (-a) + b) / (2 * b) = -(a / b + (if b < 2 * (a % b) then 1 else 0)) := by
  have e := Int.mul_ediv_add_emod a b
  have r0 := Int.emod_nonneg a (Int.ne_of_gt hb)
  have r1 := Int.emod_lt_of_pos a hb
  split
  · exact div_of (r := b - 2 * (a % b) + 2 * b) (by rw [neg_mul_two]; omega) (by omega) (by omega)
  · exact div_of (r := b - 2 * (a % b)) (by rw [neg_mul_two]; omega) (by omega) (by omega)
theorem floor_below {a b : Int} (hb : 0 < b) : (-a) / b = -(a / b + (if 0 < a % b then 1 else 0)) := by
  have e := Int.mul_ediv_add_emod a b
  have r0 := Int.emod_nonneg a (Int.ne_of_gt hb)
  have r1 := Int.emod_lt_of_pos a hb
  split
  · exact div_of (r := b - a % b) (by rw [Int.mul_neg, Int.mul_add]; omega) (by omega) (by omega)
  · exact div_of (r := 0) (by rw [Int.mul_neg, Int.mul_add]; omega) (by omega) (by omega)
end Go.Proofs.YtaafhjngnjjcmaaGreatDoor

/- Plain arithmetic for this seat: quotients of numbers with signs, cut, downwards and to the nearest. No program text in sight. -/
namespace Go.Proofs.YtaafhjngnjjcmaaGreatDoor


def floorF (a b : Int) : Int := if b = 0 then 0 else holdI (floorQ a b)
def modF (a b : Int) : Int := if b = 0 then 0 else floorR a b
def divF (a b : Int) : Int := if b = 0 then 0 else holdI (nearQ a b)
theorem floorF_of {a b : Int} (h : b ≠ 0) : floorF a b = holdI (floorQ a b) := if_neg h
theorem modF_of {a b : Int} (h : b ≠ 0) : modF a b = floorR a b := if_neg h
theorem divF_of {a b : Int} (h : b ≠ 0) : divF a b = holdI (nearQ a b) := if_neg h
theorem tdiv_pp {x d : Int} (h0 : 0 ≤ x) : x.tdiv d = x / d := Int.tdiv_eq_ediv_of_nonneg h0
theorem tmod_pp {x d : Int} (h0 : 0 ≤ x) : x.tmod d = x % d := Int.tmod_eq_emod_of_nonneg h0
theorem mod_below {x d : Int} (hd : 0 < d) : (-x) % d = if 0 < x % d then d - x % d else 0 := by
  have e := Int.mul_ediv_add_emod x d
  have r0 := Int.emod_nonneg x (Int.ne_of_gt hd)
  have r1 := Int.emod_lt_of_pos x hd
  split
  · exact mod_of (q := -(x / d + 1)) (by rw [Int.mul_neg, Int.mul_add]; omega) (by omega) (by omega)
  · exact mod_of (q := -(x / d)) (by rw [Int.mul_neg]; omega) (by omega) (by omega)
/-- A quotient by a positive number: of a (its sign s), by b: the four ways. 'x', 'd': without signs. -/
structure Ways (a b x d T M F R : Int) : Prop where
  t : a.tdiv b = T
  m : a.tmod b = M
  f : floorQ a b = F
  r : floorR a b = R
theorem ways_pp {a b : Int} (h0 : 0 ≤ a) (hb : 0 < b) : Ways a b a b (a / b) (a % b) (a / b) (a % b) :=
  ⟨tdiv_pp h0, tmod_pp h0, if_neg (by omega), if_neg (by omega)⟩
theorem ways_nn {x d : Int} (h0 : 0 ≤ x) (hd : 0 < d) : Ways (-x) (-d) x d (x / d) (-(x % d)) (x / d) (-(x % d)) := by
  refine ⟨?_, ?_, ?_, ?_⟩
  · rw [Int.tdiv_neg, Int.neg_tdiv, Int.neg_neg, tdiv_pp h0]
  · rw [Int.tmod_neg, Int.neg_tmod, tmod_pp h0]
  · unfold floorQ; rw [if_pos (by omega), Int.neg_neg, Int.neg_neg]
  · unfold floorR; rw [if_pos (by omega), Int.neg_neg, Int.neg_neg]
theorem ways_np {x d : Int} (h0 : 0 ≤ x) (hd : 0 < d) : Ways (-x) d x d (-(x / d)) (-(x % d)) (-(x / d + (if 0 < x % d then 1 else 0))) (if 0 < x % d then d - x % d else 0) := by
  refine ⟨?_, ?_, ?_, ?_⟩
  · rw [Int.neg_tdiv, tdiv_pp h0]
  · rw [Int.neg_tmod, tmod_pp h0]
  · unfold floorQ; rw [if_neg (by omega), floor_below hd]
  · unfold floorR; rw [if_neg (by omega), mod_below hd]
theorem ways_pn {x d : Int} (h0 : 0 ≤ x) (hd : 0 < d) : Ways x (-d) x d (-(x / d)) (x % d) (-(x / d + (if 0 < x % d then 1 else 0))) (-(if 0 < x % d then d - x % d else 0)) := by
  refine ⟨?_, ?_, ?_, ?_⟩
  · rw [Int.tdiv_neg, tdiv_pp h0]
  · rw [Int.tmod_neg, tmod_pp h0]
  · unfold floorQ; rw [if_pos (by omega), Int.neg_neg, floor_below hd]
  · unfold floorR; rw [if_pos (by omega), Int.neg_neg, mod_below hd]
theorem quo_le {x d : Int} (h0 : 0 ≤ x) (hd : 0 < d) : 0 ≤ x / d ∧ x / d ≤ x := ⟨Int.ediv_nonneg h0 (by omega), Int.ediv_le_self _ h0⟩
theorem quo_le2 {x d : Int} (h0 : 0 ≤ x) (hd : 2 ≤ d) : 2 * (x / d) ≤ x := by
  have e := Int.mul_ediv_add_emod x d
  have r0 := Int.emod_nonneg x (b := d) (by omega)
  have q0 := (quo_le h0 (d := d) (by omega)).1
  have : 2 * (x / d) ≤ d * (x / d) := Int.mul_le_mul_of_nonneg_right hd q0
  omega
theorem rest_two {x d : Int} (hd : 0 < d) (h : x % d ≠ 0) : 2 ≤ d := by
  by_cases h1 : d = 1
  · subst h1; exact absurd (Int.emod_one x) h
  · omega
theorem rest_in {x d : Int} (hd : 0 < d) : 0 ≤ x % d ∧ x % d < d := ⟨Int.emod_nonneg x (Int.ne_of_gt hd), Int.emod_lt_of_pos x hd⟩
/-- The nearest one out of the one downwards and what is left. -/
theorem near_pos {a b : Int} (hb : 0 < b) : nearQ a b = floorQ a b + (if b ≤ 2 * floorR a b then 1 else 0) := by
  unfold nearQ floorQ floorR
  have h : ¬ b < 0 := by omega
  rw [if_neg h, if_neg h, if_neg h]
  exact near_up hb
theorem near_neg {a b : Int} (hb : b < 0) : nearQ a b = floorQ a b + (if 2 * floorR a b ≤ b then 1 else 0) := by
  unfold nearQ floorQ floorR
  rw [if_pos hb, if_pos hb, if_pos hb, near_up (by omega)]
  congr 1
  by_cases h : -b ≤ 2 * (-a % -b)
  · rw [if_pos h, if_pos (by omega)]
  · rw [if_neg h, if_neg (by omega)]
/-- Where something is left the quotient downwards is far from both ends. -/
theorem floorR_in (a b : Int) : (0 < b → 0 ≤ floorR a b ∧ floorR a b < b) ∧ (b < 0 → b < floorR a b ∧ floorR a b ≤ 0) := by
  refine ⟨fun h => ?_, fun h => ?_⟩
  · unfold floorR; rw [if_neg (by omega)]; exact rest_in h
  · unfold floorR; rw [if_pos h]; have := rest_in (x := -a) (d := -b) (by omega); omega
theorem floorQ_mid {a b : Int} (h0 : -9223372036854775808 ≤ a) (h1 : a ≤ 9223372036854775807) (hb : b ≠ 0) (hr : floorR a b ≠ 0) : -4611686018427387905 ≤ floorQ a b ∧ floorQ a b ≤ 4611686018427387904 := by
  have key : ∀ y d : Int, 0 < d → y % d ≠ 0 → -9223372036854775808 ≤ y → y ≤ 9223372036854775808 → -4611686018427387905 ≤ y / d ∧ y / d ≤ 4611686018427387904 := by
    intro y d hd hy ya yb
    have h2 := rest_two hd hy
    by_cases hy0 : 0 ≤ y
    · have := quo_le2 hy0 h2
      have := (quo_le hy0 hd).1
      omega
    · have e := floor_below (a := -y) hd
      rw [Int.neg_neg] at e
      have := quo_le2 (x := -y) (by omega) h2
      have := (quo_le (x := -y) (by omega) hd).1
      split at e <;> omega
  unfold floorQ
  unfold floorR at hr
  by_cases h : b < 0
  · rw [if_pos h] at hr ⊢
    exact key _ _ (by omega) (by omega) (by omega) (by omega)
  · rw [if_neg h] at hr ⊢
    exact key _ _ (by omega) hr (by omega) (by omega)
/-- The quotient downwards out of the one that is cut. -/
structure Cut (a b : Int) : Prop where
  f0 : a.tmod b = 0 → floorQ a b = a.tdiv b
  f1 : (a < 0 ↔ b < 0) → floorQ a b = a.tdiv b
  f2 : a.tmod b ≠ 0 → ¬ (a < 0 ↔ b < 0) → floorQ a b = a.tdiv b - 1
  r0 : a.tmod b = 0 → floorR a b = 0
  r1 : a.tmod b ≠ 0 → (a.tmod b < 0 ↔ b < 0) → floorR a b = a.tmod b
  r2 : a.tmod b ≠ 0 → ¬ (a.tmod b < 0 ↔ b < 0) → floorR a b = a.tmod b + b
  q0 : -9223372036854775808 ≤ floorQ a b
  q1 : a.tmod b ≠ 0 ∨ ¬ (a = -9223372036854775808 ∧ b = -1) → floorQ a b ≤ 9223372036854775807
  m0 : -9223372036854775808 ≤ a.tmod b
  m1 : a.tmod b ≤ 9223372036854775807
theorem cut_any {a b : Int} (h0 : -9223372036854775808 ≤ a) (h1 : a ≤ 9223372036854775807) (k0 : -9223372036854775808 ≤ b) (k1 : b ≤ 9223372036854775807) (hb : b ≠ 0) : Cut a b := by
  by_cases ha : a < 0
  · obtain ⟨x, rfl⟩ : ∃ x, a = -x := ⟨-a, by omega⟩
    by_cases hn : b < 0
    · obtain ⟨d, rfl⟩ : ∃ d, b = -d := ⟨-b, by omega⟩
      have W := ways_nn (x := x) (d := d) (by omega) (by omega)
      have q := quo_le (x := x) (d := d) (by omega) (by omega)
      have r := rest_in (x := x) (d := d) (by omega)
      have q2 : 2 ≤ d → 2 * (x / d) ≤ x := quo_le2 (by omega)
      have t := W.t; have m := W.m; have f := W.f; have g := W.r
      rw [← t] at f
      rw [← m] at g
      generalize x / d = Q at *
      generalize x % d = R at *
      exact ⟨by omega, by omega, by omega, by omega, by omega, by omega, by omega, by omega, by omega, by omega⟩
    · have W := ways_np (x := x) (d := b) (by omega) (by omega)
      have q := quo_le (x := x) (d := b) (by omega) (by omega)
      have q2 : 2 ≤ b → 2 * (x / b) ≤ x := quo_le2 (by omega)
      have r := rest_in (x := x) (d := b) (by omega)
      have r2 : x % b ≠ 0 → 2 ≤ b := rest_two (by omega)
      have t := W.t; have m := W.m; have f := W.f; have g := W.r
      generalize x / b = Q at *
      generalize x % b = R at *
      split at f <;> split at g <;> exact ⟨by omega, by omega, by omega, by omega, by omega, by omega, by omega, by omega, by omega, by omega⟩
  · by_cases hn : b < 0
    · obtain ⟨d, rfl⟩ : ∃ d, b = -d := ⟨-b, by omega⟩
      have W := ways_pn (x := a) (d := d) (by omega) (by omega)
      have q := quo_le (x := a) (d := d) (by omega) (by omega)
      have q2 : 2 ≤ d → 2 * (a / d) ≤ a := quo_le2 (by omega)
      have r := rest_in (x := a) (d := d) (by omega)
      have r2 : a % d ≠ 0 → 2 ≤ d := rest_two (by omega)
      have t := W.t; have m := W.m; have f := W.f; have g := W.r
      generalize a / d = Q at *
      generalize a % d = R at *
      split at f <;> split at g <;> exact ⟨by omega, by omega, by omega, by omega, by omega, by omega, by omega, by omega, by omega, by omega⟩
    · have W := ways_pp (a := a) (b := b) (by omega) (by omega)
      have q := quo_le (x := a) (d := b) (by omega) (by omega)
      have r := rest_in (x := a) (d := b) (by omega)
      have t := W.t; have m := W.m; have f := W.f; have g := W.r
      generalize a / b = Q at *
      generalize a % b = R at *
      exact ⟨by omega, by omega, by omega, by omega, by omega, by omega, by omega, by omega, by omega, by omega⟩
end Go.Proofs.YtaafhjngnjjcmaaGreatDoor

/- Weights that come to one: plain arithmetic. -/
namespace Go.Proofs.YtaafhjngnjjcmaaGreatDoor


/-- Sums that are held at each step. -/
def plusH (a b : Int) : Int := holdI (a + b)
def absH (x : Int) : Int := holdI (absI x)
def sumH (l : List Int) : Int := l.foldl plusH 0
def sizeH (l : List Int) : Int := l.foldl (fun s x => plusH s (absH x)) 0
theorem plusH_in (a b : Int) : -9223372036854775808 ≤ plusH a b ∧ plusH a b ≤ 9223372036854775807 := ⟨holdI0 _, holdI1 _⟩
theorem sumH_snoc (l : List Int) (x : Int) : sumH (l ++ [x]) = plusH (sumH l) x := by unfold sumH; rw [List.foldl_append]; rfl
theorem sizeH_snoc (l : List Int) (x : Int) : sizeH (l ++ [x]) = plusH (sizeH l) (absH x) := by unfold sizeH; rw [List.foldl_append]; rfl
theorem snoc_ind {P : List Int → Prop} (h0 : P []) (hs : ∀ l x, P l → P (l ++ [x])) (l : List Int) : P l := by
  have : ∀ n (l : List Int), l.length = n → P l := by
    intro n
    induction n with
    | zero => intro l hl; rw [List.eq_nil_of_length_eq_zero hl]; exact h0
    | succ n ih =>
      intro l hl
      have hne : l ≠ [] := by intro e; subst e; simp at hl
      rw [← List.dropLast_concat_getLast hne]
      exact hs _ _ (ih _ (by rw [List.length_dropLast, hl]; rfl))
  exact this l.length l rfl
theorem sumH_in (l : List Int) : -9223372036854775808 ≤ sumH l ∧ sumH l ≤ 9223372036854775807 := by
  refine snoc_ind (P := fun l => -9223372036854775808 ≤ sumH l ∧ sumH l ≤ 9223372036854775807) (by decide) ?_ l
  intro l x _; rw [sumH_snoc]; exact plusH_in _ _
theorem sizeH_in (l : List Int) : 0 ≤ sizeH l ∧ sizeH l ≤ 9223372036854775807 := by
  refine snoc_ind (P := fun l => 0 ≤ sizeH l ∧ sizeH l ≤ 9223372036854775807) (by decide) ?_ l
  intro l x ih; rw [sizeH_snoc]
  have : 0 ≤ absH x := by unfold absH holdI; have := absI0 x; split <;> (try split) <;> omega
  refine ⟨?_, (plusH_in _ _).2⟩
  unfold plusH holdI; split <;> (try split) <;> omega
/-- What may be apportioned. -/
def smallW (x : Int) : Prop := -1099511627776 ≤ x ∧ x ≤ 1099511627776
theorem sumH_small (l : List Int) (h : ∀ x ∈ l, smallW x) (hl : l.length ≤ 1048576) : sumH l = l.sum ∧ -((l.length : Int) * 1099511627776) ≤ l.sum ∧ l.sum ≤ (l.length : Int) * 1099511627776 := by
  revert h hl
  refine snoc_ind (P := fun l => (∀ x ∈ l, smallW x) → l.length ≤ 1048576 → sumH l = l.sum ∧ -((l.length : Int) * 1099511627776) ≤ l.sum ∧ l.sum ≤ (l.length : Int) * 1099511627776) ?_ ?_ l
  · intro _ _; exact ⟨rfl, by simp, by simp⟩
  · intro l x ih h hl
    rw [List.length_append] at hl
    simp at hl
    obtain ⟨e, a, b⟩ := ih (fun y hy => h y (by simp [hy])) (by omega)
    have hx := h x (by simp)
    unfold smallW at hx
    have e1 : ((l ++ [x]).length : Int) = (l.length : Int) + 1 := by simp
    have e2 : (l ++ [x]).sum = l.sum + x := by simp
    rw [sumH_snoc, e, e1, e2]
    unfold plusH
    rw [holdI_in (by omega) (by omega)]
    omega
/-- First each has so much, and a rest. -/
def quotW (s x : Int) : Int := floorF (x * 16384) s
def restW (s x : Int) : Int := x * 16384 - quotW s x * s
theorem quotW_at {s x : Int} (s0 : 0 < s) (h : smallW x) : quotW s x = x * 16384 / s ∧ restW s x = x * 16384 % s ∧ 0 ≤ restW s x ∧ restW s x < s ∧ -18014398509481984 ≤ quotW s x ∧ quotW s x ≤ 18014398509481984 := by
  unfold smallW at h
  have e := Int.mul_ediv_add_emod (x * 16384) s
  have r0 := Int.emod_nonneg (x * 16384) (show s ≠ 0 by omega)
  have r1 := Int.emod_lt_of_pos (x * 16384) s0
  have up : x * 16384 / s ≤ 18014398509481984 := by
    have : x * 16384 / s < 18014398509481985 := Int.ediv_lt_of_lt_mul s0 (by omega)
    omega
  have dn : -18014398509481984 ≤ x * 16384 / s := by
    apply Int.le_ediv_of_mul_le s0
    omega
  have q : quotW s x = x * 16384 / s := by
    unfold quotW
    rw [floorF_of (by omega)]
    unfold floorQ
    rw [if_neg (by omega), holdI_in (by omega) (by omega)]
  have r : restW s x = x * 16384 % s := by
    unfold restW
    rw [q, Int.mul_comm (x * 16384 / s) s]; omega
  exact ⟨q, r, by omega, by omega, by omega, by omega⟩
def quotsW (s : Int) (l : List Int) : List Int := l.map (quotW s)
def restsW (s : Int) (l : List Int) : List Int := l.map (restW s)
/-- The place of the greatest rest among the first ones, the one ahead of equal ones. -/
def bestTo (r : List Int) : Nat → Nat
  | 0 => 0
  | k + 1 => if r.getD (bestTo r k) 0 < r.getD k 0 then k else bestTo r k
theorem bestTo_lt (r : List Int) (k : Nat) : bestTo r k < max k 1 := by
  induction k with
  | zero => simp [bestTo]
  | succ k ih => unfold bestTo; split <;> omega
theorem bestTo_max (r : List Int) (k : Nat) (j : Nat) (h : j < k) : r.getD j 0 ≤ r.getD (bestTo r k) 0 := by
  induction k with
  | zero => omega
  | succ k ih =>
    unfold bestTo
    by_cases g : r.getD (bestTo r k) 0 < r.getD k 0
    · rw [if_pos g]
      by_cases e : j = k
      · subst e; exact Int.le_refl _
      · have := ih (by omega); omega
    · rw [if_neg g]
      by_cases e : j = k
      · subst e; omega
      · exact ih (by omega)
theorem bestTo_first (r : List Int) (k : Nat) (j : Nat) (h : j < bestTo r k) : r.getD j 0 < r.getD (bestTo r k) 0 := by
  induction k with
  | zero => simp [bestTo] at h
  | succ k ih =>
    unfold bestTo at h ⊢
    by_cases g : r.getD (bestTo r k) 0 < r.getD k 0
    · rw [if_pos g] at h ⊢
      have := bestTo_max r k j h
      omega
    · rw [if_neg g] at h ⊢
      exact ih h
/-- What lacks is given, one each. -/
def giveN (o r : List Int) : Nat → List Int × List Int
  | 0 => (o, r)
  | m + 1 => ((giveN o r m).1.set (bestTo (giveN o r m).2 (giveN o r m).2.length) ((giveN o r m).1.getD (bestTo (giveN o r m).2 (giveN o r m).2.length) 0 + 1), (giveN o r m).2.set (bestTo (giveN o r m).2 (giveN o r m).2.length) (-1))
theorem giveN_len (o r : List Int) (m : Nat) : (giveN o r m).1.length = o.length ∧ (giveN o r m).2.length = r.length := by
  induction m with
  | zero => exact ⟨rfl, rfl⟩
  | succ m ih => unfold giveN; simp only [List.length_set]; exact ih
def leftW (s : Int) (l : List Int) : Int := 16384 - (quotsW s l).sum
def appR (l : List Int) : List Int := (giveN (quotsW (sumH l) l) (restsW (sumH l) l) (leftW (sumH l) l).toNat).1
theorem getD_set (l : List Int) (i j : Nat) (x : Int) (hi : i < l.length) : (l.set i x).getD j 0 = if i = j then x else l.getD j 0 := by
  rw [List.getD_eq_getElem?_getD, List.getElem?_set]
  by_cases h : i = j
  · subst h; simp [hi]
  · simp [h, List.getD_eq_getElem?_getD]
theorem sum_set (l : List Int) (i : Nat) (x : Int) (hi : i < l.length) : (l.set i x).sum = l.sum - l.getD i 0 + x := by
  induction l generalizing i with
  | nil => simp at hi
  | cons a l ih =>
    cases i with
    | zero => simp; omega
    | succ i =>
      have := ih i (by simpa using hi)
      simp only [List.set_cons_succ, List.sum_cons, List.getD_cons_succ]
      omega
end Go.Proofs.YtaafhjngnjjcmaaGreatDoor

/- What the small calls of the document's answers (layer 1) do to the world: numbers of 128 bits. -/
namespace Go.Proofs.YtaafhjngnjjcmaaGreatDoor
open Go.RowKit


theorem hide {p : Prop} (h : p) : Hid p := h
theorem below1 (w : World) (o : Obj) : Below w.heap.size w (w.alloc o) := (Below.refl _ _).alloc (Nat.le_refl _) _
theorem ret_u64 {a b : Int} (h : a = b) : Ending.returned (.int .u64 a) = .returned (.int .u64 b) := by rw [h]
theorem ret_i64 {a b : Int} (h : a = b) : Ending.returned (.int .i64 a) = .returned (.int .i64 b) := by rw [h]
theorem ret_bool {a b : Bool} (h : a = b) : Ending.returned (.bool a) = .returned (.bool b) := by rw [h]
theorem big_of {h l x : Int} (e : h * 18446744073709551616 + l = x) (l0 : 0 ≤ l) (l1 : l < 18446744073709551616) : h = hi x ∧ l = lo x := ⟨hi_of e l0 l1, lo_of e l0 l1⟩
theorem refsize_any (x : Int) (h0 : -9223372036854775808 ≤ x) (h1 : x ≤ 9223372036854775807) (w : World) :
    Calls Tryz.prog 89 #[.int .i64 x] w fun e w' => e = .returned (.int .u64 (absI x)) ∧ w = w' := by
  go_enter Tryz.func89, Tryz.ntmps89
  go_wp2
  · rename_i h
    go_ret
    exact ⟨ret_u64 (by rw [absI_neg h]; omega), rfl⟩
  · rename_i h
    go_ret
    exact ⟨ret_u64 (by rw [absI_pos h]), rfl⟩
theorem fixsize_any (x : Int) (h0 : -9223372036854775808 ≤ x) (h1 : x ≤ 9223372036854775807) (w : World) :
    Calls Tryz.prog 152 #[.int .i64 x] w fun e w' => e = .returned (.int .u64 (absI x)) ∧ w = w' := by
  go_enter Tryz.func152, Tryz.ntmps152
  go_wp2
  · rename_i h
    go_ret
    exact ⟨ret_u64 (by rw [absI_neg h, IntKind.wrap_u64, IntKind.wrap_u64]; omega), rfl⟩
  · rename_i h
    go_ret
    exact ⟨ret_u64 (by rw [absI_pos h]), rfl⟩
theorem and_one (a : Int) (h0 : 0 ≤ a) (h1 : a < 18446744073709551616) : bits .and .u64 a 1 = a % 2 := and_one_u64 a h0 (by omega)
theorem div_pow_lt {a n : Int} (k : Nat) (h0 : 0 ≤ a) (h1 : a < n) : a / 2 ^ k < n :=
  Int.lt_of_le_of_lt (Int.ediv_le_self _ h0) h1
theorem bit_any (x : Int) (i : Nat) (h0 : 0 ≤ x) (h1 : x < 340282366920938463463374607431768211456) (i1 : i < 128) (w : World) :
    Calls Tryz.prog 90 #[.agg #[.int .u64 (hi x), .int .u64 (lo x)], .int .i64 i] w fun e w' => e = .returned (.int .u64 (bitI x i)) ∧ Below w.heap.size w w' := by
  have l0 := lo0 x
  have l1 := lo1 x
  have g0 := hi0 h0
  have g1 := hi1 h1
  have E1 := hide (bitI_hi x i)
  have E2 := hide (bitI_lo x i)
  clear h0 h1
  by_cases h : 64 ≤ i
  · go_enter Tryz.func90, Tryz.ntmps90
    go_wp2
    go_ret
    exact ⟨ret_u64 (by rw [and_one _ (Int.ediv_nonneg g0 (Int.le_of_lt (pow2_pos _))) (div_pow_lt _ g0 g1)]; exact E1.out h), below1 _ _⟩
  · go_enter Tryz.func90, Tryz.ntmps90
    go_wp2
    go_ret
    exact ⟨ret_u64 (by rw [and_one _ (Int.ediv_nonneg l0 (Int.le_of_lt (pow2_pos _))) (div_pow_lt _ l0 l1)]; exact E2.out (by omega)), below1 _ _⟩
theorem below2 (w : World) (o p : Obj) : Below w.heap.size w ((w.alloc o).alloc p) := (below1 w o).alloc (by simp) _
theorem below3 (w : World) (o p q : Obj) : Below w.heap.size w (((w.alloc o).alloc p).alloc q) := (below2 w o p).alloc (by simp; omega) _
theorem below4 (w : World) (o p q r : Obj) : Below w.heap.size w ((((w.alloc o).alloc p).alloc q).alloc r) := (below3 w o p q).alloc (by simp; omega) _
theorem twice_any (x b : Int) (h0 : 0 ≤ x) (h1 : x < 170141183460469231731687303715884105728) (b0 : 0 ≤ b) (b1 : b ≤ 1) (w : World) :
    Calls Tryz.prog 88 #[.agg #[.int .u64 (hi x), .int .u64 (lo x)], .int .u64 b] w fun e w' => e = .returned (.agg #[.int .u64 (hi (2 * x + b)), .int .u64 (lo (2 * x + b))]) ∧ Below w.heap.size w w' := by
  have l0 := lo0 x
  have l1 := lo1 x
  have g0 := hi0 h0
  have g1 : hi x < 9223372036854775808 := by unfold hi; omega
  have E := hide (hl x)
  clear h0 h1
  go_enter Tryz.func88, Tryz.ntmps88
  go_wp2
  simp [bodyPost, results, Tryz.results88, go_sem]
  have e := E.out
  have m : IntKind.u64.wrap (IntKind.u64.wrap (lo x * 2) + b) = lo x * 2 % 18446744073709551616 + b := by rw [IntKind.wrap_u64, IntKind.wrap_u64]; omega
  rw [m]
  exact ⟨⟨hi_of (l := lo x * 2 % 18446744073709551616 + b) (by omega) (by omega) (by omega), lo_of (h := hi x * 2 + lo x / 9223372036854775808) (by omega) (by omega) (by omega)⟩, below2 _ _ _⟩
theorem plus_any (x y : Int) (h0 : 0 ≤ x) (k0 : 0 ≤ y) (h1 : x + y < 340282366920938463463374607431768211456) (w : World) :
    Calls Tryz.prog 93 #[.agg #[.int .u64 (hi x), .int .u64 (lo x)], .agg #[.int .u64 (hi y), .int .u64 (lo y)]] w fun e w' => e = .returned (.agg #[.int .u64 (hi (x + y)), .int .u64 (lo (x + y))]) ∧ Below w.heap.size w w' := by
  have l0 := lo0 x
  have l1 := lo1 x
  have m0 := lo0 y
  have m1 := lo1 y
  have g0 := hi0 h0
  have g1 := hi0 k0
  have g2 : hi x + hi y < 18446744073709551616 := by unfold hi; omega
  have E := hide (hl x)
  have F := hide (hl y)
  have G := hide h1
  clear h0 k0 h1
  by_cases h : lo x + lo y < 18446744073709551616
  · go_enter Tryz.func93, Tryz.ntmps93
    go_wp2
    simp [bodyPost, results, Tryz.results93, go_sem]
    have e := E.out
    have f := F.out
    exact ⟨big_of (by omega) (by omega) (by omega), below4 _ _ _ _ _⟩
  · go_enter Tryz.func93, Tryz.ntmps93
    go_wp2
    all_goals simp [bodyPost, results, Tryz.results93, go_sem]
    all_goals
      rename_i hc
      have e := E.out
      have f := F.out
      have g := G.out
      simp only [IntKind.wrap_u64] at hc
      have g4 : hi x + hi y + 1 < 18446744073709551616 := by omega
      have w1 : IntKind.u64.wrap (lo x + lo y) = lo x + lo y - 18446744073709551616 := by rw [IntKind.wrap_u64]; omega
      have w2 : IntKind.u64.wrap (hi x + hi y + 1) = hi x + hi y + 1 := by rw [IntKind.wrap_u64]; omega
      first
        | omega
        | (rw [w1, w2]; exact ⟨big_of (by omega) (by omega) (by omega), below4 _ _ _ _ _⟩)
theorem minus_any (x y : Int) (h0 : 0 ≤ y) (k0 : y ≤ x) (h1 : x < 340282366920938463463374607431768211456) (w : World) :
    Calls Tryz.prog 91 #[.agg #[.int .u64 (hi x), .int .u64 (lo x)], .agg #[.int .u64 (hi y), .int .u64 (lo y)]] w fun e w' => e = .returned (.agg #[.int .u64 (hi (x - y)), .int .u64 (lo (x - y))]) ∧ Below w.heap.size w w' := by
  have l0 := lo0 x
  have l1 := lo1 x
  have m0 := lo0 y
  have m1 := lo1 y
  have g0 : 0 ≤ hi x := hi0 (by omega)
  have g1 := hi0 h0
  have g2 : hi x < 18446744073709551616 := hi1 h1
  have g3 : hi y ≤ hi x := by unfold hi; omega
  have E := hide (hl x)
  have F := hide (hl y)
  have G := hide k0
  clear h0 k0 h1
  by_cases h : lo y ≤ lo x
  · go_enter Tryz.func91, Tryz.ntmps91
    go_wp2
    simp [bodyPost, results, Tryz.results91, go_sem]
    have e := E.out
    have f := F.out
    exact ⟨big_of (by omega) (by omega) (by omega), below4 _ _ _ _ _⟩
  · go_enter Tryz.func91, Tryz.ntmps91
    go_wp2
    simp [bodyPost, results, Tryz.results91, go_sem]
    have e := E.out
    have f := F.out
    have g := G.out
    have w1 : IntKind.u64.wrap (lo x - lo y) = lo x - lo y + 18446744073709551616 := by rw [IntKind.wrap_u64]; omega
    have w2 : IntKind.u64.wrap (hi x - hi y - 1) = hi x - hi y - 1 := by rw [IntKind.wrap_u64]; omega
    rw [w1, w2]
    exact ⟨big_of (by omega) (by omega) (by omega), below4 _ _ _ _ _⟩
theorem less_any (x y : Int) (h0 : 0 ≤ x) (k0 : 0 ≤ y) (h1 : x < 340282366920938463463374607431768211456) (k1 : y < 340282366920938463463374607431768211456) (w : World) :
    Calls Tryz.prog 92 #[.agg #[.int .u64 (hi x), .int .u64 (lo x)], .agg #[.int .u64 (hi y), .int .u64 (lo y)]] w fun e w' => e = .returned (.bool (decide (x < y))) ∧ Below w.heap.size w w' := by
  have l0 := lo0 x
  have l1 := lo1 x
  have m0 := lo0 y
  have m1 := lo1 y
  have g0 := hi0 h0
  have g1 := hi0 k0
  have g2 := hi1 h1
  have g3 := hi1 k1
  have E := hide (hl x)
  have F := hide (hl y)
  clear h0 k0 h1 k1
  go_enter Tryz.func92, Tryz.ntmps92
  go_wp2
  · rename_i hc
    go_ret
    have e := E.out
    have f := F.out
    have hc' : hi x ≠ hi y := by simpa using hc
    exact ⟨ret_bool (decide_eq_decide.2 (by omega)), below2 _ _ _⟩
  · rename_i hc
    go_ret
    have e := E.out
    have f := F.out
    have hc' : hi x = hi y := by simpa using hc
    exact ⟨ret_bool (decide_eq_decide.2 (by omega)), below2 _ _ _⟩
/-- A number without sign, and its sign: held. -/
def signI (x : Int) (below : Bool) : Int := if below = true then -x else x
theorem hold_true (x : Int) (h0 : 0 ≤ x) (h1 : x < 340282366920938463463374607431768211456) (w : World) :
    Calls Tryz.prog 94 #[.agg #[.int .u64 (hi x), .int .u64 (lo x)], .bool true] w fun e w' => e = .returned (.int .i64 (holdI (-x))) ∧ Below w.heap.size w w' := by
  have l0 := lo0 x
  have l1 := lo1 x
  have g0 := hi0 h0
  have g1 := hi1 h1
  have E := hide (hl x)
  clear h0 h1
  by_cases c1 : 0 < hi x
  · go_enter Tryz.func94, Tryz.ntmps94
    go_wp2
    go_ret
    have e := E.out
    exact ⟨ret_i64 (by rw [holdI_lo (by omega)]), below1 _ _⟩
  · by_cases c2 : 9223372036854775807 < lo x
    · go_enter Tryz.func94, Tryz.ntmps94
      go_wp2
      go_ret
      have e := E.out
      exact ⟨ret_i64 (by rw [holdI_lo (by omega)]), below1 _ _⟩
    · go_enter Tryz.func94, Tryz.ntmps94
      go_wp2
      go_ret
      have e := E.out
      exact ⟨ret_i64 (by rw [holdI_in (by omega) (by omega)]; omega), below1 _ _⟩
theorem hold_false (x : Int) (h0 : 0 ≤ x) (h1 : x < 340282366920938463463374607431768211456) (w : World) :
    Calls Tryz.prog 94 #[.agg #[.int .u64 (hi x), .int .u64 (lo x)], .bool false] w fun e w' => e = .returned (.int .i64 (holdI x)) ∧ Below w.heap.size w w' := by
  have l0 := lo0 x
  have l1 := lo1 x
  have g0 := hi0 h0
  have g1 := hi1 h1
  have E := hide (hl x)
  clear h0 h1
  by_cases c1 : 0 < hi x
  · go_enter Tryz.func94, Tryz.ntmps94
    go_wp2
    go_ret
    have e := E.out
    exact ⟨ret_i64 (by rw [holdI_hi (by omega)]), below1 _ _⟩
  · by_cases c2 : 9223372036854775807 < lo x
    · go_enter Tryz.func94, Tryz.ntmps94
      go_wp2
      go_ret
      have e := E.out
      exact ⟨ret_i64 (by rw [holdI_hi (by omega)]), below1 _ _⟩
    · go_enter Tryz.func94, Tryz.ntmps94
      go_wp2
      go_ret
      have e := E.out
      exact ⟨ret_i64 (by rw [holdI_in (by omega) (by omega)]; omega), below1 _ _⟩
theorem hold_any (x : Int) (b : Bool) (h0 : 0 ≤ x) (h1 : x < 340282366920938463463374607431768211456) (w : World) :
    Calls Tryz.prog 94 #[.agg #[.int .u64 (hi x), .int .u64 (lo x)], .bool b] w fun e w' => e = .returned (.int .i64 (holdI (signI x b))) ∧ Below w.heap.size w w' := by
  cases b
  · exact hold_false x h0 h1 w
  · exact hold_true x h0 h1 w
end Go.Proofs.YtaafhjngnjjcmaaGreatDoor
