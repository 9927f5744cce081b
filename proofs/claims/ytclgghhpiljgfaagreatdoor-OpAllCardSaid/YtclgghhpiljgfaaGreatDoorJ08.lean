/- Parts, joined. -/
import Derived.Test.YtclgghhpiljgfaaGreatDoorJ01
import Derived.Test.YtclgghhpiljgfaaGreatDoorJ02
import Derived.Test.YtclgghhpiljgfaaGreatDoorJ07
import Derived.Test.YtclgghhpiljgfaaGreatDoorJ04
import Derived.Laws.FloatArith
import Derived.RowKit
import Derived.IntWalk
/- The sine, divided by what it is of, in integers: plain arithmetic. -/
namespace Go.Proofs.YtclgghhpiljgfaaGreatDoor
open Go.RowKit


/-- The i-th divisor, for i = k + 1. -/
def divS (k : Nat) : Int := 2 * ((k : Int) + 1) * (2 * ((k : Int) + 1) + 1) * 1099511627776
/-- The terms, and their sum, with signs in turn. -/
def termS (u : Int) : Nat → Int
  | 0 => 1099511627776
  | n + 1 => divF (termS u n * u) (divS n)
def sumS (u : Int) : Nat → Int
  | 0 => 1099511627776
  | n + 1 => if n % 2 = 0 then sumS u n - termS u (n + 1) else sumS u n + termS u (n + 1)
/-- Above the terms. -/
def topS : Nat → Int
  | 0 => 1099511627776
  | n + 1 => topS n * 173627916808752 / divS n + 1
def uF (p q : Int) : Int := divF (divF (10851744800547 * p) q * p) q
def mayF (p q : Int) : Bool := decide (1 ≤ q) && decide (q ≤ 1048576) && decide (-4 * q ≤ p) && decide (p ≤ 4 * q)
def seriesF (p q : Int) : Int := sumS (uF (absI p) q) 30
def lanczosF (p q : Int) : Int := if mayF p q = true ∧ -3 * q < p ∧ p < 3 * q then shiftF (mulShiftF (seriesF p q) (seriesF p (3 * q)) 40) 10 else 0
theorem divS_in : ∀ k < 30, 6 * 1099511627776 ≤ divS k ∧ divS k ≤ 3660 * 1099511627776 := by decide
theorem mulS_in : ∀ k : Nat, k < 30 → 6 ≤ 2 * ((k : Int) + 1) * (2 * ((k : Int) + 1) + 1) ∧ 2 * ((k : Int) + 1) * (2 * ((k : Int) + 1) + 1) ≤ 3660 := by decide
theorem topS_in : ∀ k < 31, 1 ≤ topS k ∧ topS k ≤ 4503599627370496 := by decide +kernel
theorem termS_in {u : Int} (h0 : 0 ≤ u) (h1 : u ≤ 173627916808752) (n : Nat) (hn : n < 31) : 0 ≤ termS u n ∧ termS u n ≤ topS n := by
  induction n with
  | zero => simp [termS, topS]
  | succ n ih =>
    obtain ⟨a0, a1⟩ := ih (by omega)
    obtain ⟨d0, d1⟩ := divS_in n (by omega)
    obtain ⟨t0, t1⟩ := topS_in n (by omega)
    obtain ⟨_, t3⟩ := topS_in (n + 1) hn
    have p0 : 0 ≤ termS u n * u := Int.mul_nonneg a0 h0
    have p1 : termS u n * u ≤ topS n * 173627916808752 := Int.mul_le_mul a1 h1 h0 (by omega)
    have p2 : topS n * 173627916808752 < (topS n * 173627916808752 / divS n + 1) * divS n := Int.lt_mul_of_ediv_lt (by omega) (by omega)
    have q := near_in (X := termS u n * u) (d := divS n) (m := topS (n + 1)) (by omega) p0 (by
      show _ ≤ (topS n * 173627916808752 / divS n + 1) * divS n
      omega)
    show 0 ≤ divF _ _ ∧ divF _ _ ≤ _
    rw [divF_of (by omega), holdI_in (by omega) (by omega)]
    exact q
theorem termS_all {u : Int} (h0 : 0 ≤ u) (h1 : u ≤ 173627916808752) (n : Nat) (hn : n < 31) : 0 ≤ termS u n ∧ termS u n ≤ 4503599627370496 := by
  obtain ⟨a, b⟩ := termS_in h0 h1 n hn
  obtain ⟨_, d⟩ := topS_in n hn
  exact ⟨a, by omega⟩
theorem sumS_in {u : Int} (h0 : 0 ≤ u) (h1 : u ≤ 173627916808752) (n : Nat) (hn : n < 31) : -(((n : Int) + 1) * 4503599627370496) ≤ sumS u n ∧ sumS u n ≤ ((n : Int) + 1) * 4503599627370496 := by
  induction n with
  | zero => simp [sumS]
  | succ n ih =>
    have t := termS_all h0 h1 (n + 1) hn
    have := ih (by omega)
    unfold sumS
    split <;> omega
/-- The two steps ahead of the terms. -/
theorem uF_in {p q : Int} (hq : 0 < q) (h0 : 0 ≤ p) (h1 : p ≤ 4 * q) : 0 ≤ divF (10851744800547 * p) q ∧ divF (10851744800547 * p) q ≤ 43406979202188 ∧ 0 ≤ uF p q ∧ uF p q ≤ 173627916808752 := by
  have a := near_in (X := 10851744800547 * p) (d := q) (m := 43406979202188) hq (by omega) (by omega)
  have e1 : divF (10851744800547 * p) q = nearQ (10851744800547 * p) q := by rw [divF_of (by omega), holdI_in (by omega) (by omega)]
  unfold uF
  rw [e1]
  generalize nearQ (10851744800547 * p) q = v at *
  obtain ⟨a0, a1⟩ := a
  have p0 : 0 ≤ v * p := Int.mul_nonneg a0 h0
  have p1 : v * p ≤ 43406979202188 * (4 * q) := Int.mul_le_mul a1 h1 h0 (by omega)
  have b := near_in (X := v * p) (d := q) (m := 173627916808752) hq p0 (by omega)
  rw [divF_of (by omega), holdI_in (by omega) (by omega)]
  exact ⟨a0, a1, b⟩
theorem abs_small {p q : Int} (h0 : -(4 * q) ≤ p) (h1 : p ≤ 4 * q) : 0 ≤ absI p ∧ absI p ≤ 4 * q := by
  unfold absI; split <;> omega
theorem seriesF_in {p q : Int} (hq : 0 < q) (h0 : -(4 * q) ≤ p) (h1 : p ≤ 4 * q) : -139611588448485376 ≤ seriesF p q ∧ seriesF p q ≤ 139611588448485376 := by
  obtain ⟨a0, a1⟩ := abs_small h0 h1
  obtain ⟨_, _, u0, u1⟩ := uF_in hq a0 a1
  have := sumS_in u0 u1 30 (by omega)
  unfold seriesF
  omega
theorem mayF_at (p q : Int) : (mayF p q = true ∧ 1 ≤ q ∧ q ≤ 1048576 ∧ -4 * q ≤ p ∧ p ≤ 4 * q) ∨ (mayF p q = false ∧ (q < 1 ∨ 1048576 < q ∨ p < -4 * q ∨ 4 * q < p)) := by
  unfold mayF
  by_cases a : 1 ≤ q <;> by_cases b : q ≤ 1048576 <;> by_cases c : -4 * q ≤ p <;> by_cases d : p ≤ 4 * q <;> simp [a, b, c, d] <;> omega
theorem abs_minus (p : Int) : absI (-p) = absI p := by unfold absI; split <;> split <;> omega
theorem near_exact (a : Int) {d : Int} (hd : 0 < d) : nearQ (a * d) d = a := by
  unfold nearQ
  rw [if_neg (by omega)]
  have e : 2 * (a * d) + d = d + a * (2 * d) := by rw [Int.mul_left_comm a 2 d]; omega
  rw [e, Int.add_mul_ediv_right _ _ (by omega), Int.ediv_eq_zero_of_lt (by omega) (by omega)]
  omega
theorem divF_exact {a d : Int} (hd : 0 < d) (h0 : -9223372036854775808 ≤ a) (h1 : a ≤ 9223372036854775807) : divF (a * d) d = a := by
  rw [divF_of (by omega), near_exact a hd, holdI_in h0 h1]
end Go.Proofs.YtclgghhpiljgfaaGreatDoor

/- The sine's series in integers, and the polynomial that it stands for. -/
namespace Go.Proofs.YtclgghhpiljgfaaGreatDoor
open Go.RowKit


theorem near_err {X d : Int} (hd : 0 < d) : -d ≤ 2 * (d * nearQ X d) - 2 * X ∧ 2 * (d * nearQ X d) - 2 * X ≤ d := by
  unfold nearQ
  rw [if_neg (by omega)]
  have e := Int.mul_ediv_add_emod (2 * X + d) (2 * d)
  have r0 := Int.emod_nonneg (2 * X + d) (show 2 * d ≠ 0 by omega)
  have r1 := Int.emod_lt_of_pos (2 * X + d) (show 0 < 2 * d by omega)
  rw [Int.mul_assoc] at e
  omega
end Go.Proofs.YtclgghhpiljgfaaGreatDoor

/- Quotients: the program's and the document's, each as plain arithmetic. -/
namespace Go.Proofs.YtclgghhpiljgfaaGreatDoor
open Go.RowKit

/-! ### The document's -/
theorem refsize_to (a x : Int) (hx : absI a = x) (h0 : -9223372036854775808 ≤ a) (h1 : a ≤ 9223372036854775807) (w : World) :
    Calls Tryz.prog 78 #[.int .i64 a] w fun e w' => e = .returned (.int .u64 x) ∧ w = w' := by
  subst hx
  exact refsize_any a h0 h1 w
theorem over_low (x d : Int) (h0 : 0 ≤ x) (h1 : x < 18446744073709551616) (d0 : 0 < d) (d1 : d < 18446744073709551616) (w : World) :
    Calls Tryz.prog 96 #[.agg #[.int .u64 0, .int .u64 x], .int .u64 d] w fun e w' =>
      e = .returned (.tuple #[.agg #[.int .u64 (hi (x / d)), .int .u64 (lo (x / d))], .int .u64 (x % d)]) ∧ Below w.heap.size w w' := by
  have h := over_any x d h0 (by omega) d0 d1 w
  rw [hi_small h0 h1, lo_small h0 h1] at h
  exact h
theorem reffloor_any (a b : Int) (h0 : -9223372036854775808 ≤ a) (h1 : a ≤ 9223372036854775807) (k0 : -9223372036854775808 ≤ b) (k1 : b ≤ 9223372036854775807) (w : World) :
    Calls Tryz.prog 72 #[.int .i64 a, .int .i64 b] w fun e w' => e = .returned (.int .i64 (floorF a b)) ∧ Below w.heap.size w w' := by
  by_cases hb : b = 0
  · subst hb
    go_enter Tryz.func72, Tryz.ntmps72
    go_wp2
    go_ret
    exact ⟨ret_i64 (by simp [floorF]), Below.refl _ _⟩
  rw [floorF_of hb]
  by_cases ha : a < 0
  · by_cases hn : b < 0
    · have ga : a < 0 := by omega
      have gb : b < 0 := by omega
      obtain ⟨x, hx⟩ : ∃ x, x = -a := ⟨_, rfl⟩
      have Cx := refsize_to a x ((absI_neg ga).trans hx.symm) (by omega) (by omega)
      obtain ⟨d, hd⟩ : ∃ d, d = -b := ⟨_, rfl⟩
      have Cd := refsize_to b d ((absI_neg gb).trans hd.symm) (by omega) (by omega)
      have bx : 0 ≤ x ∧ x ≤ 9223372036854775808 := by omega
      have bd : 0 < d ∧ d ≤ 9223372036854775808 := by omega
      have CO := over_low x d (by omega) (by omega) (by omega) (by omega)
      have Q0 := quo_le (x := x) (d := d) (by omega) (by omega)
      have R0 := rest_in (x := x) (d := d) (by omega)
      have e : floorQ a b = x / d := by unfold floorQ; rw [if_pos gb]; subst hx; subst hd; rfl
      rw [e]
      clear e hx hd hb
      obtain ⟨Q0, Q1⟩ := Q0
      obtain ⟨R0, R1⟩ := R0
      have Q2 : x / d ≤ 9223372036854775808 := by omega
      generalize x / d = Q at *
      generalize x % d = r at *
      have CH := hold_any Q false (by omega) (by omega)
      clear bx bd Q1
      have da : decide (a < 0) = true := decide_eq_true ga
      have db : decide (b < 0) = true := decide_eq_true gb
      go_enter Tryz.func72, Tryz.ntmps72
      go_wp2_with (first
        | (go_at_call 78; (with_reducible refine (Cx _).mono ?_); rintro e w' ⟨rfl, rfl⟩)
        | (go_at_call 78; (with_reducible refine (Cd _).mono ?_); rintro e w' ⟨rfl, rfl⟩)
        | (go_at_call 96; (with_reducible refine (CO _).mono ?_); rintro e w1 ⟨rfl, b1⟩; have z1 := b1.size)
        | (go_at_call 98; (with_reducible refine (CH _).mono ?_); rintro e w5 ⟨rfl, b5⟩))
      go_ret
      refine ⟨ret_i64 (by simp [signI]), ?_⟩
      repeat (first | exact Below.refl _ _ | with_reducible refine ba ?_ _ | with_reducible refine bs ?_ (by omega) _ | with_reducible refine bd ?_ | (with_reducible refine bt ?_ (by assumption)))
    · have ga : a < 0 := by omega
      have gb : 0 < b := by omega
      obtain ⟨x, hx⟩ : ∃ x, x = -a := ⟨_, rfl⟩
      have Cx := refsize_to a x ((absI_neg ga).trans hx.symm) (by omega) (by omega)
      obtain ⟨d, hd⟩ : ∃ d, d = b := ⟨_, rfl⟩
      have Cd := refsize_to b d ((absI_pos (Int.le_of_lt gb)).trans hd.symm) (by omega) (by omega)
      have bx : 0 ≤ x ∧ x ≤ 9223372036854775808 := by omega
      have bd : 0 < d ∧ d ≤ 9223372036854775808 := by omega
      have CO := over_low x d (by omega) (by omega) (by omega) (by omega)
      have Q0 := quo_le (x := x) (d := d) (by omega) (by omega)
      have R0 := rest_in (x := x) (d := d) (by omega)
      have e : floorQ a b = -(x / d + if 0 < x % d then 1 else 0) := by unfold floorQ; rw [if_neg (by omega)]; rw [← floor_below (by omega)]; subst hx; subst hd; rw [Int.neg_neg]
      rw [e]
      clear e hx hd hb
      obtain ⟨Q0, Q1⟩ := Q0
      obtain ⟨R0, R1⟩ := R0
      have Q2 : x / d ≤ 9223372036854775808 := by omega
      generalize x / d = Q at *
      generalize x % d = r at *
      by_cases hr : 0 < r
      · rw [if_pos hr]
        have CH := hold_any (Q + 1) true (by omega) (by omega)
        have CP := plus_one Q Q0 (by omega)
        clear bx bd Q1
        have da : decide (a < 0) = true := decide_eq_true ga
        have db : decide (b < 0) = false := decide_eq_false (by omega)
        go_enter Tryz.func72, Tryz.ntmps72
        go_wp2_with (first
          | (go_at_call 78; (with_reducible refine (Cx _).mono ?_); rintro e w' ⟨rfl, rfl⟩)
          | (go_at_call 78; (with_reducible refine (Cd _).mono ?_); rintro e w' ⟨rfl, rfl⟩)
          | (go_at_call 96; (with_reducible refine (CO _).mono ?_); rintro e w1 ⟨rfl, b1⟩; have z1 := b1.size)
          | (go_at_call 97; (with_reducible refine (CP _).mono ?_); rintro e w2 ⟨rfl, b2⟩; have z2 : w1.heap.size + 1 ≤ w2.heap.size := (by simpa using b2.size); have q20 : w2.cell? ⟨w1.heap.size, 0, none⟩ = some (.int .u64 (hi Q)) := cb b2 (by simp) (by simp); have q21 : w2.cell? ⟨w1.heap.size, 1, none⟩ = some (.int .u64 (lo Q)) := cb b2 (by simp) (by simp); have g20 : w2.frozen? ⟨w1.heap.size, 0, none⟩ = false := fb b2 (by simp) (by simp); have g21 : w2.frozen? ⟨w1.heap.size, 1, none⟩ = false := fb b2 (by simp) (by simp))
          | (go_at_call 98; (with_reducible refine (CH _).mono ?_); rintro e w5 ⟨rfl, b5⟩))
        go_ret
        refine ⟨ret_i64 rfl, ?_⟩
        repeat (first | exact Below.refl _ _ | with_reducible refine ba ?_ _ | with_reducible refine bs ?_ (by omega) _ | with_reducible refine bd ?_ | (with_reducible refine bt ?_ (by assumption)))
      · rw [if_neg hr]
        have CH := hold_any Q true (by omega) (by omega)
        clear bx bd Q1
        have da : decide (a < 0) = true := decide_eq_true ga
        have db : decide (b < 0) = false := decide_eq_false (by omega)
        go_enter Tryz.func72, Tryz.ntmps72
        go_wp2_with (first
          | (go_at_call 78; (with_reducible refine (Cx _).mono ?_); rintro e w' ⟨rfl, rfl⟩)
          | (go_at_call 78; (with_reducible refine (Cd _).mono ?_); rintro e w' ⟨rfl, rfl⟩)
          | (go_at_call 96; (with_reducible refine (CO _).mono ?_); rintro e w1 ⟨rfl, b1⟩; have z1 := b1.size)
          | (go_at_call 98; (with_reducible refine (CH _).mono ?_); rintro e w5 ⟨rfl, b5⟩))
        go_ret
        refine ⟨ret_i64 (by simp [signI]), ?_⟩
        repeat (first | exact Below.refl _ _ | with_reducible refine ba ?_ _ | with_reducible refine bs ?_ (by omega) _ | with_reducible refine bd ?_ | (with_reducible refine bt ?_ (by assumption)))
  · by_cases hn : b < 0
    · have ga : 0 ≤ a := by omega
      have gb : b < 0 := by omega
      obtain ⟨x, hx⟩ : ∃ x, x = a := ⟨_, rfl⟩
      have Cx := refsize_to a x ((absI_pos ga).trans hx.symm) (by omega) (by omega)
      obtain ⟨d, hd⟩ : ∃ d, d = -b := ⟨_, rfl⟩
      have Cd := refsize_to b d ((absI_neg gb).trans hd.symm) (by omega) (by omega)
      have bx : 0 ≤ x ∧ x ≤ 9223372036854775808 := by omega
      have bd : 0 < d ∧ d ≤ 9223372036854775808 := by omega
      have CO := over_low x d (by omega) (by omega) (by omega) (by omega)
      have Q0 := quo_le (x := x) (d := d) (by omega) (by omega)
      have R0 := rest_in (x := x) (d := d) (by omega)
      have e : floorQ a b = -(x / d + if 0 < x % d then 1 else 0) := by unfold floorQ; rw [if_pos gb]; rw [← floor_below (by omega)]; subst hx; subst hd; rfl
      rw [e]
      clear e hx hd hb
      obtain ⟨Q0, Q1⟩ := Q0
      obtain ⟨R0, R1⟩ := R0
      have Q2 : x / d ≤ 9223372036854775808 := by omega
      generalize x / d = Q at *
      generalize x % d = r at *
      by_cases hr : 0 < r
      · rw [if_pos hr]
        have CH := hold_any (Q + 1) true (by omega) (by omega)
        have CP := plus_one Q Q0 (by omega)
        clear bx bd Q1
        have da : decide (a < 0) = false := decide_eq_false (by omega)
        have db : decide (b < 0) = true := decide_eq_true gb
        go_enter Tryz.func72, Tryz.ntmps72
        go_wp2_with (first
          | (go_at_call 78; (with_reducible refine (Cx _).mono ?_); rintro e w' ⟨rfl, rfl⟩)
          | (go_at_call 78; (with_reducible refine (Cd _).mono ?_); rintro e w' ⟨rfl, rfl⟩)
          | (go_at_call 96; (with_reducible refine (CO _).mono ?_); rintro e w1 ⟨rfl, b1⟩; have z1 := b1.size)
          | (go_at_call 97; (with_reducible refine (CP _).mono ?_); rintro e w2 ⟨rfl, b2⟩; have z2 : w1.heap.size + 1 ≤ w2.heap.size := (by simpa using b2.size); have q20 : w2.cell? ⟨w1.heap.size, 0, none⟩ = some (.int .u64 (hi Q)) := cb b2 (by simp) (by simp); have q21 : w2.cell? ⟨w1.heap.size, 1, none⟩ = some (.int .u64 (lo Q)) := cb b2 (by simp) (by simp); have g20 : w2.frozen? ⟨w1.heap.size, 0, none⟩ = false := fb b2 (by simp) (by simp); have g21 : w2.frozen? ⟨w1.heap.size, 1, none⟩ = false := fb b2 (by simp) (by simp))
          | (go_at_call 98; (with_reducible refine (CH _).mono ?_); rintro e w5 ⟨rfl, b5⟩))
        go_ret
        refine ⟨ret_i64 rfl, ?_⟩
        repeat (first | exact Below.refl _ _ | with_reducible refine ba ?_ _ | with_reducible refine bs ?_ (by omega) _ | with_reducible refine bd ?_ | (with_reducible refine bt ?_ (by assumption)))
      · rw [if_neg hr]
        have CH := hold_any Q true (by omega) (by omega)
        clear bx bd Q1
        have da : decide (a < 0) = false := decide_eq_false (by omega)
        have db : decide (b < 0) = true := decide_eq_true gb
        go_enter Tryz.func72, Tryz.ntmps72
        go_wp2_with (first
          | (go_at_call 78; (with_reducible refine (Cx _).mono ?_); rintro e w' ⟨rfl, rfl⟩)
          | (go_at_call 78; (with_reducible refine (Cd _).mono ?_); rintro e w' ⟨rfl, rfl⟩)
          | (go_at_call 96; (with_reducible refine (CO _).mono ?_); rintro e w1 ⟨rfl, b1⟩; have z1 := b1.size)
          | (go_at_call 98; (with_reducible refine (CH _).mono ?_); rintro e w5 ⟨rfl, b5⟩))
        go_ret
        refine ⟨ret_i64 (by simp [signI]), ?_⟩
        repeat (first | exact Below.refl _ _ | with_reducible refine ba ?_ _ | with_reducible refine bs ?_ (by omega) _ | with_reducible refine bd ?_ | (with_reducible refine bt ?_ (by assumption)))
    · have ga : 0 ≤ a := by omega
      have gb : 0 < b := by omega
      obtain ⟨x, hx⟩ : ∃ x, x = a := ⟨_, rfl⟩
      have Cx := refsize_to a x ((absI_pos ga).trans hx.symm) (by omega) (by omega)
      obtain ⟨d, hd⟩ : ∃ d, d = b := ⟨_, rfl⟩
      have Cd := refsize_to b d ((absI_pos (Int.le_of_lt gb)).trans hd.symm) (by omega) (by omega)
      have bx : 0 ≤ x ∧ x ≤ 9223372036854775808 := by omega
      have bd : 0 < d ∧ d ≤ 9223372036854775808 := by omega
      have CO := over_low x d (by omega) (by omega) (by omega) (by omega)
      have Q0 := quo_le (x := x) (d := d) (by omega) (by omega)
      have R0 := rest_in (x := x) (d := d) (by omega)
      have e : floorQ a b = x / d := by unfold floorQ; rw [if_neg (by omega)]; subst hx; subst hd; rfl
      rw [e]
      clear e hx hd hb
      obtain ⟨Q0, Q1⟩ := Q0
      obtain ⟨R0, R1⟩ := R0
      have Q2 : x / d ≤ 9223372036854775808 := by omega
      generalize x / d = Q at *
      generalize x % d = r at *
      have CH := hold_any Q false (by omega) (by omega)
      clear bx bd Q1
      have da : decide (a < 0) = false := decide_eq_false (by omega)
      have db : decide (b < 0) = false := decide_eq_false (by omega)
      go_enter Tryz.func72, Tryz.ntmps72
      go_wp2_with (first
        | (go_at_call 78; (with_reducible refine (Cx _).mono ?_); rintro e w' ⟨rfl, rfl⟩)
        | (go_at_call 78; (with_reducible refine (Cd _).mono ?_); rintro e w' ⟨rfl, rfl⟩)
        | (go_at_call 96; (with_reducible refine (CO _).mono ?_); rintro e w1 ⟨rfl, b1⟩; have z1 := b1.size)
        | (go_at_call 98; (with_reducible refine (CH _).mono ?_); rintro e w5 ⟨rfl, b5⟩))
      go_ret
      refine ⟨ret_i64 (by simp [signI]), ?_⟩
      repeat (first | exact Below.refl _ _ | with_reducible refine ba ?_ _ | with_reducible refine bs ?_ (by omega) _ | with_reducible refine bd ?_ | (with_reducible refine bt ?_ (by assumption)))
end Go.Proofs.YtclgghhpiljgfaaGreatDoor
