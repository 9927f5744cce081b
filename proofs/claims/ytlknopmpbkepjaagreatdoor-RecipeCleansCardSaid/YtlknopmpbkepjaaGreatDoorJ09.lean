/- Parts, joined. -/
import Derived.Test.YtlknopmpbkepjaaGreatDoorJ01
import Derived.Test.YtlknopmpbkepjaaGreatDoorJ02
import Derived.Test.YtlknopmpbkepjaaGreatDoorJ03
import Derived.Test.YtlknopmpbkepjaaGreatDoorJ06
import Derived.Test.YtlknopmpbkepjaaGreatDoorJ07
import Derived.Laws.FloatArith
import Derived.RowKit
import Derived.WalkLawsBesides
/- The sine, divided by what it is of, in integers: plain arithmetic. -/
namespace Go.Proofs.YtlknopmpbkepjaaGreatDoor
open Go.RowKit


/-- The i-th divisor, for i = k + 1. -/
def divS (k : Nat) : Int := 2 * ((k : Int) + 1) * (2 * ((k : Int) + 1) + 1) * 1099511627776
/-- The terms, and their sum, with signs in turn. -/
def termS (u : Int) : Nat → Int
  | 0 => 1099511627776
  | n + 1 => divF (termS u n * u) (divS n)
def sumS (u : Int) : Nat → Int
  | 0 => 1099511627776
  | n + 1 => if n % 2 = 0 then sumS u n - termS u (n + 1) else sumS u n + termS u (n + 1)
/-- Above the terms. -/
def topS : Nat → Int
  | 0 => 1099511627776
  | n + 1 => topS n * 173627916808752 / divS n + 1
def uF (p q : Int) : Int := divF (divF (10851744800547 * p) q * p) q
def mayF (p q : Int) : Bool := decide (1 ≤ q) && decide (q ≤ 1048576) && decide (-4 * q ≤ p) && decide (p ≤ 4 * q)
def seriesF (p q : Int) : Int := sumS (uF (absI p) q) 30
def lanczosF (p q : Int) : Int := if mayF p q = true ∧ -3 * q < p ∧ p < 3 * q then shiftF (mulShiftF (seriesF p q) (seriesF p (3 * q)) 40) 10 else 0
theorem divS_in : ∀ k < 30, 6 * 1099511627776 ≤ divS k ∧ divS k ≤ 3660 * 1099511627776 := by decide
theorem mulS_in : ∀ k : Nat, k < 30 → 6 ≤ 2 * ((k : Int) + 1) * (2 * ((k : Int) + 1) + 1) ∧ 2 * ((k : Int) + 1) * (2 * ((k : Int) + 1) + 1) ≤ 3660 := by decide
theorem topS_in : ∀ k < 31, 1 ≤ topS k ∧ topS k ≤ 4503599627370496 := by decide +kernel
theorem termS_in {u : Int} (h0 : 0 ≤ u) (h1 : u ≤ 173627916808752) (n : Nat) (hn : n < 31) : 0 ≤ termS u n ∧ termS u n ≤ topS n := by
  induction n with
  | zero => simp [termS, topS]
  | succ n ih =>
    obtain ⟨a0, a1⟩ := ih (by omega)
    obtain ⟨d0, d1⟩ := divS_in n (by omega)
    obtain ⟨t0, t1⟩ := topS_in n (by omega)
    obtain ⟨_, t3⟩ := topS_in (n + 1) hn
    have p0 : 0 ≤ termS u n * u := Int.mul_nonneg a0 h0
    have p1 : termS u n * u ≤ topS n * 173627916808752 := Int.mul_le_mul a1 h1 h0 (by omega)
    have p2 : topS n * 173627916808752 < (topS n * 173627916808752 / divS n + 1) * divS n := Int.lt_mul_of_ediv_lt (by omega) (by omega)
    have q := near_in (X := termS u n * u) (d := divS n) (m := topS (n + 1)) (by omega) p0 (by
      show _ ≤ (topS n * 173627916808752 / divS n + 1) * divS n
      omega)
    show 0 ≤ divF _ _ ∧ divF _ _ ≤ _
    rw [divF_of (by omega), holdI_in (by omega) (by omega)]
    exact q
theorem termS_all {u : Int} (h0 : 0 ≤ u) (h1 : u ≤ 173627916808752) (n : Nat) (hn : n < 31) : 0 ≤ termS u n ∧ termS u n ≤ 4503599627370496 := by
  obtain ⟨a, b⟩ := termS_in h0 h1 n hn
  obtain ⟨_, d⟩ := topS_in n hn
  exact ⟨a, by omega⟩
theorem sumS_in {u : Int} (h0 : 0 ≤ u) (h1 : u ≤ 173627916808752) (n : Nat) (hn : n < 31) : -(((n : Int) + 1) * 4503599627370496) ≤ sumS u n ∧ sumS u n ≤ ((n : Int) + 1) * 4503599627370496 := by
  induction n with
  | zero => simp [sumS]
  | succ n ih =>
    have t := termS_all h0 h1 (n + 1) hn
    have := ih (by omega)
    unfold sumS
    split <;> omega
/-- The two steps ahead of the terms. -/
theorem uF_in {p q : Int} (hq : 0 < q) (h0 : 0 ≤ p) (h1 : p ≤ 4 * q) : 0 ≤ divF (10851744800547 * p) q ∧ divF (10851744800547 * p) q ≤ 43406979202188 ∧ 0 ≤ uF p q ∧ uF p q ≤ 173627916808752 := by
  have a := near_in (X := 10851744800547 * p) (d := q) (m := 43406979202188) hq (by omega) (by omega)
  have e1 : divF (10851744800547 * p) q = nearQ (10851744800547 * p) q := by rw [divF_of (by omega), holdI_in (by omega) (by omega)]
  unfold uF
  rw [e1]
  generalize nearQ (10851744800547 * p) q = v at *
  obtain ⟨a0, a1⟩ := a
  have p0 : 0 ≤ v * p := Int.mul_nonneg a0 h0
  have p1 : v * p ≤ 43406979202188 * (4 * q) := Int.mul_le_mul a1 h1 h0 (by omega)
  have b := near_in (X := v * p) (d := q) (m := 173627916808752) hq p0 (by omega)
  rw [divF_of (by omega), holdI_in (by omega) (by omega)]
  exact ⟨a0, a1, b⟩
theorem abs_small {p q : Int} (h0 : -(4 * q) ≤ p) (h1 : p ≤ 4 * q) : 0 ≤ absI p ∧ absI p ≤ 4 * q := by
  unfold absI; split <;> omega
theorem seriesF_in {p q : Int} (hq : 0 < q) (h0 : -(4 * q) ≤ p) (h1 : p ≤ 4 * q) : -139611588448485376 ≤ seriesF p q ∧ seriesF p q ≤ 139611588448485376 := by
  obtain ⟨a0, a1⟩ := abs_small h0 h1
  obtain ⟨_, _, u0, u1⟩ := uF_in hq a0 a1
  have := sumS_in u0 u1 30 (by omega)
  unfold seriesF
  omega
theorem mayF_at (p q : Int) : (mayF p q = true ∧ 1 ≤ q ∧ q ≤ 1048576 ∧ -4 * q ≤ p ∧ p ≤ 4 * q) ∨ (mayF p q = false ∧ (q < 1 ∨ 1048576 < q ∨ p < -4 * q ∨ 4 * q < p)) := by
  unfold mayF
  by_cases a : 1 ≤ q <;> by_cases b : q ≤ 1048576 <;> by_cases c : -4 * q ≤ p <;> by_cases d : p ≤ 4 * q <;> simp [a, b, c, d] <;> omega
end Go.Proofs.YtlknopmpbkepjaaGreatDoor

/- The sine's series in integers, and the polynomial that it stands for. -/
namespace Go.Proofs.YtlknopmpbkepjaaGreatDoor
open Go.RowKit


theorem near_err {X d : Int} (hd : 0 < d) : -d ≤ 2 * (d * nearQ X d) - 2 * X ∧ 2 * (d * nearQ X d) - 2 * X ≤ d := by
  unfold nearQ
  rw [if_neg (by omega)]
  have e := Int.mul_ediv_add_emod (2 * X + d) (2 * d)
  have r0 := Int.emod_nonneg (2 * X + d) (show 2 * d ≠ 0 by omega)
  have r1 := Int.emod_lt_of_pos (2 * X + d) (show 0 < 2 * d by omega)
  rw [Int.mul_assoc] at e
  omega
end Go.Proofs.YtlknopmpbkepjaaGreatDoor

/- The program's and the document's sinc: what each call answers. -/
namespace Go.Proofs.YtlknopmpbkepjaaGreatDoor
open Go.RowKit


theorem mulshift_to (a b n v : Int) (hv : mulShiftF a b n = v) (h0 : -9223372036854775808 ≤ a) (h1 : a ≤ 9223372036854775807) (k0 : -9223372036854775808 ≤ b) (k1 : b ≤ 9223372036854775807) (w : World) :
    Calls Tryz.prog 92 #[.int .i64 a, .int .i64 b, .int .i64 n] w fun e w' => e = .returned (.int .i64 v) ∧ Below w.heap.size w w' := by
  subst hv
  exact mulshift_any a b n h0 h1 k0 k1 w
theorem mulShiftF_in (a b n : Int) : -9223372036854775808 ≤ mulShiftF a b n ∧ mulShiftF a b n ≤ 9223372036854775807 := by
  unfold mulShiftF
  split
  · omega
  · split <;> exact ⟨holdI0 _, holdI1 _⟩
set_option maxRecDepth 100000 in
set_option maxHeartbeats 1000000 in
theorem sseries_at (p q P v u : Int) (hP : absI p = P) (hv : divF (10851744800547 * P) q = v) (hu : divF (v * P) q = u) (q0 : 0 < q) (q1 : q ≤ 3145728) (P0 : 0 ≤ P) (P1 : P ≤ 4 * q) (v0 : 0 ≤ v) (v1 : v ≤ 43406979202188) (u0 : 0 ≤ u) (u1 : u ≤ 173627916808752) (w : World) :
    Calls Tryz.prog 93 #[.int .i64 p, .int .i64 q] w fun e w' => e = .returned (.int .i64 (sumS u 30)) ∧ Below w.heap.size w w' := by
  have C1 := muldiv_to 10851744800547 P q v hv (by omega) (by omega) (by omega) (by omega) (by omega) (by omega)
  have C2 := muldiv_to v P q u hu (by omega) (by omega) (by omega) (by omega) (by omega) (by omega)
  have hp : (decide (p < 0) = true ∧ -p = P) ∨ (decide (p < 0) = false ∧ p = P) := by
    unfold absI at hP
    by_cases h : p < 0
    · rw [if_pos h] at hP; exact Or.inl ⟨decide_eq_true h, hP⟩
    · rw [if_neg h] at hP; exact Or.inr ⟨decide_eq_false h, hP⟩
  clear hv hu hP
  rcases hp with ⟨g, rfl⟩ | ⟨g, rfl⟩
  all_goals
    go_enter Tryz.func93, Tryz.ntmps93
    go_wp2_with (first
      | (go_at_call 54; (with_reducible refine (C1 _).mono ?_); rintro e w1 ⟨rfl, b1⟩)
      | (go_at_call 54; (with_reducible refine (C2 _).mono ?_); rintro e w2 ⟨rfl, b2⟩))
    go_loopw [6, 7, 8] (fun s t i wr => ∃ k : Nat, k ≤ 30 ∧ s = .int .i64 (sumS u k) ∧ t = .int .i64 (termS u k) ∧ i = .int .i64 ((k : Int) + 1) ∧ Below w.heap.size w wr) (fun _ _ i _ => 31 - (intOf i).toNat)
    case atStart => exact ⟨0, by omega, rfl, rfl, rfl, bt b1 b2⟩
    case round =>
      obtain ⟨k, hk, rfl, rfl, rfl, hb⟩ := hrel
      have HB := hide hb
      clear hb b1 b2
      obtain ⟨t0, t1⟩ := termS_all u0 u1 k (by omega)
      obtain ⟨s0, s1⟩ := sumS_in u0 u1 k (by omega)
      by_cases hlt : k < 30
      · obtain ⟨x0, x1⟩ := termS_all u0 u1 (k + 1) (by omega)
        obtain ⟨m0, m1⟩ := mulS_in k hlt
        have CM := muldiv_to (termS u k) u (2 * ((k : Int) + 1) * (2 * ((k : Int) + 1) + 1) * 1099511627776) (termS u (k + 1)) rfl (by omega) (by omega) (by omega) (by omega) (by omega) (by omega)
        have hs : sumS u (k + 1) = if k % 2 = 0 then sumS u k - termS u (k + 1) else sumS u k + termS u (k + 1) := rfl
        have HS := hide hs
        clear hs
        by_cases hp : k % 2 = 0
        · have tst : (((k : Int) + 1) % 2 == 1) = true := beq_iff_eq.2 (by omega)
          have HP := hide hp
          clear hp
          go_wp2_with (go_at_call 54; (with_reducible refine (CM _).mono ?_); rintro e w3 ⟨rfl, b3⟩)
          go_roundw
          case rel => exact ⟨k + 1, by omega, by rw [HS.out, if_pos HP.out], rfl, by go_num, bt HB.out b3⟩
          case measure => simp [intOf]; omega
        · have tst : (((k : Int) + 1) % 2 == 1) = false := beq_eq_false_iff_ne.2 (by omega)
          have HP := hide hp
          clear hp
          go_wp2_with (go_at_call 54; (with_reducible refine (CM _).mono ?_); rintro e w3 ⟨rfl, b3⟩)
          go_roundw
          case rel => exact ⟨k + 1, by omega, by rw [HS.out, if_neg HP.out], rfl, by go_num, bt HB.out b3⟩
          case measure => simp [intOf]; omega
      · obtain rfl : k = 30 := by omega
        go_wp2
        go_ret
        exact ⟨rfl, HB.out⟩
theorem sseries_any (p q : Int) (q0 : 0 < q) (q1 : q ≤ 3145728) (h0 : -(4 * q) ≤ p) (h1 : p ≤ 4 * q) (w : World) :
    Calls Tryz.prog 93 #[.int .i64 p, .int .i64 q] w fun e w' => e = .returned (.int .i64 (seriesF p q)) ∧ Below w.heap.size w w' := by
  obtain ⟨a0, a1⟩ := abs_small h0 h1
  obtain ⟨v0, v1, u0, u1⟩ := uF_in q0 a0 a1
  exact sseries_at p q _ _ _ rfl rfl rfl q0 q1 a0 a1 v0 v1 u0 u1 w
theorem may_any (p q : Int) (w : World) (_h0 : -9223372036854775808 ≤ p) (_h1 : p ≤ 9223372036854775807) :
    Calls Tryz.prog 91 #[.int .i64 p, .int .i64 q] w fun e w' => e = .returned (.bool (mayF p q)) ∧ Below w.heap.size w w' := by
  unfold mayF
  by_cases g1 : 1 ≤ q
  · by_cases g2 : q ≤ 1048576
    · by_cases g3 : -4 * q ≤ p
      · have e1 : decide (1 ≤ q) = true := decide_eq_true g1
        have e2 : decide (q ≤ 1048576) = true := decide_eq_true g2
        have e3 : decide (-4 * q ≤ p) = true := decide_eq_true g3
        rw [e1, e2, e3]
        go_enter Tryz.func91, Tryz.ntmps91
        go_wp2
        go_ret
        exact ⟨rfl, Below.refl _ _⟩
      · have e1 : decide (1 ≤ q) = true := decide_eq_true g1
        have e2 : decide (q ≤ 1048576) = true := decide_eq_true g2
        have e3 : decide (-4 * q ≤ p) = false := decide_eq_false g3
        rw [e1, e2, e3]
        go_enter Tryz.func91, Tryz.ntmps91
        go_wp2
        go_ret
        exact ⟨rfl, Below.refl _ _⟩
    · have e1 : decide (1 ≤ q) = true := decide_eq_true g1
      have e2 : decide (q ≤ 1048576) = false := decide_eq_false g2
      rw [e1, e2]
      go_enter Tryz.func91, Tryz.ntmps91
      go_wp2
      go_ret
      exact ⟨rfl, Below.refl _ _⟩
  · have e1 : decide (1 ≤ q) = false := decide_eq_false g1
    rw [e1]
    go_enter Tryz.func91, Tryz.ntmps91
    go_wp2
    go_ret
    exact ⟨rfl, Below.refl _ _⟩
set_option maxHeartbeats 1000000 in
theorem lanczos_any (p q : Int) (h0 : -9223372036854775808 ≤ p) (h1 : p ≤ 9223372036854775807) (w : World) :
    Calls Tryz.prog 65 #[.int .i64 p, .int .i64 q] w fun e w' => e = .returned (.int .i64 (lanczosF p q)) ∧ Below w.heap.size w w' := by
  have CM := fun w => may_any p q w h0 h1
  rcases mayF_at p q with ⟨g, a1, a2, a3, a4⟩ | ⟨g, _⟩
  · rw [g] at CM
    by_cases g1 : p ≤ -3 * q
    · rw [show lanczosF p q = 0 from if_neg (by omega)]
      clear g
      go_enter Tryz.func65, Tryz.ntmps65
      go_wp2_with (go_at_call 91; (with_reducible refine (CM _).mono ?_); rintro e w1 ⟨rfl, b1⟩)
      go_ret
      exact ⟨rfl, b1⟩
    by_cases g2 : 3 * q ≤ p
    · rw [show lanczosF p q = 0 from if_neg (by omega)]
      clear g
      go_enter Tryz.func65, Tryz.ntmps65
      go_wp2_with (go_at_call 91; (with_reducible refine (CM _).mono ?_); rintro e w1 ⟨rfl, b1⟩)
      go_ret
      exact ⟨rfl, b1⟩
    rw [show lanczosF p q = shiftF (mulShiftF (seriesF p q) (seriesF p (3 * q)) 40) 10 from if_pos ⟨g, by omega, by omega⟩]
    clear g
    have CS := sseries_any p q (by omega) (by omega) (by omega) (by omega)
    have CT := sseries_any p (3 * q) (by omega) (by omega) (by omega) (by omega)
    obtain ⟨s0, s1⟩ := seriesF_in (p := p) (q := q) (by omega) (by omega) (by omega)
    obtain ⟨t0, t1⟩ := seriesF_in (p := p) (q := 3 * q) (by omega) (by omega) (by omega)
    have CX := mulshift_to (seriesF p q) (seriesF p (3 * q)) 40 _ rfl (by omega) (by omega) (by omega) (by omega)
    obtain ⟨x0, x1⟩ := mulShiftF_in (seriesF p q) (seriesF p (3 * q)) 40
    have CH := fixshift_any (mulShiftF (seriesF p q) (seriesF p (3 * q)) 40) 10 x0 x1 (by omega) (by omega)
    generalize shiftF (mulShiftF (seriesF p q) (seriesF p (3 * q)) 40) 10 = z at *
    generalize mulShiftF (seriesF p q) (seriesF p (3 * q)) 40 = y at *
    generalize seriesF p (3 * q) = t at *
    generalize seriesF p q = s at *
    go_enter Tryz.func65, Tryz.ntmps65
    go_wp2_with (first
      | (go_at_call 91; (with_reducible refine (CM _).mono ?_); rintro e w1 ⟨rfl, b1⟩)
      | (go_at_call 93; (with_reducible refine (CS _).mono ?_); rintro e w2 ⟨rfl, b2⟩)
      | (go_at_call 93; (with_reducible refine (CT _).mono ?_); rintro e w3 ⟨rfl, b3⟩)
      | (go_at_call 92; (with_reducible refine (CX _).mono ?_); rintro e w4 ⟨rfl, b4⟩)
      | (go_at_call 72; (with_reducible refine (CH _).mono ?_); rintro e w5 ⟨rfl, b5⟩))
    go_ret
    exact ⟨rfl, bt (bt (bt (bt b1 b2) b3) b4) b5⟩
  · rw [show lanczosF p q = 0 from if_neg (by rw [g]; simp)]
    rw [g] at CM
    clear g
    go_enter Tryz.func65, Tryz.ntmps65
    go_wp2_with (go_at_call 91; (with_reducible refine (CM _).mono ?_); rintro e w1 ⟨rfl, b1⟩)
    go_ret
    exact ⟨rfl, b1⟩
end Go.Proofs.YtlknopmpbkepjaaGreatDoor

/- What each source sample weighs: Keys' cubic, in integers and by float64. -/
namespace Go.Proofs.YtlknopmpbkepjaaGreatDoor
open Go.RowKit Ieee

/-- Keys' cubic, as a raw weight. -/
def lowK (p q : Int) : Int := 3 * (p * p * p) - 5 * (p * p) * q + 2 * (q * q * q)
def highK (p q : Int) : Int := 5 * (p * p) * q - p * p * p - 8 * p * (q * q) + 4 * (q * q * q)
def keysF (p q : Int) : Int := if 1 ≤ q ∧ q ≤ 262144 ∧ p < 2 * q ∧ -2 * q < p then (if absI p < q then divF (lowK (absI p) q * 1073741824) (2 * (q * q * q)) else divF (highK (absI p) q * 1073741824) (2 * (q * q * q))) else 0
theorem cubes {q : Int} (q0 : 1 ≤ q) (q1 : q ≤ 262144) : 1 ≤ q * q ∧ q * q ≤ 68719476736 ∧ 1 ≤ q * q * q ∧ q * q * q ≤ 18014398509481984 := by
  have a : 1 * 1 ≤ q * q := Int.mul_le_mul q0 q0 (by omega) (by omega)
  have b : q * q ≤ 262144 * 262144 := Int.mul_le_mul q1 q1 (by omega) (by omega)
  have c : 1 * 1 ≤ q * q * q := Int.mul_le_mul a q0 (by omega) (by omega)
  have d : q * q * q ≤ 262144 * 262144 * 262144 := Int.mul_le_mul b q1 (by omega) (by omega)
  omega
end Go.Proofs.YtlknopmpbkepjaaGreatDoor

/- Keys' cubic by float64, and the document's call. -/
namespace Go.Proofs.YtlknopmpbkepjaaGreatDoor
open Go.RowKit Ieee

theorem keys_bounds {P q : Int} (q0 : 1 ≤ q) (q1 : q ≤ 262144) (P0 : 0 ≤ P) (P1 : P ≤ 2 * q) :
    0 ≤ P * P ∧ P * P ≤ 274877906944 ∧ 0 ≤ P * P * P ∧ P * P * P ≤ 144115188075855872 ∧ 0 ≤ 5 * (P * P) * q ∧ 5 * (P * P) * q ≤ 360287970189639680 ∧ 0 ≤ 8 * P * (q * q) ∧ 8 * P * (q * q) ≤ 288230376151711744 := by
  obtain ⟨s0, s1, c0, c1⟩ := cubes q0 q1
  have P2 : P ≤ 524288 := by omega
  have a0 : 0 ≤ P * P := Int.mul_nonneg P0 P0
  have a1 : P * P ≤ 524288 * 524288 := Int.mul_le_mul P2 P2 P0 (by omega)
  have b0 : 0 ≤ P * P * P := Int.mul_nonneg a0 P0
  have b1 : P * P * P ≤ 524288 * 524288 * 524288 := Int.mul_le_mul a1 P2 P0 (by omega)
  have d0 : 0 ≤ 5 * (P * P) * q := Int.mul_nonneg (by omega) (by omega)
  have d1 : 5 * (P * P) * q ≤ 5 * (524288 * 524288) * 262144 := Int.mul_le_mul (by omega) q1 (by omega) (by omega)
  have g0 : 0 ≤ 8 * P * (q * q) := Int.mul_nonneg (by omega) (by omega)
  have g1 : 8 * P * (q * q) ≤ 8 * 524288 * 68719476736 := Int.mul_le_mul (by omega) s1 (by omega) (by omega)
  omega
end Go.Proofs.YtlknopmpbkepjaaGreatDoor

/- The program's raw weights: Keys' cubic. -/
namespace Go.Proofs.YtlknopmpbkepjaaGreatDoor
open Go.RowKit


theorem up_mul {a b A B : Int} (a0 : 0 ≤ a) (a1 : a ≤ A) (b0 : 0 ≤ b) (b1 : b ≤ B) : 0 ≤ a * b ∧ a * b ≤ A * B := ⟨Int.mul_nonneg a0 b0, Int.mul_le_mul a1 b1 b0 (by omega)⟩
set_option maxRecDepth 100000 in
theorem doubled_low (p q v : Int) (hv : lowK p q = v) (q0 : 1 ≤ q) (q1 : q ≤ 262144) (p0 : 0 ≤ p) (g : p < q) (w : World) :
    Calls Tryz.prog 90 #[.int .i64 p, .int .i64 q] w fun e w' => e = .returned (.int .i64 v) ∧ w = w' := by
  obtain ⟨a0, a1⟩ := up_mul (a := 3 * p) (A := 786432) (b := p) (B := 262144) (by omega) (by omega) p0 (by omega)
  obtain ⟨b0, b1⟩ := up_mul a0 a1 p0 (show p ≤ 262144 by omega)
  obtain ⟨c0, c1⟩ := up_mul (a := 5 * p) (A := 1310720) (b := p) (B := 262144) (by omega) (by omega) p0 (by omega)
  obtain ⟨d0, d1⟩ := up_mul c0 c1 (show 0 ≤ q by omega) q1
  obtain ⟨e0, e1⟩ := up_mul (a := 2 * q) (A := 524288) (b := q) (B := 262144) (by omega) (by omega) (by omega) q1
  obtain ⟨f0, f1⟩ := up_mul e0 e1 (show 0 ≤ q by omega) q1
  have HV := hide hv
  clear hv
  go_enter Tryz.func90, Tryz.ntmps90
  go_wp2
  go_ret
  exact ⟨ret_i64 (by rw [← HV.out]; unfold lowK; simp only [Int.mul_assoc]), rfl⟩
set_option maxRecDepth 100000 in
theorem doubled_high (p q v : Int) (hv : highK p q = v) (q0 : 1 ≤ q) (q1 : q ≤ 262144) (g : q ≤ p) (p1 : p < 2 * q) (w : World) :
    Calls Tryz.prog 90 #[.int .i64 p, .int .i64 q] w fun e w' => e = .returned (.int .i64 v) ∧ w = w' := by
  have p0 : 0 ≤ p := by omega
  have p2 : p ≤ 524288 := by omega
  obtain ⟨a0, a1⟩ := up_mul (a := p) (A := 524288) (b := p) (B := 524288) p0 p2 p0 p2
  obtain ⟨b0, b1⟩ := up_mul a0 a1 p0 p2
  obtain ⟨c0, c1⟩ := up_mul (a := 5 * p) (A := 2621440) (b := p) (B := 524288) (by omega) (by omega) p0 p2
  obtain ⟨d0, d1⟩ := up_mul c0 c1 (show 0 ≤ q by omega) q1
  obtain ⟨e0, e1⟩ := up_mul (a := 4 * q) (A := 1048576) (b := q) (B := 262144) (by omega) (by omega) (by omega) q1
  obtain ⟨f0, f1⟩ := up_mul e0 e1 (show 0 ≤ q by omega) q1
  obtain ⟨g0, g1⟩ := up_mul (a := 8 * p) (A := 4194304) (b := q) (B := 262144) (by omega) (by omega) (by omega) q1
  obtain ⟨h0, h1⟩ := up_mul g0 g1 (show 0 ≤ q by omega) q1
  have HV := hide hv
  clear hv
  go_enter Tryz.func90, Tryz.ntmps90
  go_wp2
  go_ret
  exact ⟨ret_i64 (by rw [← HV.out]; unfold highK; simp only [Int.mul_assoc]), rfl⟩
set_option maxRecDepth 100000 in
set_option maxHeartbeats 1000000 in
theorem keys_at (p q P : Int) (hP : absI p = P) (h0 : -9223372036854775808 < p) (h1 : p ≤ 9223372036854775807) (q0 : 1 ≤ q) (q1 : q ≤ 262144) (g0 : p < 2 * q) (g1 : -2 * q < p) (w : World) :
    Calls Tryz.prog 64 #[.int .i64 p, .int .i64 q] w fun e w' => e = .returned (.int .i64 (if P < q then divF (lowK P q * 1073741824) (2 * (q * q * q)) else divF (highK P q * 1073741824) (2 * (q * q * q)))) ∧ Below w.heap.size w w' := by
  have P0 : 0 ≤ P := by rw [← hP]; exact absI0 p
  have P1 : P < 2 * q := by rw [← hP]; unfold absI; split <;> omega
  obtain ⟨a0, a1, b0, b1, d0, d1, e0, e1⟩ := keys_bounds q0 q1 P0 (by omega)
  obtain ⟨s0, s1, c0, c1⟩ := cubes q0 q1
  obtain ⟨v, hv, v0, v1⟩ : ∃ v, (if P < q then lowK P q else highK P q) = v ∧ -9223372036854775808 ≤ v ∧ v ≤ 9223372036854775807 := by
    refine ⟨_, rfl, ?_⟩
    unfold lowK highK
    split <;> omega
  have hp : (decide (p < 0) = true ∧ -p = P) ∨ (decide (p < 0) = false ∧ p = P) := by
    unfold absI at hP
    by_cases h : p < 0
    · rw [if_pos h] at hP; exact Or.inl ⟨decide_eq_true h, hP⟩
    · rw [if_neg h] at hP; exact Or.inr ⟨decide_eq_false h, hP⟩
  clear hP
  have CD : ∀ w : World, Calls Tryz.prog 90 #[.int .i64 P, .int .i64 q] w fun e w' => e = .returned (.int .i64 v) ∧ w = w' := by
    intro w
    by_cases g : P < q
    · rw [if_pos g] at hv; exact doubled_low P q v hv q0 q1 P0 g w
    · rw [if_neg g] at hv; exact doubled_high P q v hv q0 q1 (by omega) P1 w
  have ez : (if P < q then divF (lowK P q * 1073741824) (2 * (q * q * q)) else divF (highK P q * 1073741824) (2 * (q * q * q))) = divF (v * 1073741824) (2 * q * q * q) := by
    rw [← hv, show 2 * q * q * q = 2 * (q * q * q) by simp only [Int.mul_assoc]]
    split <;> rfl
  rw [ez]
  have eq3 : 2 * q * q * q = 2 * (q * q * q) := by simp only [Int.mul_assoc]
  obtain ⟨f0, f1⟩ := up_mul (a := 2 * q) (A := 524288) (b := q) (B := 262144) (by omega) (by omega) (by omega) q1
  have CM := muldiv_to v 1073741824 (2 * q * q * q) _ rfl (by omega) (by omega) (by omega) (by omega) (by omega) (by omega)
  obtain ⟨t0, t1⟩ : 1 ≤ 2 * q * q * q ∧ 2 * q * q * q ≤ 36028797018963968 := by omega
  generalize divF (v * 1073741824) (2 * q * q * q) = z at *
  clear ez eq3 hv a0 a1 b0 b1 d0 d1 e0 e1 s0 s1 c0 c1 v0 v1
  rcases hp with ⟨hp, hP⟩ | ⟨hp, hP⟩
  · go_enter Tryz.func64, Tryz.ntmps64
    go_wp2_with (first
      | (go_at_call 90; (with_reducible refine (CD _).mono ?_); rintro e w1 ⟨rfl, rfl⟩)
      | (go_at_call 54; (with_reducible refine (CM _).mono ?_); rintro e w1 ⟨rfl, b1⟩))
    go_ret
    exact ⟨rfl, b1⟩
  · subst hP
    go_enter Tryz.func64, Tryz.ntmps64
    go_wp2_with (first
      | (go_at_call 90; (with_reducible refine (CD _).mono ?_); rintro e w1 ⟨rfl, rfl⟩)
      | (go_at_call 54; (with_reducible refine (CM _).mono ?_); rintro e w1 ⟨rfl, b1⟩))
    go_ret
    exact ⟨rfl, b1⟩
theorem keys_any (p q : Int) (h0 : -9223372036854775808 ≤ p) (h1 : p ≤ 9223372036854775807) (w : World) :
    Calls Tryz.prog 64 #[.int .i64 p, .int .i64 q] w fun e w' => e = .returned (.int .i64 (keysF p q)) ∧ Below w.heap.size w w' := by
  by_cases g : 1 ≤ q ∧ q ≤ 262144 ∧ p < 2 * q ∧ -2 * q < p
  · rw [show keysF p q = if absI p < q then divF (lowK (absI p) q * 1073741824) (2 * (q * q * q)) else divF (highK (absI p) q * 1073741824) (2 * (q * q * q)) from if_pos g]
    obtain ⟨q0, q1, g0, g1⟩ := g
    exact keys_at p q _ rfl (by omega) h1 q0 q1 g0 g1 w
  · rw [show keysF p q = 0 from if_neg g]
    by_cases g1 : q < 1
    · clear g
      go_enter Tryz.func64, Tryz.ntmps64
      go_wp2
      go_ret
      exact ⟨rfl, Below.refl _ _⟩
    by_cases g2 : 262144 < q
    · clear g
      go_enter Tryz.func64, Tryz.ntmps64
      go_wp2
      go_ret
      exact ⟨rfl, Below.refl _ _⟩
    by_cases g3 : p ≤ -2 * q
    · clear g
      go_enter Tryz.func64, Tryz.ntmps64
      go_wp2
      go_ret
      exact ⟨rfl, Below.refl _ _⟩
    have g4 : 2 * q ≤ p := by omega
    clear g
    go_enter Tryz.func64, Tryz.ntmps64
    go_wp2
    go_ret
    exact ⟨rfl, Below.refl _ _⟩
end Go.Proofs.YtlknopmpbkepjaaGreatDoor

/- What each source sample weighs: the document's calls for one sample. -/
namespace Go.Proofs.YtlknopmpbkepjaaGreatDoor
open Go.RowKit

def fracP (n m i j : Int) : Int := 2 * m * j - (2 * i + 1) * n + m
def fracQ (n m : Int) : Int := if n < m then 2 * m else 2 * n
/-- Is a source sample in the window? -/
def inW (f n m i j : Int) : Bool := if f = 0 then decide (i * n < (j + 1) * m) && decide (j * m < (i + 1) * n) else decide (fracP n m i j < (if f = 2 then 3 * fracQ n m else 2 * fracQ n m)) && decide (-(if f = 2 then 3 * fracQ n m else 2 * fracQ n m) < fracP n m i j)
def weightR (f n m i j : Int) : Int := if f = 0 then divF ((min ((i + 1) * n) ((j + 1) * m) - max (i * n) (j * m)) * 1073741824) n else if f = 1 then keysF (fracP n m i j) (fracQ n m) else lanczosF (fracP n m i j) (fracQ n m)
theorem mul_abs_le {x y A B : Int} (h0 : -A ≤ x) (h1 : x ≤ A) (k0 : 0 ≤ y) (k1 : y ≤ B) (hA : 0 ≤ A) : -(A * B) ≤ x * y ∧ x * y ≤ A * B := by
  have a : x * y ≤ A * y := Int.mul_le_mul_of_nonneg_right h1 k0
  have b : (-A) * y ≤ x * y := Int.mul_le_mul_of_nonneg_right h0 k0
  have c : A * y ≤ A * B := Int.mul_le_mul_of_nonneg_left k1 hA
  rw [Int.neg_mul] at b
  omega
theorem side_bounds {n m i j : Int} (n0 : 1 ≤ n) (n1 : n ≤ 65536) (m0 : 1 ≤ m) (m1 : m ≤ 65536) (i0 : 0 ≤ i) (i1 : i < m) (j0 : -1048576 ≤ j) (j1 : j ≤ 1048576) :
    (0 ≤ i * n ∧ i * n ≤ 4294967296) ∧ (0 ≤ (i + 1) * n ∧ (i + 1) * n ≤ 4294967296) ∧ (-68719476736 ≤ j * m ∧ j * m ≤ 68719476736) ∧ (-68719542272 ≤ (j + 1) * m ∧ (j + 1) * m ≤ 68719542272) ∧ (-137438953472 ≤ 2 * m * j ∧ 2 * m * j ≤ 137438953472) ∧ (0 ≤ (2 * i + 1) * n ∧ (2 * i + 1) * n ≤ 8589934592) := by
  have a := mul_abs_le (x := i) (y := n) (A := 65536) (B := 65536) (by omega) (by omega) (by omega) n1 (by omega)
  have a0 : 0 ≤ i * n := Int.mul_nonneg i0 (by omega)
  have b := mul_abs_le (x := i + 1) (y := n) (A := 65536) (B := 65536) (by omega) (by omega) (by omega) n1 (by omega)
  have b0 : 0 ≤ (i + 1) * n := Int.mul_nonneg (by omega) (by omega)
  have c := mul_abs_le (x := j) (y := m) (A := 1048576) (B := 65536) j0 j1 (by omega) m1 (by omega)
  have d := mul_abs_le (x := j + 1) (y := m) (A := 1048577) (B := 65536) (by omega) (by omega) (by omega) m1 (by omega)
  have e := mul_abs_le (x := j) (y := 2 * m) (A := 1048576) (B := 131072) j0 j1 (by omega) (by omega) (by omega)
  rw [Int.mul_comm j (2 * m)] at e
  have g := mul_abs_le (x := 2 * i + 1) (y := n) (A := 131072) (B := 65536) (by omega) (by omega) (by omega) n1 (by omega)
  have g0 : 0 ≤ (2 * i + 1) * n := Int.mul_nonneg (by omega) (by omega)
  omega
end Go.Proofs.YtlknopmpbkepjaaGreatDoor
