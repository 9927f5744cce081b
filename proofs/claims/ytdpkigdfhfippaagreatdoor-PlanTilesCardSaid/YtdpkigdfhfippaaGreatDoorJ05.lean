/- Parts, joined. -/
import Derived.Test.YtdpkigdfhfippaaGreatDoorJ01
import Derived.Test.YtdpkigdfhfippaaGreatDoorJ04
import Derived.Test.YtdpkigdfhfippaaGreatDoorJ03
import Derived.IntWalk
import Derived.Shelf.Bits.Mul64
/- The exponential function, in integers: plain arithmetic. -/
namespace Go.Proofs.YtdpkigdfhfippaaGreatDoor
open Go.RowKit


/-- The terms, and their sum, with signs in turn. -/
def termE (r : Int) : Nat → Int
  | 0 => 1099511627776
  | n + 1 => divF (termE r n * r) (((n : Int) + 1) * 1099511627776)
def sumE (r : Int) : Nat → Int
  | 0 => 1099511627776
  | n + 1 => if n % 2 = 0 then sumE r n - termE r (n + 1) else sumE r n + termE r (n + 1)
def posI (t : Int) : Int := max t 0
def expoF (t : Int) : Int := shiftF (sumE (posI t % 762123384786) 16) (posI t / 762123384786)
def ratioF (d s : Int) : Int := if s < 1 ∨ 4194304 < s ∨ d < -16384 ∨ 16384 < d then 9223372036854775807 else divF (d * d * 2147483648 * 1099511627776) (s * s)
def gaussF (d s : Int) : Int := shiftF (expoF (ratioF d s)) 10
theorem near_in {X d m : Int} (hd : 0 < d) (h0 : 0 ≤ X) (h1 : X ≤ m * d) : 0 ≤ nearQ X d ∧ nearQ X d ≤ m := by
  unfold nearQ
  rw [if_neg (by omega)]
  refine ⟨Int.ediv_nonneg (by omega) (by omega), ?_⟩
  have h : (2 * X + d) / (2 * d) < m + 1 := by
    apply Int.ediv_lt_of_lt_mul (by omega)
    have e : (m + 1) * (2 * d) = 2 * (m * d) + 2 * d := by rw [Int.add_mul, Int.mul_left_comm]; omega
    rw [e]; omega
  omega
theorem termE_in {r : Int} (h0 : 0 ≤ r) (h1 : r ≤ 1099511627776) (n : Nat) : 0 ≤ termE r n ∧ termE r n ≤ 1099511627776 := by
  induction n with
  | zero => simp [termE]
  | succ n ih =>
    obtain ⟨a0, a1⟩ := ih
    have p0 : 0 ≤ termE r n * r := Int.mul_nonneg a0 h0
    have p1 : termE r n * r ≤ 1099511627776 * 1099511627776 := Int.mul_le_mul a1 h1 h0 (by omega)
    have p2 : (1099511627776 : Int) * 1099511627776 ≤ 1099511627776 * (((n : Int) + 1) * 1099511627776) := by omega
    have q := near_in (X := termE r n * r) (d := ((n : Int) + 1) * 1099511627776) (m := 1099511627776) (by omega) p0 (by omega)
    show 0 ≤ divF _ _ ∧ divF _ _ ≤ _
    rw [divF_of (by omega), holdI_in (by omega) (by omega)]
    exact q
theorem sumE_in {r : Int} (h0 : 0 ≤ r) (h1 : r ≤ 1099511627776) (n : Nat) : -(((n : Int) + 1) * 1099511627776) ≤ sumE r n ∧ sumE r n ≤ ((n : Int) + 1) * 1099511627776 := by
  induction n with
  | zero => simp [sumE]
  | succ n ih =>
    have t := termE_in h0 h1 (n + 1)
    unfold sumE
    split <;> omega
theorem posI0 (t : Int) : 0 ≤ posI t := by unfold posI; omega
theorem posI1 {t : Int} (h : t ≤ 9223372036854775807) : posI t ≤ 9223372036854775807 := by unfold posI; omega
theorem shiftF_in {x n : Int} (h0 : -9223372036854775808 ≤ x) (h1 : x ≤ 9223372036854775807) : -9223372036854775808 ≤ shiftF x n ∧ shiftF x n ≤ 9223372036854775807 := by
  unfold shiftF
  split
  · exact ⟨h0, h1⟩
  · split
    · omega
    · exact shift_in _ h0 h1
theorem sum16_in {r : Int} (h0 : 0 ≤ r) (h1 : r < 762123384786) : -18691697672192 ≤ sumE r 16 ∧ sumE r 16 ≤ 18691697672192 := by
  have := sumE_in h0 (by omega : r ≤ 1099511627776) 16
  omega
theorem exp_parts {t : Int} (h0 : 0 ≤ t) (h1 : t ≤ 9223372036854775807) : 0 ≤ t % 762123384786 ∧ t % 762123384786 < 762123384786 ∧ 0 ≤ t / 762123384786 ∧ t / 762123384786 ≤ 12102203 := by omega
theorem expoF_in {t : Int} (h1 : t ≤ 9223372036854775807) : -9223372036854775808 ≤ expoF t ∧ expoF t ≤ 9223372036854775807 := by
  have p := exp_parts (posI0 t) (posI1 h1)
  have s := sum16_in p.1 p.2.1
  exact shiftF_in (by omega) (by omega)
theorem divF_in (a b : Int) : -9223372036854775808 ≤ divF a b ∧ divF a b ≤ 9223372036854775807 := by
  unfold divF
  split
  · omega
  · exact ⟨holdI0 _, holdI1 _⟩
theorem ratioF_in (d s : Int) : -9223372036854775808 ≤ ratioF d s ∧ ratioF d s ≤ 9223372036854775807 := by
  unfold ratioF
  split
  · omega
  · exact divF_in _ _
theorem abs_sq (s : Int) : s * s = absI s * absI s := by
  unfold absI
  split
  · rw [Int.neg_mul_neg]
  · rfl
theorem sq_in {s : Int} (h0 : -16777216 ≤ s) (h1 : s ≤ 16777216) : 0 ≤ s * s ∧ s * s ≤ 281474976710656 := by
  have a := abs_sq s
  have b0 : 0 ≤ absI s := absI0 s
  have b1 : absI s ≤ 16777216 := by unfold absI; split <;> omega
  rw [a]
  exact ⟨Int.mul_nonneg b0 b0, Int.mul_le_mul b1 b1 b0 (by omega)⟩
theorem ratioF_pos (d s : Int) : 0 ≤ ratioF d s := by
  unfold ratioF
  split
  · omega
  · rename_i h
    have a := sq_in (s := d) (by omega) (by omega)
    have b := sq_in (s := s) (by omega) (by omega)
    generalize d * d = D at *
    generalize s * s = S at *
    unfold divF
    split
    · omega
    · have q := near_in (X := D * 2147483648 * 1099511627776) (d := S) (m := D * 2147483648 * 1099511627776) (by omega) (by omega) (by
        have : 1 * (D * 2147483648 * 1099511627776) ≤ S * (D * 2147483648 * 1099511627776) := Int.mul_le_mul_of_nonneg_right (by omega) (by omega)
        rw [Int.mul_comm S] at this; omega)
      unfold holdI
      split <;> (try split) <;> omega
end Go.Proofs.YtdpkigdfhfippaaGreatDoor

/- Quotients: the program's and the document's, each as plain arithmetic. -/
namespace Go.Proofs.YtdpkigdfhfippaaGreatDoor
open Go.RowKit

/-! ### The document's -/
theorem refsize_to (a x : Int) (hx : absI a = x) (h0 : -9223372036854775808 ≤ a) (h1 : a ≤ 9223372036854775807) (w : World) :
    Calls Tryz.prog 84 #[.int .i64 a] w fun e w' => e = .returned (.int .u64 x) ∧ w = w' := by
  subst hx
  exact refsize_any a h0 h1 w
theorem over_low (x d : Int) (h0 : 0 ≤ x) (h1 : x < 18446744073709551616) (d0 : 0 < d) (d1 : d < 18446744073709551616) (w : World) :
    Calls Tryz.prog 102 #[.agg #[.int .u64 0, .int .u64 x], .int .u64 d] w fun e w' =>
      e = .returned (.tuple #[.agg #[.int .u64 (hi (x / d)), .int .u64 (lo (x / d))], .int .u64 (x % d)]) ∧ Below w.heap.size w w' := by
  have h := over_any x d h0 (by omega) d0 d1 w
  rw [hi_small h0 h1, lo_small h0 h1] at h
  exact h
theorem reffloor_any (a b : Int) (h0 : -9223372036854775808 ≤ a) (h1 : a ≤ 9223372036854775807) (k0 : -9223372036854775808 ≤ b) (k1 : b ≤ 9223372036854775807) (w : World) :
    Calls Tryz.prog 78 #[.int .i64 a, .int .i64 b] w fun e w' => e = .returned (.int .i64 (floorF a b)) ∧ Below w.heap.size w w' := by
  by_cases hb : b = 0
  · subst hb
    go_enter Tryz.func78, Tryz.ntmps78
    go_wp2
    go_ret
    exact ⟨ret_i64 (by simp [floorF]), Below.refl _ _⟩
  rw [floorF_of hb]
  by_cases ha : a < 0
  · by_cases hn : b < 0
    · have ga : a < 0 := by omega
      have gb : b < 0 := by omega
      obtain ⟨x, hx⟩ : ∃ x, x = -a := ⟨_, rfl⟩
      have Cx := refsize_to a x ((absI_neg ga).trans hx.symm) (by omega) (by omega)
      obtain ⟨d, hd⟩ : ∃ d, d = -b := ⟨_, rfl⟩
      have Cd := refsize_to b d ((absI_neg gb).trans hd.symm) (by omega) (by omega)
      have bx : 0 ≤ x ∧ x ≤ 9223372036854775808 := by omega
      have bd : 0 < d ∧ d ≤ 9223372036854775808 := by omega
      have CO := over_low x d (by omega) (by omega) (by omega) (by omega)
      have Q0 := quo_le (x := x) (d := d) (by omega) (by omega)
      have R0 := rest_in (x := x) (d := d) (by omega)
      have e : floorQ a b = x / d := by unfold floorQ; rw [if_pos gb]; subst hx; subst hd; rfl
      rw [e]
      clear e hx hd hb
      obtain ⟨Q0, Q1⟩ := Q0
      obtain ⟨R0, R1⟩ := R0
      have Q2 : x / d ≤ 9223372036854775808 := by omega
      generalize x / d = Q at *
      generalize x % d = r at *
      have CH := hold_any Q false (by omega) (by omega)
      clear bx bd Q1
      have da : decide (a < 0) = true := decide_eq_true ga
      have db : decide (b < 0) = true := decide_eq_true gb
      go_enter Tryz.func78, Tryz.ntmps78
      go_wp2_with (first
        | (go_at_call 84; (with_reducible refine (Cx _).mono ?_); rintro e w' ⟨rfl, rfl⟩)
        | (go_at_call 84; (with_reducible refine (Cd _).mono ?_); rintro e w' ⟨rfl, rfl⟩)
        | (go_at_call 102; (with_reducible refine (CO _).mono ?_); rintro e w1 ⟨rfl, b1⟩; have z1 := b1.size)
        | (go_at_call 104; (with_reducible refine (CH _).mono ?_); rintro e w5 ⟨rfl, b5⟩))
      go_ret
      refine ⟨ret_i64 (by simp [signI]), ?_⟩
      repeat (first | exact Below.refl _ _ | with_reducible refine ba ?_ _ | with_reducible refine bs ?_ (by omega) _ | with_reducible refine bd ?_ | (with_reducible refine bt ?_ (by assumption)))
    · have ga : a < 0 := by omega
      have gb : 0 < b := by omega
      obtain ⟨x, hx⟩ : ∃ x, x = -a := ⟨_, rfl⟩
      have Cx := refsize_to a x ((absI_neg ga).trans hx.symm) (by omega) (by omega)
      obtain ⟨d, hd⟩ : ∃ d, d = b := ⟨_, rfl⟩
      have Cd := refsize_to b d ((absI_pos (Int.le_of_lt gb)).trans hd.symm) (by omega) (by omega)
      have bx : 0 ≤ x ∧ x ≤ 9223372036854775808 := by omega
      have bd : 0 < d ∧ d ≤ 9223372036854775808 := by omega
      have CO := over_low x d (by omega) (by omega) (by omega) (by omega)
      have Q0 := quo_le (x := x) (d := d) (by omega) (by omega)
      have R0 := rest_in (x := x) (d := d) (by omega)
      have e : floorQ a b = -(x / d + if 0 < x % d then 1 else 0) := by unfold floorQ; rw [if_neg (by omega)]; rw [← floor_below (by omega)]; subst hx; subst hd; rw [Int.neg_neg]
      rw [e]
      clear e hx hd hb
      obtain ⟨Q0, Q1⟩ := Q0
      obtain ⟨R0, R1⟩ := R0
      have Q2 : x / d ≤ 9223372036854775808 := by omega
      generalize x / d = Q at *
      generalize x % d = r at *
      by_cases hr : 0 < r
      · rw [if_pos hr]
        have CH := hold_any (Q + 1) true (by omega) (by omega)
        have CP := plus_one Q Q0 (by omega)
        clear bx bd Q1
        have da : decide (a < 0) = true := decide_eq_true ga
        have db : decide (b < 0) = false := decide_eq_false (by omega)
        go_enter Tryz.func78, Tryz.ntmps78
        go_wp2_with (first
          | (go_at_call 84; (with_reducible refine (Cx _).mono ?_); rintro e w' ⟨rfl, rfl⟩)
          | (go_at_call 84; (with_reducible refine (Cd _).mono ?_); rintro e w' ⟨rfl, rfl⟩)
          | (go_at_call 102; (with_reducible refine (CO _).mono ?_); rintro e w1 ⟨rfl, b1⟩; have z1 := b1.size)
          | (go_at_call 103; (with_reducible refine (CP _).mono ?_); rintro e w2 ⟨rfl, b2⟩; have z2 : w1.heap.size + 1 ≤ w2.heap.size := (by simpa using b2.size); have q20 : w2.cell? ⟨w1.heap.size, 0, none⟩ = some (.int .u64 (hi Q)) := cb b2 (by simp) (by simp); have q21 : w2.cell? ⟨w1.heap.size, 1, none⟩ = some (.int .u64 (lo Q)) := cb b2 (by simp) (by simp); have g20 : w2.frozen? ⟨w1.heap.size, 0, none⟩ = false := fb b2 (by simp) (by simp); have g21 : w2.frozen? ⟨w1.heap.size, 1, none⟩ = false := fb b2 (by simp) (by simp))
          | (go_at_call 104; (with_reducible refine (CH _).mono ?_); rintro e w5 ⟨rfl, b5⟩))
        go_ret
        refine ⟨ret_i64 rfl, ?_⟩
        repeat (first | exact Below.refl _ _ | with_reducible refine ba ?_ _ | with_reducible refine bs ?_ (by omega) _ | with_reducible refine bd ?_ | (with_reducible refine bt ?_ (by assumption)))
      · rw [if_neg hr]
        have CH := hold_any Q true (by omega) (by omega)
        clear bx bd Q1
        have da : decide (a < 0) = true := decide_eq_true ga
        have db : decide (b < 0) = false := decide_eq_false (by omega)
        go_enter Tryz.func78, Tryz.ntmps78
        go_wp2_with (first
          | (go_at_call 84; (with_reducible refine (Cx _).mono ?_); rintro e w' ⟨rfl, rfl⟩)
          | (go_at_call 84; (with_reducible refine (Cd _).mono ?_); rintro e w' ⟨rfl, rfl⟩)
          | (go_at_call 102; (with_reducible refine (CO _).mono ?_); rintro e w1 ⟨rfl, b1⟩; have z1 := b1.size)
          | (go_at_call 104; (with_reducible refine (CH _).mono ?_); rintro e w5 ⟨rfl, b5⟩))
        go_ret
        refine ⟨ret_i64 (by simp [signI]), ?_⟩
        repeat (first | exact Below.refl _ _ | with_reducible refine ba ?_ _ | with_reducible refine bs ?_ (by omega) _ | with_reducible refine bd ?_ | (with_reducible refine bt ?_ (by assumption)))
  · by_cases hn : b < 0
    · have ga : 0 ≤ a := by omega
      have gb : b < 0 := by omega
      obtain ⟨x, hx⟩ : ∃ x, x = a := ⟨_, rfl⟩
      have Cx := refsize_to a x ((absI_pos ga).trans hx.symm) (by omega) (by omega)
      obtain ⟨d, hd⟩ : ∃ d, d = -b := ⟨_, rfl⟩
      have Cd := refsize_to b d ((absI_neg gb).trans hd.symm) (by omega) (by omega)
      have bx : 0 ≤ x ∧ x ≤ 9223372036854775808 := by omega
      have bd : 0 < d ∧ d ≤ 9223372036854775808 := by omega
      have CO := over_low x d (by omega) (by omega) (by omega) (by omega)
      have Q0 := quo_le (x := x) (d := d) (by omega) (by omega)
      have R0 := rest_in (x := x) (d := d) (by omega)
      have e : floorQ a b = -(x / d + if 0 < x % d then 1 else 0) := by unfold floorQ; rw [if_pos gb]; rw [← floor_below (by omega)]; subst hx; subst hd; rfl
      rw [e]
      clear e hx hd hb
      obtain ⟨Q0, Q1⟩ := Q0
      obtain ⟨R0, R1⟩ := R0
      have Q2 : x / d ≤ 9223372036854775808 := by omega
      generalize x / d = Q at *
      generalize x % d = r at *
      by_cases hr : 0 < r
      · rw [if_pos hr]
        have CH := hold_any (Q + 1) true (by omega) (by omega)
        have CP := plus_one Q Q0 (by omega)
        clear bx bd Q1
        have da : decide (a < 0) = false := decide_eq_false (by omega)
        have db : decide (b < 0) = true := decide_eq_true gb
        go_enter Tryz.func78, Tryz.ntmps78
        go_wp2_with (first
          | (go_at_call 84; (with_reducible refine (Cx _).mono ?_); rintro e w' ⟨rfl, rfl⟩)
          | (go_at_call 84; (with_reducible refine (Cd _).mono ?_); rintro e w' ⟨rfl, rfl⟩)
          | (go_at_call 102; (with_reducible refine (CO _).mono ?_); rintro e w1 ⟨rfl, b1⟩; have z1 := b1.size)
          | (go_at_call 103; (with_reducible refine (CP _).mono ?_); rintro e w2 ⟨rfl, b2⟩; have z2 : w1.heap.size + 1 ≤ w2.heap.size := (by simpa using b2.size); have q20 : w2.cell? ⟨w1.heap.size, 0, none⟩ = some (.int .u64 (hi Q)) := cb b2 (by simp) (by simp); have q21 : w2.cell? ⟨w1.heap.size, 1, none⟩ = some (.int .u64 (lo Q)) := cb b2 (by simp) (by simp); have g20 : w2.frozen? ⟨w1.heap.size, 0, none⟩ = false := fb b2 (by simp) (by simp); have g21 : w2.frozen? ⟨w1.heap.size, 1, none⟩ = false := fb b2 (by simp) (by simp))
          | (go_at_call 104; (with_reducible refine (CH _).mono ?_); rintro e w5 ⟨rfl, b5⟩))
        go_ret
        refine ⟨ret_i64 rfl, ?_⟩
        repeat (first | exact Below.refl _ _ | with_reducible refine ba ?_ _ | with_reducible refine bs ?_ (by omega) _ | with_reducible refine bd ?_ | (with_reducible refine bt ?_ (by assumption)))
      · rw [if_neg hr]
        have CH := hold_any Q true (by omega) (by omega)
        clear bx bd Q1
        have da : decide (a < 0) = false := decide_eq_false (by omega)
        have db : decide (b < 0) = true := decide_eq_true gb
        go_enter Tryz.func78, Tryz.ntmps78
        go_wp2_with (first
          | (go_at_call 84; (with_reducible refine (Cx _).mono ?_); rintro e w' ⟨rfl, rfl⟩)
          | (go_at_call 84; (with_reducible refine (Cd _).mono ?_); rintro e w' ⟨rfl, rfl⟩)
          | (go_at_call 102; (with_reducible refine (CO _).mono ?_); rintro e w1 ⟨rfl, b1⟩; have z1 := b1.size)
          | (go_at_call 104; (with_reducible refine (CH _).mono ?_); rintro e w5 ⟨rfl, b5⟩))
        go_ret
        refine ⟨ret_i64 (by simp [signI]), ?_⟩
        repeat (first | exact Below.refl _ _ | with_reducible refine ba ?_ _ | with_reducible refine bs ?_ (by omega) _ | with_reducible refine bd ?_ | (with_reducible refine bt ?_ (by assumption)))
    · have ga : 0 ≤ a := by omega
      have gb : 0 < b := by omega
      obtain ⟨x, hx⟩ : ∃ x, x = a := ⟨_, rfl⟩
      have Cx := refsize_to a x ((absI_pos ga).trans hx.symm) (by omega) (by omega)
      obtain ⟨d, hd⟩ : ∃ d, d = b := ⟨_, rfl⟩
      have Cd := refsize_to b d ((absI_pos (Int.le_of_lt gb)).trans hd.symm) (by omega) (by omega)
      have bx : 0 ≤ x ∧ x ≤ 9223372036854775808 := by omega
      have bd : 0 < d ∧ d ≤ 9223372036854775808 := by omega
      have CO := over_low x d (by omega) (by omega) (by omega) (by omega)
      have Q0 := quo_le (x := x) (d := d) (by omega) (by omega)
      have R0 := rest_in (x := x) (d := d) (by omega)
      have e : floorQ a b = x / d := by unfold floorQ; rw [if_neg (by omega)]; subst hx; subst hd; rfl
      rw [e]
      clear e hx hd hb
      obtain ⟨Q0, Q1⟩ := Q0
      obtain ⟨R0, R1⟩ := R0
      have Q2 : x / d ≤ 9223372036854775808 := by omega
      generalize x / d = Q at *
      generalize x % d = r at *
      have CH := hold_any Q false (by omega) (by omega)
      clear bx bd Q1
      have da : decide (a < 0) = false := decide_eq_false (by omega)
      have db : decide (b < 0) = false := decide_eq_false (by omega)
      go_enter Tryz.func78, Tryz.ntmps78
      go_wp2_with (first
        | (go_at_call 84; (with_reducible refine (Cx _).mono ?_); rintro e w' ⟨rfl, rfl⟩)
        | (go_at_call 84; (with_reducible refine (Cd _).mono ?_); rintro e w' ⟨rfl, rfl⟩)
        | (go_at_call 102; (with_reducible refine (CO _).mono ?_); rintro e w1 ⟨rfl, b1⟩; have z1 := b1.size)
        | (go_at_call 104; (with_reducible refine (CH _).mono ?_); rintro e w5 ⟨rfl, b5⟩))
      go_ret
      refine ⟨ret_i64 (by simp [signI]), ?_⟩
      repeat (first | exact Below.refl _ _ | with_reducible refine ba ?_ _ | with_reducible refine bs ?_ (by omega) _ | with_reducible refine bd ?_ | (with_reducible refine bt ?_ (by assumption)))
end Go.Proofs.YtdpkigdfhfippaaGreatDoor

/- Products: the program's, held, and the document's, of 128 bits. -/
namespace Go.Proofs.YtdpkigdfhfippaaGreatDoor
open Go.RowKit


/-! ### The library's long product, by the shelf's contract, laid here -/
def lays264r : Go.Shelf.Ren := ⟨fun | 264 => 142 | n => n, fun | 53 => 131 | 46 => 157 | n => n, fun | n => n⟩
theorem lays264 : Go.Proofs.Lays.n264 Tryz.prog lays264r := {
  mixed := by kernel_rfl
  f264 := Tryz.func142.trans (congrArg some (by kernel_rfl))
  t46 := Tryz.underlying157
  a46 := Tryz.isAgg157
  z46 := Tryz.sizeOf157
  v46 := Tryz.zeroValue157
  t53 := Tryz.underlying131
  a53 := Tryz.isAgg131
  z53 := Tryz.sizeOf131
  v53 := Tryz.zeroValue131 }
theorem mul64_any (x y : Nat) (hx : x < 18446744073709551616) (hy : y < 18446744073709551616) (w : World) :
    Calls Tryz.prog 142 #[.int .u64 x, .int .u64 y] w fun e w' => e = .returned (.tuple #[.int .u64 ((x * y / 18446744073709551616 : Nat) : Int), .int .u64 ((x * y % 18446744073709551616 : Nat) : Int)]) ∧ w = w' :=
  (Any.bits_Mul64 lays264 x y hx hy w).mono fun _ _ ⟨he, hw⟩ => ⟨he, hw.symm⟩
/-! ### The document's long product -/
/-- What lies in memory at a round's head: the product so far. -/
structure TimesSt (w wr : World) (X : Int) : Prop where
  x0 : wr.cell? ⟨w.heap.size + 1, 0, none⟩ = some (.int .u64 (hi X))
  x1 : wr.cell? ⟨w.heap.size + 1, 1, none⟩ = some (.int .u64 (lo X))
  o0 : ∃ v, wr.cell? ⟨w.heap.size, 0, none⟩ = some v
  o1 : ∃ v, wr.cell? ⟨w.heap.size, 1, none⟩ = some v
  f0 : wr.frozen? ⟨w.heap.size, 0, none⟩ = false
  f1 : wr.frozen? ⟨w.heap.size, 1, none⟩ = false
  f10 : wr.frozen? ⟨w.heap.size + 1, 0, none⟩ = false
  f11 : wr.frozen? ⟨w.heap.size + 1, 1, none⟩ = false
  hz : w.heap.size + 1 < wr.heap.size
  hb : Below w.heap.size w wr
theorem TimesSt.below {w wr w1 : World} {X : Int} (h : TimesSt w wr X) (hb : Below wr.heap.size wr w1) : TimesSt w w1 X := by
  have hz := h.hz
  have hs := hb.size
  obtain ⟨v0, o0⟩ := h.o0
  obtain ⟨v1, o1⟩ := h.o1
  exact ⟨cb hb (by omega) h.x0, cb hb (by omega) h.x1, ⟨v0, cb hb (by omega) o0⟩, ⟨v1, cb hb (by omega) o1⟩, fb hb (by omega) h.f0, fb hb (by omega) h.f1, fb hb (by omega) h.f10, fb hb (by omega) h.f11, by omega, h.hb.trans (hb.mono (by omega))⟩
theorem TimesSt.set {w wr : World} {X X' : Int} (h : TimesSt w wr X) :
    TimesSt w ((wr.setCell ⟨w.heap.size + 1, 0, none⟩ (.int .u64 (hi X'))).setCell ⟨w.heap.size + 1, 1, none⟩ (.int .u64 (lo X'))) X' := by
  obtain ⟨v0, o0⟩ := h.o0
  obtain ⟨v1, o1⟩ := h.o1
  exact ⟨cs (by omega) (cw h.x0), cw (cs (by omega) h.x1), ⟨v0, cs (by omega) (cs (by omega) o0)⟩, ⟨v1, cs (by omega) (cs (by omega) o1)⟩, by simp [h.f0], by simp [h.f1], by simp [h.f10], by simp [h.f11],
    by simpa [World.setCell] using h.hz, (h.hb.setCell (by show _ ≤ w.heap.size + 1; omega) _).setCell (by show _ ≤ w.heap.size + 1; omega) _⟩
theorem times_start (w : World) : TimesSt w ((w.alloc (.cells #[.int .u64 0, .int .u64 0] 133)).alloc (.cells #[.int .u64 0, .int .u64 0] 133)) 0 := by
  have e0 : hi 0 = 0 := rfl
  have e1 : lo 0 = 0 := rfl
  refine ⟨?_, ?_, ⟨.int .u64 0, ?_⟩, ⟨.int .u64 0, ?_⟩, ?_, ?_, ?_, ?_, ?_, below2 _ _ _⟩
  all_goals simp [go_sem, e0, e1]
theorem twice_zero (x : Int) (h0 : 0 ≤ x) (h1 : x < 170141183460469231731687303715884105728) (w : World) :
    Calls Tryz.prog 105 #[.agg #[.int .u64 (hi x), .int .u64 (lo x)], .int .u64 0] w fun e w' => e = .returned (.agg #[.int .u64 (hi (2 * x)), .int .u64 (lo (2 * x))]) ∧ Below w.heap.size w w' := by
  have h := twice_any x 0 h0 h1 (by omega) (by omega) w
  rw [Int.add_zero] at h
  exact h
theorem plus_low (x a : Int) (h0 : 0 ≤ x) (a0 : 0 ≤ a) (a1 : a < 18446744073709551616) (h1 : x + a < 340282366920938463463374607431768211456) (w : World) :
    Calls Tryz.prog 103 #[.agg #[.int .u64 (hi x), .int .u64 (lo x)], .agg #[.int .u64 0, .int .u64 a]] w fun e w' => e = .returned (.agg #[.int .u64 (hi (x + a)), .int .u64 (lo (x + a))]) ∧ Below w.heap.size w w' := by
  have h := plus_any x a h0 a0 h1 w
  rw [hi_small a0 a1, lo_small a0 a1] at h
  exact h
theorem times_step (a b : Int) (k : Nat) : a * (b / 2 ^ k) = 2 * (a * (b / 2 ^ (k + 1))) + a * bitI b k := by
  rw [half_pow b k, Int.mul_add, Int.mul_left_comm]
theorem times_lt {a b : Int} (k : Nat) (a0 : 0 ≤ a) (a1 : a < 18446744073709551616) (b0 : 0 ≤ b) (b1 : b < 18446744073709551616) : 0 ≤ a * (b / 2 ^ (k + 1)) ∧ a * (b / 2 ^ (k + 1)) ≤ 170141183460469231704017187605319778305 := by
  have q0 : 0 ≤ b / 2 ^ (k + 1) := Int.ediv_nonneg b0 (Int.le_of_lt (pow2_pos _))
  have q1 : b / 2 ^ (k + 1) ≤ 9223372036854775807 := by
    have e : b / 2 ^ (k + 1) = b / 2 / 2 ^ k := by
      have e2 : (2 : Int) ^ (k + 1) = 2 * 2 ^ k := by rw [Int.pow_succ, Int.mul_comm]
      rw [e2, Int.ediv_ediv_of_nonneg (by decide)]
    have := Int.ediv_le_self (a := b / 2) (2 ^ k) (by omega)
    omega
  refine ⟨Int.mul_nonneg a0 q0, ?_⟩
  have := Int.mul_le_mul (show a ≤ 18446744073709551615 by omega) q1 q0 (by omega)
  omega
set_option maxHeartbeats 1000000 in
theorem times_any (a b : Int) (a0 : 0 ≤ a) (a1 : a < 18446744073709551616) (b0 : 0 ≤ b) (b1 : b < 18446744073709551616) (w : World) :
    Calls Tryz.prog 83 #[.int .u64 a, .int .u64 b] w fun e w' => e = .returned (.agg #[.int .u64 (hi (a * b)), .int .u64 (lo (a * b))]) ∧ Below w.heap.size w w' := by
  go_enter Tryz.func83, Tryz.ntmps83
  go_wp2
  go_loopw [6] (fun i wr => ∃ j : Nat, j ≤ 64 ∧ i = .int .i64 ((j : Int) - 1) ∧ TimesSt w wr (a * (b / 2 ^ j))) (fun i _ => (intOf i + 1).toNat)
  case atStart =>
    refine ⟨64, by omega, rfl, ?_⟩
    rw [show b / 2 ^ 64 = 0 from Int.ediv_eq_zero_of_lt b0 (by simpa using b1), Int.mul_zero]
    exact times_start w
  case round =>
    obtain ⟨j, hj, rfl, hst⟩ := hrel
    by_cases hj0 : j = 0
    · subst hj0
      have ST := hide hst
      obtain ⟨x0, x1, ⟨v0, o0⟩, ⟨v1, o1⟩, f0, f1, f10, f11, hz, hb⟩ := hst
      clear hb
      go_wp2
      refine bodyPost_ret (v := .agg #[.int .u64 (hi (a * b)), .int .u64 (lo (a * b))]) (by simp [results, Tryz.results83, go_sem, o0, o1]) rfl ⟨rfl, ?_⟩
      exact (ST.out.hb.setCell (by show _ ≤ w.heap.size; omega) _).setCell (by show _ ≤ w.heap.size; omega) _
    · obtain ⟨k, rfl⟩ : ∃ k, j = k + 1 := ⟨j - 1, by omega⟩
      have es := times_step a b k
      have lt := times_lt k a0 a1 b0 b1
      have bb0 := bitI0 b k
      have bb1 := bitI1 b k
      have ek : ((k + 1 : Nat) : Int) - 1 = (k : Int) := by omega
      rw [ek]
      clear ek
      generalize a * (b / 2 ^ (k + 1)) = X at *
      have ES := hide es
      clear es
      have ST := hide hst
      obtain ⟨x0, x1, ⟨v0, o0⟩, ⟨v1, o1⟩, f0, f1, f10, f11, hz, hb⟩ := hst
      clear hb o0 o1 f0 f1
      have CT := twice_zero X lt.1 (by omega)
      have CP := plus_low (2 * X) a (by omega) a0 a1 (by omega)
      obtain ⟨lt0, lt1⟩ := lt
      have eb : bits .and .u64 (b / 2 ^ k) 1 = bitI b k := and_one _ (Int.ediv_nonneg b0 (Int.le_of_lt (pow2_pos _))) (div_pow_lt _ b0 b1)
      by_cases hbit : bitI b k = 1
      · have ht : (bits .and .u64 (b / 2 ^ k) 1 == 1) = true := by rw [eb, hbit]; rfl
        have EB := hide hbit
        clear eb hbit
        go_wp2_with (first
          | (go_at_call 105; (with_reducible refine (CT _).mono ?_); rintro e w3 ⟨rfl, hb3⟩; have q3 := cb hb3 (by omega) x0; have q4 := cb hb3 (by omega) x1; have t3 := fb hb3 (by omega) f10; have t4 := fb hb3 (by omega) f11;
              have T3 := hide (TimesSt.set (X' := 2 * X) (ST.out.below hb3)))
          | (go_at_call 103; (with_reducible refine (CP _).mono ?_); rintro e w4 ⟨rfl, hb4⟩;
              have T4 := hide (T3.out.below hb4); have y0 := T4.out.x0; have y1 := T4.out.x1; have y2 := T4.out.f10; have y3 := T4.out.f11))
        go_roundw
        case rel => exact ⟨k, by omega, rfl, by rw [ES.out, EB.out, Int.mul_one]; exact T4.out.set⟩
        case measure => simp [intOf]
      · have hb0 : bitI b k = 0 := by omega
        have ht : (bits .and .u64 (b / 2 ^ k) 1 == 1) = false := by rw [eb, hb0]; rfl
        have EB := hide hb0
        clear eb hbit hb0
        go_wp2_with (first
          | (go_at_call 105; (with_reducible refine (CT _).mono ?_); rintro e w3 ⟨rfl, hb3⟩; have q3 := cb hb3 (by omega) x0; have q4 := cb hb3 (by omega) x1; have t3 := fb hb3 (by omega) f10; have t4 := fb hb3 (by omega) f11))
        go_roundw
        case rel => exact ⟨k, by omega, rfl, by rw [ES.out, EB.out, Int.mul_zero, Int.add_zero]; exact (ST.out.below hb3).set⟩
        case measure => simp [intOf]
end Go.Proofs.YtdpkigdfhfippaaGreatDoor
