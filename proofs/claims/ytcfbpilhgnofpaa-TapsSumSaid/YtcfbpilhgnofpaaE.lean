/- Quotients: the program's and the document's, each as plain arithmetic. -/
import Derived.Test.YtcfbpilhgnofpaaD
import Derived.Test.YtcfbpilhgnofpaaN
import Derived.IntWalk
namespace Go.Proofs.Ytcfbpilhgnofpaa
open Go.RowKit

/-! ### The document's -/
theorem refsize_to (a x : Int) (hx : absI a = x) (h0 : -9223372036854775808 ≤ a) (h1 : a ≤ 9223372036854775807) (w : World) :
    Calls Try.prog 43 #[.int .i64 a] w fun e w' => e = .returned (.int .u64 x) ∧ w = w' := by
  subst hx
  exact refsize_any a h0 h1 w
theorem over_low (x d : Int) (h0 : 0 ≤ x) (h1 : x < 18446744073709551616) (d0 : 0 < d) (d1 : d < 18446744073709551616) (w : World) :
    Calls Try.prog 42 #[.agg #[.int .u64 0, .int .u64 x], .int .u64 d] w fun e w' =>
      e = .returned (.tuple #[.agg #[.int .u64 (hi (x / d)), .int .u64 (lo (x / d))], .int .u64 (x % d)]) ∧ Below w.heap.size w w' := by
  have h := over_any x d h0 (by omega) d0 d1 w
  rw [hi_small h0 h1, lo_small h0 h1] at h
  exact h
theorem reffloor_any (a b : Int) (h0 : -9223372036854775808 ≤ a) (h1 : a ≤ 9223372036854775807) (k0 : -9223372036854775808 ≤ b) (k1 : b ≤ 9223372036854775807) (w : World) :
    Calls Try.prog 28 #[.int .i64 a, .int .i64 b] w fun e w' => e = .returned (.int .i64 (floorF a b)) ∧ Below w.heap.size w w' := by
  by_cases hb : b = 0
  · subst hb
    go_enter Try.func28, Try.ntmps28
    go_wp2
    go_ret
    exact ⟨ret_i64 (by simp [floorF]), Below.refl _ _⟩
  rw [floorF_of hb]
  by_cases ha : a < 0
  · by_cases hn : b < 0
    · have ga : a < 0 := by omega
      have gb : b < 0 := by omega
      obtain ⟨x, hx⟩ : ∃ x, x = -a := ⟨_, rfl⟩
      have Cx := refsize_to a x ((absI_neg ga).trans hx.symm) (by omega) (by omega)
      obtain ⟨d, hd⟩ : ∃ d, d = -b := ⟨_, rfl⟩
      have Cd := refsize_to b d ((absI_neg gb).trans hd.symm) (by omega) (by omega)
      have bx : 0 ≤ x ∧ x ≤ 9223372036854775808 := by omega
      have bd : 0 < d ∧ d ≤ 9223372036854775808 := by omega
      have CO := over_low x d (by omega) (by omega) (by omega) (by omega)
      have Q0 := quo_le (x := x) (d := d) (by omega) (by omega)
      have R0 := rest_in (x := x) (d := d) (by omega)
      have e : floorQ a b = x / d := by unfold floorQ; rw [if_pos gb]; subst hx; subst hd; rfl
      rw [e]
      clear e hx hd hb
      obtain ⟨Q0, Q1⟩ := Q0
      obtain ⟨R0, R1⟩ := R0
      have Q2 : x / d ≤ 9223372036854775808 := by omega
      generalize x / d = Q at *
      generalize x % d = r at *
      have CH := hold_any Q false (by omega) (by omega)
      clear bx bd Q1
      have da : decide (a < 0) = true := decide_eq_true ga
      have db : decide (b < 0) = true := decide_eq_true gb
      go_enter Try.func28, Try.ntmps28
      go_wp2_with (first
        | (go_at_call 43; (with_reducible refine (Cx _).mono ?_); rintro e w' ⟨rfl, rfl⟩)
        | (go_at_call 43; (with_reducible refine (Cd _).mono ?_); rintro e w' ⟨rfl, rfl⟩)
        | (go_at_call 42; (with_reducible refine (CO _).mono ?_); rintro e w1 ⟨rfl, b1⟩; have z1 := b1.size)
        | (go_at_call 45; (with_reducible refine (CH _).mono ?_); rintro e w5 ⟨rfl, b5⟩))
      go_ret
      refine ⟨ret_i64 (by simp [signI]), ?_⟩
      repeat (first | exact Below.refl _ _ | with_reducible refine ba ?_ _ | with_reducible refine bs ?_ (by omega) _ | with_reducible refine bd ?_ | (with_reducible refine bt ?_ (by assumption)))
    · have ga : a < 0 := by omega
      have gb : 0 < b := by omega
      obtain ⟨x, hx⟩ : ∃ x, x = -a := ⟨_, rfl⟩
      have Cx := refsize_to a x ((absI_neg ga).trans hx.symm) (by omega) (by omega)
      obtain ⟨d, hd⟩ : ∃ d, d = b := ⟨_, rfl⟩
      have Cd := refsize_to b d ((absI_pos (Int.le_of_lt gb)).trans hd.symm) (by omega) (by omega)
      have bx : 0 ≤ x ∧ x ≤ 9223372036854775808 := by omega
      have bd : 0 < d ∧ d ≤ 9223372036854775808 := by omega
      have CO := over_low x d (by omega) (by omega) (by omega) (by omega)
      have Q0 := quo_le (x := x) (d := d) (by omega) (by omega)
      have R0 := rest_in (x := x) (d := d) (by omega)
      have e : floorQ a b = -(x / d + if 0 < x % d then 1 else 0) := by unfold floorQ; rw [if_neg (by omega)]; rw [← floor_below (by omega)]; subst hx; subst hd; rw [Int.neg_neg]
      rw [e]
      clear e hx hd hb
      obtain ⟨Q0, Q1⟩ := Q0
      obtain ⟨R0, R1⟩ := R0
      have Q2 : x / d ≤ 9223372036854775808 := by omega
      generalize x / d = Q at *
      generalize x % d = r at *
      by_cases hr : 0 < r
      · rw [if_pos hr]
        have CH := hold_any (Q + 1) true (by omega) (by omega)
        have CP := plus_one Q Q0 (by omega)
        clear bx bd Q1
        have da : decide (a < 0) = true := decide_eq_true ga
        have db : decide (b < 0) = false := decide_eq_false (by omega)
        go_enter Try.func28, Try.ntmps28
        go_wp2_with (first
          | (go_at_call 43; (with_reducible refine (Cx _).mono ?_); rintro e w' ⟨rfl, rfl⟩)
          | (go_at_call 43; (with_reducible refine (Cd _).mono ?_); rintro e w' ⟨rfl, rfl⟩)
          | (go_at_call 42; (with_reducible refine (CO _).mono ?_); rintro e w1 ⟨rfl, b1⟩; have z1 := b1.size)
          | (go_at_call 44; (with_reducible refine (CP _).mono ?_); rintro e w2 ⟨rfl, b2⟩; have z2 : w1.heap.size + 1 ≤ w2.heap.size := (by simpa using b2.size); have q20 : w2.cell? ⟨w1.heap.size, 0, none⟩ = some (.int .u64 (hi Q)) := cb b2 (by simp) (by simp); have q21 : w2.cell? ⟨w1.heap.size, 1, none⟩ = some (.int .u64 (lo Q)) := cb b2 (by simp) (by simp); have g20 : w2.frozen? ⟨w1.heap.size, 0, none⟩ = false := fb b2 (by simp) (by simp); have g21 : w2.frozen? ⟨w1.heap.size, 1, none⟩ = false := fb b2 (by simp) (by simp))
          | (go_at_call 45; (with_reducible refine (CH _).mono ?_); rintro e w5 ⟨rfl, b5⟩))
        go_ret
        refine ⟨ret_i64 rfl, ?_⟩
        repeat (first | exact Below.refl _ _ | with_reducible refine ba ?_ _ | with_reducible refine bs ?_ (by omega) _ | with_reducible refine bd ?_ | (with_reducible refine bt ?_ (by assumption)))
      · rw [if_neg hr]
        have CH := hold_any Q true (by omega) (by omega)
        clear bx bd Q1
        have da : decide (a < 0) = true := decide_eq_true ga
        have db : decide (b < 0) = false := decide_eq_false (by omega)
        go_enter Try.func28, Try.ntmps28
        go_wp2_with (first
          | (go_at_call 43; (with_reducible refine (Cx _).mono ?_); rintro e w' ⟨rfl, rfl⟩)
          | (go_at_call 43; (with_reducible refine (Cd _).mono ?_); rintro e w' ⟨rfl, rfl⟩)
          | (go_at_call 42; (with_reducible refine (CO _).mono ?_); rintro e w1 ⟨rfl, b1⟩; have z1 := b1.size)
          | (go_at_call 45; (with_reducible refine (CH _).mono ?_); rintro e w5 ⟨rfl, b5⟩))
        go_ret
        refine ⟨ret_i64 (by simp [signI]), ?_⟩
        repeat (first | exact Below.refl _ _ | with_reducible refine ba ?_ _ | with_reducible refine bs ?_ (by omega) _ | with_reducible refine bd ?_ | (with_reducible refine bt ?_ (by assumption)))
  · by_cases hn : b < 0
    · have ga : 0 ≤ a := by omega
      have gb : b < 0 := by omega
      obtain ⟨x, hx⟩ : ∃ x, x = a := ⟨_, rfl⟩
      have Cx := refsize_to a x ((absI_pos ga).trans hx.symm) (by omega) (by omega)
      obtain ⟨d, hd⟩ : ∃ d, d = -b := ⟨_, rfl⟩
      have Cd := refsize_to b d ((absI_neg gb).trans hd.symm) (by omega) (by omega)
      have bx : 0 ≤ x ∧ x ≤ 9223372036854775808 := by omega
      have bd : 0 < d ∧ d ≤ 9223372036854775808 := by omega
      have CO := over_low x d (by omega) (by omega) (by omega) (by omega)
      have Q0 := quo_le (x := x) (d := d) (by omega) (by omega)
      have R0 := rest_in (x := x) (d := d) (by omega)
      have e : floorQ a b = -(x / d + if 0 < x % d then 1 else 0) := by unfold floorQ; rw [if_pos gb]; rw [← floor_below (by omega)]; subst hx; subst hd; rfl
      rw [e]
      clear e hx hd hb
      obtain ⟨Q0, Q1⟩ := Q0
      obtain ⟨R0, R1⟩ := R0
      have Q2 : x / d ≤ 9223372036854775808 := by omega
      generalize x / d = Q at *
      generalize x % d = r at *
      by_cases hr : 0 < r
      · rw [if_pos hr]
        have CH := hold_any (Q + 1) true (by omega) (by omega)
        have CP := plus_one Q Q0 (by omega)
        clear bx bd Q1
        have da : decide (a < 0) = false := decide_eq_false (by omega)
        have db : decide (b < 0) = true := decide_eq_true gb
        go_enter Try.func28, Try.ntmps28
        go_wp2_with (first
          | (go_at_call 43; (with_reducible refine (Cx _).mono ?_); rintro e w' ⟨rfl, rfl⟩)
          | (go_at_call 43; (with_reducible refine (Cd _).mono ?_); rintro e w' ⟨rfl, rfl⟩)
          | (go_at_call 42; (with_reducible refine (CO _).mono ?_); rintro e w1 ⟨rfl, b1⟩; have z1 := b1.size)
          | (go_at_call 44; (with_reducible refine (CP _).mono ?_); rintro e w2 ⟨rfl, b2⟩; have z2 : w1.heap.size + 1 ≤ w2.heap.size := (by simpa using b2.size); have q20 : w2.cell? ⟨w1.heap.size, 0, none⟩ = some (.int .u64 (hi Q)) := cb b2 (by simp) (by simp); have q21 : w2.cell? ⟨w1.heap.size, 1, none⟩ = some (.int .u64 (lo Q)) := cb b2 (by simp) (by simp); have g20 : w2.frozen? ⟨w1.heap.size, 0, none⟩ = false := fb b2 (by simp) (by simp); have g21 : w2.frozen? ⟨w1.heap.size, 1, none⟩ = false := fb b2 (by simp) (by simp))
          | (go_at_call 45; (with_reducible refine (CH _).mono ?_); rintro e w5 ⟨rfl, b5⟩))
        go_ret
        refine ⟨ret_i64 rfl, ?_⟩
        repeat (first | exact Below.refl _ _ | with_reducible refine ba ?_ _ | with_reducible refine bs ?_ (by omega) _ | with_reducible refine bd ?_ | (with_reducible refine bt ?_ (by assumption)))
      · rw [if_neg hr]
        have CH := hold_any Q true (by omega) (by omega)
        clear bx bd Q1
        have da : decide (a < 0) = false := decide_eq_false (by omega)
        have db : decide (b < 0) = true := decide_eq_true gb
        go_enter Try.func28, Try.ntmps28
        go_wp2_with (first
          | (go_at_call 43; (with_reducible refine (Cx _).mono ?_); rintro e w' ⟨rfl, rfl⟩)
          | (go_at_call 43; (with_reducible refine (Cd _).mono ?_); rintro e w' ⟨rfl, rfl⟩)
          | (go_at_call 42; (with_reducible refine (CO _).mono ?_); rintro e w1 ⟨rfl, b1⟩; have z1 := b1.size)
          | (go_at_call 45; (with_reducible refine (CH _).mono ?_); rintro e w5 ⟨rfl, b5⟩))
        go_ret
        refine ⟨ret_i64 (by simp [signI]), ?_⟩
        repeat (first | exact Below.refl _ _ | with_reducible refine ba ?_ _ | with_reducible refine bs ?_ (by omega) _ | with_reducible refine bd ?_ | (with_reducible refine bt ?_ (by assumption)))
    · have ga : 0 ≤ a := by omega
      have gb : 0 < b := by omega
      obtain ⟨x, hx⟩ : ∃ x, x = a := ⟨_, rfl⟩
      have Cx := refsize_to a x ((absI_pos ga).trans hx.symm) (by omega) (by omega)
      obtain ⟨d, hd⟩ : ∃ d, d = b := ⟨_, rfl⟩
      have Cd := refsize_to b d ((absI_pos (Int.le_of_lt gb)).trans hd.symm) (by omega) (by omega)
      have bx : 0 ≤ x ∧ x ≤ 9223372036854775808 := by omega
      have bd : 0 < d ∧ d ≤ 9223372036854775808 := by omega
      have CO := over_low x d (by omega) (by omega) (by omega) (by omega)
      have Q0 := quo_le (x := x) (d := d) (by omega) (by omega)
      have R0 := rest_in (x := x) (d := d) (by omega)
      have e : floorQ a b = x / d := by unfold floorQ; rw [if_neg (by omega)]; subst hx; subst hd; rfl
      rw [e]
      clear e hx hd hb
      obtain ⟨Q0, Q1⟩ := Q0
      obtain ⟨R0, R1⟩ := R0
      have Q2 : x / d ≤ 9223372036854775808 := by omega
      generalize x / d = Q at *
      generalize x % d = r at *
      have CH := hold_any Q false (by omega) (by omega)
      clear bx bd Q1
      have da : decide (a < 0) = false := decide_eq_false (by omega)
      have db : decide (b < 0) = false := decide_eq_false (by omega)
      go_enter Try.func28, Try.ntmps28
      go_wp2_with (first
        | (go_at_call 43; (with_reducible refine (Cx _).mono ?_); rintro e w' ⟨rfl, rfl⟩)
        | (go_at_call 43; (with_reducible refine (Cd _).mono ?_); rintro e w' ⟨rfl, rfl⟩)
        | (go_at_call 42; (with_reducible refine (CO _).mono ?_); rintro e w1 ⟨rfl, b1⟩; have z1 := b1.size)
        | (go_at_call 45; (with_reducible refine (CH _).mono ?_); rintro e w5 ⟨rfl, b5⟩))
      go_ret
      refine ⟨ret_i64 (by simp [signI]), ?_⟩
      repeat (first | exact Below.refl _ _ | with_reducible refine ba ?_ _ | with_reducible refine bs ?_ (by omega) _ | with_reducible refine bd ?_ | (with_reducible refine bt ?_ (by assumption)))
end Go.Proofs.Ytcfbpilhgnofpaa
