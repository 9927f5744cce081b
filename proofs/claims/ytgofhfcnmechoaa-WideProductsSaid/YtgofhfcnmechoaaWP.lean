/- The law on the signs of long products and quotients. -/
import Derived.Test.YtgofhfcnmechoaaWE
import Derived.Test.YtgofhfcnmechoaaWG
namespace Go.Proofs.Ytgofhfcnmechoaa
open Go.RowKit

/-- A product divided, for every divisor. -/
theorem muldiv_full (a b d : Int) (h0 : -9223372036854775808 ≤ a) (h1 : a ≤ 9223372036854775807) (k0 : -9223372036854775808 ≤ b) (k1 : b ≤ 9223372036854775807) (d0 : -9223372036854775808 ≤ d) (d1 : d ≤ 9223372036854775807) (w : World) :
    Calls Try.prog 14 #[.int .i64 a, .int .i64 b, .int .i64 d] w fun e w' => e = .returned (.int .i64 (divF (a * b) d)) ∧ Below w.heap.size w w' := by
  refine muldiv_any a b d h0 h1 k0 k1 d0 d1 (fun hz => ?_) w
  have hp : 0 < absI d := by unfold absI; split <;> omega
  have hq : absI d ≤ 9223372036854775808 := absI1 d0 (by omega)
  have r := rest_in (x := hi (absI (a * b))) hp
  by_cases h : hi (absI (a * b)) % absI d = 0
  · rw [h]
    exact div64_zero _ _ (lo0 _) (lo1 _) hp (by omega)
  · exact div64_full _ _ _ (by omega) r.2 (lo0 _) (lo1 _) (by omega)
theorem muldiv_to (a b d v : Int) (hv : divF (a * b) d = v) (h0 : -9223372036854775808 ≤ a) (h1 : a ≤ 9223372036854775807) (k0 : -9223372036854775808 ≤ b) (k1 : b ≤ 9223372036854775807) (d0 : -9223372036854775808 ≤ d) (d1 : d ≤ 9223372036854775807) (w : World) :
    Calls Try.prog 14 #[.int .i64 a, .int .i64 b, .int .i64 d] w fun e w' => e = .returned (.int .i64 v) ∧ Below w.heap.size w w' := by
  subst hv
  exact muldiv_full a b d h0 h1 k0 k1 d0 d1 w

theorem divF_turn (X d : Int) : divF (-X) (-d) = divF X d := by
  by_cases hd : d = 0
  · subst hd; rfl
  rw [divF_of hd, divF_of (by omega)]
  congr 1
  unfold nearQ
  by_cases h : d < 0
  · rw [if_pos h, if_neg (by omega)]
  · rw [if_neg h, if_pos (by omega), Int.neg_neg, Int.neg_neg]
theorem near_turn {X d : Int} (hd : d ≠ 0) : nearQ (-X) d = -nearQ X d ∨ nearQ (-X) d = -nearQ X d + 1 := by
  have key : ∀ x b : Int, 0 < b → (2 * (-x) + b) / (2 * b) = -((2 * x + b) / (2 * b)) ∨ (2 * (-x) + b) / (2 * b) = -((2 * x + b) / (2 * b)) + 1 := by
    intro x b hb
    rw [near_up (a := x) hb, near_below (a := x) hb]
    split <;> split <;> omega
  unfold nearQ
  by_cases h : d < 0
  · rw [if_pos h, if_pos h]
    have := key (-X) (-d) (by omega)
    exact this
  · rw [if_neg h, if_neg h]
    exact key X d (by omega)
/-- How a quotient and that of the turned number stand to each other. -/
theorem div_turn (X d : Int) : let x := divF X d; let y := divF (-X) d
    (-9223372036854775808 < y ∧ x = -y) ∨ (-9223372036854775808 < y ∧ x = -y + 1) ∨ (x = 9223372036854775807 ∧ y = -9223372036854775808) ∨ (x = -9223372036854775808 ∧ y = 9223372036854775807) := by
  intro x y
  by_cases hd : d = 0
  · left
    have hx : x = 0 := by show divF X d = 0; rw [hd]; rfl
    have hy : y = 0 := by show divF (-X) d = 0; rw [hd]; rfl
    omega
  have hx : x = holdI (nearQ X d) := divF_of hd
  have hy : y = holdI (nearQ (-X) d) := divF_of hd
  have t := near_turn (X := X) hd
  rw [hx, hy]
  generalize nearQ X d = V at *
  generalize nearQ (-X) d = V' at *
  unfold holdI
  split <;> split <;> (try split) <;> (try split) <;> omega

set_option maxRecDepth 100000 in
set_option maxHeartbeats 4000000 in
theorem law_WideTurns (a b d : Int) (ha : -9223372036854775808 ≤ a ∧ a ≤ 9223372036854775807) (hb : -9223372036854775808 ≤ b ∧ b ≤ 9223372036854775807) (hd : -9223372036854775808 ≤ d ∧ d ≤ 9223372036854775807) (w : World) :
    Calls Try.prog 6 #[.int .i64 a, .int .i64 b, .int .i64 d] w fun e w' => e = .returned (.bool true) ∧ Below w.heap.size w w' := by
  obtain ⟨h0, h1⟩ := ha
  obtain ⟨k0, k1⟩ := hb
  obtain ⟨d0, d1⟩ := hd
  by_cases am : a = -9223372036854775808
  · subst am
    clear h0 h1
    go_enter Try.func6, Try.ntmps6
    go_wp2_with (first
      | (go_at_call 8; (with_reducible refine (wlives _).mono ?_); rintro e w1 ⟨rfl, b1⟩)
      | (go_at_call 8; (with_reducible refine (wlives _).mono ?_); rintro e w2 ⟨rfl, b2⟩))
    go_ret
    refine ⟨rfl, ?_⟩
    repeat (first | exact Below.refl _ _ | with_reducible refine ba ?_ _ | with_reducible refine bs ?_ (by omega) _ | with_reducible refine bd ?_ | (with_reducible refine bt ?_ (by assumption)))
  by_cases dm : d = -9223372036854775808
  · subst dm
    have e1 : (a == -9223372036854775808) = false := beq_eq_false_iff_ne.2 am
    clear am d0 d1
    go_enter Try.func6, Try.ntmps6
    go_wp2_with (first
      | (go_at_call 8; (with_reducible refine (wlives _).mono ?_); rintro e w1 ⟨rfl, b1⟩))
    go_ret
    refine ⟨rfl, ?_⟩
    repeat (first | exact Below.refl _ _ | with_reducible refine ba ?_ _ | with_reducible refine bs ?_ (by omega) _ | with_reducible refine bd ?_ | (with_reducible refine bt ?_ (by assumption)))
  have e1 : (a == -9223372036854775808) = false := beq_eq_false_iff_ne.2 am
  have e2 : (d == -9223372036854775808) = false := beq_eq_false_iff_ne.2 dm
  have a0 : -9223372036854775807 ≤ a := by omega
  have dd0 : -9223372036854775807 ≤ d := by omega
  clear am dm
  have C1 := product_any (-a) b (by omega) (by omega) k0 k1
  have C2 := product_any a b h0 h1 k0 k1
  obtain ⟨p0, p1⟩ := prod_in h0 h1 k0 k1
  have C3 := negative_any (a * b) (by omega) (by omega)
  rw [wrapL_in (by omega) (by omega)] at C3
  have C4 := product_any b a k0 k1 h0 h1
  have C5 := muldiv_full a b d h0 h1 k0 k1 d0 d1
  have C6 := muldiv_full b a d k0 k1 h0 h1 d0 d1
  have C7 := muldiv_to (-a) b (-d) (divF (a * b) d) (by rw [Int.neg_mul, divF_turn]) (by omega) (by omega) k0 k1 (by omega) (by omega)
  have C8 := muldiv_full (-a) b d (by omega) (by omega) k0 k1 d0 d1
  rw [Int.neg_mul] at C1 C8
  rw [Int.mul_comm b a] at C4 C6
  have T := div_turn (a * b) d
  have y1 : divF (-(a * b)) d ≤ 9223372036854775807 := by unfold divF; split; omega; exact holdI1 _
  have x1 : divF (a * b) d ≤ 9223372036854775807 := by unfold divF; split; omega; exact holdI1 _
  simp only at T
  generalize divF (a * b) d = x at *
  generalize divF (-(a * b)) d = y at *
  clear p0 p1
  generalize a * b = X at *
  have T := hide T
  go_enter Try.func6, Try.ntmps6
  go_upto_region 6 with (first
    | (go_at_call 8; (with_reducible refine (wlives _).mono ?_); rintro e w1 ⟨rfl, b1⟩)
    | (go_at_call 9; (with_reducible refine (C1 _).mono ?_); rintro e w2 ⟨rfl, b2⟩; have z2 := b1)
    | (go_at_call 9; (with_reducible refine (C2 _).mono ?_); rintro e w3 ⟨rfl, b3⟩; have z3 : Below w2.heap.size w2 w3 := b3)
    | (go_at_call 20; (with_reducible refine (C3 _).mono ?_); rintro e w4 ⟨rfl, b4⟩)
    | (go_at_call 9; (with_reducible refine (C2 _).mono ?_); rintro e w5 ⟨rfl, b5⟩; have z5 : Below w4.heap.size w4 w5 := b5)
    | (go_at_call 9; (with_reducible refine (C4 _).mono ?_); rintro e w6 ⟨rfl, b6⟩)
    | (go_at_call 14; (with_reducible refine (C5 _).mono ?_); rintro e w7 ⟨rfl, b7⟩; have z7 : Below w6.heap.size w6 w7 := b7)
    | (go_at_call 14; (with_reducible refine (C6 _).mono ?_); rintro e w8 ⟨rfl, b8⟩; have z8 : Below w7.heap.size w7 w8 := b8)
    | (go_at_call 14; (with_reducible refine (C7 _).mono ?_); rintro e w9 ⟨rfl, b9⟩; have z9 : Below w8.heap.size w8 w9 := b9)
    | (go_at_call 14; (with_reducible refine (C5 _).mono ?_); rintro e w10 ⟨rfl, b10⟩; have z10 : Below w9.heap.size w9 w10 := b10)
    | (go_at_call 14; (with_reducible refine (C5 _).mono ?_); rintro e w11 ⟨rfl, b11⟩; have z11 : Below w10.heap.size w10 w11 := b11)
    | (go_at_call 14; (with_reducible refine (C8 _).mono ?_); rintro e w12 ⟨rfl, b12⟩))
  clear C1 C2 C3 C4 C5 C6 C7 C8
  have BB : Below w.heap.size w w12 := bt (bt (bt (bt (bt (bt (bt (bt (bt (bt (bt b1 b2) b3) b4) b5) b6) b7) b8) b9) b10) b11) b12
  rcases T.out with ⟨y0, hx⟩ | ⟨y0, hx⟩ | ⟨hx, hy⟩ | ⟨hx, hy⟩
  · have f1 : (x == -y) = true := beq_iff_eq.2 hx
    clear hx
    go_wp2
    go_ret
    exact ⟨rfl, BB⟩
  · have f1 : (x == -y) = false := beq_eq_false_iff_ne.2 (by omega)
    have f2 : (x == -y + 1) = true := beq_iff_eq.2 hx
    have y2 : -9223372036854775806 ≤ y := by omega
    clear hx
    go_wp2
    go_ret
    exact ⟨rfl, BB⟩
  · subst hx; subst hy
    have hw1 : wrap64 9223372036854775808 = -9223372036854775808 := by unfold wrap64; omega
    have hw2 : wrap64 (-9223372036854775808 + 1) = -9223372036854775807 := by unfold wrap64; omega
    have hw3 : wrap64 (-9223372036854775807) = -9223372036854775807 := by unfold wrap64; omega
    go_wp2
    go_ret
    exact ⟨rfl, BB⟩
  · subst hx; subst hy
    go_wp2
    go_ret
    exact ⟨rfl, BB⟩
end Go.Proofs.Ytgofhfcnmechoaa
