/- The chapter's examples, and the laws on small numbers, on numbers held, and on sums. -/
import Derived.Test.YtgofhfcnmechoaaWC
import Derived.Test.YtgofhfcnmechoaaWD
import Derived.Test.YtgofhfcnmechoaaR
namespace Go.Proofs.Ytgofhfcnmechoaa
open Go.RowKit

theorem wlives (w : World) : Calls Try.prog 8 #[] w fun e w' => e = .returned (.bool true) ∧ Below w.heap.size w w' := by
  have CP := product_any (-1) 1 (by omega) (by omega) (by omega) (by omega)
  have CD := muldiv_any 7 3 (-2) (by omega) (by omega) (by omega) (by omega) (by omega) (by omega) (fun _ => by
    rw [show hi (absI (7 * 3)) % absI (-2) = 0 by decide, show lo (absI (7 * 3)) = 21 by decide, show absI (-2) = 2 by decide]
    exact div64_zero 21 2 (by omega) (by omega) (by omega) (by omega))
  have CS := mulshift_any 3 1 1 (by omega) (by omega) (by omega) (by omega)
  rw [show hi (-1 * 1) = -1 by decide, show lo (-1 * 1) = 18446744073709551615 by decide] at CP
  rw [show divF (7 * 3) (-2) = -10 by decide] at CD
  rw [show mulShiftF 3 1 1 = 2 by decide] at CS
  go_enter Try.func8, Try.ntmps8
  go_wp2_with (first
    | (go_at_call 9; (with_reducible refine (CP _).mono ?_); rintro e w1 ⟨rfl, b1⟩)
    | (go_at_call 14; (with_reducible refine (CD _).mono ?_); rintro e w2 ⟨rfl, b2⟩)
    | (go_at_call 16; (with_reducible refine (CS _).mono ?_); rintro e w3 ⟨rfl, b3⟩))
  go_ret
  exact ⟨rfl, bt (bt b1 b2) b3⟩

theorem small_shift {a b k : Int} (h0 : -4611686018427387904 ≤ a * b) (h1 : a * b ≤ 4611686018427387904) (k0 : 0 ≤ k) (k1 : k < 70) : mulShiftF a b k = shiftF (a * b) k := by
  by_cases hz : k < 1
  · obtain rfl : k = 0 := by omega
    unfold mulShiftF shiftF
    rw [if_neg (by omega), if_pos (by omega), if_pos (by omega), holdI_in (by omega) (by omega)]
  obtain ⟨m, rfl⟩ : ∃ m : Nat, k = (m : Int) + 1 := ⟨k.toNat - 1, by omega⟩
  rw [mulShiftF_mid a b m (by omega)]
  generalize a * b = X at *
  by_cases hm : m ≤ 62
  · have e0 : shiftF X ((m : Int) + 1) = (X / 2 ^ m + 1) / 2 := by
      unfold shiftF; rw [if_neg (by omega), if_neg (by omega)]
      have : ((m : Int) + 1).toNat - 1 = m := by omega
      rw [this]
    have hin := shift_in m (x := X) (by omega) (by omega)
    rw [e0, holdI_in hin.1 hin.2]
  · have e0 : shiftF X ((m : Int) + 1) = 0 := by
      unfold shiftF; rw [if_neg (by omega), if_pos (by omega)]
    have p : (2 : Int) ^ 63 ≤ 2 ^ m := by exact_mod_cast Nat.pow_le_pow_right (by decide) (show 63 ≤ m by omega)
    have p63 : (2 : Int) ^ 63 = 9223372036854775808 := by decide
    have q : X / 2 ^ m = 0 ∨ X / 2 ^ m = -1 := by
      by_cases hx : 0 ≤ X
      · exact Or.inl (Int.ediv_eq_zero_of_lt hx (by omega))
      · exact Or.inr (div_of (r := X + 2 ^ m) (by omega) (by omega) (by omega))
    rw [e0]
    rcases q with q | q <;> rw [q] <;> decide

theorem mul_small {a b : Int} (h0 : -2147483648 ≤ a) (h1 : a ≤ 2147483647) (k0 : -2147483648 ≤ b) (k1 : b ≤ 2147483647) : -4611686018427387904 ≤ a * b ∧ a * b ≤ 4611686018427387904 ∧ absI (a * b) < 18446744073709551616 := by
  obtain ⟨m1, m2, m3, m4⟩ := mul_signs a b
  have a0 := absI0 a
  have b0 := absI0 b
  have a1 : absI a ≤ 2147483648 := by unfold absI; split <;> omega
  have b1 : absI b ≤ 2147483648 := by unfold absI; split <;> omega
  have p0 := Int.mul_nonneg a0 b0
  have p1 := Int.mul_le_mul a1 b1 b0 (by omega)
  have : -4611686018427387904 ≤ a * b ∧ a * b ≤ 4611686018427387904 := by
    by_cases ha : a < 0 <;> by_cases hb : b < 0
    · rw [m1 ha hb]; omega
    · rw [m2 ha (by omega)]; omega
    · rw [m3 (by omega) hb]; omega
    · rw [m4 (by omega) (by omega)]; omega
  refine ⟨this.1, this.2, ?_⟩
  unfold absI; split <;> omega

set_option maxHeartbeats 2000000 in
theorem law_WideSmall (a b d n : Int) (ha : -2147483648 ≤ a ∧ a ≤ 2147483647) (hb : -2147483648 ≤ b ∧ b ≤ 2147483647) (hd : -2147483648 ≤ d ∧ d ≤ 2147483647) (hn : 0 ≤ n ∧ n ≤ 255) (w : World) :
    Calls Try.prog 7 #[.int .i32 a, .int .i32 b, .int .i32 d, .int .u8 n] w fun e w' => e = .returned (.bool true) ∧ Below w.heap.size w w' := by
  obtain ⟨h0, h1⟩ := ha
  obtain ⟨k0, k1⟩ := hb
  obtain ⟨d0, d1⟩ := hd
  obtain ⟨n0, n1⟩ := hn
  obtain ⟨p0, p1, p2⟩ := mul_small h0 h1 k0 k1
  have CD := muldiv_any a b d (by omega) (by omega) (by omega) (by omega) (by omega) (by omega) (fun hz => by
    have := absI0 (a * b)
    have hp : 0 < absI d := by unfold absI; split <;> omega
    have hq : absI d ≤ 9223372036854775808 := absI1 (by omega) (by omega)
    rw [hi_small (by omega) p2, lo_small (by omega) p2, Int.zero_emod]
    exact div64_zero _ _ (by omega) p2 hp (by omega))
  have CE := fixdiv_any (a * b) d (by omega) (by omega) (by omega) (by omega)
  have CS := mulshift_any a b (n % 70) (by omega) (by omega) (by omega) (by omega)
  rw [small_shift p0 p1 (by omega) (by omega)] at CS
  have CT := fixshift_any (a * b) (n % 70) (by omega) (by omega) (by omega) (by omega)
  have CP := product_any a b (by omega) (by omega) (by omega) (by omega)
  have CO := of_any (a * b) (by omega) (by omega)
  have m0 : 0 ≤ n % 70 := by omega
  have m1 : n % 70 < 70 := by omega
  clear p2
  go_enter Try.func7, Try.ntmps7
  go_wp2_with (first
    | (go_at_call 8; (with_reducible refine (wlives _).mono ?_); rintro e w0 ⟨rfl, b0⟩)
    | (go_at_call 14; (with_reducible refine (CD _).mono ?_); rintro e w1 ⟨rfl, b1⟩)
    | (go_at_call 26; (with_reducible refine (CE _).mono ?_); rintro e w' ⟨rfl, rfl⟩)
    | (go_at_call 16; (with_reducible refine (CS _).mono ?_); rintro e w2 ⟨rfl, b2⟩)
    | (go_at_call 27; (with_reducible refine (CT _).mono ?_); rintro e w3 ⟨rfl, b3⟩)
    | (go_at_call 9; (with_reducible refine (CP _).mono ?_); rintro e w4 ⟨rfl, b4⟩)
    | (go_at_call 24; (with_reducible refine (CO _).mono ?_); rintro e w5 ⟨rfl, b5⟩))
  go_ret
  refine ⟨rfl, ?_⟩
  repeat (first | exact Below.refl _ _ | with_reducible refine ba ?_ _ | with_reducible refine bs ?_ (by omega) _ | with_reducible refine bd ?_ | (with_reducible refine bt ?_ (by assumption)))
end Go.Proofs.Ytgofhfcnmechoaa
