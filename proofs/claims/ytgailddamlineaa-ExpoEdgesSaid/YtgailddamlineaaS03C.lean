/- The laws on the exponential function. -/
import Derived.Test.YtgailddamlineaaS03B
namespace Go.Proofs.Ytgailddamlineaa
open Go.RowKit


theorem elives (w : World) : Calls Try.prog 6 #[] w fun e w' => e = .returned (.bool true) ∧ Below w.heap.size w w' := by
  have C1 := exp_any 0 (by omega) (by omega)
  have C2 := exp_any 762123384786 (by omega) (by omega)
  have C3 := gauss_any 0 1 (by omega) (by omega) (by omega) (by omega)
  rw [expoF_low (by omega)] at C1
  rw [expoF_two] at C2
  rw [gaussF_mid] at C3
  go_enter Try.func6, Try.ntmps6
  go_wp2_with (first
    | (go_at_call 7; (with_reducible refine (C1 _).mono ?_); rintro e w1 ⟨rfl, b1⟩)
    | (go_at_call 7; (with_reducible refine (C2 _).mono ?_); rintro e w2 ⟨rfl, b2⟩)
    | (go_at_call 11; (with_reducible refine (C3 _).mono ?_); rintro e w3 ⟨rfl, b3⟩))
  go_ret
  exact ⟨rfl, bt (bt b1 b2) b3⟩
theorem law_ExpoSteps (t d s : Int) (ht : -9223372036854775808 ≤ t ∧ t ≤ 9223372036854775807) (hd : -9223372036854775808 ≤ d ∧ d ≤ 9223372036854775807) (hs : -9223372036854775808 ≤ s ∧ s ≤ 9223372036854775807) (w : World) :
    Calls Try.prog 3 #[.int .i64 t, .int .i64 d, .int .i64 s] w fun e w' => e = .returned (.bool true) ∧ Below w.heap.size w w' := by
  obtain ⟨t0, t1⟩ := ht
  obtain ⟨d0, d1⟩ := hd
  obtain ⟨s0, s1⟩ := hs
  have C1 := exp_any t t0 t1
  have C2 := refexp_any t t0 t1
  have C3 := ratio_any d s d0 d1 s0 s1
  have C4 := refratio_any d s d0 d1 s0 s1
  have C5 := gauss_any d s d0 d1 s0 s1
  have C6 := refgauss_any d s d0 d1 s0 s1
  generalize expoF t = x at *
  generalize gaussF d s = z at *
  generalize ratioF d s = y at *
  go_enter Try.func3, Try.ntmps3
  go_wp2_with (first
    | (go_at_call 6; (with_reducible refine (elives _).mono ?_); rintro e w1 ⟨rfl, b1⟩)
    | (go_at_call 7; (with_reducible refine (C1 _).mono ?_); rintro e w2 ⟨rfl, b2⟩)
    | (go_at_call 8; (with_reducible refine (C2 _).mono ?_); rintro e w3 ⟨rfl, b3⟩)
    | (go_at_call 9; (with_reducible refine (C3 _).mono ?_); rintro e w4 ⟨rfl, b4⟩)
    | (go_at_call 10; (with_reducible refine (C4 _).mono ?_); rintro e w5 ⟨rfl, b5⟩)
    | (go_at_call 11; (with_reducible refine (C5 _).mono ?_); rintro e w6 ⟨rfl, b6⟩)
    | (go_at_call 12; (with_reducible refine (C6 _).mono ?_); rintro e w7 ⟨rfl, b7⟩))
  go_ret
  exact ⟨rfl, bt (bt (bt (bt (bt (bt b1 b2) b3) b4) b5) b6) b7⟩
theorem and_low46 (t : Int) : bits .and .i64 t 70368744177663 = t % 70368744177664 := by
  show IntKind.i64.wrap (((BitVec.ofInt 64 t &&& BitVec.ofInt 64 70368744177663).toNat : Nat) : Int) = _
  rw [BitVec.toNat_and, BitVec.toNat_ofInt, BitVec.toNat_ofInt]
  have e : ((70368744177663 : Int) % ((2 ^ 64 : Nat) : Int)).toNat = 2 ^ 46 - 1 := by decide
  rw [e, Nat.and_two_pow_sub_one_eq_mod, IntKind.wrap_i64]
  have e2 : ((2 ^ 64 : Nat) : Int) = 18446744073709551616 := by decide
  rw [e2]
  omega
theorem law_ExpoHalves (t : Int) (ht : -9223372036854775808 ≤ t ∧ t ≤ 9223372036854775807) (w : World) :
    Calls Try.prog 4 #[.int .i64 t] w fun e w' => e = .returned (.bool true) ∧ Below w.heap.size w w' := by
  obtain ⟨t0, t1⟩ := ht
  have AN := and_low46 t
  have x0 : 0 ≤ t % 70368744177664 := by omega
  have x1 : t % 70368744177664 < 70368744177664 := by omega
  have C1 := exp_any (t % 70368744177664) (by omega) (by omega)
  have C2 := exp_any (t % 70368744177664 + 762123384786) (by omega) (by omega)
  have H := expoF_half x0 x1
  obtain ⟨a0, a1⟩ := expoF_small x0 (by omega)
  obtain ⟨c0, c1⟩ := expoF_small (t := t % 70368744177664 + 762123384786) (by omega) (by omega)
  simp only at H
  generalize expoF (t % 70368744177664 + 762123384786) = b at *
  generalize expoF (t % 70368744177664) = a at *
  generalize t % 70368744177664 = x at *
  rcases H with h | h | h
  · have q1 : (2 * b == a + 1) = true := beq_iff_eq.2 h
    clear h
    go_enter Try.func4, Try.ntmps4
    go_wp2_with (first
      | (go_at_call 6; (with_reducible refine (elives _).mono ?_); rintro e w1 ⟨rfl, b1⟩)
      | (go_at_call 7; (with_reducible refine (C1 _).mono ?_); rintro e w2 ⟨rfl, b2⟩)
      | (go_at_call 7; (with_reducible refine (C2 _).mono ?_); rintro e w3 ⟨rfl, b3⟩))
    all_goals go_ret
    all_goals exact ⟨rfl, bt (bt b1 b2) b3⟩
  · have q1 : (2 * b == a) = true := beq_iff_eq.2 h
    clear h
    go_enter Try.func4, Try.ntmps4
    go_wp2_with (first
      | (go_at_call 6; (with_reducible refine (elives _).mono ?_); rintro e w1 ⟨rfl, b1⟩)
      | (go_at_call 7; (with_reducible refine (C1 _).mono ?_); rintro e w2 ⟨rfl, b2⟩)
      | (go_at_call 7; (with_reducible refine (C2 _).mono ?_); rintro e w3 ⟨rfl, b3⟩))
    all_goals go_ret
    all_goals exact ⟨rfl, bt (bt b1 b2) b3⟩
  · have q1 : (2 * b == a - 1) = true := beq_iff_eq.2 h
    clear h
    go_enter Try.func4, Try.ntmps4
    go_wp2_with (first
      | (go_at_call 6; (with_reducible refine (elives _).mono ?_); rintro e w1 ⟨rfl, b1⟩)
      | (go_at_call 7; (with_reducible refine (C1 _).mono ?_); rintro e w2 ⟨rfl, b2⟩)
      | (go_at_call 7; (with_reducible refine (C2 _).mono ?_); rintro e w3 ⟨rfl, b3⟩))
    all_goals go_ret
    all_goals exact ⟨rfl, bt (bt b1 b2) b3⟩
theorem edge_walk (t d s x y z : Int) (t0 : -9223372036854775808 ≤ t) (t1 : t ≤ 9223372036854775807)
    (hx : (t < 0 ∧ x = 1099511627776) ∨ (0 ≤ t ∧ t ≤ 70368744177664) ∨ (70368744177664 < t ∧ x = 0))
    (hy : ((s < 1 ∨ 4194304 < s ∨ d < -16384 ∨ 16384 < d) ∧ y = 9223372036854775807 ∧ z = 0) ∨ (1 ≤ s ∧ s ≤ 4194304 ∧ -16384 ≤ d ∧ d ≤ 16384 ∧ 0 ≤ y))
    (C1 : ∀ w, Calls Try.prog 7 #[.int .i64 t] w fun e w' => e = .returned (.int .i64 x) ∧ Below w.heap.size w w')
    (C2 : ∀ w, Calls Try.prog 9 #[.int .i64 d, .int .i64 s] w fun e w' => e = .returned (.int .i64 y) ∧ Below w.heap.size w w')
    (C3 : ∀ w, Calls Try.prog 11 #[.int .i64 d, .int .i64 s] w fun e w' => e = .returned (.int .i64 z) ∧ Below w.heap.size w w') (w : World) :
    Calls Try.prog 5 #[.int .i64 t, .int .i64 d, .int .i64 s] w fun e w' => e = .returned (.bool true) ∧ Below w.heap.size w w' := by
  have p1 : (decide (t < 0) = true ∧ decide (70368744177664 < t) = false ∧ x = 1099511627776) ∨ (decide (t < 0) = false ∧ decide (70368744177664 < t) = false) ∨ (decide (t < 0) = false ∧ decide (70368744177664 < t) = true ∧ x = 0) := by
    rcases hx with ⟨a, b⟩ | ⟨a, b⟩ | ⟨a, b⟩
    · exact Or.inl ⟨decide_eq_true a, decide_eq_false (by omega), b⟩
    · exact Or.inr (Or.inl ⟨decide_eq_false (by omega), decide_eq_false (by omega)⟩)
    · exact Or.inr (Or.inr ⟨decide_eq_false (by omega), decide_eq_true a, b⟩)
  have p2 : (decide (s < 1) = true ∧ y = 9223372036854775807 ∧ z = 0) ∨ (decide (s < 1) = false ∧ decide (4194304 < s) = true ∧ y = 9223372036854775807 ∧ z = 0) ∨ (decide (s < 1) = false ∧ decide (4194304 < s) = false ∧ decide (d < -16384) = true ∧ y = 9223372036854775807 ∧ z = 0)
      ∨ (decide (s < 1) = false ∧ decide (4194304 < s) = false ∧ decide (d < -16384) = false ∧ decide (16384 < d) = true ∧ y = 9223372036854775807 ∧ z = 0)
      ∨ (decide (s < 1) = false ∧ decide (4194304 < s) = false ∧ decide (d < -16384) = false ∧ decide (16384 < d) = false ∧ 0 ≤ y) := by
    rcases hy with ⟨a, b, c⟩ | ⟨a1, a2, a3, a4, a5⟩
    · by_cases q1 : s < 1
      · exact Or.inl ⟨decide_eq_true q1, b, c⟩
      by_cases q2 : 4194304 < s
      · exact Or.inr (Or.inl ⟨decide_eq_false q1, decide_eq_true q2, b, c⟩)
      by_cases q3 : d < -16384
      · exact Or.inr (Or.inr (Or.inl ⟨decide_eq_false q1, decide_eq_false q2, decide_eq_true q3, b, c⟩))
      · exact Or.inr (Or.inr (Or.inr (Or.inl ⟨decide_eq_false q1, decide_eq_false q2, decide_eq_false q3, decide_eq_true (by omega), b, c⟩)))
    · exact Or.inr (Or.inr (Or.inr (Or.inr ⟨decide_eq_false (by omega), decide_eq_false (by omega), decide_eq_false (by omega), decide_eq_false (by omega), a5⟩)))
  clear hx hy
  rcases p1 with ⟨f1, f2, rfl⟩ | ⟨f1, f2⟩ | ⟨f1, f2, rfl⟩ <;> rcases p2 with ⟨g1, rfl, rfl⟩ | ⟨g1, g2, rfl, rfl⟩ | ⟨g1, g2, g3, rfl, rfl⟩ | ⟨g1, g2, g3, g4, rfl, rfl⟩ | ⟨g1, g2, g3, g4, g5⟩
  all_goals
    go_enter Try.func5, Try.ntmps5
    go_wp2_with (first
      | (go_at_call 6; (with_reducible refine (elives _).mono ?_); rintro e w1 ⟨rfl, b1⟩)
      | (go_at_call 7; (with_reducible refine (C1 _).mono ?_); rintro e w2 ⟨rfl, b2⟩)
      | (go_at_call 9; (with_reducible refine (C2 _).mono ?_); rintro e w3 ⟨rfl, b3⟩)
      | (go_at_call 11; (with_reducible refine (C3 _).mono ?_); rintro e w4 ⟨rfl, b4⟩))
    go_ret
    refine ⟨rfl, ?_⟩
    repeat (first | exact Below.refl _ _ | (with_reducible refine bt ?_ (by assumption)))
theorem law_ExpoEdges (t d s : Int) (ht : -9223372036854775808 ≤ t ∧ t ≤ 9223372036854775807) (hd : -9223372036854775808 ≤ d ∧ d ≤ 9223372036854775807) (hs : -9223372036854775808 ≤ s ∧ s ≤ 9223372036854775807) (w : World) :
    Calls Try.prog 5 #[.int .i64 t, .int .i64 d, .int .i64 s] w fun e w' => e = .returned (.bool true) ∧ Below w.heap.size w w' := by
  obtain ⟨t0, t1⟩ := ht
  obtain ⟨d0, d1⟩ := hd
  obtain ⟨s0, s1⟩ := hs
  refine edge_walk t d s (expoF t) (ratioF d s) (gaussF d s) t0 t1 ?_ ?_ (exp_any t t0 t1) (ratio_any d s d0 d1 s0 s1) (gauss_any d s d0 d1 s0 s1) w
  · by_cases h : t < 0
    · exact Or.inl ⟨h, expoF_low (by omega)⟩
    · by_cases g : 70368744177664 < t
      · exact Or.inr (Or.inr ⟨g, expoF_far g⟩)
      · exact Or.inr (Or.inl ⟨by omega, by omega⟩)
  · by_cases h : s < 1 ∨ 4194304 < s ∨ d < -16384 ∨ 16384 < d
    · exact Or.inl ⟨h, gaussF_out h⟩
    · exact Or.inr ⟨by omega, by omega, by omega, by omega, ratioF_pos d s⟩
end Go.Proofs.Ytgailddamlineaa
