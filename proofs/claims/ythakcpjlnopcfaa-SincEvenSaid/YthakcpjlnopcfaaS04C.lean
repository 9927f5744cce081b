/- The laws on the sinc. -/
import Derived.Test.YthakcpjlnopcfaaS04B
namespace Go.Proofs.Ythakcpjlnopcfaa
open Go.RowKit


theorem slives (w : World) : Calls Try.prog 6 #[] w fun e w' => e = .returned (.bool true) ∧ Below w.heap.size w w' := by
  have C1 := sinc_any 0 5 (by omega) (by omega)
  have C2 := lanczos_any 0 1 (by omega) (by omega)
  have C3 := lanczos_any 3 1 (by omega) (by omega)
  rw [mid_all 5 (by omega) (by omega)] at C1
  rw [lanczos_mid] at C2
  rw [lanczos_end] at C3
  go_enter Try.func6, Try.ntmps6
  go_wp2_with (first
    | (go_at_call 9; (with_reducible refine (C1 _).mono ?_); rintro e w1 ⟨rfl, b1⟩)
    | (go_at_call 11; (with_reducible refine (C2 _).mono ?_); rintro e w2 ⟨rfl, b2⟩)
    | (go_at_call 11; (with_reducible refine (C3 _).mono ?_); rintro e w3 ⟨rfl, b3⟩))
  go_ret
  exact ⟨rfl, bt (bt b1 b2) b3⟩
theorem law_SincSteps (p q : Int) (hp : -9223372036854775808 ≤ p ∧ p ≤ 9223372036854775807) (_hq : -9223372036854775808 ≤ q ∧ q ≤ 9223372036854775807) (w : World) :
    Calls Try.prog 3 #[.int .i64 p, .int .i64 q] w fun e w' => e = .returned (.bool true) ∧ Below w.heap.size w w' := by
  obtain ⟨p0, p1⟩ := hp
  clear _hq
  have C1 := fun w => may_any p q w p0 p1
  have C2 := fun w => refmay_any p q w p0 p1
  have C3 := sinc_any p q p0 p1
  have C4 := refsinc_any p q p0 p1
  have C5 := lanczos_any p q p0 p1
  have C6 := reflanczos_any p q p0 p1
  generalize mayF p q = x at *
  generalize sincF p q = y at *
  generalize lanczosF p q = z at *
  go_enter Try.func3, Try.ntmps3
  go_wp2_with (first
    | (go_at_call 6; (with_reducible refine (slives _).mono ?_); rintro e w1 ⟨rfl, b1⟩)
    | (go_at_call 7; (with_reducible refine (C1 _).mono ?_); rintro e w2 ⟨rfl, b2⟩)
    | (go_at_call 8; (with_reducible refine (C2 _).mono ?_); rintro e w3 ⟨rfl, b3⟩)
    | (go_at_call 9; (with_reducible refine (C3 _).mono ?_); rintro e w4 ⟨rfl, b4⟩)
    | (go_at_call 10; (with_reducible refine (C4 _).mono ?_); rintro e w5 ⟨rfl, b5⟩)
    | (go_at_call 11; (with_reducible refine (C5 _).mono ?_); rintro e w6 ⟨rfl, b6⟩)
    | (go_at_call 12; (with_reducible refine (C6 _).mono ?_); rintro e w7 ⟨rfl, b7⟩))
  go_ret
  exact ⟨rfl, bt (bt (bt (bt (bt (bt b1 b2) b3) b4) b5) b6) b7⟩
theorem law_SincEven (p q : Int) (hp : -9223372036854775808 ≤ p ∧ p ≤ 9223372036854775807) (_hq : -9223372036854775808 ≤ q ∧ q ≤ 9223372036854775807) (w : World) :
    Calls Try.prog 4 #[.int .i64 p, .int .i64 q] w fun e w' => e = .returned (.bool true) ∧ Below w.heap.size w w' := by
  obtain ⟨p0, p1⟩ := hp
  clear _hq
  by_cases he : p = -9223372036854775808
  · subst he
    go_enter Try.func4, Try.ntmps4
    go_wp2_with (first
      | (go_at_call 6; (with_reducible refine (slives _).mono ?_); rintro e w1 ⟨rfl, b1⟩)
      | (go_at_call 6; (with_reducible refine (slives _).mono ?_); rintro e w2 ⟨rfl, b2⟩))
    go_ret
    refine ⟨rfl, ?_⟩
    repeat (first | exact Below.refl _ _ | (with_reducible refine bt ?_ (by assumption)))
  have hb : (p == -9223372036854775808) = false := beq_eq_false_iff_ne.2 he
  have C1 := fun w => may_any p q w p0 p1
  have C2 := fun w => may_any (-p) q w (by omega) (by omega)
  have C3 := sinc_any p q p0 p1
  have C4 := sinc_any (-p) q (by omega) (by omega)
  have C5 := lanczos_any p q p0 p1
  have C6 := lanczos_any (-p) q (by omega) (by omega)
  rw [mayF_neg] at C2
  rw [sincF_neg] at C4
  rw [lanczosF_neg] at C6
  generalize mayF p q = x at *
  generalize sincF p q = y at *
  generalize lanczosF p q = z at *
  go_enter Try.func4, Try.ntmps4
  go_wp2_with (first
    | (go_at_call 6; (with_reducible refine (slives _).mono ?_); rintro e w1 ⟨rfl, b1⟩)
    | (go_at_call 7; (with_reducible refine (C1 _).mono ?_); rintro e w2 ⟨rfl, b2⟩)
    | (go_at_call 7; (with_reducible refine (C2 _).mono ?_); rintro e w3 ⟨rfl, b3⟩)
    | (go_at_call 9; (with_reducible refine (C3 _).mono ?_); rintro e w4 ⟨rfl, b4⟩)
    | (go_at_call 9; (with_reducible refine (C4 _).mono ?_); rintro e w5 ⟨rfl, b5⟩)
    | (go_at_call 11; (with_reducible refine (C5 _).mono ?_); rintro e w6 ⟨rfl, b6⟩)
    | (go_at_call 11; (with_reducible refine (C6 _).mono ?_); rintro e w7 ⟨rfl, b7⟩))
  go_ret
  exact ⟨rfl, bt (bt (bt (bt (bt (bt b1 b2) b3) b4) b5) b6) b7⟩
theorem and_low20 (t : Int) : bits .and .i64 t 1048575 = t % 1048576 := by
  show IntKind.i64.wrap (((BitVec.ofInt 64 t &&& BitVec.ofInt 64 1048575).toNat : Nat) : Int) = _
  rw [BitVec.toNat_and, BitVec.toNat_ofInt, BitVec.toNat_ofInt]
  have e : ((1048575 : Int) % ((2 ^ 64 : Nat) : Int)).toNat = 2 ^ 20 - 1 := by decide
  rw [e, Nat.and_two_pow_sub_one_eq_mod, IntKind.wrap_i64]
  have e2 : ((2 ^ 64 : Nat) : Int) = 18446744073709551616 := by decide
  rw [e2]
  omega
set_option maxHeartbeats 1000000 in
theorem law_SincWhole (n q : Int) (hn : 0 ≤ n ∧ n ≤ 255) (_hq : -9223372036854775808 ≤ q ∧ q ≤ 9223372036854775807) (w : World) :
    Calls Try.prog 5 #[.int .u8 n, .int .i64 q] w fun e w' => e = .returned (.bool true) ∧ Below w.heap.size w w' := by
  obtain ⟨n0, n1⟩ := hn
  clear _hq
  have AN := and_low20 q
  have x0 : 0 ≤ q % 1048576 := by omega
  have x1 : q % 1048576 < 1048576 := by omega
  generalize q % 1048576 = x at *
  obtain ⟨k, hk, hm⟩ : ∃ k : Nat, k < 4 ∧ n % 4 = (k : Int) := ⟨(n % 4).toNat, by omega, by omega⟩
  have W := sincF_whole hk (by omega : 0 < 1 + x) (by omega)
  have L : 2 ≤ k ∨ (k < 2 ∧ -2048 ≤ lanczosF (((k : Int) + 1) * (1 + x)) (1 + x) ∧ lanczosF (((k : Int) + 1) * (1 + x)) (1 + x) ≤ 2048) := by
    by_cases h : k < 2
    · exact Or.inr ⟨h, lanczosF_whole h (by omega) (by omega)⟩
    · exact Or.inl (by omega)
  have hc : (k : Int) + 1 = 1 + (k : Int) := by omega
  rw [hc] at W L
  clear hc
  have p0 : 0 ≤ (1 + (k : Int)) * (1 + x) := Int.mul_nonneg (by omega) (by omega)
  have p1 : (1 + (k : Int)) * (1 + x) ≤ 4 * (1 + x) := Int.mul_le_mul_of_nonneg_right (by omega) (by omega)
  have CS := sinc_any ((1 + (k : Int)) * (1 + x)) (1 + x) (by omega) (by omega)
  have CL := lanczos_any ((1 + (k : Int)) * (1 + x)) (1 + x) (by omega) (by omega)
  obtain ⟨s0, s1⟩ := W
  generalize sincF ((1 + (k : Int)) * (1 + x)) (1 + x) = s at *
  generalize lanczosF ((1 + (k : Int)) * (1 + x)) (1 + x) = l at *
  rcases L with h | ⟨h, l0, l1⟩
  · go_enter Try.func5, Try.ntmps5
    go_wp2_with (first
      | (go_at_call 6; (with_reducible refine (slives _).mono ?_); rintro e w1 ⟨rfl, b1⟩)
      | (go_at_call 9; (with_reducible refine (CS _).mono ?_); rintro e w2 ⟨rfl, b2⟩))
    go_ret
    exact ⟨rfl, bt b1 b2⟩
  · go_enter Try.func5, Try.ntmps5
    go_wp2_with (first
      | (go_at_call 6; (with_reducible refine (slives _).mono ?_); rintro e w1 ⟨rfl, b1⟩)
      | (go_at_call 9; (with_reducible refine (CS _).mono ?_); rintro e w2 ⟨rfl, b2⟩)
      | (go_at_call 11; (with_reducible refine (CL _).mono ?_); rintro e w3 ⟨rfl, b3⟩)
      | (go_at_call 11; (with_reducible refine (CL _).mono ?_); rintro e w4 ⟨rfl, b4⟩))
    go_ret
    refine ⟨rfl, ?_⟩
    repeat (first | exact Below.refl _ _ | (with_reducible refine bt ?_ (by assumption)))
end Go.Proofs.Ythakcpjlnopcfaa
