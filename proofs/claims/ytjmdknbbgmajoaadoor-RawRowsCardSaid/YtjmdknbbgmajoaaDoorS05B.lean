/- Keys' cubic by float64, and the document's call. -/
import Derived.Test.YtjmdknbbgmajoaaDoorS05A
namespace Go.Proofs.YtjmdknbbgmajoaaDoor
open Go.RowKit Ieee


theorem c15_fin : Fin64 4609434218613702656 (3 / 2) := const_fin (n := 52) (s := false) (m := 6755399441055744) (by decide +kernel) (by decide +kernel)
theorem c25_fin : Fin64 4612811918334230528 (5 / 2) := const_fin (n := 51) (s := false) (m := 5629499534213120) (by decide +kernel) (by decide +kernel)
theorem cm05_fin : Fin64 13826050856027422720 (-1 / 2) := const_fin (n := 53) (s := true) (m := 4503599627370496) (by decide +kernel) (by decide +kernel)
theorem c4_fin : Fin64 4616189618054758400 4 := const_fin (n := 50) (s := false) (m := 4503599627370496) (by decide +kernel) (by decide +kernel)
theorem c2_fin : Fin64 4611686018427387904 2 := const_fin (n := 51) (s := false) (m := 4503599627370496) (by decide +kernel) (by decide +kernel)
theorem cubic_low {x : Nat} {X v : Rat} (fx : Fin64 x X) (hX : InR (X - v) (1 / 2 ^ 47)) (hv : InR v 2) :
    ∃ t1 t2 t3 u1 u2 s1 s2 V, double.mul 4609434218613702656 x = some t1 ∧ double.mul t1 x = some t2 ∧ double.mul t2 x = some t3 ∧ double.mul 4612811918334230528 x = some u1 ∧ double.mul u1 x = some u2 ∧ double.sub t3 u2 = some s1 ∧ double.add s1 4607182418800017408 = some s2 ∧ Fin64 s2 V ∧ InR (V - lowR v) (1 / 2 ^ 40) := by
  have i15 : InR (3 / 2 : Rat) (3 / 2) := by unfold InR; decide +kernel
  have i25 : InR (5 / 2 : Rat) (5 / 2) := by unfold InR; decide +kernel
  have i1 : InR (1 : Rat) 1 := by unfold InR; decide +kernel
  obtain ⟨t1, a1, p1, f1, e1⟩ := mul_step (g := 1 / 2 ^ 46) c15_fin fx (self_near _) hX i15 hv (by decide +kernel) (by decide +kernel)
  have b1 := inR_mul i15 hv
  obtain ⟨t2, a2, p2, f2, e2⟩ := mul_step (g := 1 / 2 ^ 44) f1 fx e1 hX b1 hv (by decide +kernel) (by decide +kernel)
  have b2 := inR_mul b1 hv
  obtain ⟨t3, a3, p3, f3, e3⟩ := mul_step (g := 1 / 2 ^ 42) f2 fx e2 hX b2 hv (by decide +kernel) (by decide +kernel)
  have b3 := inR_mul b2 hv
  obtain ⟨u1, a4, p4, f4, e4⟩ := mul_step (g := 1 / 2 ^ 45) c25_fin fx (self_near _) hX i25 hv (by decide +kernel) (by decide +kernel)
  have b4 := inR_mul i25 hv
  obtain ⟨u2, a5, p5, f5, e5⟩ := mul_step (g := 1 / 2 ^ 43) f4 fx e4 hX b4 hv (by decide +kernel) (by decide +kernel)
  have b5 := inR_mul b4 hv
  obtain ⟨s1, a6, p6, f6, e6⟩ := sub_step (g := 1 / 2 ^ 41) f3 f5 e3 e5 b3 b5 (by decide +kernel) (by decide +kernel)
  have b6 : InR (3 / 2 * v * v * v - 5 / 2 * v * v) (3 / 2 * 2 * 2 * 2 + 5 / 2 * 2 * 2) := by
    have := inR_add b3 (inR_neg b5)
    rw [show 3 / 2 * v * v * v + -(5 / 2 * v * v) = 3 / 2 * v * v * v - 5 / 2 * v * v by grind] at this
    exact this
  obtain ⟨s2, V, p7, f7, e7⟩ := add_step (g := 1 / 2 ^ 40) f6 one_fin e6 (self_near 1) b6 i1 (by decide +kernel) (by decide +kernel)
  exact ⟨t1, t2, t3, u1, u2, s1, s2, V, p1, p2, p3, p4, p5, p6, p7, f7, e7⟩
theorem cubic_high {x : Nat} {X v : Rat} (fx : Fin64 x X) (hX : InR (X - v) (1 / 2 ^ 47)) (hv : InR v 2) :
    ∃ r1 r2 r3 u1 u2 r4 r5 r6 r7 V, double.mul 13826050856027422720 x = some r1 ∧ double.mul r1 x = some r2 ∧ double.mul r2 x = some r3 ∧ double.mul 4612811918334230528 x = some u1 ∧ double.mul u1 x = some u2 ∧ double.add r3 u2 = some r4 ∧ double.mul 4616189618054758400 x = some r5 ∧ double.sub r4 r5 = some r6 ∧ double.add r6 4611686018427387904 = some r7 ∧ Fin64 r7 V ∧ InR (V - highR v) (1 / 2 ^ 40) := by
  have i05 : InR (-1 / 2 : Rat) (1 / 2) := by unfold InR; decide +kernel
  have i25 : InR (5 / 2 : Rat) (5 / 2) := by unfold InR; decide +kernel
  have i4 : InR (4 : Rat) 4 := by unfold InR; decide +kernel
  have i2 : InR (2 : Rat) 2 := by unfold InR; decide +kernel
  obtain ⟨r1, a1, p1, f1, e1⟩ := mul_step (g := 1 / 2 ^ 47) cm05_fin fx (self_near _) hX i05 hv (by decide +kernel) (by decide +kernel)
  have b1 := inR_mul i05 hv
  obtain ⟨r2, a2, p2, f2, e2⟩ := mul_step (g := 1 / 2 ^ 45) f1 fx e1 hX b1 hv (by decide +kernel) (by decide +kernel)
  have b2 := inR_mul b1 hv
  obtain ⟨r3, a3, p3, f3, e3⟩ := mul_step (g := 1 / 2 ^ 43) f2 fx e2 hX b2 hv (by decide +kernel) (by decide +kernel)
  have b3 := inR_mul b2 hv
  obtain ⟨u1, a4, p4, f4, e4⟩ := mul_step (g := 1 / 2 ^ 45) c25_fin fx (self_near _) hX i25 hv (by decide +kernel) (by decide +kernel)
  have b4 := inR_mul i25 hv
  obtain ⟨u2, a5, p5, f5, e5⟩ := mul_step (g := 1 / 2 ^ 43) f4 fx e4 hX b4 hv (by decide +kernel) (by decide +kernel)
  have b5 := inR_mul b4 hv
  obtain ⟨r4, a6, p6, f6, e6⟩ := add_step (g := 5 / 2 ^ 44) f3 f5 e3 e5 b3 b5 (by decide +kernel) (by decide +kernel)
  have b6 := inR_add b3 b5
  obtain ⟨r5, a7, p7, f7, e7⟩ := mul_step (g := 1 / 2 ^ 44) c4_fin fx (self_near _) hX i4 hv (by decide +kernel) (by decide +kernel)
  have b7 := inR_mul i4 hv
  obtain ⟨r6, a8, p8, f8, e8⟩ := sub_step (g := 7 / 2 ^ 44) f6 f7 e6 e7 b6 b7 (by decide +kernel) (by decide +kernel)
  have b8 : InR (-1 / 2 * v * v * v + 5 / 2 * v * v - 4 * v) (1 / 2 * 2 * 2 * 2 + 5 / 2 * 2 * 2 + 4 * 2) := by
    have := inR_add b6 (inR_neg b7)
    rw [show -1 / 2 * v * v * v + 5 / 2 * v * v + -(4 * v) = -1 / 2 * v * v * v + 5 / 2 * v * v - 4 * v by grind] at this
    exact this
  obtain ⟨r7, V, p9, f9, e9⟩ := add_step (g := 1 / 2 ^ 40) f8 c2_fin e8 (self_near 2) b8 i2 (by decide +kernel) (by decide +kernel)
  exact ⟨r1, r2, r3, u1, u2, r4, r5, r6, r7, V, p1, p2, p3, p4, p5, p6, p7, p8, p9, f9, e9⟩
/-- The end of the law: a weight against the float's. -/
theorem keys_close {k : Int} {s : Nat} {V P : Rat} (fs : Fin64 s V) (e : InR (V - P) (1 / 2 ^ 40)) (hP : InR P 40) (hk : InR ((k : Rat) - P * 1073741824) (1 / 2)) :
    ∃ m z, double.mul s 4742290407621132288 = some m ∧ double.sub (floatOfInt .f64 k) m = some z ∧ z < 18446744073709551616 ∧ (FloatKind.f64.format.order (z % 9223372036854775808) 4611686018427387904 == some .lt) = true := by
  have i30 : InR (1073741824 : Rat) 1073741824 := by unfold InR; decide +kernel
  obtain ⟨m, mv, m1, fm, m2⟩ := mul_step (g := 1 / 2 ^ 9) fs coarse_fin e (self_near _) hP i30 (by decide +kernel) (by decide +kernel)
  have hk2 : InR (k : Rat) (41 * 1073741824) := inR_mono (near_in_add hk (inR_mul hP i30)) (by decide +kernel)
  obtain ⟨A, fA, eA⟩ := ofInt_in hk2 (by decide +kernel)
  have d : InR (A - mv) (9 / 10) := by
    have := inR_add (inR_add eA hk) (inR_neg m2)
    rw [show A - (k : Rat) + ((k : Rat) - P * 1073741824) + -(mv - P * 1073741824) = A - mv by grind] at this
    exact inR_mono this (by decide +kernel)
  obtain ⟨z, z1, z2, z3⟩ := close_words fA fm d (by decide +kernel) c2_fin (by decide +kernel)
  exact ⟨m, z, m1, z1, z2, z3⟩
theorem keys_bounds {P q : Int} (q0 : 1 ≤ q) (q1 : q ≤ 262144) (P0 : 0 ≤ P) (P1 : P ≤ 2 * q) :
    0 ≤ P * P ∧ P * P ≤ 274877906944 ∧ 0 ≤ P * P * P ∧ P * P * P ≤ 144115188075855872 ∧ 0 ≤ 5 * (P * P) * q ∧ 5 * (P * P) * q ≤ 360287970189639680 ∧ 0 ≤ 8 * P * (q * q) ∧ 8 * P * (q * q) ≤ 288230376151711744 := by
  obtain ⟨s0, s1, c0, c1⟩ := cubes q0 q1
  have P2 : P ≤ 524288 := by omega
  have a0 : 0 ≤ P * P := Int.mul_nonneg P0 P0
  have a1 : P * P ≤ 524288 * 524288 := Int.mul_le_mul P2 P2 P0 (by omega)
  have b0 : 0 ≤ P * P * P := Int.mul_nonneg a0 P0
  have b1 : P * P * P ≤ 524288 * 524288 * 524288 := Int.mul_le_mul a1 P2 P0 (by omega)
  have d0 : 0 ≤ 5 * (P * P) * q := Int.mul_nonneg (by omega) (by omega)
  have d1 : 5 * (P * P) * q ≤ 5 * (524288 * 524288) * 262144 := Int.mul_le_mul (by omega) q1 (by omega) (by omega)
  have g0 : 0 ≤ 8 * P * (q * q) := Int.mul_nonneg (by omega) (by omega)
  have g1 : 8 * P * (q * q) ≤ 8 * 524288 * 68719476736 := Int.mul_le_mul (by omega) s1 (by omega) (by omega)
  omega
set_option maxRecDepth 100000 in
set_option maxHeartbeats 1000000 in
theorem refkeys_at (p q P : Int) (hP : absI p = P) (h0 : -9223372036854775808 < p) (h1 : p ≤ 9223372036854775807) (q0 : 1 ≤ q) (q1 : q ≤ 262144) (g0 : p < 2 * q) (g1 : -2 * q < p) (w : World) :
    Calls Tryd.prog 17 #[.int .i64 p, .int .i64 q] w fun e w' => e = .returned (.int .i64 (if P < q then divF (lowK P q * 1073741824) (2 * (q * q * q)) else divF (highK P q * 1073741824) (2 * (q * q * q)))) ∧ Below w.heap.size w w' := by
  have P0 : 0 ≤ P := by rw [← hP]; exact absI0 p
  have P1 : P ≤ 2 * q := by rw [← hP]; unfold absI; split <;> omega
  obtain ⟨a0, a1, b0, b1, d0, d1, e0, e1⟩ := keys_bounds q0 q1 P0 P1
  obtain ⟨s0, s1, c0, c1⟩ := cubes q0 q1
  have hp : (decide (p < 0) = true ∧ -p = P) ∨ (decide (p < 0) = false ∧ p = P) := by
    unfold absI at hP
    by_cases h : p < 0
    · rw [if_pos h] at hP; exact Or.inl ⟨decide_eq_true h, hP⟩
    · rw [if_neg h] at hP; exact Or.inr ⟨decide_eq_false h, hP⟩
  clear hP
  by_cases g : P < q
  · rw [if_pos g]
    have C := refmuldiv_to (lowK P q) 1073741824 (2 * (q * q * q)) _ rfl (by unfold lowK; omega) (by unfold lowK; omega) (by omega) (by omega) (by omega) (by omega)
    generalize divF (lowK P q * 1073741824) (2 * (q * q * q)) = z at *
    unfold lowK at C
    have gd : decide (P < q) = true := decide_eq_true g
    rcases hp with ⟨hp, hP⟩ | ⟨hp, hP⟩
    · go_enter Tryd.func17, Tryd.ntmps17
      go_wp2_with (go_at_call 30; (with_reducible refine (C _).mono ?_); rintro e w1 ⟨rfl, b1⟩)
      go_ret
      exact ⟨rfl, b1⟩
    · subst hP
      go_enter Tryd.func17, Tryd.ntmps17
      go_wp2_with (go_at_call 30; (with_reducible refine (C _).mono ?_); rintro e w1 ⟨rfl, b1⟩)
      go_ret
      exact ⟨rfl, b1⟩
  · rw [if_neg g]
    have C := refmuldiv_to (highK P q) 1073741824 (2 * (q * q * q)) _ rfl (by unfold highK; omega) (by unfold highK; omega) (by omega) (by omega) (by omega) (by omega)
    generalize divF (highK P q * 1073741824) (2 * (q * q * q)) = z at *
    unfold highK at C
    have gd : decide (P < q) = false := decide_eq_false g
    rcases hp with ⟨hp, hP⟩ | ⟨hp, hP⟩
    · go_enter Tryd.func17, Tryd.ntmps17
      go_wp2_with (go_at_call 30; (with_reducible refine (C _).mono ?_); rintro e w1 ⟨rfl, b1⟩)
      go_ret
      exact ⟨rfl, b1⟩
    · subst hP
      go_enter Tryd.func17, Tryd.ntmps17
      go_wp2_with (go_at_call 30; (with_reducible refine (C _).mono ?_); rintro e w1 ⟨rfl, b1⟩)
      go_ret
      exact ⟨rfl, b1⟩
theorem refkeys_any (p q : Int) (h0 : -9223372036854775808 ≤ p) (h1 : p ≤ 9223372036854775807) (w : World) :
    Calls Tryd.prog 17 #[.int .i64 p, .int .i64 q] w fun e w' => e = .returned (.int .i64 (keysF p q)) ∧ Below w.heap.size w w' := by
  by_cases g : 1 ≤ q ∧ q ≤ 262144 ∧ p < 2 * q ∧ -2 * q < p
  · rw [show keysF p q = if absI p < q then divF (lowK (absI p) q * 1073741824) (2 * (q * q * q)) else divF (highK (absI p) q * 1073741824) (2 * (q * q * q)) from if_pos g]
    obtain ⟨q0, q1, g0, g1⟩ := g
    exact refkeys_at p q _ rfl (by omega) h1 q0 q1 g0 g1 w
  · rw [show keysF p q = 0 from if_neg g]
    by_cases g1 : q < 1
    · clear g
      go_enter Tryd.func17, Tryd.ntmps17
      go_wp2
      go_ret
      exact ⟨rfl, Below.refl _ _⟩
    by_cases g2 : 262144 < q
    · clear g
      go_enter Tryd.func17, Tryd.ntmps17
      go_wp2
      go_ret
      exact ⟨rfl, Below.refl _ _⟩
    by_cases g3 : 2 * q ≤ p
    · clear g
      go_enter Tryd.func17, Tryd.ntmps17
      go_wp2
      go_ret
      exact ⟨rfl, Below.refl _ _⟩
    have g4 : p ≤ -2 * q := by omega
    clear g
    go_enter Tryd.func17, Tryd.ntmps17
    go_wp2
    go_ret
    exact ⟨rfl, Below.refl _ _⟩
end Go.Proofs.YtjmdknbbgmajoaaDoor
