/- Products, held: the program's (fixed.Mul). -/
import Derived.Test.YtcfbpilhgnofpaaI
import Derived.Test.YtcfbpilhgnofpaaF
namespace Go.Proofs.Ytcfbpilhgnofpaa
open Go.RowKit


theorem wrap_mul {p : Int} (h0 : -9223372036854775808 ≤ p) (h1 : p ≤ 9223372036854775807) : wrap64 p = p := wrap_in' h0 h1
/-- A product, by its factors without signs. -/
theorem mul_signs (a b : Int) : (a < 0 → b < 0 → a * b = absI a * absI b) ∧ (a < 0 → 0 ≤ b → a * b = -(absI a * absI b)) ∧ (0 ≤ a → b < 0 → a * b = -(absI a * absI b)) ∧ (0 ≤ a → 0 ≤ b → a * b = absI a * absI b) := by
  refine ⟨fun h k => ?_, fun h k => ?_, fun h k => ?_, fun h k => ?_⟩
  · rw [absI_neg h, absI_neg k, Int.neg_mul_neg]
  · rw [absI_neg h, absI_pos k, Int.neg_mul, Int.neg_neg]
  · rw [absI_pos h, absI_neg k, Int.mul_neg, Int.neg_neg]
  · rw [absI_pos h, absI_pos k]
theorem abs_mul_le {a b : Int} (h0 : -9223372036854775808 ≤ a) (h1 : a ≤ 9223372036854775807) (k0 : -9223372036854775808 ≤ b) (k1 : b ≤ 9223372036854775807) : 0 ≤ absI a * absI b ∧ absI a * absI b ≤ 85070591730234615865843651857942052864 := by
  have a0 := absI0 a
  have b0 := absI0 b
  have a1 : absI a ≤ 9223372036854775808 := absI1 h0 (by omega)
  have b1 : absI b ≤ 9223372036854775808 := absI1 k0 (by omega)
  exact ⟨Int.mul_nonneg a0 b0, by have := Int.mul_le_mul a1 b1 b0 (by omega); omega⟩
theorem mul64_int (x y : Int) (x0 : 0 ≤ x) (x1 : x < 18446744073709551616) (y0 : 0 ≤ y) (y1 : y < 18446744073709551616) (w : World) :
    Calls Try.prog 71 #[.int .u64 x, .int .u64 y] w fun e w' => e = .returned (.tuple #[.int .u64 (x * y / 18446744073709551616), .int .u64 (x * y % 18446744073709551616)]) ∧ w = w' := by
  obtain ⟨x, rfl⟩ := Int.eq_ofNat_of_zero_le x0
  obtain ⟨y, rfl⟩ := Int.eq_ofNat_of_zero_le y0
  have h := mul64_any x y (by omega) (by omega) w
  simpa using h
set_option maxHeartbeats 1000000 in
theorem fixmul_any (a b : Int) (h0 : -9223372036854775808 ≤ a) (h1 : a ≤ 9223372036854775807) (k0 : -9223372036854775808 ≤ b) (k1 : b ≤ 9223372036854775807) (w : World) :
    Calls Try.prog 46 #[.int .i64 a, .int .i64 b] w fun e w' => e = .returned (.int .i64 (holdI (a * b))) ∧ w = w' := by
  have CA := fixsize_any a h0 h1
  have CB := fixsize_any b k0 k1
  have a0 := absI0 a
  have b0 := absI0 b
  have a1 : absI a ≤ 9223372036854775808 := absI1 h0 (by omega)
  have b1 : absI b ≤ 9223372036854775808 := absI1 k0 (by omega)
  have CM := mul64_int (absI a) (absI b) a0 (by omega) b0 (by omega)
  obtain ⟨m1, m2, m3, m4⟩ := mul_signs a b
  obtain ⟨p0, p1⟩ := abs_mul_le h0 h1 k0 k1
  generalize absI a * absI b = P at *
  generalize absI a = A at *
  generalize absI b = B at *
  clear a0 b0 a1 b1
  obtain ⟨H, eH⟩ : ∃ H, H = P / 18446744073709551616 := ⟨_, rfl⟩
  obtain ⟨L, eL⟩ : ∃ L, L = P % 18446744073709551616 := ⟨_, rfl⟩
  rw [← eH, ← eL] at CM
  have eP : H * 18446744073709551616 + L = P := by omega
  have H0 : 0 ≤ H := by omega
  have L0 : 0 ≤ L := by omega
  have L1 : L < 18446744073709551616 := by omega
  have M1 := hide m1; have M2 := hide m2; have M3 := hide m3; have M4 := hide m4; have EP := hide eP
  clear m1 m2 m3 m4 eP eH eL p0 p1
  by_cases ha : a < 0
  · by_cases hb : b < 0
    · have ga : a < 0 := by omega
      have gb : b < 0 := by omega
      have e := M1.out ga gb
      have da : decide (a < 0) = true := decide_eq_true (by omega)
      have db : decide (b < 0) = true := decide_eq_true (by omega)
      by_cases hH0 : H = 0
      · by_cases hL : 9223372036854775807 < L
        · rw [holdI_hi (by have := EP.out; omega)]
          clear ga gb e
          have hH : (H != 0) = false := by simp [hH0]
          go_enter Try.func46, Try.ntmps46
          go_wp2_with (first
            | (go_at_call 72; (with_reducible refine (CA _).mono ?_); rintro e w' ⟨rfl, rfl⟩)
            | (go_at_call 72; (with_reducible refine (CB _).mono ?_); rintro e w' ⟨rfl, rfl⟩)
            | (go_at_call 71; (with_reducible refine (CM _).mono ?_); rintro e w' ⟨rfl, rfl⟩))
          go_ret
          exact ⟨rfl, rfl⟩
        · have e2 : a * b = L := by have := EP.out; omega
          rw [e, ← e, holdI_in (by omega) (by omega)]
          have W := hide (show wrap64 (a * b) = a * b from wrap_mul (by omega) (by omega))
          clear e2
          clear ga gb e
          have hH : (H != 0) = false := by simp [hH0]
          go_enter Try.func46, Try.ntmps46
          go_wp2_with (first
            | (go_at_call 72; (with_reducible refine (CA _).mono ?_); rintro e w' ⟨rfl, rfl⟩)
            | (go_at_call 72; (with_reducible refine (CB _).mono ?_); rintro e w' ⟨rfl, rfl⟩)
            | (go_at_call 71; (with_reducible refine (CM _).mono ?_); rintro e w' ⟨rfl, rfl⟩))
          go_ret
          exact ⟨ret_i64 (by first | rfl | exact W.out), rfl⟩
      · rw [holdI_hi (by have := EP.out; omega)]
        clear ga gb e
        have hH : (H != 0) = true := by simp [hH0]
        go_enter Try.func46, Try.ntmps46
        go_wp2_with (first
          | (go_at_call 72; (with_reducible refine (CA _).mono ?_); rintro e w' ⟨rfl, rfl⟩)
          | (go_at_call 72; (with_reducible refine (CB _).mono ?_); rintro e w' ⟨rfl, rfl⟩)
          | (go_at_call 71; (with_reducible refine (CM _).mono ?_); rintro e w' ⟨rfl, rfl⟩))
        go_ret
        exact ⟨rfl, rfl⟩
    · have ga : a < 0 := by omega
      have gb : 0 ≤ b := by omega
      have e := M2.out ga gb
      have da : decide (a < 0) = true := decide_eq_true (by omega)
      have db : decide (b < 0) = false := decide_eq_false (by omega)
      by_cases hH0 : H = 0
      · by_cases hL : 9223372036854775808 < L
        · rw [holdI_lo (by have := EP.out; omega)]
          clear ga gb e
          have hH : (H != 0) = false := by simp [hH0]
          go_enter Try.func46, Try.ntmps46
          go_wp2_with (first
            | (go_at_call 72; (with_reducible refine (CA _).mono ?_); rintro e w' ⟨rfl, rfl⟩)
            | (go_at_call 72; (with_reducible refine (CB _).mono ?_); rintro e w' ⟨rfl, rfl⟩)
            | (go_at_call 71; (with_reducible refine (CM _).mono ?_); rintro e w' ⟨rfl, rfl⟩))
          go_ret
          exact ⟨rfl, rfl⟩
        · have e2 : a * b = -L := by have := EP.out; omega
          rw [e, ← e, holdI_in (by omega) (by omega)]
          have W := hide (show wrap64 (a * b) = a * b from wrap_mul (by omega) (by omega))
          clear e2
          clear ga gb e
          have hH : (H != 0) = false := by simp [hH0]
          go_enter Try.func46, Try.ntmps46
          go_wp2_with (first
            | (go_at_call 72; (with_reducible refine (CA _).mono ?_); rintro e w' ⟨rfl, rfl⟩)
            | (go_at_call 72; (with_reducible refine (CB _).mono ?_); rintro e w' ⟨rfl, rfl⟩)
            | (go_at_call 71; (with_reducible refine (CM _).mono ?_); rintro e w' ⟨rfl, rfl⟩))
          go_ret
          exact ⟨ret_i64 (by first | rfl | exact W.out), rfl⟩
      · rw [holdI_lo (by have := EP.out; omega)]
        clear ga gb e
        have hH : (H != 0) = true := by simp [hH0]
        go_enter Try.func46, Try.ntmps46
        go_wp2_with (first
          | (go_at_call 72; (with_reducible refine (CA _).mono ?_); rintro e w' ⟨rfl, rfl⟩)
          | (go_at_call 72; (with_reducible refine (CB _).mono ?_); rintro e w' ⟨rfl, rfl⟩)
          | (go_at_call 71; (with_reducible refine (CM _).mono ?_); rintro e w' ⟨rfl, rfl⟩))
        go_ret
        exact ⟨rfl, rfl⟩
  · by_cases hb : b < 0
    · have ga : 0 ≤ a := by omega
      have gb : b < 0 := by omega
      have e := M3.out ga gb
      have da : decide (a < 0) = false := decide_eq_false (by omega)
      have db : decide (b < 0) = true := decide_eq_true (by omega)
      by_cases hH0 : H = 0
      · by_cases hL : 9223372036854775808 < L
        · rw [holdI_lo (by have := EP.out; omega)]
          clear ga gb e
          have hH : (H != 0) = false := by simp [hH0]
          go_enter Try.func46, Try.ntmps46
          go_wp2_with (first
            | (go_at_call 72; (with_reducible refine (CA _).mono ?_); rintro e w' ⟨rfl, rfl⟩)
            | (go_at_call 72; (with_reducible refine (CB _).mono ?_); rintro e w' ⟨rfl, rfl⟩)
            | (go_at_call 71; (with_reducible refine (CM _).mono ?_); rintro e w' ⟨rfl, rfl⟩))
          go_ret
          exact ⟨rfl, rfl⟩
        · have e2 : a * b = -L := by have := EP.out; omega
          rw [e, ← e, holdI_in (by omega) (by omega)]
          have W := hide (show wrap64 (a * b) = a * b from wrap_mul (by omega) (by omega))
          clear e2
          clear ga gb e
          have hH : (H != 0) = false := by simp [hH0]
          go_enter Try.func46, Try.ntmps46
          go_wp2_with (first
            | (go_at_call 72; (with_reducible refine (CA _).mono ?_); rintro e w' ⟨rfl, rfl⟩)
            | (go_at_call 72; (with_reducible refine (CB _).mono ?_); rintro e w' ⟨rfl, rfl⟩)
            | (go_at_call 71; (with_reducible refine (CM _).mono ?_); rintro e w' ⟨rfl, rfl⟩))
          go_ret
          exact ⟨ret_i64 (by first | rfl | exact W.out), rfl⟩
      · rw [holdI_lo (by have := EP.out; omega)]
        clear ga gb e
        have hH : (H != 0) = true := by simp [hH0]
        go_enter Try.func46, Try.ntmps46
        go_wp2_with (first
          | (go_at_call 72; (with_reducible refine (CA _).mono ?_); rintro e w' ⟨rfl, rfl⟩)
          | (go_at_call 72; (with_reducible refine (CB _).mono ?_); rintro e w' ⟨rfl, rfl⟩)
          | (go_at_call 71; (with_reducible refine (CM _).mono ?_); rintro e w' ⟨rfl, rfl⟩))
        go_ret
        exact ⟨rfl, rfl⟩
    · have ga : 0 ≤ a := by omega
      have gb : 0 ≤ b := by omega
      have e := M4.out ga gb
      have da : decide (a < 0) = false := decide_eq_false (by omega)
      have db : decide (b < 0) = false := decide_eq_false (by omega)
      by_cases hH0 : H = 0
      · by_cases hL : 9223372036854775807 < L
        · rw [holdI_hi (by have := EP.out; omega)]
          clear ga gb e
          have hH : (H != 0) = false := by simp [hH0]
          go_enter Try.func46, Try.ntmps46
          go_wp2_with (first
            | (go_at_call 72; (with_reducible refine (CA _).mono ?_); rintro e w' ⟨rfl, rfl⟩)
            | (go_at_call 72; (with_reducible refine (CB _).mono ?_); rintro e w' ⟨rfl, rfl⟩)
            | (go_at_call 71; (with_reducible refine (CM _).mono ?_); rintro e w' ⟨rfl, rfl⟩))
          go_ret
          exact ⟨rfl, rfl⟩
        · have e2 : a * b = L := by have := EP.out; omega
          rw [e, ← e, holdI_in (by omega) (by omega)]
          have W := hide (show wrap64 (a * b) = a * b from wrap_mul (by omega) (by omega))
          clear e2
          clear ga gb e
          have hH : (H != 0) = false := by simp [hH0]
          go_enter Try.func46, Try.ntmps46
          go_wp2_with (first
            | (go_at_call 72; (with_reducible refine (CA _).mono ?_); rintro e w' ⟨rfl, rfl⟩)
            | (go_at_call 72; (with_reducible refine (CB _).mono ?_); rintro e w' ⟨rfl, rfl⟩)
            | (go_at_call 71; (with_reducible refine (CM _).mono ?_); rintro e w' ⟨rfl, rfl⟩))
          go_ret
          exact ⟨ret_i64 (by first | rfl | exact W.out), rfl⟩
      · rw [holdI_hi (by have := EP.out; omega)]
        clear ga gb e
        have hH : (H != 0) = true := by simp [hH0]
        go_enter Try.func46, Try.ntmps46
        go_wp2_with (first
          | (go_at_call 72; (with_reducible refine (CA _).mono ?_); rintro e w' ⟨rfl, rfl⟩)
          | (go_at_call 72; (with_reducible refine (CB _).mono ?_); rintro e w' ⟨rfl, rfl⟩)
          | (go_at_call 71; (with_reducible refine (CM _).mono ?_); rintro e w' ⟨rfl, rfl⟩))
        go_ret
        exact ⟨rfl, rfl⟩
end Go.Proofs.Ytcfbpilhgnofpaa
