/- The law on sums, products and bounds, held. -/
import Derived.Test.YtgkcbbnhhaobcaaJ
import Derived.Deep.RegionHeld3
import Derived.Deep.DeepCutAuto
namespace Go.Proofs.Ytgkcbbnhhaobcaa
open Go.RowKit

theorem new0 (w : World) (u v : Value) (t : TypeId) : (w.alloc (.cells #[u, v] t)).cell? ⟨w.heap.size, 0, none⟩ = some u := by simp
theorem new1 (w : World) (u v : Value) (t : TypeId) : (w.alloc (.cells #[u, v] t)).cell? ⟨w.heap.size, 1, none⟩ = some v := by simp
theorem new_lt (w : World) (o : Obj) : w.heap.size < (w.alloc o).heap.size := by simp
theorem plus_lows (a b : Int) (a0 : 0 ≤ a) (a1 : a < 18446744073709551616) (b0 : 0 ≤ b) (b1 : b < 18446744073709551616) (w : World) :
    Calls Try.prog 21 #[.agg #[.int .u64 0, .int .u64 a], .agg #[.int .u64 0, .int .u64 b]] w fun e w' => e = .returned (.agg #[.int .u64 (hi (a + b)), .int .u64 (lo (a + b))]) ∧ Below w.heap.size w w' := by
  have h := plus_any a b a0 b0 (by omega) w
  rw [hi_small a0 a1, lo_small a0 a1, hi_small b0 b1, lo_small b0 b1] at h
  exact h
theorem hold_to (x m : Int) (t : Bool) (hm : holdI (signI x t) = m) (h0 : 0 ≤ x) (h1 : x < 340282366920938463463374607431768211456) (w : World) :
    Calls Try.prog 19 #[.agg #[.int .u64 (hi x), .int .u64 (lo x)], .bool t] w fun e w' => e = .returned (.int .i64 m) ∧ Below w.heap.size w w' := by
  subst hm
  exact hold_any x t h0 h1 w

set_option maxHeartbeats 2000000 in
theorem law_FixedHolds (a b x : Int) (ha : -9223372036854775808 ≤ a ∧ a ≤ 9223372036854775807) (hb : -9223372036854775808 ≤ b ∧ b ≤ 9223372036854775807) (_hx : -9223372036854775808 ≤ x ∧ x ≤ 9223372036854775807) (w : World) :
    Calls Try.prog 6 #[.int .i64 a, .int .i64 b, .int .i64 x] w fun e w' => e = .returned (.bool true) ∧ Below w.heap.size w w' := by
  obtain ⟨h0, h1⟩ := ha
  obtain ⟨k0, k1⟩ := hb
  have C1 := fixmul_any a b h0 h1 k0 k1
  have C2 := fixmul_any b a k0 k1 h0 h1
  rw [Int.mul_comm b a] at C2
  have C3 := fixadd_any a b h0 h1 k0 k1
  have CA := refsize_any a h0 h1
  have CB := refsize_any b k0 k1
  have A0 := absI0 a
  have B0 := absI0 b
  have A1 : absI a ≤ 9223372036854775808 := absI1 h0 (by omega)
  have B1 : absI b ≤ 9223372036854775808 := absI1 k0 (by omega)
  have CT := times_any (absI a) (absI b) A0 (by omega) B0 (by omega)
  have CP := plus_lows (absI a) (absI b) A0 (by omega) B0 (by omega)
  have CC := fixclamp_any x a b
  obtain ⟨m1, m2, m3, m4⟩ := mul_signs a b
  obtain ⟨p0, p1⟩ := abs_mul_le h0 h1 k0 k1

  by_cases ha : a < 0
  · by_cases hb : b < 0
    · have ga : a < 0 := by omega
      have gb : b < 0 := by omega
      have da : decide (a < 0) = true := decide_eq_true (by omega)
      have db : decide (b < 0) = true := decide_eq_true (by omega)
      have CH := hold_to (absI a * absI b) (holdI (a * b)) false (by rw [m1 ga gb]; rfl) p0 (by omega)
      have CI := hold_to (absI a + absI b) (holdI (a + b)) true (by rw [absI_neg ga, absI_neg gb]; unfold signI; rw [if_pos rfl]; congr 1; omega) (by omega) (by omega)
      generalize holdI (a + b) = s at *
      generalize holdI (a * b) = m at *
      generalize absI a * absI b = P at *
      generalize absI a + absI b = T at *
      generalize absI a = A at *
      generalize absI b = B at *
      clear m1 m2 m3 m4 A0 A1 B0 B1 p0 p1 ha hb
      go_enter Try.func6, Try.ntmps6
      go_wp2_with (first
        | (go_at_call 8; (with_reducible refine (lives _).mono ?_); rintro e w0 ⟨rfl, b0⟩)
        | (go_at_call 17; (with_reducible refine (CA _).mono ?_); rintro e w' ⟨rfl, rfl⟩)
        | (go_at_call 17; (with_reducible refine (CB _).mono ?_); rintro e w' ⟨rfl, rfl⟩)
        | (go_at_call 16; (with_reducible refine (CT _).mono ?_); rintro e w1 ⟨rfl, b1⟩))
      have n0 := new0 w1 (.int .u64 (hi P)) (.int .u64 (lo P)) 29
      have n1 := new1 w1 (.int .u64 (hi P)) (.int .u64 (lo P)) 29
      have n2 := new_lt w1 (.cells #[.int .u64 (hi P), .int .u64 (lo P)] 29)
      go_region_held3 (fun w' => w'.cell? ⟨w1.heap.size, 0, none⟩ = some (.int .u64 (hi P)) ∧ w'.cell? ⟨w1.heap.size, 1, none⟩ = some (.int .u64 (lo P)))
        (first | exact ⟨n0, n1⟩ | exact ⟨y0, y1⟩)
        (first
          | (go_at_call 18; (with_reducible refine (C1 _).mono ?_); rintro e w' ⟨rfl, rfl⟩)
          | (go_at_call 18; (with_reducible refine (C2 _).mono ?_); rintro e w' ⟨rfl, rfl⟩)
          | (go_at_call 19; (with_reducible refine (CH _).mono ?_); rintro e w2 ⟨rfl, b2⟩; have y0 := cb b2 n2 n0; have y1 := cb b2 n2 n1))
      clear n0 n1 n2 y0 y1
      go_upto_region 13 with (first
        | (go_at_call 20; (with_reducible refine (C3 _).mono ?_); rintro e w' ⟨rfl, rfl⟩)
        | (go_at_call 17; (with_reducible refine (CA _).mono ?_); rintro e w' ⟨rfl, rfl⟩)
        | (go_at_call 17; (with_reducible refine (CB _).mono ?_); rintro e w' ⟨rfl, rfl⟩)
        | (go_at_call 21; (with_reducible refine (CP _).mono ?_); rintro e w3 ⟨rfl, b3⟩)
        | (go_at_call 19; (with_reducible refine (CI _).mono ?_); rintro e w4 ⟨rfl, b4⟩))
      clear C1 C2 C3 CA CB CT CP CH da db ga gb CI
      by_cases c1 : b < a
      · rw [show clampF x a b = a from if_pos (Or.inr c1)] at CC
        go_wp2_with (go_at_call 22; (with_reducible refine (CC _).mono ?_); rintro e w' ⟨rfl, rfl⟩)
        go_ret
        refine ⟨rfl, ?_⟩
        repeat (first | exact Below.refl _ _ | with_reducible refine ba ?_ _ | with_reducible refine bs ?_ (by omega) _ | with_reducible refine bd ?_ | (with_reducible refine bt ?_ (by assumption)))
      by_cases c2 : x < a
      · rw [show clampF x a b = a from if_pos (Or.inl c2)] at CC
        go_wp2_with (go_at_call 22; (with_reducible refine (CC _).mono ?_); rintro e w' ⟨rfl, rfl⟩)
        go_ret
        refine ⟨rfl, ?_⟩
        repeat (first | exact Below.refl _ _ | with_reducible refine ba ?_ _ | with_reducible refine bs ?_ (by omega) _ | with_reducible refine bd ?_ | (with_reducible refine bt ?_ (by assumption)))
      have e0 : clampF x a b = if b < x then b else x := if_neg (by omega)
      by_cases c3 : b < x
      · rw [show clampF x a b = b from e0.trans (if_pos c3)] at CC
        clear e0
        go_wp2_with (go_at_call 22; (with_reducible refine (CC _).mono ?_); rintro e w' ⟨rfl, rfl⟩)
        go_ret
        refine ⟨rfl, ?_⟩
        repeat (first | exact Below.refl _ _ | with_reducible refine ba ?_ _ | with_reducible refine bs ?_ (by omega) _ | with_reducible refine bd ?_ | (with_reducible refine bt ?_ (by assumption)))
      · rw [show clampF x a b = x from e0.trans (if_neg c3)] at CC
        clear e0
        go_wp2_with (go_at_call 22; (with_reducible refine (CC _).mono ?_); rintro e w' ⟨rfl, rfl⟩)
        go_ret
        refine ⟨rfl, ?_⟩
        repeat (first | exact Below.refl _ _ | with_reducible refine ba ?_ _ | with_reducible refine bs ?_ (by omega) _ | with_reducible refine bd ?_ | (with_reducible refine bt ?_ (by assumption)))
    · have ga : a < 0 := by omega
      have gb : 0 ≤ b := by omega
      have da : decide (a < 0) = true := decide_eq_true (by omega)
      have db : decide (b < 0) = false := decide_eq_false (by omega)
      have CH := hold_to (absI a * absI b) (holdI (a * b)) true (by rw [m2 ga gb]; rfl) p0 (by omega)
      rw [holdI_in (by omega) (by omega)] at C3
      generalize holdI (a * b) = m at *
      generalize absI a * absI b = P at *
      generalize absI a = A at *
      generalize absI b = B at *
      clear m1 m2 m3 m4 A0 A1 B0 B1 p0 p1 ha hb
      go_enter Try.func6, Try.ntmps6
      go_wp2_with (first
        | (go_at_call 8; (with_reducible refine (lives _).mono ?_); rintro e w0 ⟨rfl, b0⟩)
        | (go_at_call 17; (with_reducible refine (CA _).mono ?_); rintro e w' ⟨rfl, rfl⟩)
        | (go_at_call 17; (with_reducible refine (CB _).mono ?_); rintro e w' ⟨rfl, rfl⟩)
        | (go_at_call 16; (with_reducible refine (CT _).mono ?_); rintro e w1 ⟨rfl, b1⟩))
      have n0 := new0 w1 (.int .u64 (hi P)) (.int .u64 (lo P)) 29
      have n1 := new1 w1 (.int .u64 (hi P)) (.int .u64 (lo P)) 29
      have n2 := new_lt w1 (.cells #[.int .u64 (hi P), .int .u64 (lo P)] 29)
      go_region_held3 (fun w' => w'.cell? ⟨w1.heap.size, 0, none⟩ = some (.int .u64 (hi P)) ∧ w'.cell? ⟨w1.heap.size, 1, none⟩ = some (.int .u64 (lo P)))
        (first | exact ⟨n0, n1⟩ | exact ⟨y0, y1⟩)
        (first
          | (go_at_call 18; (with_reducible refine (C1 _).mono ?_); rintro e w' ⟨rfl, rfl⟩)
          | (go_at_call 18; (with_reducible refine (C2 _).mono ?_); rintro e w' ⟨rfl, rfl⟩)
          | (go_at_call 19; (with_reducible refine (CH _).mono ?_); rintro e w2 ⟨rfl, b2⟩; have y0 := cb b2 n2 n0; have y1 := cb b2 n2 n1))
      clear n0 n1 n2 y0 y1
      go_upto_region 13 with (first
        | (go_at_call 20; (with_reducible refine (C3 _).mono ?_); rintro e w' ⟨rfl, rfl⟩))
      clear C1 C2 C3 CA CB CT CP CH da db ga gb
      by_cases c1 : b < a
      · rw [show clampF x a b = a from if_pos (Or.inr c1)] at CC
        go_wp2_with (go_at_call 22; (with_reducible refine (CC _).mono ?_); rintro e w' ⟨rfl, rfl⟩)
        go_ret
        refine ⟨rfl, ?_⟩
        repeat (first | exact Below.refl _ _ | with_reducible refine ba ?_ _ | with_reducible refine bs ?_ (by omega) _ | with_reducible refine bd ?_ | (with_reducible refine bt ?_ (by assumption)))
      by_cases c2 : x < a
      · rw [show clampF x a b = a from if_pos (Or.inl c2)] at CC
        go_wp2_with (go_at_call 22; (with_reducible refine (CC _).mono ?_); rintro e w' ⟨rfl, rfl⟩)
        go_ret
        refine ⟨rfl, ?_⟩
        repeat (first | exact Below.refl _ _ | with_reducible refine ba ?_ _ | with_reducible refine bs ?_ (by omega) _ | with_reducible refine bd ?_ | (with_reducible refine bt ?_ (by assumption)))
      have e0 : clampF x a b = if b < x then b else x := if_neg (by omega)
      by_cases c3 : b < x
      · rw [show clampF x a b = b from e0.trans (if_pos c3)] at CC
        clear e0
        go_wp2_with (go_at_call 22; (with_reducible refine (CC _).mono ?_); rintro e w' ⟨rfl, rfl⟩)
        go_ret
        refine ⟨rfl, ?_⟩
        repeat (first | exact Below.refl _ _ | with_reducible refine ba ?_ _ | with_reducible refine bs ?_ (by omega) _ | with_reducible refine bd ?_ | (with_reducible refine bt ?_ (by assumption)))
      · rw [show clampF x a b = x from e0.trans (if_neg c3)] at CC
        clear e0
        go_wp2_with (go_at_call 22; (with_reducible refine (CC _).mono ?_); rintro e w' ⟨rfl, rfl⟩)
        go_ret
        refine ⟨rfl, ?_⟩
        repeat (first | exact Below.refl _ _ | with_reducible refine ba ?_ _ | with_reducible refine bs ?_ (by omega) _ | with_reducible refine bd ?_ | (with_reducible refine bt ?_ (by assumption)))
  · by_cases hb : b < 0
    · have ga : 0 ≤ a := by omega
      have gb : b < 0 := by omega
      have da : decide (a < 0) = false := decide_eq_false (by omega)
      have db : decide (b < 0) = true := decide_eq_true (by omega)
      have CH := hold_to (absI a * absI b) (holdI (a * b)) true (by rw [m3 ga gb]; rfl) p0 (by omega)
      rw [holdI_in (by omega) (by omega)] at C3
      generalize holdI (a * b) = m at *
      generalize absI a * absI b = P at *
      generalize absI a = A at *
      generalize absI b = B at *
      clear m1 m2 m3 m4 A0 A1 B0 B1 p0 p1 ha hb
      go_enter Try.func6, Try.ntmps6
      go_wp2_with (first
        | (go_at_call 8; (with_reducible refine (lives _).mono ?_); rintro e w0 ⟨rfl, b0⟩)
        | (go_at_call 17; (with_reducible refine (CA _).mono ?_); rintro e w' ⟨rfl, rfl⟩)
        | (go_at_call 17; (with_reducible refine (CB _).mono ?_); rintro e w' ⟨rfl, rfl⟩)
        | (go_at_call 16; (with_reducible refine (CT _).mono ?_); rintro e w1 ⟨rfl, b1⟩))
      have n0 := new0 w1 (.int .u64 (hi P)) (.int .u64 (lo P)) 29
      have n1 := new1 w1 (.int .u64 (hi P)) (.int .u64 (lo P)) 29
      have n2 := new_lt w1 (.cells #[.int .u64 (hi P), .int .u64 (lo P)] 29)
      go_region_held3 (fun w' => w'.cell? ⟨w1.heap.size, 0, none⟩ = some (.int .u64 (hi P)) ∧ w'.cell? ⟨w1.heap.size, 1, none⟩ = some (.int .u64 (lo P)))
        (first | exact ⟨n0, n1⟩ | exact ⟨y0, y1⟩)
        (first
          | (go_at_call 18; (with_reducible refine (C1 _).mono ?_); rintro e w' ⟨rfl, rfl⟩)
          | (go_at_call 18; (with_reducible refine (C2 _).mono ?_); rintro e w' ⟨rfl, rfl⟩)
          | (go_at_call 19; (with_reducible refine (CH _).mono ?_); rintro e w2 ⟨rfl, b2⟩; have y0 := cb b2 n2 n0; have y1 := cb b2 n2 n1))
      clear n0 n1 n2 y0 y1
      go_upto_region 13 with (first
        | (go_at_call 20; (with_reducible refine (C3 _).mono ?_); rintro e w' ⟨rfl, rfl⟩))
      clear C1 C2 C3 CA CB CT CP CH da db ga gb
      by_cases c1 : b < a
      · rw [show clampF x a b = a from if_pos (Or.inr c1)] at CC
        go_wp2_with (go_at_call 22; (with_reducible refine (CC _).mono ?_); rintro e w' ⟨rfl, rfl⟩)
        go_ret
        refine ⟨rfl, ?_⟩
        repeat (first | exact Below.refl _ _ | with_reducible refine ba ?_ _ | with_reducible refine bs ?_ (by omega) _ | with_reducible refine bd ?_ | (with_reducible refine bt ?_ (by assumption)))
      by_cases c2 : x < a
      · rw [show clampF x a b = a from if_pos (Or.inl c2)] at CC
        go_wp2_with (go_at_call 22; (with_reducible refine (CC _).mono ?_); rintro e w' ⟨rfl, rfl⟩)
        go_ret
        refine ⟨rfl, ?_⟩
        repeat (first | exact Below.refl _ _ | with_reducible refine ba ?_ _ | with_reducible refine bs ?_ (by omega) _ | with_reducible refine bd ?_ | (with_reducible refine bt ?_ (by assumption)))
      have e0 : clampF x a b = if b < x then b else x := if_neg (by omega)
      by_cases c3 : b < x
      · rw [show clampF x a b = b from e0.trans (if_pos c3)] at CC
        clear e0
        go_wp2_with (go_at_call 22; (with_reducible refine (CC _).mono ?_); rintro e w' ⟨rfl, rfl⟩)
        go_ret
        refine ⟨rfl, ?_⟩
        repeat (first | exact Below.refl _ _ | with_reducible refine ba ?_ _ | with_reducible refine bs ?_ (by omega) _ | with_reducible refine bd ?_ | (with_reducible refine bt ?_ (by assumption)))
      · rw [show clampF x a b = x from e0.trans (if_neg c3)] at CC
        clear e0
        go_wp2_with (go_at_call 22; (with_reducible refine (CC _).mono ?_); rintro e w' ⟨rfl, rfl⟩)
        go_ret
        refine ⟨rfl, ?_⟩
        repeat (first | exact Below.refl _ _ | with_reducible refine ba ?_ _ | with_reducible refine bs ?_ (by omega) _ | with_reducible refine bd ?_ | (with_reducible refine bt ?_ (by assumption)))
    · have ga : 0 ≤ a := by omega
      have gb : 0 ≤ b := by omega
      have da : decide (a < 0) = false := decide_eq_false (by omega)
      have db : decide (b < 0) = false := decide_eq_false (by omega)
      have CH := hold_to (absI a * absI b) (holdI (a * b)) false (by rw [m4 ga gb]; rfl) p0 (by omega)
      have CI := hold_to (absI a + absI b) (holdI (a + b)) false (by rw [absI_pos ga, absI_pos gb]; rfl) (by omega) (by omega)
      generalize holdI (a + b) = s at *
      generalize holdI (a * b) = m at *
      generalize absI a * absI b = P at *
      generalize absI a + absI b = T at *
      generalize absI a = A at *
      generalize absI b = B at *
      clear m1 m2 m3 m4 A0 A1 B0 B1 p0 p1 ha hb
      go_enter Try.func6, Try.ntmps6
      go_wp2_with (first
        | (go_at_call 8; (with_reducible refine (lives _).mono ?_); rintro e w0 ⟨rfl, b0⟩)
        | (go_at_call 17; (with_reducible refine (CA _).mono ?_); rintro e w' ⟨rfl, rfl⟩)
        | (go_at_call 17; (with_reducible refine (CB _).mono ?_); rintro e w' ⟨rfl, rfl⟩)
        | (go_at_call 16; (with_reducible refine (CT _).mono ?_); rintro e w1 ⟨rfl, b1⟩))
      have n0 := new0 w1 (.int .u64 (hi P)) (.int .u64 (lo P)) 29
      have n1 := new1 w1 (.int .u64 (hi P)) (.int .u64 (lo P)) 29
      have n2 := new_lt w1 (.cells #[.int .u64 (hi P), .int .u64 (lo P)] 29)
      go_region_held3 (fun w' => w'.cell? ⟨w1.heap.size, 0, none⟩ = some (.int .u64 (hi P)) ∧ w'.cell? ⟨w1.heap.size, 1, none⟩ = some (.int .u64 (lo P)))
        (first | exact ⟨n0, n1⟩ | exact ⟨y0, y1⟩)
        (first
          | (go_at_call 18; (with_reducible refine (C1 _).mono ?_); rintro e w' ⟨rfl, rfl⟩)
          | (go_at_call 18; (with_reducible refine (C2 _).mono ?_); rintro e w' ⟨rfl, rfl⟩)
          | (go_at_call 19; (with_reducible refine (CH _).mono ?_); rintro e w2 ⟨rfl, b2⟩; have y0 := cb b2 n2 n0; have y1 := cb b2 n2 n1))
      clear n0 n1 n2 y0 y1
      go_upto_region 13 with (first
        | (go_at_call 20; (with_reducible refine (C3 _).mono ?_); rintro e w' ⟨rfl, rfl⟩)
        | (go_at_call 17; (with_reducible refine (CA _).mono ?_); rintro e w' ⟨rfl, rfl⟩)
        | (go_at_call 17; (with_reducible refine (CB _).mono ?_); rintro e w' ⟨rfl, rfl⟩)
        | (go_at_call 21; (with_reducible refine (CP _).mono ?_); rintro e w3 ⟨rfl, b3⟩)
        | (go_at_call 19; (with_reducible refine (CI _).mono ?_); rintro e w4 ⟨rfl, b4⟩))
      clear C1 C2 C3 CA CB CT CP CH da db ga gb CI
      by_cases c1 : b < a
      · rw [show clampF x a b = a from if_pos (Or.inr c1)] at CC
        go_wp2_with (go_at_call 22; (with_reducible refine (CC _).mono ?_); rintro e w' ⟨rfl, rfl⟩)
        go_ret
        refine ⟨rfl, ?_⟩
        repeat (first | exact Below.refl _ _ | with_reducible refine ba ?_ _ | with_reducible refine bs ?_ (by omega) _ | with_reducible refine bd ?_ | (with_reducible refine bt ?_ (by assumption)))
      by_cases c2 : x < a
      · rw [show clampF x a b = a from if_pos (Or.inl c2)] at CC
        go_wp2_with (go_at_call 22; (with_reducible refine (CC _).mono ?_); rintro e w' ⟨rfl, rfl⟩)
        go_ret
        refine ⟨rfl, ?_⟩
        repeat (first | exact Below.refl _ _ | with_reducible refine ba ?_ _ | with_reducible refine bs ?_ (by omega) _ | with_reducible refine bd ?_ | (with_reducible refine bt ?_ (by assumption)))
      have e0 : clampF x a b = if b < x then b else x := if_neg (by omega)
      by_cases c3 : b < x
      · rw [show clampF x a b = b from e0.trans (if_pos c3)] at CC
        clear e0
        go_wp2_with (go_at_call 22; (with_reducible refine (CC _).mono ?_); rintro e w' ⟨rfl, rfl⟩)
        go_ret
        refine ⟨rfl, ?_⟩
        repeat (first | exact Below.refl _ _ | with_reducible refine ba ?_ _ | with_reducible refine bs ?_ (by omega) _ | with_reducible refine bd ?_ | (with_reducible refine bt ?_ (by assumption)))
      · rw [show clampF x a b = x from e0.trans (if_neg c3)] at CC
        clear e0
        go_wp2_with (go_at_call 22; (with_reducible refine (CC _).mono ?_); rintro e w' ⟨rfl, rfl⟩)
        go_ret
        refine ⟨rfl, ?_⟩
        repeat (first | exact Below.refl _ _ | with_reducible refine ba ?_ _ | with_reducible refine bs ?_ (by omega) _ | with_reducible refine bd ?_ | (with_reducible refine bt ?_ (by assumption)))
end Go.Proofs.Ytgkcbbnhhaobcaa
