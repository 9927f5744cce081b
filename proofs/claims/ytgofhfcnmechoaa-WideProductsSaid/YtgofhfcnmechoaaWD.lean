/- The document's answers for long numbers (layer 2): going round, signs, bits of a number. -/
import Derived.Test.YtgofhfcnmechoaaWA
namespace Go.Proofs.Ytgofhfcnmechoaa
open Go.RowKit

theorem round_hi {x y : Int} (h0 : 0 ≤ x) (k0 : 0 ≤ y) (h1 : x < 340282366920938463463374607431768211456) (k1 : y < 340282366920938463463374607431768211456) (h : 340282366920938463463374607431768211456 ≤ x + y) : bitsL (x + y) = x + y - 340282366920938463463374607431768211456 := by unfold bitsL; omega
set_option maxHeartbeats 1000000 in
theorem plus_round (x y : Int) (h0 : 0 ≤ x) (k0 : 0 ≤ y) (h1 : x < 340282366920938463463374607431768211456) (k1 : y < 340282366920938463463374607431768211456) (w : World) :
    Calls Try.prog 19 #[.agg #[.int .u64 (hi x), .int .u64 (lo x)], .agg #[.int .u64 (hi y), .int .u64 (lo y)]] w fun e w' => e = .returned (.agg #[.int .u64 (hi (bitsL (x + y))), .int .u64 (lo (bitsL (x + y)))]) ∧ Below w.heap.size w w' := by
  by_cases hs : x + y < 340282366920938463463374607431768211456
  · rw [bitsL_pos (by omega) hs]
    exact plus_any x y h0 k0 hs w
  rw [round_hi h0 k0 h1 k1 (by omega)]
  have l0 := lo0 x
  have l1 := lo1 x
  have m0 := lo0 y
  have m1 := lo1 y
  have g0 := hi0 h0
  have g1 := hi0 k0
  have g2 := hi1 h1
  have g3 := hi1 k1
  have E := hide (hl x)
  have F := hide (hl y)
  have G := hide hs
  clear h0 k0 h1 k1 hs
  by_cases h : lo x + lo y < 18446744073709551616
  · have s1 : IntKind.u64.wrap (hi x + hi y) = hi x + hi y - 18446744073709551616 := by have := E.out; have := F.out; have := G.out; rw [IntKind.wrap_u64]; omega
    have S1 := hide s1
    clear s1
    go_enter Try.func19, Try.ntmps19
    go_wp2
    all_goals simp [bodyPost, results, Try.results19, go_sem]
    have e := E.out
    have f := F.out
    exact ⟨big_of (by rw [S1.out]; omega) (by omega) (by omega), below4 _ _ _ _ _⟩
  · go_enter Try.func19, Try.ntmps19
    go_wp2
    all_goals simp [bodyPost, results, Try.results19, go_sem]
    all_goals
      rename_i hc
      have e := E.out
      have f := F.out
      have g := G.out
      have w1 : IntKind.u64.wrap (lo x + lo y) = lo x + lo y - 18446744073709551616 := by rw [IntKind.wrap_u64]; omega
      have w2 : IntKind.u64.wrap (IntKind.u64.wrap (hi x + hi y) + 1) = hi x + hi y + 1 - 18446744073709551616 := by rw [IntKind.wrap_u64, IntKind.wrap_u64]; omega
      rw [w1] at hc
      first
        | omega
        | (rw [w1, w2]; exact ⟨big_of (by omega) (by omega) (by omega), below4 _ _ _ _ _⟩)
theorem plus_round_to (x y : Int) (z h l : Int) (hz : bitsL (x + y) = z) (eh : h = hi y) (el : l = lo y) (h0 : 0 ≤ x) (k0 : 0 ≤ y) (h1 : x < 340282366920938463463374607431768211456) (k1 : y < 340282366920938463463374607431768211456) (w : World) :
    Calls Try.prog 19 #[.agg #[.int .u64 (hi x), .int .u64 (lo x)], .agg #[.int .u64 h, .int .u64 l]] w fun e w' => e = .returned (.agg #[.int .u64 (hi z), .int .u64 (lo z)]) ∧ Below w.heap.size w w' := by
  subst hz; subst eh; subst el
  exact plus_round x y h0 k0 h1 k1 w

theorem notL (x : Int) : 18446744073709551615 - hi x = hi (340282366920938463463374607431768211455 - x) ∧ 18446744073709551615 - lo x = lo (340282366920938463463374607431768211455 - x) := by
  have e := hl x
  have l0 := lo0 x
  have l1 := lo1 x
  exact big_of (by omega) (by omega) (by omega)
/-- The document's turned sign. -/
theorem refneg_any (x z : Int) (hz : bitsL (-x) = z) (h0 : 0 ≤ x) (h1 : x < 340282366920938463463374607431768211456) (w : World) :
    Calls Try.prog 21 #[.agg #[.int .u64 (hi x), .int .u64 (lo x)]] w fun e w' => e = .returned (.agg #[.int .u64 (hi z), .int .u64 (lo z)]) ∧ Below w.heap.size w w' := by
  have l0 := lo0 x
  have l1 := lo1 x
  have g0 := hi0 h0
  have g1 := hi1 h1
  obtain ⟨n1, n2⟩ := notL x
  have CP : ∀ w : World, Calls Try.prog 19 #[.agg #[.int .u64 (18446744073709551615 - hi x), .int .u64 (18446744073709551615 - lo x)], .agg #[.int .u64 0, .int .u64 1]] w fun e w' => e = .returned (.agg #[.int .u64 (hi z), .int .u64 (lo z)]) ∧ Below w.heap.size w w' := by
    rw [n1, n2]
    exact plus_round_to _ 1 z 0 1 (by rw [← hz]; unfold bitsL; omega) rfl rfl (by omega) (by omega) (by omega) (by omega)
  clear n1 n2 h0 h1
  go_enter Try.func21, Try.ntmps21
  go_wp2_with (first
    | (go_at_call 19; (with_reducible refine (CP _).mono ?_); rintro e w2 ⟨rfl, b2⟩;
              have q0 : w2.cell? ⟨w.heap.size + 1, 0, none⟩ = some (.int .u64 0) := cb b2 (by simp) (by simp);
              have q1 : w2.cell? ⟨w.heap.size + 1, 1, none⟩ = some (.int .u64 0) := cb b2 (by simp) (by simp);
              have q2 : w2.frozen? ⟨w.heap.size + 1, 0, none⟩ = false := fb b2 (by simp) (by simp);
              have q3 : w2.frozen? ⟨w.heap.size + 1, 1, none⟩ = false := fb b2 (by simp) (by simp)))
  refine bodyPost_ret (v := .agg #[.int .u64 (hi z), .int .u64 (lo z)]) (by simp [results, Try.results21, go_sem, q0, q1]) rfl ⟨rfl, ?_⟩
  repeat (first | exact Below.refl _ _ | with_reducible refine ba ?_ _ | with_reducible refine bs ?_ (by omega) _ | with_reducible refine bd ?_ | (with_reducible refine bt ?_ (by assumption)))
theorem refbits_any (x : Int) (h0 : -9223372036854775808 ≤ x) (h1 : x ≤ 9223372036854775807) (w : World) :
    Calls Try.prog 25 #[.int .i64 x] w fun e w' => e = .returned (.agg #[.int .u64 (hi (bitsL x)), .int .u64 (lo (bitsL x))]) ∧ Below w.heap.size w w' := by
  have CS := refsize_any x h0 h1
  have A0 := absI0 x
  have A1 : absI x ≤ 9223372036854775808 := absI1 h0 (by omega)
  by_cases hx : x < 0
  · have dx : decide (x < 0) = true := decide_eq_true hx
    have CN := refneg_any (absI x) (bitsL x) (by rw [absI_neg hx, Int.neg_neg]) A0 (by omega)
    rw [hi_small A0 (by omega), lo_small A0 (by omega)] at CN
    generalize bitsL x = z at *
    generalize absI x = A at *
    clear hx A0 A1
    go_enter Try.func25, Try.ntmps25
    go_wp2_with (first
      | (go_at_call 31; (with_reducible refine (CS _).mono ?_); rintro e w' ⟨rfl, rfl⟩)
      | (go_at_call 21; (with_reducible refine (CN _).mono ?_); rintro e w2 ⟨rfl, b2⟩;
              have q0 : w2.cell? ⟨w.heap.size, 0, none⟩ = some (.int .u64 0) := cb b2 (by simp; omega) (by simp);
              have q1 : w2.cell? ⟨w.heap.size, 1, none⟩ = some (.int .u64 0) := cb b2 (by simp; omega) (by simp);
              have q2 : w2.frozen? ⟨w.heap.size, 0, none⟩ = false := fb b2 (by simp; omega) (by simp);
              have q3 : w2.frozen? ⟨w.heap.size, 1, none⟩ = false := fb b2 (by simp; omega) (by simp)))
    refine bodyPost_ret (v := .agg #[.int .u64 (hi z), .int .u64 (lo z)]) (by simp [results, Try.results25, go_sem, q0, q1]) rfl ⟨rfl, ?_⟩
    repeat (first | exact Below.refl _ _ | with_reducible refine ba ?_ _ | with_reducible refine bs ?_ (by omega) _ | with_reducible refine bd ?_ | (with_reducible refine bt ?_ (by assumption)))
  · have dx : decide (x < 0) = false := decide_eq_false hx
    have e := absI_pos (x := x) (by omega)
    rw [bitsL_pos (by omega) (by omega), hi_small (by omega) (by omega), lo_small (by omega) (by omega)]
    rw [e] at CS
    clear hx A0 A1 e
    go_enter Try.func25, Try.ntmps25
    go_wp2_with (first
      | (go_at_call 31; (with_reducible refine (CS _).mono ?_); rintro e w' ⟨rfl, rfl⟩))
    refine bodyPost_ret (v := .agg #[.int .u64 0, .int .u64 x]) (by simp [results, Try.results25, go_sem]) rfl ⟨rfl, ?_⟩
    repeat (first | exact Below.refl _ _ | with_reducible refine ba ?_ _ | with_reducible refine bs ?_ (by omega) _ | with_reducible refine bd ?_ | (with_reducible refine bt ?_ (by assumption)))

theorem times_to (a b P : Int) (hP : a * b = P) (a0 : 0 ≤ a) (a1 : a < 18446744073709551616) (b0 : 0 ≤ b) (b1 : b < 18446744073709551616) (w : World) :
    Calls Try.prog 30 #[.int .u64 a, .int .u64 b] w fun e w' => e = .returned (.agg #[.int .u64 (hi P), .int .u64 (lo P)]) ∧ Below w.heap.size w w' := by
  subst hP
  exact times_any a b a0 a1 b0 b1 w
/-- The document's product. -/
theorem refproduct_any (a b z : Int) (hz : bitsL (a * b) = z) (h0 : -9223372036854775808 ≤ a) (h1 : a ≤ 9223372036854775807) (k0 : -9223372036854775808 ≤ b) (k1 : b ≤ 9223372036854775807) (w : World) :
    Calls Try.prog 11 #[.int .i64 a, .int .i64 b] w fun e w' => e = .returned (.agg #[.int .u64 (hi z), .int .u64 (lo z)]) ∧ Below w.heap.size w w' := by
  have CA := refsize_any a h0 h1
  have CB := refsize_any b k0 k1
  have a0 := absI0 a
  have b0 := absI0 b
  have a1 : absI a ≤ 9223372036854775808 := absI1 h0 (by omega)
  have b1 : absI b ≤ 9223372036854775808 := absI1 k0 (by omega)
  have CT := times_to (absI a) (absI b) _ rfl a0 (by omega) b0 (by omega)
  obtain ⟨m1, m2, m3, m4⟩ := mul_signs a b
  obtain ⟨p0, p1⟩ := abs_mul_le h0 h1 k0 k1
  generalize absI a * absI b = P at *
  generalize absI a = A at *
  generalize absI b = B at *
  clear a0 b0 a1 b1
  by_cases ha : a < 0
  · have da : decide (a < 0) = true := decide_eq_true ha
    by_cases hb : b < 0
    · have db : decide (b < 0) = true := decide_eq_true hb
      rw [m1 ha hb] at hz
      rw [bitsL_pos p0 (by omega)] at hz
      subst hz
      clear m1 m2 m3 m4 p0 p1 ha hb
      go_enter Try.func11, Try.ntmps11
      go_wp2_with (first
        | (go_at_call 31; (with_reducible refine (CA _).mono ?_); rintro e w' ⟨rfl, rfl⟩)
        | (go_at_call 31; (with_reducible refine (CB _).mono ?_); rintro e w' ⟨rfl, rfl⟩)
        | (go_at_call 30; (with_reducible refine (CT _).mono ?_); rintro e w1 ⟨rfl, b1⟩; have z1 : w.heap.size < w1.heap.size := (by have := b1.size; simp at this; omega);
              have q0 : w1.cell? ⟨w.heap.size, 0, none⟩ = some (.int .u64 0) := cb b1 (by simp) (by simp);
              have q1 : w1.cell? ⟨w.heap.size, 1, none⟩ = some (.int .u64 0) := cb b1 (by simp) (by simp);
              have q2 : w1.frozen? ⟨w.heap.size, 0, none⟩ = false := fb b1 (by simp) (by simp);
              have q3 : w1.frozen? ⟨w.heap.size, 1, none⟩ = false := fb b1 (by simp) (by simp)))
      have t0 : (((w1.setCell ⟨w.heap.size, 0, none⟩ (.int .u64 (hi P))).setCell ⟨w.heap.size, 1, none⟩ (.int .u64 (lo P))).alloc (.cells #[.int .u64 (hi P), .int .u64 (lo P)] 28)).cell? ⟨w.heap.size, 0, none⟩ = some (.int .u64 (hi P)) := ca (by simpa [World.setCell] using z1) (cs (by omega) (cw q0))
      have t1 : (((w1.setCell ⟨w.heap.size, 0, none⟩ (.int .u64 (hi P))).setCell ⟨w.heap.size, 1, none⟩ (.int .u64 (lo P))).alloc (.cells #[.int .u64 (hi P), .int .u64 (lo P)] 28)).cell? ⟨w.heap.size, 1, none⟩ = some (.int .u64 (lo P)) := ca (by simpa [World.setCell] using z1) (cw (cs (by omega) q1))
      refine bodyPost_ret (v := .agg #[.int .u64 (hi P), .int .u64 (lo P)]) (by simp [results, Try.results11, go_sem, t0, t1]) rfl ⟨rfl, ?_⟩
      repeat (first | exact Below.refl _ _ | with_reducible refine ba ?_ _ | with_reducible refine bs ?_ (by omega) _ | with_reducible refine bd ?_ | (with_reducible refine bt ?_ (by assumption)))
    · have db : decide (b < 0) = false := decide_eq_false hb
      rw [m2 ha (by omega)] at hz
      have CN := refneg_any P z hz p0 (by omega)
      clear m1 m2 m3 m4 p0 p1 ha hb hz
      go_enter Try.func11, Try.ntmps11
      go_wp2_with (first
        | (go_at_call 31; (with_reducible refine (CA _).mono ?_); rintro e w' ⟨rfl, rfl⟩)
        | (go_at_call 31; (with_reducible refine (CB _).mono ?_); rintro e w' ⟨rfl, rfl⟩)
        | (go_at_call 30; (with_reducible refine (CT _).mono ?_); rintro e w1 ⟨rfl, b1⟩; have z1 : w.heap.size < w1.heap.size := (by have := b1.size; simp at this; omega);
              have q0 : w1.cell? ⟨w.heap.size, 0, none⟩ = some (.int .u64 0) := cb b1 (by simp) (by simp);
              have q1 : w1.cell? ⟨w.heap.size, 1, none⟩ = some (.int .u64 0) := cb b1 (by simp) (by simp);
              have q2 : w1.frozen? ⟨w.heap.size, 0, none⟩ = false := fb b1 (by simp) (by simp);
              have q3 : w1.frozen? ⟨w.heap.size, 1, none⟩ = false := fb b1 (by simp) (by simp))
        | (go_at_call 21; (with_reducible refine (CN _).mono ?_); rintro e w2 ⟨rfl, b2⟩;
              have r0 := cb b2 (by simp; omega) (ca z1 q0);
              have r1 := cb b2 (by simp; omega) (ca z1 q1);
              have r2 := fb b2 (by simp; omega) (fa z1 q2);
              have r3 := fb b2 (by simp; omega) (fa z1 q3)))
      refine bodyPost_ret (v := .agg #[.int .u64 (hi z), .int .u64 (lo z)]) (by simp [results, Try.results11, go_sem, r0, r1]) rfl ⟨rfl, ?_⟩
      repeat (first | exact Below.refl _ _ | with_reducible refine ba ?_ _ | with_reducible refine bs ?_ (by omega) _ | with_reducible refine bd ?_ | (with_reducible refine bt ?_ (by assumption)))
  · have da : decide (a < 0) = false := decide_eq_false ha
    by_cases hb : b < 0
    · have db : decide (b < 0) = true := decide_eq_true hb
      rw [m3 (by omega) hb] at hz
      have CN := refneg_any P z hz p0 (by omega)
      clear m1 m2 m3 m4 p0 p1 ha hb hz
      go_enter Try.func11, Try.ntmps11
      go_wp2_with (first
        | (go_at_call 31; (with_reducible refine (CA _).mono ?_); rintro e w' ⟨rfl, rfl⟩)
        | (go_at_call 31; (with_reducible refine (CB _).mono ?_); rintro e w' ⟨rfl, rfl⟩)
        | (go_at_call 30; (with_reducible refine (CT _).mono ?_); rintro e w1 ⟨rfl, b1⟩; have z1 : w.heap.size < w1.heap.size := (by have := b1.size; simp at this; omega);
              have q0 : w1.cell? ⟨w.heap.size, 0, none⟩ = some (.int .u64 0) := cb b1 (by simp) (by simp);
              have q1 : w1.cell? ⟨w.heap.size, 1, none⟩ = some (.int .u64 0) := cb b1 (by simp) (by simp);
              have q2 : w1.frozen? ⟨w.heap.size, 0, none⟩ = false := fb b1 (by simp) (by simp);
              have q3 : w1.frozen? ⟨w.heap.size, 1, none⟩ = false := fb b1 (by simp) (by simp))
        | (go_at_call 21; (with_reducible refine (CN _).mono ?_); rintro e w2 ⟨rfl, b2⟩;
              have r0 := cb b2 (by simp; omega) (ca z1 q0);
              have r1 := cb b2 (by simp; omega) (ca z1 q1);
              have r2 := fb b2 (by simp; omega) (fa z1 q2);
              have r3 := fb b2 (by simp; omega) (fa z1 q3)))
      refine bodyPost_ret (v := .agg #[.int .u64 (hi z), .int .u64 (lo z)]) (by simp [results, Try.results11, go_sem, r0, r1]) rfl ⟨rfl, ?_⟩
      repeat (first | exact Below.refl _ _ | with_reducible refine ba ?_ _ | with_reducible refine bs ?_ (by omega) _ | with_reducible refine bd ?_ | (with_reducible refine bt ?_ (by assumption)))
    · have db : decide (b < 0) = false := decide_eq_false hb
      rw [m4 (by omega) (by omega)] at hz
      rw [bitsL_pos p0 (by omega)] at hz
      subst hz
      clear m1 m2 m3 m4 p0 p1 ha hb
      go_enter Try.func11, Try.ntmps11
      go_wp2_with (first
        | (go_at_call 31; (with_reducible refine (CA _).mono ?_); rintro e w' ⟨rfl, rfl⟩)
        | (go_at_call 31; (with_reducible refine (CB _).mono ?_); rintro e w' ⟨rfl, rfl⟩)
        | (go_at_call 30; (with_reducible refine (CT _).mono ?_); rintro e w1 ⟨rfl, b1⟩; have z1 : w.heap.size < w1.heap.size := (by have := b1.size; simp at this; omega);
              have q0 : w1.cell? ⟨w.heap.size, 0, none⟩ = some (.int .u64 0) := cb b1 (by simp) (by simp);
              have q1 : w1.cell? ⟨w.heap.size, 1, none⟩ = some (.int .u64 0) := cb b1 (by simp) (by simp);
              have q2 : w1.frozen? ⟨w.heap.size, 0, none⟩ = false := fb b1 (by simp) (by simp);
              have q3 : w1.frozen? ⟨w.heap.size, 1, none⟩ = false := fb b1 (by simp) (by simp)))
      have t0 : (((w1.setCell ⟨w.heap.size, 0, none⟩ (.int .u64 (hi P))).setCell ⟨w.heap.size, 1, none⟩ (.int .u64 (lo P))).alloc (.cells #[.int .u64 (hi P), .int .u64 (lo P)] 28)).cell? ⟨w.heap.size, 0, none⟩ = some (.int .u64 (hi P)) := ca (by simpa [World.setCell] using z1) (cs (by omega) (cw q0))
      have t1 : (((w1.setCell ⟨w.heap.size, 0, none⟩ (.int .u64 (hi P))).setCell ⟨w.heap.size, 1, none⟩ (.int .u64 (lo P))).alloc (.cells #[.int .u64 (hi P), .int .u64 (lo P)] 28)).cell? ⟨w.heap.size, 1, none⟩ = some (.int .u64 (lo P)) := ca (by simpa [World.setCell] using z1) (cw (cs (by omega) q1))
      refine bodyPost_ret (v := .agg #[.int .u64 (hi P), .int .u64 (lo P)]) (by simp [results, Try.results11, go_sem, t0, t1]) rfl ⟨rfl, ?_⟩
      repeat (first | exact Below.refl _ _ | with_reducible refine ba ?_ _ | with_reducible refine bs ?_ (by omega) _ | with_reducible refine bd ?_ | (with_reducible refine bt ?_ (by assumption)))
end Go.Proofs.Ytgofhfcnmechoaa
