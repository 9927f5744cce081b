/- The laws on long numbers held, and on their sums. -/
import Derived.Test.YtgofhfcnmechoaaWE
namespace Go.Proofs.Ytgofhfcnmechoaa
open Go.RowKit

theorem long_of (h l : Int) (h0 : -9223372036854775808 ≤ h) (h1 : h ≤ 9223372036854775807) (l0 : 0 ≤ l) (l1 : l < 18446744073709551616) : ∃ X : Int, h = hi X ∧ l = lo X ∧ -170141183460469231731687303715884105728 ≤ X ∧ X < 170141183460469231731687303715884105728 :=
  ⟨h * 18446744073709551616 + l, hi_of rfl l0 l1, lo_of rfl l0 l1, by omega, by omega⟩

set_option maxRecDepth 100000 in
set_option maxHeartbeats 4000000 in
theorem law_WideHolds (x ah al : Int) (hx : -9223372036854775808 ≤ x ∧ x ≤ 9223372036854775807) (hah : -9223372036854775808 ≤ ah ∧ ah ≤ 9223372036854775807) (hal : 0 ≤ al ∧ al ≤ 18446744073709551615) (w : World) :
    Calls Try.prog 5 #[.int .i64 x, .agg #[.int .i64 ah, .int .u64 al]] w fun e w' => e = .returned (.bool true) ∧ Below w.heap.size w w' := by
  obtain ⟨x0, x1⟩ := hx
  obtain ⟨X, rfl, rfl, X0, X1⟩ := long_of ah al hah.1 hah.2 hal.1 (by omega)
  clear hah hal
  have C1 := of_any x x0 x1
  have C2 := whold_any x
  rw [holdI_in x0 x1] at C2
  have C3 := big_any x
  have C4 := refbits_any x x0 x1
  have C5 := whold_any X
  generalize bitsL x = z at *
  have ca0_0 := new0L w (.int .i64 (hi X)) (.int .u64 (lo X)) 25
  have ca0_1 := new1L w (.int .i64 (hi X)) (.int .u64 (lo X)) 25
  have la0 := new_ltL w (.cells #[.int .i64 (hi X), .int .u64 (lo X)] 25)
  by_cases hin : -9223372036854775808 ≤ X ∧ X ≤ 9223372036854775807
  · rw [holdI_in hin.1 hin.2] at C5
    have C6 := of_any X hin.1 hin.2
    clear hin X0 X1 x0 x1
    go_enter Try.func5, Try.ntmps5
    go_wp2_with (first
      | (go_at_call 8; (with_reducible refine (wlives _).mono ?_); rintro e w1 ⟨rfl, b1⟩;
          have ca1_0 := cb b1 la0 ca0_0;
          have ca1_1 := cb b1 la0 ca0_1;
          have la1 := Nat.lt_of_lt_of_le la0 b1.size)
      | (go_at_call 24; (with_reducible refine (C1 _).mono ?_); rintro e w2 ⟨rfl, b2⟩;
          have ca2_0 := cb b2 la1 ca1_0;
          have ca2_1 := cb b2 la1 ca1_1;
          have la2 := Nat.lt_of_lt_of_le la1 b2.size)
      | (go_at_call 12; (with_reducible refine (C2 _).mono ?_); rintro e w3 ⟨rfl, b3⟩;
          have ca3_0 := cb b3 la2 ca2_0;
          have ca3_1 := cb b3 la2 ca2_1;
          have la3 := Nat.lt_of_lt_of_le la2 b3.size)
      | (go_at_call 24; (with_reducible refine (C1 _).mono ?_); rintro e w4 ⟨rfl, b4⟩;
          have ca4_0 := cb b4 la3 ca3_0;
          have ca4_1 := cb b4 la3 ca3_1;
          have la4 := Nat.lt_of_lt_of_le la3 b4.size)
      | (go_at_call 10; (with_reducible refine (C3 _).mono ?_); rintro e w5 ⟨rfl, b5⟩;
          have ca5_0 := cb b5 la4 ca4_0;
          have ca5_1 := cb b5 la4 ca4_1;
          have la5 := Nat.lt_of_lt_of_le la4 b5.size)
      | (go_at_call 25; (with_reducible refine (C4 _).mono ?_); rintro e w6 ⟨rfl, b6⟩;
          have ca6_0 := cb b6 la5 ca5_0;
          have ca6_1 := cb b6 la5 ca5_1;
          have la6 := Nat.lt_of_lt_of_le la5 b6.size)
      | (go_at_call 12; (with_reducible refine (C5 _).mono ?_); rintro e w7 ⟨rfl, b7⟩;
          have ca7_0 := cb b7 la6 ca6_0;
          have ca7_1 := cb b7 la6 ca6_1;
          have la7 := Nat.lt_of_lt_of_le la6 b7.size))
    go_region_held3 (fun w' => w'.cell? ⟨w.heap.size, 0, none⟩ = some (.int .i64 (hi X)) ∧ w'.cell? ⟨w.heap.size, 1, none⟩ = some (.int .u64 (lo X)))
      (first | exact ⟨ca7_0, ca7_1⟩ | exact ⟨ca8_0, ca8_1⟩)
      (first
        | (go_at_call 24; (with_reducible refine (C6 _).mono ?_); rintro e w8 ⟨rfl, b8⟩;
            have ca8_0 := cb b8 la7 ca7_0;
            have ca8_1 := cb b8 la7 ca7_1;
            have la8 := Nat.lt_of_lt_of_le la7 b8.size))
    all_goals go_wp2
    all_goals go_ret
    all_goals refine ⟨rfl, ?_⟩
    all_goals (repeat (first | exact Below.refl _ _ | with_reducible refine ba ?_ _ | with_reducible refine bs ?_ (by omega) _ | with_reducible refine bd ?_ | (with_reducible refine bt ?_ (by assumption))))
  by_cases hlo : X < -9223372036854775808
  · have hX : hi X < 0 := by unfold hi; omega
    have dX : decide (hi X < 0) = true := decide_eq_true hX
    rw [holdI_lo (by omega)] at C5
    have C6 := of_any (-9223372036854775808) (by omega) (by omega)
    have C7 := wless_to X (-9223372036854775808) true (decide_eq_true (by omega))
    have ne : hi (-9223372036854775808) ≠ hi X ∨ (hi (-9223372036854775808) = hi X ∧ lo (-9223372036854775808) ≠ lo X) := by have := hl X; have := hl (-9223372036854775808); by_cases h : hi (-9223372036854775808) = hi X <;> omega
    generalize hi (-9223372036854775808) = hm at *
    generalize lo (-9223372036854775808) = lm at *
    clear hin hlo X0 X1 x0 x1
    go_enter Try.func5, Try.ntmps5
    go_upto_region 6 with (first
      | (go_at_call 8; (with_reducible refine (wlives _).mono ?_); rintro e w1 ⟨rfl, b1⟩;
          have ca1_0 := cb b1 la0 ca0_0;
          have ca1_1 := cb b1 la0 ca0_1;
          have la1 := Nat.lt_of_lt_of_le la0 b1.size)
      | (go_at_call 24; (with_reducible refine (C1 _).mono ?_); rintro e w2 ⟨rfl, b2⟩;
          have ca2_0 := cb b2 la1 ca1_0;
          have ca2_1 := cb b2 la1 ca1_1;
          have la2 := Nat.lt_of_lt_of_le la1 b2.size)
      | (go_at_call 12; (with_reducible refine (C2 _).mono ?_); rintro e w3 ⟨rfl, b3⟩;
          have ca3_0 := cb b3 la2 ca2_0;
          have ca3_1 := cb b3 la2 ca2_1;
          have la3 := Nat.lt_of_lt_of_le la2 b3.size)
      | (go_at_call 24; (with_reducible refine (C1 _).mono ?_); rintro e w4 ⟨rfl, b4⟩;
          have ca4_0 := cb b4 la3 ca3_0;
          have ca4_1 := cb b4 la3 ca3_1;
          have la4 := Nat.lt_of_lt_of_le la3 b4.size)
      | (go_at_call 10; (with_reducible refine (C3 _).mono ?_); rintro e w5 ⟨rfl, b5⟩;
          have ca5_0 := cb b5 la4 ca4_0;
          have ca5_1 := cb b5 la4 ca4_1;
          have la5 := Nat.lt_of_lt_of_le la4 b5.size)
      | (go_at_call 25; (with_reducible refine (C4 _).mono ?_); rintro e w6 ⟨rfl, b6⟩;
          have ca6_0 := cb b6 la5 ca5_0;
          have ca6_1 := cb b6 la5 ca5_1;
          have la6 := Nat.lt_of_lt_of_le la5 b6.size)
      | (go_at_call 12; (with_reducible refine (C5 _).mono ?_); rintro e w7 ⟨rfl, b7⟩;
          have ca7_0 := cb b7 la6 ca6_0;
          have ca7_1 := cb b7 la6 ca6_1;
          have la7 := Nat.lt_of_lt_of_le la6 b7.size))
    go_cut [26] (fun s26 wx => s26 = .bool false ∧ wx.cell? ⟨w.heap.size, 0, none⟩ = some (.int .i64 (hi X)) ∧ wx.cell? ⟨w.heap.size, 1, none⟩ = some (.int .u64 (lo X)) ∧ w.heap.size < wx.heap.size ∧ Below w.heap.size w wx)
    case first =>
      rcases ne with ne | ⟨ne, nl⟩
      · have nb : (hm == hi X) = false := beq_eq_false_iff_ne.2 ne
        clear ne
        go_region_held3 (fun w' => w'.cell? ⟨w.heap.size, 0, none⟩ = some (.int .i64 (hi X)) ∧ w'.cell? ⟨w.heap.size, 1, none⟩ = some (.int .u64 (lo X)))
          (first | exact ⟨ca7_0, ca7_1⟩ | exact ⟨ca8_0, ca8_1⟩)
          (first
            | (go_at_call 24; (with_reducible refine (C6 _).mono ?_); rintro e w8 ⟨rfl, b8⟩;
                have ca8_0 := cb b8 la7 ca7_0;
                have ca8_1 := cb b8 la7 ca7_1;
                have la8 := Nat.lt_of_lt_of_le la7 b8.size))
        all_goals
          go_wp2_with fail
          go_meet
          refine ⟨rfl, ca8_0, ca8_1, la8, ?_⟩
          repeat (first | exact Below.refl _ _ | with_reducible refine ba ?_ _ | with_reducible refine bs ?_ (by omega) _ | with_reducible refine bd ?_ | (with_reducible refine bt ?_ (by assumption)))
      · have nb : (lm == lo X) = false := beq_eq_false_iff_ne.2 nl
        subst ne
        clear nl
        go_region_held3 (fun w' => w'.cell? ⟨w.heap.size, 0, none⟩ = some (.int .i64 (hi X)) ∧ w'.cell? ⟨w.heap.size, 1, none⟩ = some (.int .u64 (lo X)))
          (first | exact ⟨ca7_0, ca7_1⟩ | exact ⟨ca8_0, ca8_1⟩)
          (first
            | (go_at_call 24; (with_reducible refine (C6 _).mono ?_); rintro e w8 ⟨rfl, b8⟩;
                have ca8_0 := cb b8 la7 ca7_0;
                have ca8_1 := cb b8 la7 ca7_1;
                have la8 := Nat.lt_of_lt_of_le la7 b8.size))
        all_goals
          go_wp2_with fail
          go_meet
          refine ⟨rfl, ca8_0, ca8_1, la8, ?_⟩
          repeat (first | exact Below.refl _ _ | with_reducible refine ba ?_ _ | with_reducible refine bs ?_ (by omega) _ | with_reducible refine bd ?_ | (with_reducible refine bt ?_ (by assumption)))
    case rest =>
      obtain ⟨rfl, cax_0, cax_1, lax, belx⟩ := hcut
      clear ne C1 C2 C3 C4 C5 ca0_0 ca0_1 la0
      go_wp2
      have hU : undef = Value.tuple #[] := rfl
      first
        | go_region_with (first
            | (go_at_call 24; (with_reducible refine (C6 _).mono ?_); rintro e w9 ⟨rfl, b9⟩;
                have ca9_0 := cb b9 lax cax_0;
                have ca9_1 := cb b9 lax cax_1;
                have la9 := Nat.lt_of_lt_of_le lax b9.size)
            | (go_at_call 23; (with_reducible refine (C7 _).mono ?_); rintro e w10 ⟨rfl, b10⟩;
                have ca10_0 := cb b10 la9 ca9_0;
                have ca10_1 := cb b10 la9 ca9_1;
                have la10 := Nat.lt_of_lt_of_le la9 b10.size))
        | fail
      all_goals go_wp2
      all_goals go_ret
      all_goals refine ⟨rfl, ?_⟩
      all_goals (repeat (first | exact belx | with_reducible refine ba ?_ _ | with_reducible refine bs ?_ (by omega) _ | with_reducible refine bd ?_ | (with_reducible refine bt ?_ (by assumption))))
  · have hX : 0 ≤ hi X := by unfold hi; omega
    have dX : decide (hi X < 0) = false := decide_eq_false (by omega)
    rw [holdI_hi (by omega)] at C5
    have C6 := of_any (9223372036854775807) (by omega) (by omega)
    have C7 := wless_to (9223372036854775807) X true (decide_eq_true (by omega))
    have ne : hi (9223372036854775807) ≠ hi X ∨ (hi (9223372036854775807) = hi X ∧ lo (9223372036854775807) ≠ lo X) := by have := hl X; have := hl (9223372036854775807); by_cases h : hi (9223372036854775807) = hi X <;> omega
    generalize hi (9223372036854775807) = hm at *
    generalize lo (9223372036854775807) = lm at *
    clear hin hlo X0 X1 x0 x1
    go_enter Try.func5, Try.ntmps5
    go_upto_region 6 with (first
      | (go_at_call 8; (with_reducible refine (wlives _).mono ?_); rintro e w1 ⟨rfl, b1⟩;
          have ca1_0 := cb b1 la0 ca0_0;
          have ca1_1 := cb b1 la0 ca0_1;
          have la1 := Nat.lt_of_lt_of_le la0 b1.size)
      | (go_at_call 24; (with_reducible refine (C1 _).mono ?_); rintro e w2 ⟨rfl, b2⟩;
          have ca2_0 := cb b2 la1 ca1_0;
          have ca2_1 := cb b2 la1 ca1_1;
          have la2 := Nat.lt_of_lt_of_le la1 b2.size)
      | (go_at_call 12; (with_reducible refine (C2 _).mono ?_); rintro e w3 ⟨rfl, b3⟩;
          have ca3_0 := cb b3 la2 ca2_0;
          have ca3_1 := cb b3 la2 ca2_1;
          have la3 := Nat.lt_of_lt_of_le la2 b3.size)
      | (go_at_call 24; (with_reducible refine (C1 _).mono ?_); rintro e w4 ⟨rfl, b4⟩;
          have ca4_0 := cb b4 la3 ca3_0;
          have ca4_1 := cb b4 la3 ca3_1;
          have la4 := Nat.lt_of_lt_of_le la3 b4.size)
      | (go_at_call 10; (with_reducible refine (C3 _).mono ?_); rintro e w5 ⟨rfl, b5⟩;
          have ca5_0 := cb b5 la4 ca4_0;
          have ca5_1 := cb b5 la4 ca4_1;
          have la5 := Nat.lt_of_lt_of_le la4 b5.size)
      | (go_at_call 25; (with_reducible refine (C4 _).mono ?_); rintro e w6 ⟨rfl, b6⟩;
          have ca6_0 := cb b6 la5 ca5_0;
          have ca6_1 := cb b6 la5 ca5_1;
          have la6 := Nat.lt_of_lt_of_le la5 b6.size)
      | (go_at_call 12; (with_reducible refine (C5 _).mono ?_); rintro e w7 ⟨rfl, b7⟩;
          have ca7_0 := cb b7 la6 ca6_0;
          have ca7_1 := cb b7 la6 ca6_1;
          have la7 := Nat.lt_of_lt_of_le la6 b7.size))
    go_cut [26] (fun s26 wx => s26 = .bool false ∧ wx.cell? ⟨w.heap.size, 0, none⟩ = some (.int .i64 (hi X)) ∧ wx.cell? ⟨w.heap.size, 1, none⟩ = some (.int .u64 (lo X)) ∧ w.heap.size < wx.heap.size ∧ Below w.heap.size w wx)
    case first =>
      rcases ne with ne | ⟨ne, nl⟩
      · have nb : (hm == hi X) = false := beq_eq_false_iff_ne.2 ne
        clear ne
        go_region_held3 (fun w' => w'.cell? ⟨w.heap.size, 0, none⟩ = some (.int .i64 (hi X)) ∧ w'.cell? ⟨w.heap.size, 1, none⟩ = some (.int .u64 (lo X)))
          (first | exact ⟨ca7_0, ca7_1⟩ | exact ⟨ca8_0, ca8_1⟩)
          (first
            | (go_at_call 24; (with_reducible refine (C6 _).mono ?_); rintro e w8 ⟨rfl, b8⟩;
                have ca8_0 := cb b8 la7 ca7_0;
                have ca8_1 := cb b8 la7 ca7_1;
                have la8 := Nat.lt_of_lt_of_le la7 b8.size))
        all_goals
          go_wp2_with fail
          go_meet
          refine ⟨rfl, ca8_0, ca8_1, la8, ?_⟩
          repeat (first | exact Below.refl _ _ | with_reducible refine ba ?_ _ | with_reducible refine bs ?_ (by omega) _ | with_reducible refine bd ?_ | (with_reducible refine bt ?_ (by assumption)))
      · have nb : (lm == lo X) = false := beq_eq_false_iff_ne.2 nl
        subst ne
        clear nl
        go_region_held3 (fun w' => w'.cell? ⟨w.heap.size, 0, none⟩ = some (.int .i64 (hi X)) ∧ w'.cell? ⟨w.heap.size, 1, none⟩ = some (.int .u64 (lo X)))
          (first | exact ⟨ca7_0, ca7_1⟩ | exact ⟨ca8_0, ca8_1⟩)
          (first
            | (go_at_call 24; (with_reducible refine (C6 _).mono ?_); rintro e w8 ⟨rfl, b8⟩;
                have ca8_0 := cb b8 la7 ca7_0;
                have ca8_1 := cb b8 la7 ca7_1;
                have la8 := Nat.lt_of_lt_of_le la7 b8.size))
        all_goals
          go_wp2_with fail
          go_meet
          refine ⟨rfl, ca8_0, ca8_1, la8, ?_⟩
          repeat (first | exact Below.refl _ _ | with_reducible refine ba ?_ _ | with_reducible refine bs ?_ (by omega) _ | with_reducible refine bd ?_ | (with_reducible refine bt ?_ (by assumption)))
    case rest =>
      obtain ⟨rfl, cax_0, cax_1, lax, belx⟩ := hcut
      clear ne C1 C2 C3 C4 C5 ca0_0 ca0_1 la0
      go_wp2
      have hU : undef = Value.tuple #[] := rfl
      first
        | go_region_with (first
            | (go_at_call 24; (with_reducible refine (C6 _).mono ?_); rintro e w9 ⟨rfl, b9⟩;
                have ca9_0 := cb b9 lax cax_0;
                have ca9_1 := cb b9 lax cax_1;
                have la9 := Nat.lt_of_lt_of_le lax b9.size)
            | (go_at_call 23; (with_reducible refine (C7 _).mono ?_); rintro e w10 ⟨rfl, b10⟩;
                have ca10_0 := cb b10 la9 ca9_0;
                have ca10_1 := cb b10 la9 ca9_1;
                have la10 := Nat.lt_of_lt_of_le la9 b10.size))
        | fail
      all_goals go_wp2
      all_goals go_ret
      all_goals refine ⟨rfl, ?_⟩
      all_goals (repeat (first | exact belx | with_reducible refine ba ?_ _ | with_reducible refine bs ?_ (by omega) _ | with_reducible refine bd ?_ | (with_reducible refine bt ?_ (by assumption))))
end Go.Proofs.Ytgofhfcnmechoaa
