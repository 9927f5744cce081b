/- The law on sums of long numbers. -/
import Derived.Test.YtgofhfcnmechoaaWE
namespace Go.Proofs.Ytgofhfcnmechoaa
open Go.RowKit

theorem long_of' (h l : Int) (h0 : -9223372036854775808 ≤ h) (h1 : h ≤ 9223372036854775807) (l0 : 0 ≤ l) (l1 : l < 18446744073709551616) : ∃ X : Int, h = hi X ∧ l = lo X ∧ -170141183460469231731687303715884105728 ≤ X ∧ X < 170141183460469231731687303715884105728 :=
  ⟨h * 18446744073709551616 + l, hi_of rfl l0 l1, lo_of rfl l0 l1, by omega, by omega⟩
theorem bits_sum (X Y : Int) : bitsL (bitsL X + bitsL Y) = bitsL (wrapL (X + Y)) := by rw [bitsL_wrap]; unfold bitsL; omega
theorem bits_neg (X : Int) : bitsL (-bitsL X) = bitsL (wrapL (-X)) := by rw [bitsL_wrap]; unfold bitsL; omega
theorem sum_neg (X : Int) : wrapL (X + wrapL (-X)) = 0 := by unfold wrapL; omega
/-- Two long numbers in blocks of the call's own. -/
structure TwoAt (W w : World) (a b : Nat) (X Y : Int) : Prop where
  a0 : w.cell? ⟨a, 0, none⟩ = some (.int .i64 (hi X))
  a1 : w.cell? ⟨a, 1, none⟩ = some (.int .u64 (lo X))
  b0 : w.cell? ⟨b, 0, none⟩ = some (.int .i64 (hi Y))
  b1 : w.cell? ⟨b, 1, none⟩ = some (.int .u64 (lo Y))
  la : a < w.heap.size
  lb : b < w.heap.size
  below : Below W.heap.size W w
theorem lowLess (x y : Int) (t : Bool) (ht : decide (x < y) = t) (x0 : 0 ≤ x) (x1 : x < 18446744073709551616) (y0 : 0 ≤ y) (y1 : y < 18446744073709551616) (w : World) :
    Calls Try.prog 22 #[.agg #[.int .u64 0, .int .u64 x], .agg #[.int .u64 0, .int .u64 y]] w fun e w' => e = .returned (.bool t) ∧ Below w.heap.size w w' := by
  have h := less_any x y x0 y0 (by omega) (by omega) w
  rw [hi_small x0 x1, hi_small y0 y1, lo_small x0 x1, lo_small y0 y1, ht] at h
  exact h

set_option maxRecDepth 100000 in
set_option maxHeartbeats 8000000 in
theorem law_WideSums (ah al bh bl : Int) (hah : -9223372036854775808 ≤ ah ∧ ah ≤ 9223372036854775807) (hal : 0 ≤ al ∧ al ≤ 18446744073709551615) (hbh : -9223372036854775808 ≤ bh ∧ bh ≤ 9223372036854775807) (hbl : 0 ≤ bl ∧ bl ≤ 18446744073709551615) (w : World) :
    Calls Try.prog 4 #[.agg #[.int .i64 ah, .int .u64 al], .agg #[.int .i64 bh, .int .u64 bl]] w fun e w' => e = .returned (.bool true) ∧ Below w.heap.size w w' := by
  obtain ⟨X, rfl, rfl, X0, X1⟩ := long_of' ah al hah.1 hah.2 hal.1 (by omega)
  obtain ⟨Y, rfl, rfl, Y0, Y1⟩ := long_of' bh bl hbh.1 hbh.2 hbl.1 (by omega)
  clear hah hal hbh hbl
  have C1 := sum_any X Y X0 X1 Y0 Y1
  have C2 := big_any (wrapL (X + Y))
  have C3 := big_any X
  have C4 := big_any Y
  have C5 := plus_round_to (bitsL X) (bitsL Y) _ _ _ (bits_sum X Y) rfl rfl (bitsL0 X) (bitsL0 Y) (bitsL1 X) (bitsL1 Y)
  have C6 := sum_any Y X Y0 Y1 X0 X1
  rw [Int.add_comm Y X] at C6
  have C7 := negative_any X X0 X1
  have C8 := sum_any X (wrapL (-X)) X0 X1 (wrapL0 _) (wrapL1 _)
  rw [sum_neg, show hi 0 = 0 by decide, show lo 0 = 0 by decide] at C8
  have C9 := big_any (wrapL (-X))
  have C10 := refneg_any (bitsL X) _ (bits_neg X) (bitsL0 X) (bitsL1 X)
  generalize bitsL (wrapL (X + Y)) = bS at *
  generalize wrapL (X + Y) = S at *
  generalize bitsL (wrapL (-X)) = bN at *
  generalize wrapL (-X) = N at *
  generalize bitsL X = bX at *
  generalize bitsL Y = bY at *
  have ca0_0 : ((w.alloc (.cells #[.int .i64 (hi X), .int .u64 (lo X)] 25)).alloc (.cells #[.int .i64 (hi Y), .int .u64 (lo Y)] 25)).cell? ⟨w.heap.size, 0, none⟩ = some (.int .i64 (hi X)) := by simp
  have ca0_1 : ((w.alloc (.cells #[.int .i64 (hi X), .int .u64 (lo X)] 25)).alloc (.cells #[.int .i64 (hi Y), .int .u64 (lo Y)] 25)).cell? ⟨w.heap.size, 1, none⟩ = some (.int .u64 (lo X)) := by simp
  have cb0_0 : ((w.alloc (.cells #[.int .i64 (hi X), .int .u64 (lo X)] 25)).alloc (.cells #[.int .i64 (hi Y), .int .u64 (lo Y)] 25)).cell? ⟨w.heap.size + 1, 0, none⟩ = some (.int .i64 (hi Y)) := by simp
  have cb0_1 : ((w.alloc (.cells #[.int .i64 (hi X), .int .u64 (lo X)] 25)).alloc (.cells #[.int .i64 (hi Y), .int .u64 (lo Y)] 25)).cell? ⟨w.heap.size + 1, 1, none⟩ = some (.int .u64 (lo Y)) := by simp
  have la0 : w.heap.size < ((w.alloc (.cells #[.int .i64 (hi X), .int .u64 (lo X)] 25)).alloc (.cells #[.int .i64 (hi Y), .int .u64 (lo Y)] 25)).heap.size := by simp; omega
  have lb0 : w.heap.size + 1 < ((w.alloc (.cells #[.int .i64 (hi X), .int .u64 (lo X)] 25)).alloc (.cells #[.int .i64 (hi Y), .int .u64 (lo Y)] 25)).heap.size := by simp
  clear X0 X1 Y0 Y1
  go_enter Try.func4, Try.ntmps4
  go_upto_region 3 with (first
    | (go_at_call 8; (with_reducible refine (wlives _).mono ?_); rintro e w1 ⟨rfl, b1⟩;
        have ca1_0 := cb b1 la0 ca0_0;
        have ca1_1 := cb b1 la0 ca0_1;
        have la1 := Nat.lt_of_lt_of_le la0 b1.size;
        have cb1_0 := cb b1 lb0 cb0_0;
        have cb1_1 := cb b1 lb0 cb0_1;
        have lb1 := Nat.lt_of_lt_of_le lb0 b1.size))
  go_cut [43] (fun s43 wx => s43 = .bool false ∧ TwoAt w wx w.heap.size (w.heap.size + 1) X Y)
  case first =>
    go_region_held3 (fun w' => w'.cell? ⟨w.heap.size, 0, none⟩ = some (.int .i64 (hi X)) ∧ w'.cell? ⟨w.heap.size, 1, none⟩ = some (.int .u64 (lo X)) ∧ w'.cell? ⟨w.heap.size + 1, 0, none⟩ = some (.int .i64 (hi Y)) ∧ w'.cell? ⟨w.heap.size + 1, 1, none⟩ = some (.int .u64 (lo Y)))
      (first | exact ⟨ca14_0, ca14_1, cb14_0, cb14_1⟩ | exact ⟨ca13_0, ca13_1, cb13_0, cb13_1⟩ | exact ⟨ca12_0, ca12_1, cb12_0, cb12_1⟩ | exact ⟨ca11_0, ca11_1, cb11_0, cb11_1⟩ | exact ⟨ca10_0, ca10_1, cb10_0, cb10_1⟩ | exact ⟨ca9_0, ca9_1, cb9_0, cb9_1⟩ | exact ⟨ca8_0, ca8_1, cb8_0, cb8_1⟩ | exact ⟨ca7_0, ca7_1, cb7_0, cb7_1⟩ | exact ⟨ca6_0, ca6_1, cb6_0, cb6_1⟩ | exact ⟨ca5_0, ca5_1, cb5_0, cb5_1⟩ | exact ⟨ca4_0, ca4_1, cb4_0, cb4_1⟩ | exact ⟨ca3_0, ca3_1, cb3_0, cb3_1⟩ | exact ⟨ca2_0, ca2_1, cb2_0, cb2_1⟩ | exact ⟨ca1_0, ca1_1, cb1_0, cb1_1⟩)
      (first
        | (go_at_call 18; (with_reducible refine (C1 _).mono ?_); rintro e w2 ⟨rfl, b2⟩;
            have ca2_0 := cb b2 la1 ca1_0;
            have ca2_1 := cb b2 la1 ca1_1;
            have la2 := Nat.lt_of_lt_of_le la1 b2.size;
            have cb2_0 := cb b2 lb1 cb1_0;
            have cb2_1 := cb b2 lb1 cb1_1;
            have lb2 := Nat.lt_of_lt_of_le lb1 b2.size)
        | (go_at_call 10; (with_reducible refine (C2 _).mono ?_); rintro e w3 ⟨rfl, b3⟩;
            have ca3_0 := cb b3 la2 ca2_0;
            have ca3_1 := cb b3 la2 ca2_1;
            have la3 := Nat.lt_of_lt_of_le la2 b3.size;
            have cb3_0 := cb b3 lb2 cb2_0;
            have cb3_1 := cb b3 lb2 cb2_1;
            have lb3 := Nat.lt_of_lt_of_le lb2 b3.size)
        | (go_at_call 10; (with_reducible refine (C3 _).mono ?_); rintro e w4 ⟨rfl, b4⟩;
            have ca4_0 := cb b4 la3 ca3_0;
            have ca4_1 := cb b4 la3 ca3_1;
            have la4 := Nat.lt_of_lt_of_le la3 b4.size;
            have cb4_0 := cb b4 lb3 cb3_0;
            have cb4_1 := cb b4 lb3 cb3_1;
            have lb4 := Nat.lt_of_lt_of_le lb3 b4.size)
        | (go_at_call 10; (with_reducible refine (C4 _).mono ?_); rintro e w5 ⟨rfl, b5⟩;
            have ca5_0 := cb b5 la4 ca4_0;
            have ca5_1 := cb b5 la4 ca4_1;
            have la5 := Nat.lt_of_lt_of_le la4 b5.size;
            have cb5_0 := cb b5 lb4 cb4_0;
            have cb5_1 := cb b5 lb4 cb4_1;
            have lb5 := Nat.lt_of_lt_of_le lb4 b5.size)
        | (go_at_call 19; (with_reducible refine (C5 _).mono ?_); rintro e w6 ⟨rfl, b6⟩;
            have ca6_0 := cb b6 la5 ca5_0;
            have ca6_1 := cb b6 la5 ca5_1;
            have la6 := Nat.lt_of_lt_of_le la5 b6.size;
            have cb6_0 := cb b6 lb5 cb5_0;
            have cb6_1 := cb b6 lb5 cb5_1;
            have lb6 := Nat.lt_of_lt_of_le lb5 b6.size)
        | (go_at_call 18; (with_reducible refine (C1 _).mono ?_); rintro e w7 ⟨rfl, b7⟩;
            have ca7_0 := cb b7 la6 ca6_0;
            have ca7_1 := cb b7 la6 ca6_1;
            have la7 := Nat.lt_of_lt_of_le la6 b7.size;
            have cb7_0 := cb b7 lb6 cb6_0;
            have cb7_1 := cb b7 lb6 cb6_1;
            have lb7 := Nat.lt_of_lt_of_le lb6 b7.size)
        | (go_at_call 18; (with_reducible refine (C6 _).mono ?_); rintro e w8 ⟨rfl, b8⟩;
            have ca8_0 := cb b8 la7 ca7_0;
            have ca8_1 := cb b8 la7 ca7_1;
            have la8 := Nat.lt_of_lt_of_le la7 b8.size;
            have cb8_0 := cb b8 lb7 cb7_0;
            have cb8_1 := cb b8 lb7 cb7_1;
            have lb8 := Nat.lt_of_lt_of_le lb7 b8.size)
        | (go_at_call 20; (with_reducible refine (C7 _).mono ?_); rintro e w9 ⟨rfl, b9⟩;
            have ca9_0 := cb b9 la8 ca8_0;
            have ca9_1 := cb b9 la8 ca8_1;
            have la9 := Nat.lt_of_lt_of_le la8 b9.size;
            have cb9_0 := cb b9 lb8 cb8_0;
            have cb9_1 := cb b9 lb8 cb8_1;
            have lb9 := Nat.lt_of_lt_of_le lb8 b9.size)
        | (go_at_call 18; (with_reducible refine (C8 _).mono ?_); rintro e w10 ⟨rfl, b10⟩;
            have ca10_0 := cb b10 la9 ca9_0;
            have ca10_1 := cb b10 la9 ca9_1;
            have la10 := Nat.lt_of_lt_of_le la9 b10.size;
            have cb10_0 := cb b10 lb9 cb9_0;
            have cb10_1 := cb b10 lb9 cb9_1;
            have lb10 := Nat.lt_of_lt_of_le lb9 b10.size)
        | (go_at_call 20; (with_reducible refine (C7 _).mono ?_); rintro e w11 ⟨rfl, b11⟩;
            have ca11_0 := cb b11 la10 ca10_0;
            have ca11_1 := cb b11 la10 ca10_1;
            have la11 := Nat.lt_of_lt_of_le la10 b11.size;
            have cb11_0 := cb b11 lb10 cb10_0;
            have cb11_1 := cb b11 lb10 cb10_1;
            have lb11 := Nat.lt_of_lt_of_le lb10 b11.size)
        | (go_at_call 10; (with_reducible refine (C9 _).mono ?_); rintro e w12 ⟨rfl, b12⟩;
            have ca12_0 := cb b12 la11 ca11_0;
            have ca12_1 := cb b12 la11 ca11_1;
            have la12 := Nat.lt_of_lt_of_le la11 b12.size;
            have cb12_0 := cb b12 lb11 cb11_0;
            have cb12_1 := cb b12 lb11 cb11_1;
            have lb12 := Nat.lt_of_lt_of_le lb11 b12.size)
        | (go_at_call 10; (with_reducible refine (C3 _).mono ?_); rintro e w13 ⟨rfl, b13⟩;
            have ca13_0 := cb b13 la12 ca12_0;
            have ca13_1 := cb b13 la12 ca12_1;
            have la13 := Nat.lt_of_lt_of_le la12 b13.size;
            have cb13_0 := cb b13 lb12 cb12_0;
            have cb13_1 := cb b13 lb12 cb12_1;
            have lb13 := Nat.lt_of_lt_of_le lb12 b13.size)
        | (go_at_call 21; (with_reducible refine (C10 _).mono ?_); rintro e w14 ⟨rfl, b14⟩;
            have ca14_0 := cb b14 la13 ca13_0;
            have ca14_1 := cb b14 la13 ca13_1;
            have la14 := Nat.lt_of_lt_of_le la13 b14.size;
            have cb14_0 := cb b14 lb13 cb13_0;
            have cb14_1 := cb b14 lb13 cb13_1;
            have lb14 := Nat.lt_of_lt_of_le lb13 b14.size))
    all_goals
      go_wp2_with fail
      go_meet
      refine ⟨rfl, ca14_0, ca14_1, cb14_0, cb14_1, la14, lb14, ?_⟩
      repeat (first | exact Below.refl _ _ | with_reducible refine ba ?_ _ | with_reducible refine bs ?_ (by omega) _ | with_reducible refine bd ?_ | (with_reducible refine bt ?_ (by assumption)))
  case rest =>
    obtain ⟨rfl, cax_0, cax_1, cbx_0, cbx_1, lax, lbx, belx⟩ := hcut
    rename World => wx
    clear C1 C2 C3 C4 C5 C6 C7 C8 C9 C10 ca0_0 ca0_1 cb0_0 cb0_1 la0 lb0
    have EX := hl X
    have EY := hl Y
    have lx0 := lo0 X
    have lx1 := lo1 X
    have ly0 := lo0 Y
    have ly1 := lo1 Y
    have M1 := wless_any X Y
    have M2 := wless_any Y X
    generalize hi X = hx at *
    generalize hi Y = hy at *
    generalize lo X = lx at *
    generalize lo Y = ly at *
    by_cases h1 : hx < hy
    · have d1 : decide (hx < hy) = true := decide_eq_true h1
      have L1 : decide (X < Y) = true := decide_eq_true (by omega)
      have L2 : decide (Y < X) = false := decide_eq_false (by omega)
      rw [L1] at M1
      rw [L2] at M2
      clear EX EY L1 L2 h1 lx0 lx1 ly0 ly1
      go_wp2_with (first
        | (go_at_call 23; (with_reducible refine (M1 _).mono ?_); rintro e w20 ⟨rfl, b20⟩;
            have ca20_0 := cb b20 lax cax_0;
            have ca20_1 := cb b20 lax cax_1;
            have la20 := Nat.lt_of_lt_of_le lax b20.size;
            have cb20_0 := cb b20 lbx cbx_0;
            have cb20_1 := cb b20 lbx cbx_1;
            have lb20 := Nat.lt_of_lt_of_le lbx b20.size)
        | (go_at_call 23; (with_reducible refine (M1 _).mono ?_); rintro e w21 ⟨rfl, b21⟩;
            have ca21_0 := cb b21 la20 ca20_0;
            have ca21_1 := cb b21 la20 ca20_1;
            have la21 := Nat.lt_of_lt_of_le la20 b21.size;
            have cb21_0 := cb b21 lb20 cb20_0;
            have cb21_1 := cb b21 lb20 cb20_1;
            have lb21 := Nat.lt_of_lt_of_le lb20 b21.size)
        | (go_at_call 23; (with_reducible refine (M2 _).mono ?_); rintro e w22 ⟨rfl, b22⟩;
            have ca22_0 := cb b22 la21 ca21_0;
            have ca22_1 := cb b22 la21 ca21_1;
            have la22 := Nat.lt_of_lt_of_le la21 b22.size;
            have cb22_0 := cb b22 lb21 cb21_0;
            have cb22_1 := cb b22 lb21 cb21_1;
            have lb22 := Nat.lt_of_lt_of_le lb21 b22.size)
        | (go_at_call 23; (with_reducible refine (M1 _).mono ?_); rintro e w23 ⟨rfl, b23⟩;
            have ca23_0 := cb b23 la22 ca22_0;
            have ca23_1 := cb b23 la22 ca22_1;
            have la23 := Nat.lt_of_lt_of_le la22 b23.size;
            have cb23_0 := cb b23 lb22 cb22_0;
            have cb23_1 := cb b23 lb22 cb22_1;
            have lb23 := Nat.lt_of_lt_of_le lb22 b23.size))
      go_ret
      refine ⟨rfl, ?_⟩
      repeat (first | exact belx | with_reducible refine ba ?_ _ | with_reducible refine bs ?_ (by omega) _ | with_reducible refine bd ?_ | (with_reducible refine bt ?_ (by assumption)))
    have d1 : decide (hx < hy) = false := decide_eq_false h1
    by_cases h2 : hx = hy
    · subst h2
      have d2 : (hx == hx) = true := beq_self_eq_true hx
      by_cases h3 : lx < ly
      · have L1 : decide (X < Y) = true := decide_eq_true (by omega)
        have L2 : decide (Y < X) = false := decide_eq_false (by omega)
        rw [L1] at M1
        rw [L2] at M2
        have ML := lowLess lx ly true (decide_eq_true (by omega)) lx0 lx1 ly0 ly1
        clear EX EY L1 L2 h1 h3 lx0 lx1 ly0 ly1
        go_wp2_with (first
          | (go_at_call 22; (with_reducible refine (ML _).mono ?_); rintro e w20 ⟨rfl, b20⟩;
              have ca20_0 := cb b20 lax cax_0;
              have ca20_1 := cb b20 lax cax_1;
              have la20 := Nat.lt_of_lt_of_le lax b20.size;
              have cb20_0 := cb b20 lbx cbx_0;
              have cb20_1 := cb b20 lbx cbx_1;
              have lb20 := Nat.lt_of_lt_of_le lbx b20.size)
          | (go_at_call 23; (with_reducible refine (M1 _).mono ?_); rintro e w21 ⟨rfl, b21⟩;
              have ca21_0 := cb b21 la20 ca20_0;
              have ca21_1 := cb b21 la20 ca20_1;
              have la21 := Nat.lt_of_lt_of_le la20 b21.size;
              have cb21_0 := cb b21 lb20 cb20_0;
              have cb21_1 := cb b21 lb20 cb20_1;
              have lb21 := Nat.lt_of_lt_of_le lb20 b21.size)
          | (go_at_call 23; (with_reducible refine (M1 _).mono ?_); rintro e w22 ⟨rfl, b22⟩;
              have ca22_0 := cb b22 la21 ca21_0;
              have ca22_1 := cb b22 la21 ca21_1;
              have la22 := Nat.lt_of_lt_of_le la21 b22.size;
              have cb22_0 := cb b22 lb21 cb21_0;
              have cb22_1 := cb b22 lb21 cb21_1;
              have lb22 := Nat.lt_of_lt_of_le lb21 b22.size)
          | (go_at_call 23; (with_reducible refine (M2 _).mono ?_); rintro e w23 ⟨rfl, b23⟩;
              have ca23_0 := cb b23 la22 ca22_0;
              have ca23_1 := cb b23 la22 ca22_1;
              have la23 := Nat.lt_of_lt_of_le la22 b23.size;
              have cb23_0 := cb b23 lb22 cb22_0;
              have cb23_1 := cb b23 lb22 cb22_1;
              have lb23 := Nat.lt_of_lt_of_le lb22 b23.size)
          | (go_at_call 23; (with_reducible refine (M1 _).mono ?_); rintro e w24 ⟨rfl, b24⟩;
              have ca24_0 := cb b24 la23 ca23_0;
              have ca24_1 := cb b24 la23 ca23_1;
              have la24 := Nat.lt_of_lt_of_le la23 b24.size;
              have cb24_0 := cb b24 lb23 cb23_0;
              have cb24_1 := cb b24 lb23 cb23_1;
              have lb24 := Nat.lt_of_lt_of_le lb23 b24.size))
        go_ret
        refine ⟨rfl, ?_⟩
        repeat (first | exact belx | with_reducible refine ba ?_ _ | with_reducible refine bs ?_ (by omega) _ | with_reducible refine bd ?_ | (with_reducible refine bt ?_ (by assumption)))
      by_cases h4 : lx = ly
      · subst h4
        have L1 : decide (X < Y) = false := decide_eq_false (by omega)
        have L2 : decide (Y < X) = false := decide_eq_false (by omega)
        rw [L1] at M1
        rw [L2] at M2
        have ML := lowLess lx lx false (decide_eq_false (by omega)) lx0 lx1 ly0 ly1
        clear EX EY L1 L2 h1 h3 lx0 lx1 ly0 ly1
        go_wp2_with (first
          | (go_at_call 22; (with_reducible refine (ML _).mono ?_); rintro e w20 ⟨rfl, b20⟩;
              have ca20_0 := cb b20 lax cax_0;
              have ca20_1 := cb b20 lax cax_1;
              have la20 := Nat.lt_of_lt_of_le lax b20.size;
              have cb20_0 := cb b20 lbx cbx_0;
              have cb20_1 := cb b20 lbx cbx_1;
              have lb20 := Nat.lt_of_lt_of_le lbx b20.size)
          | (go_at_call 23; (with_reducible refine (M1 _).mono ?_); rintro e w21 ⟨rfl, b21⟩;
              have ca21_0 := cb b21 la20 ca20_0;
              have ca21_1 := cb b21 la20 ca20_1;
              have la21 := Nat.lt_of_lt_of_le la20 b21.size;
              have cb21_0 := cb b21 lb20 cb20_0;
              have cb21_1 := cb b21 lb20 cb20_1;
              have lb21 := Nat.lt_of_lt_of_le lb20 b21.size)
          | (go_at_call 23; (with_reducible refine (M1 _).mono ?_); rintro e w22 ⟨rfl, b22⟩;
              have ca22_0 := cb b22 la21 ca21_0;
              have ca22_1 := cb b22 la21 ca21_1;
              have la22 := Nat.lt_of_lt_of_le la21 b22.size;
              have cb22_0 := cb b22 lb21 cb21_0;
              have cb22_1 := cb b22 lb21 cb21_1;
              have lb22 := Nat.lt_of_lt_of_le lb21 b22.size)
          | (go_at_call 23; (with_reducible refine (M1 _).mono ?_); rintro e w23 ⟨rfl, b23⟩;
              have ca23_0 := cb b23 la22 ca22_0;
              have ca23_1 := cb b23 la22 ca22_1;
              have la23 := Nat.lt_of_lt_of_le la22 b23.size;
              have cb23_0 := cb b23 lb22 cb22_0;
              have cb23_1 := cb b23 lb22 cb22_1;
              have lb23 := Nat.lt_of_lt_of_le lb22 b23.size)
          | (go_at_call 23; (with_reducible refine (M2 _).mono ?_); rintro e w24 ⟨rfl, b24⟩;
              have ca24_0 := cb b24 la23 ca23_0;
              have ca24_1 := cb b24 la23 ca23_1;
              have la24 := Nat.lt_of_lt_of_le la23 b24.size;
              have cb24_0 := cb b24 lb23 cb23_0;
              have cb24_1 := cb b24 lb23 cb23_1;
              have lb24 := Nat.lt_of_lt_of_le lb23 b24.size))
        go_ret
        refine ⟨rfl, ?_⟩
        repeat (first | exact belx | with_reducible refine ba ?_ _ | with_reducible refine bs ?_ (by omega) _ | with_reducible refine bd ?_ | (with_reducible refine bt ?_ (by assumption)))
      · have L1 : decide (X < Y) = false := decide_eq_false (by omega)
        have L2 : decide (Y < X) = true := decide_eq_true (by omega)
        rw [L1] at M1
        rw [L2] at M2
        have ML := lowLess lx ly false (decide_eq_false (by omega)) lx0 lx1 ly0 ly1
        clear EX EY L1 L2 h1 h3 h4 lx0 lx1 ly0 ly1
        go_wp2_with (first
          | (go_at_call 22; (with_reducible refine (ML _).mono ?_); rintro e w20 ⟨rfl, b20⟩;
              have ca20_0 := cb b20 lax cax_0;
              have ca20_1 := cb b20 lax cax_1;
              have la20 := Nat.lt_of_lt_of_le lax b20.size;
              have cb20_0 := cb b20 lbx cbx_0;
              have cb20_1 := cb b20 lbx cbx_1;
              have lb20 := Nat.lt_of_lt_of_le lbx b20.size)
          | (go_at_call 23; (with_reducible refine (M1 _).mono ?_); rintro e w21 ⟨rfl, b21⟩;
              have ca21_0 := cb b21 la20 ca20_0;
              have ca21_1 := cb b21 la20 ca20_1;
              have la21 := Nat.lt_of_lt_of_le la20 b21.size;
              have cb21_0 := cb b21 lb20 cb20_0;
              have cb21_1 := cb b21 lb20 cb20_1;
              have lb21 := Nat.lt_of_lt_of_le lb20 b21.size)
          | (go_at_call 23; (with_reducible refine (M1 _).mono ?_); rintro e w22 ⟨rfl, b22⟩;
              have ca22_0 := cb b22 la21 ca21_0;
              have ca22_1 := cb b22 la21 ca21_1;
              have la22 := Nat.lt_of_lt_of_le la21 b22.size;
              have cb22_0 := cb b22 lb21 cb21_0;
              have cb22_1 := cb b22 lb21 cb21_1;
              have lb22 := Nat.lt_of_lt_of_le lb21 b22.size)
          | (go_at_call 23; (with_reducible refine (M1 _).mono ?_); rintro e w23 ⟨rfl, b23⟩;
              have ca23_0 := cb b23 la22 ca22_0;
              have ca23_1 := cb b23 la22 ca22_1;
              have la23 := Nat.lt_of_lt_of_le la22 b23.size;
              have cb23_0 := cb b23 lb22 cb22_0;
              have cb23_1 := cb b23 lb22 cb22_1;
              have lb23 := Nat.lt_of_lt_of_le lb22 b23.size)
          | (go_at_call 23; (with_reducible refine (M2 _).mono ?_); rintro e w24 ⟨rfl, b24⟩;
              have ca24_0 := cb b24 la23 ca23_0;
              have ca24_1 := cb b24 la23 ca23_1;
              have la24 := Nat.lt_of_lt_of_le la23 b24.size;
              have cb24_0 := cb b24 lb23 cb23_0;
              have cb24_1 := cb b24 lb23 cb23_1;
              have lb24 := Nat.lt_of_lt_of_le lb23 b24.size))
        go_ret
        refine ⟨rfl, ?_⟩
        repeat (first | exact belx | with_reducible refine ba ?_ _ | with_reducible refine bs ?_ (by omega) _ | with_reducible refine bd ?_ | (with_reducible refine bt ?_ (by assumption)))
    · have d2 : (hx == hy) = false := beq_eq_false_iff_ne.2 h2
      have L1 : decide (X < Y) = false := decide_eq_false (by omega)
      have L2 : decide (Y < X) = true := decide_eq_true (by omega)
      rw [L1] at M1
      rw [L2] at M2
      clear EX EY L1 L2 h1 h2 lx0 lx1 ly0 ly1
      go_wp2_with (first
        | (go_at_call 23; (with_reducible refine (M1 _).mono ?_); rintro e w20 ⟨rfl, b20⟩;
            have ca20_0 := cb b20 lax cax_0;
            have ca20_1 := cb b20 lax cax_1;
            have la20 := Nat.lt_of_lt_of_le lax b20.size;
            have cb20_0 := cb b20 lbx cbx_0;
            have cb20_1 := cb b20 lbx cbx_1;
            have lb20 := Nat.lt_of_lt_of_le lbx b20.size)
        | (go_at_call 23; (with_reducible refine (M1 _).mono ?_); rintro e w21 ⟨rfl, b21⟩;
            have ca21_0 := cb b21 la20 ca20_0;
            have ca21_1 := cb b21 la20 ca20_1;
            have la21 := Nat.lt_of_lt_of_le la20 b21.size;
            have cb21_0 := cb b21 lb20 cb20_0;
            have cb21_1 := cb b21 lb20 cb20_1;
            have lb21 := Nat.lt_of_lt_of_le lb20 b21.size)
        | (go_at_call 23; (with_reducible refine (M1 _).mono ?_); rintro e w22 ⟨rfl, b22⟩;
            have ca22_0 := cb b22 la21 ca21_0;
            have ca22_1 := cb b22 la21 ca21_1;
            have la22 := Nat.lt_of_lt_of_le la21 b22.size;
            have cb22_0 := cb b22 lb21 cb21_0;
            have cb22_1 := cb b22 lb21 cb21_1;
            have lb22 := Nat.lt_of_lt_of_le lb21 b22.size)
        | (go_at_call 23; (with_reducible refine (M2 _).mono ?_); rintro e w23 ⟨rfl, b23⟩;
            have ca23_0 := cb b23 la22 ca22_0;
            have ca23_1 := cb b23 la22 ca22_1;
            have la23 := Nat.lt_of_lt_of_le la22 b23.size;
            have cb23_0 := cb b23 lb22 cb22_0;
            have cb23_1 := cb b23 lb22 cb22_1;
            have lb23 := Nat.lt_of_lt_of_le lb22 b23.size))
      go_ret
      refine ⟨rfl, ?_⟩
      repeat (first | exact belx | with_reducible refine ba ?_ _ | with_reducible refine bs ?_ (by omega) _ | with_reducible refine bd ?_ | (with_reducible refine bt ?_ (by assumption)))
end Go.Proofs.Ytgofhfcnmechoaa
