/- The program's rounded quotient, the chapter's examples, and the laws on quotients and rests. -/
import Derived.Test.YtgkcbbnhhaobcaaE
import Derived.Test.YtgkcbbnhhaobcaaF
namespace Go.Proofs.Ytgkcbbnhhaobcaa
open Go.RowKit

theorem half_neg (r b : Int) (hb : b < 0) (b0 : -9223372036854775808 ≤ b) (r0 : b < r) (r1 : r ≤ 0) (t : Bool) (ht : decide (2 * r ≤ b) = t) (w : World) :
    Calls Try.prog 25 #[.int .i64 r, .int .i64 b] w fun e w' => e = .returned (.bool t) ∧ w = w' := by
  have T := hide ht
  clear ht
  go_enter Try.func25, Try.ntmps25
  go_wp2
  go_ret
  exact ⟨ret_bool ((decide_eq_decide.2 (by omega)).trans T.out), rfl⟩
theorem half_pos (r b : Int) (hb : 0 < b) (b0 : b ≤ 9223372036854775807) (r0 : 0 ≤ r) (r1 : r < b) (t : Bool) (ht : decide (b ≤ 2 * r) = t) (w : World) :
    Calls Try.prog 25 #[.int .i64 r, .int .i64 b] w fun e w' => e = .returned (.bool t) ∧ w = w' := by
  have T := hide ht
  clear ht
  have hb' : ¬ b < 0 := by omega
  go_enter Try.func25, Try.ntmps25
  go_wp2
  go_ret
  exact ⟨ret_bool ((decide_eq_decide.2 (by omega)).trans T.out), rfl⟩

theorem fixdiv_any (a b : Int) (h0 : -9223372036854775808 ≤ a) (h1 : a ≤ 9223372036854775807) (k0 : -9223372036854775808 ≤ b) (k1 : b ≤ 9223372036854775807) (w : World) :
    Calls Try.prog 9 #[.int .i64 a, .int .i64 b] w fun e w' => e = .returned (.int .i64 (divF a b)) ∧ w = w' := by
  have CF := fixfloor_any a b h0 h1 k0 k1
  have CM := fixmod_any a b h0 h1 k0 k1
  by_cases hb : b = 0
  · subst hb
    rw [show floorF a 0 = 0 from if_pos rfl] at CF
    rw [show modF a 0 = 0 from if_pos rfl] at CM
    rw [show divF a 0 = 0 from if_pos rfl]
    go_enter Try.func9, Try.ntmps9
    go_wp2_with (first
      | (go_at_call 11; (with_reducible refine (CF _).mono ?_); rintro e w' ⟨rfl, rfl⟩)
      | (go_at_call 13; (with_reducible refine (CM _).mono ?_); rintro e w' ⟨rfl, rfl⟩))
    go_ret
    exact ⟨rfl, rfl⟩
  rw [floorF_of hb] at CF
  rw [modF_of hb] at CM
  rw [divF_of hb]
  have I := floorR_in a b
  by_cases hr : floorR a b = 0
  · have e : nearQ a b = floorQ a b := by
      by_cases hn : b < 0
      · rw [near_neg hn, hr, if_neg (by omega), Int.add_zero]
      · rw [near_pos (by omega), hr, if_neg (by omega), Int.add_zero]
    rw [e]
    rw [hr] at CM
    clear e I hr
    go_enter Try.func9, Try.ntmps9
    go_wp2_with (first
      | (go_at_call 11; (with_reducible refine (CF _).mono ?_); rintro e w' ⟨rfl, rfl⟩)
      | (go_at_call 13; (with_reducible refine (CM _).mono ?_); rintro e w' ⟨rfl, rfl⟩))
    go_ret
    exact ⟨rfl, rfl⟩
  have Q := floorQ_mid h0 h1 hb hr
  rw [holdI_in (by omega) (by omega)] at CF
  have key : ∃ t : Bool, nearQ a b = floorQ a b + (if t = true then 1 else 0) ∧ (∀ w : World, Calls Try.prog 25 #[.int .i64 (floorR a b), .int .i64 b] w fun e w' => e = .returned (.bool t) ∧ w = w') := by
    by_cases hn : b < 0
    · have i := I.2 hn
      refine ⟨decide (2 * floorR a b ≤ b), ?_, fun w => half_neg _ b hn k0 i.1 i.2 _ rfl w⟩
      rw [near_neg hn]; simp only [decide_eq_true_eq]
    · have i := I.1 (by omega)
      refine ⟨decide (b ≤ 2 * floorR a b), ?_, fun w => half_pos _ b (by omega) k1 i.1 i.2 _ rfl w⟩
      rw [near_pos (by omega)]; simp only [decide_eq_true_eq]
  obtain ⟨t, et, CH⟩ := key
  have hr' : (floorR a b != 0) = true := by simp [hr]
  clear hr I
  rw [et]
  clear et
  generalize floorQ a b = q at *
  generalize floorR a b = r at *
  cases t
  · rw [if_neg (by decide), Int.add_zero, holdI_in (by omega) (by omega)]
    go_enter Try.func9, Try.ntmps9
    go_wp2_with (first
      | (go_at_call 11; (with_reducible refine (CF _).mono ?_); rintro e w' ⟨rfl, rfl⟩)
      | (go_at_call 13; (with_reducible refine (CM _).mono ?_); rintro e w' ⟨rfl, rfl⟩)
      | (go_at_call 25; (with_reducible refine (CH _).mono ?_); rintro e w' ⟨rfl, rfl⟩))
    go_ret
    exact ⟨rfl, rfl⟩
  · rw [if_pos rfl, holdI_in (by omega) (by omega)]
    go_enter Try.func9, Try.ntmps9
    go_wp2_with (first
      | (go_at_call 11; (with_reducible refine (CF _).mono ?_); rintro e w' ⟨rfl, rfl⟩)
      | (go_at_call 13; (with_reducible refine (CM _).mono ?_); rintro e w' ⟨rfl, rfl⟩)
      | (go_at_call 25; (with_reducible refine (CH _).mono ?_); rintro e w' ⟨rfl, rfl⟩))
    go_ret
    exact ⟨by first | rfl | exact ret_i64 (wrap_in' (by omega) (by omega)), rfl⟩

theorem lives (w : World) : Calls Try.prog 8 #[] w fun e w' => e = .returned (.bool true) ∧ Below w.heap.size w w' := by
  have CD := fixdiv_any (-7) 2 (by omega) (by omega) (by omega) (by omega)
  have CF := fixfloor_any (-7) 2 (by omega) (by omega) (by omega) (by omega)
  have CM := fixmod_any (-7) 3 (by omega) (by omega) (by omega) (by omega)
  have CN := fixmod_any 7 (-3) (by omega) (by omega) (by omega) (by omega)
  have CS := fixshift_any 5 1 (by omega) (by omega) (by omega) (by omega)
  rw [show divF (-7) 2 = -3 by decide] at CD
  rw [show floorF (-7) 2 = -4 by decide] at CF
  rw [show modF (-7) 3 = 2 by decide] at CM
  rw [show modF 7 (-3) = -2 by decide] at CN
  rw [show shiftF 5 1 = 3 by decide] at CS
  go_enter Try.func8, Try.ntmps8
  go_wp2_with (first
    | (go_at_call 9; (with_reducible refine (CD _).mono ?_); rintro e w' ⟨rfl, rfl⟩)
    | (go_at_call 11; (with_reducible refine (CF _).mono ?_); rintro e w' ⟨rfl, rfl⟩)
    | (go_at_call 13; (with_reducible refine (CM _).mono ?_); rintro e w' ⟨rfl, rfl⟩)
    | (go_at_call 13; (with_reducible refine (CN _).mono ?_); rintro e w' ⟨rfl, rfl⟩)
    | (go_at_call 14; (with_reducible refine (CS _).mono ?_); rintro e w1 ⟨rfl, b1⟩))
  go_ret
  exact ⟨rfl, b1⟩

theorem law_FixedDivides (a b : Int) (ha : -9223372036854775808 ≤ a ∧ a ≤ 9223372036854775807) (hb : -9223372036854775808 ≤ b ∧ b ≤ 9223372036854775807) (w : World) :
    Calls Try.prog 3 #[.int .i64 a, .int .i64 b] w fun e w' => e = .returned (.bool true) ∧ Below w.heap.size w w' := by
  obtain ⟨h0, h1⟩ := ha
  obtain ⟨k0, k1⟩ := hb
  have CD := fixdiv_any a b h0 h1 k0 k1
  have CF := fixfloor_any a b h0 h1 k0 k1
  have CE := refdiv_any a b h0 h1 k0 k1
  have CG := reffloor_any a b h0 h1 k0 k1
  go_enter Try.func3, Try.ntmps3
  go_wp2_with (first
    | (go_at_call 8; (with_reducible refine (lives _).mono ?_); rintro e w0 ⟨rfl, b0⟩)
    | (go_at_call 9; (with_reducible refine (CD _).mono ?_); rintro e w' ⟨rfl, rfl⟩)
    | (go_at_call 11; (with_reducible refine (CF _).mono ?_); rintro e w' ⟨rfl, rfl⟩)
    | (go_at_call 10; (with_reducible refine (CE _).mono ?_); rintro e w1 ⟨rfl, b1⟩)
    | (go_at_call 12; (with_reducible refine (CG _).mono ?_); rintro e w2 ⟨rfl, b2⟩))
  go_ret
  exact ⟨rfl, bt (bt b0 b1) b2⟩

theorem wrap_back {p m a : Int} (e : p + m = a) (h0 : -9223372036854775808 ≤ a) (h1 : a ≤ 9223372036854775807) : wrap64 (wrap64 p + m) = a := by unfold wrap64; omega

theorem law_FixedMods (a b : Int) (ha : -9223372036854775808 ≤ a ∧ a ≤ 9223372036854775807) (hb : -9223372036854775808 ≤ b ∧ b ≤ 9223372036854775807) (w : World) :
    Calls Try.prog 4 #[.int .i64 a, .int .i64 b] w fun e w' => e = .returned (.bool true) ∧ Below w.heap.size w w' := by
  obtain ⟨h0, h1⟩ := ha
  obtain ⟨k0, k1⟩ := hb
  have CF := fixfloor_any a b h0 h1 k0 k1
  have CM := fixmod_any a b h0 h1 k0 k1
  by_cases hz : b = 0
  · subst hz
    rw [show modF a 0 = 0 from if_pos rfl] at CM
    go_enter Try.func4, Try.ntmps4
    go_wp2_with (first
      | (go_at_call 8; (with_reducible refine (lives _).mono ?_); rintro e w0 ⟨rfl, b0⟩)
      | (go_at_call 13; (with_reducible refine (CM _).mono ?_); rintro e w' ⟨rfl, rfl⟩))
    go_ret
    exact ⟨rfl, b0⟩
  have I := floorR_in a b
  have C := cut_any h0 h1 k0 k1 hz
  rw [modF_of hz] at CM
  rw [floorF_of hz] at CF
  by_cases hm : b = -1
  · subst hm
    have e : floorR a (-1) = 0 := by have := I.2 (by omega); omega
    rw [e] at CM
    clear C I e
    go_enter Try.func4, Try.ntmps4
    go_wp2_with (first
      | (go_at_call 8; (with_reducible refine (lives _).mono ?_); rintro e w0 ⟨rfl, b0⟩)
      | (go_at_call 13; (with_reducible refine (CM _).mono ?_); rintro e w' ⟨rfl, rfl⟩))
    go_ret
    exact ⟨rfl, b0⟩
  rw [holdI_in C.q0 (C.q1 (Or.inr fun h => hm h.2))] at CF
  have back : floorQ a b * b + floorR a b = a := by
    unfold floorQ floorR
    by_cases hn : b < 0
    · have := Int.mul_ediv_add_emod (-a) (-b)
      rw [if_pos hn, if_pos hn]
      rw [Int.neg_mul, Int.mul_comm] at this
      omega
    · have := Int.mul_ediv_add_emod a b
      rw [if_neg hn, if_neg hn, Int.mul_comm]
      omega
  have W := wrap_back back h0 h1
  have WB : (wrap64 (wrap64 (floorQ a b * b) + floorR a b) == a) = true := beq_iff_eq.2 W
  clear C W back
  have hmB : (b == -1) = false := beq_eq_false_iff_ne.2 hm
  generalize floorR a b = r at *
  generalize floorQ a b = q at *
  by_cases hn : b < 0
  · have i := I.2 hn
    obtain ⟨i0, i1⟩ := i
    clear I hm hz
    go_enter Try.func4, Try.ntmps4
    go_wp2_with (first
      | (go_at_call 8; (with_reducible refine (lives _).mono ?_); rintro e w0 ⟨rfl, b0⟩)
      | (go_at_call 11; (with_reducible refine (CF _).mono ?_); rintro e w' ⟨rfl, rfl⟩)
      | (go_at_call 13; (with_reducible refine (CM _).mono ?_); rintro e w' ⟨rfl, rfl⟩))
    go_ret
    exact ⟨rfl, b0⟩
  · have i := I.1 (by omega)
    obtain ⟨i0, i1⟩ := i
    clear I hm hz
    go_enter Try.func4, Try.ntmps4
    go_wp2_with (first
      | (go_at_call 8; (with_reducible refine (lives _).mono ?_); rintro e w0 ⟨rfl, b0⟩)
      | (go_at_call 11; (with_reducible refine (CF _).mono ?_); rintro e w' ⟨rfl, rfl⟩)
      | (go_at_call 13; (with_reducible refine (CM _).mono ?_); rintro e w' ⟨rfl, rfl⟩))
    go_ret
    exact ⟨rfl, b0⟩
end Go.Proofs.Ytgkcbbnhhaobcaa
