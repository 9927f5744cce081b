/- Parts, joined. -/
import Derived.Test.YtaafhjngnjjcmaaGreatDoorJ04
import Derived.Test.YtaafhjngnjjcmaaGreatDoorJ03
import Derived.Test.YtaafhjngnjjcmaaGreatDoorJ05
import Derived.Laws.Externs
import Derived.Shelf.Spec.BitsCarry
import Derived.Deep.RegionHeld3
import Derived.Deep.DeepCutAuto
/- Products, held: the program's (fixed.Mul). -/
namespace Go.Proofs.YtaafhjngnjjcmaaGreatDoor
open Go.RowKit


theorem wrap_mul {p : Int} (h0 : -9223372036854775808 ≤ p) (h1 : p ≤ 9223372036854775807) : wrap64 p = p := wrap_in' h0 h1
/-- A product, by its factors without signs. -/
theorem mul_signs (a b : Int) : (a < 0 → b < 0 → a * b = absI a * absI b) ∧ (a < 0 → 0 ≤ b → a * b = -(absI a * absI b)) ∧ (0 ≤ a → b < 0 → a * b = -(absI a * absI b)) ∧ (0 ≤ a → 0 ≤ b → a * b = absI a * absI b) := by
  refine ⟨fun h k => ?_, fun h k => ?_, fun h k => ?_, fun h k => ?_⟩
  · rw [absI_neg h, absI_neg k, Int.neg_mul_neg]
  · rw [absI_neg h, absI_pos k, Int.neg_mul, Int.neg_neg]
  · rw [absI_pos h, absI_neg k, Int.mul_neg, Int.neg_neg]
  · rw [absI_pos h, absI_pos k]
theorem abs_mul_le {a b : Int} (h0 : -9223372036854775808 ≤ a) (h1 : a ≤ 9223372036854775807) (k0 : -9223372036854775808 ≤ b) (k1 : b ≤ 9223372036854775807) : 0 ≤ absI a * absI b ∧ absI a * absI b ≤ 85070591730234615865843651857942052864 := by
  have a0 := absI0 a
  have b0 := absI0 b
  have a1 : absI a ≤ 9223372036854775808 := absI1 h0 (by omega)
  have b1 : absI b ≤ 9223372036854775808 := absI1 k0 (by omega)
  exact ⟨Int.mul_nonneg a0 b0, by have := Int.mul_le_mul a1 b1 b0 (by omega); omega⟩
theorem mul64_int (x y : Int) (x0 : 0 ≤ x) (x1 : x < 18446744073709551616) (y0 : 0 ≤ y) (y1 : y < 18446744073709551616) (w : World) :
    Calls Tryz.prog 86 #[.int .u64 x, .int .u64 y] w fun e w' => e = .returned (.tuple #[.int .u64 (x * y / 18446744073709551616), .int .u64 (x * y % 18446744073709551616)]) ∧ w = w' := by
  obtain ⟨x, rfl⟩ := Int.eq_ofNat_of_zero_le x0
  obtain ⟨y, rfl⟩ := Int.eq_ofNat_of_zero_le y0
  have h := mul64_any x y (by omega) (by omega) w
  simpa using h
set_option maxHeartbeats 1000000 in
theorem fixmul_any (a b : Int) (h0 : -9223372036854775808 ≤ a) (h1 : a ≤ 9223372036854775807) (k0 : -9223372036854775808 ≤ b) (k1 : b ≤ 9223372036854775807) (w : World) :
    Calls Tryz.prog 130 #[.int .i64 a, .int .i64 b] w fun e w' => e = .returned (.int .i64 (holdI (a * b))) ∧ w = w' := by
  have CA := fixsize_any a h0 h1
  have CB := fixsize_any b k0 k1
  have a0 := absI0 a
  have b0 := absI0 b
  have a1 : absI a ≤ 9223372036854775808 := absI1 h0 (by omega)
  have b1 : absI b ≤ 9223372036854775808 := absI1 k0 (by omega)
  have CM := mul64_int (absI a) (absI b) a0 (by omega) b0 (by omega)
  obtain ⟨m1, m2, m3, m4⟩ := mul_signs a b
  obtain ⟨p0, p1⟩ := abs_mul_le h0 h1 k0 k1
  generalize absI a * absI b = P at *
  generalize absI a = A at *
  generalize absI b = B at *
  clear a0 b0 a1 b1
  obtain ⟨H, eH⟩ : ∃ H, H = P / 18446744073709551616 := ⟨_, rfl⟩
  obtain ⟨L, eL⟩ : ∃ L, L = P % 18446744073709551616 := ⟨_, rfl⟩
  rw [← eH, ← eL] at CM
  have eP : H * 18446744073709551616 + L = P := by omega
  have H0 : 0 ≤ H := by omega
  have L0 : 0 ≤ L := by omega
  have L1 : L < 18446744073709551616 := by omega
  have M1 := hide m1; have M2 := hide m2; have M3 := hide m3; have M4 := hide m4; have EP := hide eP
  clear m1 m2 m3 m4 eP eH eL p0 p1
  by_cases ha : a < 0
  · by_cases hb : b < 0
    · have ga : a < 0 := by omega
      have gb : b < 0 := by omega
      have e := M1.out ga gb
      have da : decide (a < 0) = true := decide_eq_true (by omega)
      have db : decide (b < 0) = true := decide_eq_true (by omega)
      by_cases hH0 : H = 0
      · by_cases hL : 9223372036854775807 < L
        · rw [holdI_hi (by have := EP.out; omega)]
          clear ga gb e
          have hH : (H != 0) = false := by simp [hH0]
          go_enter Tryz.func130, Tryz.ntmps130
          go_wp2_with (first
            | (go_at_call 152; (with_reducible refine (CA _).mono ?_); rintro e w' ⟨rfl, rfl⟩)
            | (go_at_call 152; (with_reducible refine (CB _).mono ?_); rintro e w' ⟨rfl, rfl⟩)
            | (go_at_call 86; (with_reducible refine (CM _).mono ?_); rintro e w' ⟨rfl, rfl⟩))
          go_ret
          exact ⟨rfl, rfl⟩
        · have e2 : a * b = L := by have := EP.out; omega
          rw [e, ← e, holdI_in (by omega) (by omega)]
          have W := hide (show wrap64 (a * b) = a * b from wrap_mul (by omega) (by omega))
          clear e2
          clear ga gb e
          have hH : (H != 0) = false := by simp [hH0]
          go_enter Tryz.func130, Tryz.ntmps130
          go_wp2_with (first
            | (go_at_call 152; (with_reducible refine (CA _).mono ?_); rintro e w' ⟨rfl, rfl⟩)
            | (go_at_call 152; (with_reducible refine (CB _).mono ?_); rintro e w' ⟨rfl, rfl⟩)
            | (go_at_call 86; (with_reducible refine (CM _).mono ?_); rintro e w' ⟨rfl, rfl⟩))
          go_ret
          exact ⟨ret_i64 (by first | rfl | exact W.out), rfl⟩
      · rw [holdI_hi (by have := EP.out; omega)]
        clear ga gb e
        have hH : (H != 0) = true := by simp [hH0]
        go_enter Tryz.func130, Tryz.ntmps130
        go_wp2_with (first
          | (go_at_call 152; (with_reducible refine (CA _).mono ?_); rintro e w' ⟨rfl, rfl⟩)
          | (go_at_call 152; (with_reducible refine (CB _).mono ?_); rintro e w' ⟨rfl, rfl⟩)
          | (go_at_call 86; (with_reducible refine (CM _).mono ?_); rintro e w' ⟨rfl, rfl⟩))
        go_ret
        exact ⟨rfl, rfl⟩
    · have ga : a < 0 := by omega
      have gb : 0 ≤ b := by omega
      have e := M2.out ga gb
      have da : decide (a < 0) = true := decide_eq_true (by omega)
      have db : decide (b < 0) = false := decide_eq_false (by omega)
      by_cases hH0 : H = 0
      · by_cases hL : 9223372036854775808 < L
        · rw [holdI_lo (by have := EP.out; omega)]
          clear ga gb e
          have hH : (H != 0) = false := by simp [hH0]
          go_enter Tryz.func130, Tryz.ntmps130
          go_wp2_with (first
            | (go_at_call 152; (with_reducible refine (CA _).mono ?_); rintro e w' ⟨rfl, rfl⟩)
            | (go_at_call 152; (with_reducible refine (CB _).mono ?_); rintro e w' ⟨rfl, rfl⟩)
            | (go_at_call 86; (with_reducible refine (CM _).mono ?_); rintro e w' ⟨rfl, rfl⟩))
          go_ret
          exact ⟨rfl, rfl⟩
        · have e2 : a * b = -L := by have := EP.out; omega
          rw [e, ← e, holdI_in (by omega) (by omega)]
          have W := hide (show wrap64 (a * b) = a * b from wrap_mul (by omega) (by omega))
          clear e2
          clear ga gb e
          have hH : (H != 0) = false := by simp [hH0]
          go_enter Tryz.func130, Tryz.ntmps130
          go_wp2_with (first
            | (go_at_call 152; (with_reducible refine (CA _).mono ?_); rintro e w' ⟨rfl, rfl⟩)
            | (go_at_call 152; (with_reducible refine (CB _).mono ?_); rintro e w' ⟨rfl, rfl⟩)
            | (go_at_call 86; (with_reducible refine (CM _).mono ?_); rintro e w' ⟨rfl, rfl⟩))
          go_ret
          exact ⟨ret_i64 (by first | rfl | exact W.out), rfl⟩
      · rw [holdI_lo (by have := EP.out; omega)]
        clear ga gb e
        have hH : (H != 0) = true := by simp [hH0]
        go_enter Tryz.func130, Tryz.ntmps130
        go_wp2_with (first
          | (go_at_call 152; (with_reducible refine (CA _).mono ?_); rintro e w' ⟨rfl, rfl⟩)
          | (go_at_call 152; (with_reducible refine (CB _).mono ?_); rintro e w' ⟨rfl, rfl⟩)
          | (go_at_call 86; (with_reducible refine (CM _).mono ?_); rintro e w' ⟨rfl, rfl⟩))
        go_ret
        exact ⟨rfl, rfl⟩
  · by_cases hb : b < 0
    · have ga : 0 ≤ a := by omega
      have gb : b < 0 := by omega
      have e := M3.out ga gb
      have da : decide (a < 0) = false := decide_eq_false (by omega)
      have db : decide (b < 0) = true := decide_eq_true (by omega)
      by_cases hH0 : H = 0
      · by_cases hL : 9223372036854775808 < L
        · rw [holdI_lo (by have := EP.out; omega)]
          clear ga gb e
          have hH : (H != 0) = false := by simp [hH0]
          go_enter Tryz.func130, Tryz.ntmps130
          go_wp2_with (first
            | (go_at_call 152; (with_reducible refine (CA _).mono ?_); rintro e w' ⟨rfl, rfl⟩)
            | (go_at_call 152; (with_reducible refine (CB _).mono ?_); rintro e w' ⟨rfl, rfl⟩)
            | (go_at_call 86; (with_reducible refine (CM _).mono ?_); rintro e w' ⟨rfl, rfl⟩))
          go_ret
          exact ⟨rfl, rfl⟩
        · have e2 : a * b = -L := by have := EP.out; omega
          rw [e, ← e, holdI_in (by omega) (by omega)]
          have W := hide (show wrap64 (a * b) = a * b from wrap_mul (by omega) (by omega))
          clear e2
          clear ga gb e
          have hH : (H != 0) = false := by simp [hH0]
          go_enter Tryz.func130, Tryz.ntmps130
          go_wp2_with (first
            | (go_at_call 152; (with_reducible refine (CA _).mono ?_); rintro e w' ⟨rfl, rfl⟩)
            | (go_at_call 152; (with_reducible refine (CB _).mono ?_); rintro e w' ⟨rfl, rfl⟩)
            | (go_at_call 86; (with_reducible refine (CM _).mono ?_); rintro e w' ⟨rfl, rfl⟩))
          go_ret
          exact ⟨ret_i64 (by first | rfl | exact W.out), rfl⟩
      · rw [holdI_lo (by have := EP.out; omega)]
        clear ga gb e
        have hH : (H != 0) = true := by simp [hH0]
        go_enter Tryz.func130, Tryz.ntmps130
        go_wp2_with (first
          | (go_at_call 152; (with_reducible refine (CA _).mono ?_); rintro e w' ⟨rfl, rfl⟩)
          | (go_at_call 152; (with_reducible refine (CB _).mono ?_); rintro e w' ⟨rfl, rfl⟩)
          | (go_at_call 86; (with_reducible refine (CM _).mono ?_); rintro e w' ⟨rfl, rfl⟩))
        go_ret
        exact ⟨rfl, rfl⟩
    · have ga : 0 ≤ a := by omega
      have gb : 0 ≤ b := by omega
      have e := M4.out ga gb
      have da : decide (a < 0) = false := decide_eq_false (by omega)
      have db : decide (b < 0) = false := decide_eq_false (by omega)
      by_cases hH0 : H = 0
      · by_cases hL : 9223372036854775807 < L
        · rw [holdI_hi (by have := EP.out; omega)]
          clear ga gb e
          have hH : (H != 0) = false := by simp [hH0]
          go_enter Tryz.func130, Tryz.ntmps130
          go_wp2_with (first
            | (go_at_call 152; (with_reducible refine (CA _).mono ?_); rintro e w' ⟨rfl, rfl⟩)
            | (go_at_call 152; (with_reducible refine (CB _).mono ?_); rintro e w' ⟨rfl, rfl⟩)
            | (go_at_call 86; (with_reducible refine (CM _).mono ?_); rintro e w' ⟨rfl, rfl⟩))
          go_ret
          exact ⟨rfl, rfl⟩
        · have e2 : a * b = L := by have := EP.out; omega
          rw [e, ← e, holdI_in (by omega) (by omega)]
          have W := hide (show wrap64 (a * b) = a * b from wrap_mul (by omega) (by omega))
          clear e2
          clear ga gb e
          have hH : (H != 0) = false := by simp [hH0]
          go_enter Tryz.func130, Tryz.ntmps130
          go_wp2_with (first
            | (go_at_call 152; (with_reducible refine (CA _).mono ?_); rintro e w' ⟨rfl, rfl⟩)
            | (go_at_call 152; (with_reducible refine (CB _).mono ?_); rintro e w' ⟨rfl, rfl⟩)
            | (go_at_call 86; (with_reducible refine (CM _).mono ?_); rintro e w' ⟨rfl, rfl⟩))
          go_ret
          exact ⟨ret_i64 (by first | rfl | exact W.out), rfl⟩
      · rw [holdI_hi (by have := EP.out; omega)]
        clear ga gb e
        have hH : (H != 0) = true := by simp [hH0]
        go_enter Tryz.func130, Tryz.ntmps130
        go_wp2_with (first
          | (go_at_call 152; (with_reducible refine (CA _).mono ?_); rintro e w' ⟨rfl, rfl⟩)
          | (go_at_call 152; (with_reducible refine (CB _).mono ?_); rintro e w' ⟨rfl, rfl⟩)
          | (go_at_call 86; (with_reducible refine (CM _).mono ?_); rintro e w' ⟨rfl, rfl⟩))
        go_ret
        exact ⟨rfl, rfl⟩
end Go.Proofs.YtaafhjngnjjcmaaGreatDoor

/- Long numbers: what the program's small calls (package wide) do. -/
namespace Go.Proofs.YtaafhjngnjjcmaaGreatDoor
open Go.RowKit


theorem add64_law (x y c : Int) (hx : 0 ≤ x) (hy : 0 ≤ y) (h0 : 0 ≤ c) (h1 : c ≤ 1) (w : World) :
    (callFunc 87 #[.int .u64 x, .int .u64 y, .int .u64 c]).run Tryz.prog w = .ok (.value (.tuple #[.int .u64 ((x + y + c) % 18446744073709551616), .int .u64 ((x + y + c) / 18446744073709551616)])) w := by
  rw [run_callFunc_extern Tryz.func87 (by kernel_rfl) (by kernel_rfl) (by kernel_rfl) (e := add64Entry) (by kernel_rfl), run_add64 x y c hx hy h0 h1]
  rfl
theorem sub64_law (x y c : Int) (hx : 0 ≤ x) (x1 : x < 18446744073709551616) (hy : 0 ≤ y) (y1 : y < 18446744073709551616) (h0 : 0 ≤ c) (h1 : c ≤ 1) (w : World) :
    (callFunc 187 #[.int .u64 x, .int .u64 y, .int .u64 c]).run Tryz.prog w = .ok (.value (.tuple #[.int .u64 ((x - y - c) % 18446744073709551616), .int .u64 (if x < y + c then 1 else 0)])) w := by
  obtain ⟨x, rfl⟩ := Int.eq_ofNat_of_zero_le hx
  obtain ⟨y, rfl⟩ := Int.eq_ofNat_of_zero_le hy
  obtain ⟨c, rfl⟩ := Int.eq_ofNat_of_zero_le h0
  rw [run_callFunc_extern Tryz.func187 (by kernel_rfl) (by kernel_rfl) (by kernel_rfl) (e := sub64Entry) (by kernel_rfl), run_sub64 x y c (by omega)]
  have e1 : ((((x + 18446744073709551616 - y - c) % 18446744073709551616 : Nat)) : Int) = ((x : Int) - y - c) % 18446744073709551616 := by omega
  have e2 : (((if x < y + c then 1 else 0 : Nat)) : Int) = if (x : Int) < y + c then 1 else 0 := by
    by_cases h : x < y + c
    · rw [if_pos h, if_pos (by omega)]; rfl
    · rw [if_neg h, if_neg (by omega)]; rfl
  simp only [Result.andThen, e1, e2]
/-- A long number, as a value. -/
theorem ret_long {h l x : Int} (eh : h = hi x) (el : l = lo x) :
    Ending.returned (.agg #[.int .i64 h, .int .u64 l]) = .returned (.agg #[.int .i64 (hi x), .int .u64 (lo x)]) := by rw [eh, el]
theorem widesize_any (x : Int) (h0 : -9223372036854775808 ≤ x) (h1 : x ≤ 9223372036854775807) (w : World) :
    Calls Tryz.prog 168 #[.int .i64 x] w fun e w' => e = .returned (.int .u64 (absI x)) ∧ w = w' := by
  go_enter Tryz.func168, Tryz.ntmps168
  go_wp2
  · rename_i h
    go_ret
    exact ⟨ret_u64 (by rw [absI_neg h, IntKind.wrap_u64, IntKind.wrap_u64]; omega), rfl⟩
  · rename_i h
    go_ret
    exact ⟨ret_u64 (by rw [absI_pos h]), rfl⟩
theorem of_any (x : Int) (h0 : -9223372036854775808 ≤ x) (h1 : x ≤ 9223372036854775807) (w : World) :
    Calls Tryz.prog 171 #[.int .i64 x] w fun e w' => e = .returned (.agg #[.int .i64 (hi x), .int .u64 (lo x)]) ∧ Below w.heap.size w w' := by
  go_enter Tryz.func171, Tryz.ntmps171
  go_wp2
  refine bodyPost_ret (v := .agg #[.int .i64 (x / 9223372036854775808), .int .u64 (IntKind.u64.wrap x)]) (by simp [results, Tryz.results171, go_sem]) rfl ⟨ret_long (hiS_one h0 h1) (by rw [IntKind.wrap_u64]; rfl), below1 _ _⟩
theorem sum_any (x y : Int) (h0 : -170141183460469231731687303715884105728 ≤ x) (h1 : x < 170141183460469231731687303715884105728) (k0 : -170141183460469231731687303715884105728 ≤ y) (k1 : y < 170141183460469231731687303715884105728) (w : World) :
    Calls Tryz.prog 170 #[.agg #[.int .i64 (hi x), .int .u64 (lo x)], .agg #[.int .i64 (hi y), .int .u64 (lo y)]] w fun e w' => e = .returned (.agg #[.int .i64 (hi (wrapL (x + y))), .int .u64 (lo (wrapL (x + y)))]) ∧ Below w.heap.size w w' := by
  have l0 := lo0 x
  have l1 := lo1 x
  have m0 := lo0 y
  have m1 := lo1 y
  have g0 := hiS0 h0
  have g1 := hiS1 h1
  have g2 := hiS0 k0
  have g3 := hiS1 k1
  have u0 : 0 ≤ IntKind.u64.wrap (hi x) := by rw [IntKind.wrap_u64]; omega
  have u1 : 0 ≤ IntKind.u64.wrap (hi y) := by rw [IntKind.wrap_u64]; omega
  have A2 := hide (fun w => add64_law (IntKind.u64.wrap (hi x)) (IntKind.u64.wrap (hi y)) ((lo x + lo y) / 18446744073709551616) u0 u1 (by omega) (by omega) w)
  clear h0 h1 k0 k1 u0 u1
  go_enter Tryz.func170, Tryz.ntmps170
  go_wp2_with (first | simp only [A2.out] | simp (disch := omega) only [add64_law])
  simp [bodyPost, results, Tryz.results170, go_sem]
  exact ⟨⟨by rw [IntKind.wrap_u64, IntKind.wrap_u64]; unfold wrap64; exact hi_sum64 x y, lo_sum x y⟩, below3 _ _ _ _⟩
theorem negative_any (x : Int) (h0 : -170141183460469231731687303715884105728 ≤ x) (h1 : x < 170141183460469231731687303715884105728) (w : World) :
    Calls Tryz.prog 167 #[.agg #[.int .i64 (hi x), .int .u64 (lo x)]] w fun e w' => e = .returned (.agg #[.int .i64 (hi (wrapL (-x))), .int .u64 (lo (wrapL (-x)))]) ∧ Below w.heap.size w w' := by
  have l0 := lo0 x
  have l1 := lo1 x
  have g0 := hiS0 h0
  have g1 := hiS1 h1
  clear h0 h1
  have u0 : 0 ≤ IntKind.u64.wrap (hi x) := by rw [IntKind.wrap_u64]; omega
  have u1 : IntKind.u64.wrap (hi x) < 18446744073709551616 := by rw [IntKind.wrap_u64]; omega
  have A1 := hide (fun w => sub64_law 0 (lo x) 0 (by omega) (by omega) l0 l1 (by omega) (by omega) w)
  have A2 := hide (fun w => sub64_law 0 (IntKind.u64.wrap (hi x)) 0 (by omega) (by omega) u0 u1 (by omega) (by omega) w)
  have A3 := hide (fun w => sub64_law 0 (IntKind.u64.wrap (hi x)) 1 (by omega) (by omega) u0 u1 (by omega) (by omega) w)
  have v0 : ¬ (0 : Int) > IntKind.u64.wrap (hi x) := by omega
  by_cases h : 0 < lo x
  · have H := hide h
    have v1 : (0 : Int) < IntKind.u64.wrap (hi x) + 1 := by omega
    clear u0 u1 v0
    go_enter Tryz.func167, Tryz.ntmps167
    go_wp2_with (first | simp only [A1.out] | simp only [A3.out])
    all_goals simp [bodyPost, results, Tryz.results167, go_sem]
    all_goals exact ⟨⟨by rw [IntKind.wrap_u64]; unfold wrap64; exact hi_neg1 H.out, lo_neg1 H.out⟩, below2 _ _ _⟩
  · have h' : lo x = 0 := by omega
    have H' := hide h'
    clear h' u0 u1 v0
    go_enter Tryz.func167, Tryz.ntmps167
    go_wp2_with (first | simp only [A1.out] | simp only [A2.out])
    all_goals simp [bodyPost, results, Tryz.results167, go_sem]
    all_goals exact ⟨⟨by rw [IntKind.wrap_u64]; unfold wrap64; exact hi_neg0 H'.out, by rw [lo_neg0 H'.out, H'.out]; rfl⟩, below2 _ _ _⟩
theorem mul64_halves (x y P : Int) (hP : x * y = P) (x0 : 0 ≤ x) (x1 : x < 18446744073709551616) (y0 : 0 ≤ y) (y1 : y < 18446744073709551616) (w : World) :
    Calls Tryz.prog 86 #[.int .u64 x, .int .u64 y] w fun e w' => e = .returned (.tuple #[.int .u64 (hi P), .int .u64 (lo P)]) ∧ w = w' := by
  subst hP
  exact mul64_int x y x0 x1 y0 y1 w
/-- The exact product. -/
theorem product_any (a b : Int) (h0 : -9223372036854775808 ≤ a) (h1 : a ≤ 9223372036854775807) (k0 : -9223372036854775808 ≤ b) (k1 : b ≤ 9223372036854775807) (w : World) :
    Calls Tryz.prog 166 #[.int .i64 a, .int .i64 b] w fun e w' => e = .returned (.agg #[.int .i64 (hi (a * b)), .int .u64 (lo (a * b))]) ∧ Below w.heap.size w w' := by
  have CA := widesize_any a h0 h1
  have CB := widesize_any b k0 k1
  have a0 := absI0 a
  have b0 := absI0 b
  have a1 : absI a ≤ 9223372036854775808 := absI1 h0 (by omega)
  have b1 : absI b ≤ 9223372036854775808 := absI1 k0 (by omega)
  have CM := mul64_halves (absI a) (absI b) _ rfl a0 (by omega) b0 (by omega)
  obtain ⟨m1, m2, m3, m4⟩ := mul_signs a b
  obtain ⟨p0, p1⟩ := abs_mul_le h0 h1 k0 k1
  generalize absI a * absI b = P at *
  generalize absI a = A at *
  generalize absI b = B at *
  clear a0 b0 a1 b1
  have g0 := hi0 p0
  have g1 : hi P ≤ 4611686018427387904 := by unfold hi; omega
  have CN := negative_any P (by omega) (by omega)
  rw [wrapL_in (by omega) (by omega)] at CN
  by_cases ha : a < 0
  · have da : decide (a < 0) = true := decide_eq_true ha
    by_cases hb : b < 0
    · have db : decide (b < 0) = true := decide_eq_true hb
      rw [m1 ha hb]
      clear m1 m2 m3 m4 p0 p1 ha hb
      go_enter Tryz.func166, Tryz.ntmps166
      go_wp2_with (first
        | (go_at_call 168; (with_reducible refine (CA _).mono ?_); rintro e w' ⟨rfl, rfl⟩)
        | (go_at_call 168; (with_reducible refine (CB _).mono ?_); rintro e w' ⟨rfl, rfl⟩)
        | (go_at_call 86; (with_reducible refine (CM _).mono ?_); rintro e w' ⟨rfl, rfl⟩))
      refine bodyPost_ret (v := .agg #[.int .i64 (hi P), .int .u64 (lo P)]) (by simp [results, Tryz.results166, go_sem]) rfl ⟨rfl, ?_⟩
      repeat (first | exact Below.refl _ _ | with_reducible refine ba ?_ _ | with_reducible refine bs ?_ (by omega) _ | with_reducible refine bd ?_ | (with_reducible refine bt ?_ (by assumption)))
    · have db : decide (b < 0) = false := decide_eq_false hb
      rw [m2 ha (by omega)]
      clear m1 m2 m3 m4 p0 p1 ha hb
      go_enter Tryz.func166, Tryz.ntmps166
      go_wp2_with (first
        | (go_at_call 168; (with_reducible refine (CA _).mono ?_); rintro e w' ⟨rfl, rfl⟩)
        | (go_at_call 168; (with_reducible refine (CB _).mono ?_); rintro e w' ⟨rfl, rfl⟩)
        | (go_at_call 86; (with_reducible refine (CM _).mono ?_); rintro e w' ⟨rfl, rfl⟩)
        | (go_at_call 167; (with_reducible refine (CN _).mono ?_); rintro e w2 ⟨rfl, b2⟩;
            have q0 : w2.cell? ⟨w.heap.size, 0, none⟩ = some (.int .i64 0) := cb b2 (by simp; omega) (by simp);
            have q1 : w2.cell? ⟨w.heap.size, 1, none⟩ = some (.int .u64 0) := cb b2 (by simp; omega) (by simp);
            have q2 : w2.frozen? ⟨w.heap.size, 0, none⟩ = false := fb b2 (by simp; omega) (by simp);
            have q3 : w2.frozen? ⟨w.heap.size, 1, none⟩ = false := fb b2 (by simp; omega) (by simp)))
      refine bodyPost_ret (v := .agg #[.int .i64 (hi (-P)), .int .u64 (lo (-P))]) (by simp [results, Tryz.results166, go_sem, q0, q1]) rfl ⟨rfl, ?_⟩
      repeat (first | exact Below.refl _ _ | with_reducible refine ba ?_ _ | with_reducible refine bs ?_ (by omega) _ | with_reducible refine bd ?_ | (with_reducible refine bt ?_ (by assumption)))
  · have da : decide (a < 0) = false := decide_eq_false ha
    by_cases hb : b < 0
    · have db : decide (b < 0) = true := decide_eq_true hb
      rw [m3 (by omega) hb]
      clear m1 m2 m3 m4 p0 p1 ha hb
      go_enter Tryz.func166, Tryz.ntmps166
      go_wp2_with (first
        | (go_at_call 168; (with_reducible refine (CA _).mono ?_); rintro e w' ⟨rfl, rfl⟩)
        | (go_at_call 168; (with_reducible refine (CB _).mono ?_); rintro e w' ⟨rfl, rfl⟩)
        | (go_at_call 86; (with_reducible refine (CM _).mono ?_); rintro e w' ⟨rfl, rfl⟩)
        | (go_at_call 167; (with_reducible refine (CN _).mono ?_); rintro e w2 ⟨rfl, b2⟩;
            have q0 : w2.cell? ⟨w.heap.size, 0, none⟩ = some (.int .i64 0) := cb b2 (by simp; omega) (by simp);
            have q1 : w2.cell? ⟨w.heap.size, 1, none⟩ = some (.int .u64 0) := cb b2 (by simp; omega) (by simp);
            have q2 : w2.frozen? ⟨w.heap.size, 0, none⟩ = false := fb b2 (by simp; omega) (by simp);
            have q3 : w2.frozen? ⟨w.heap.size, 1, none⟩ = false := fb b2 (by simp; omega) (by simp)))
      refine bodyPost_ret (v := .agg #[.int .i64 (hi (-P)), .int .u64 (lo (-P))]) (by simp [results, Tryz.results166, go_sem, q0, q1]) rfl ⟨rfl, ?_⟩
      repeat (first | exact Below.refl _ _ | with_reducible refine ba ?_ _ | with_reducible refine bs ?_ (by omega) _ | with_reducible refine bd ?_ | (with_reducible refine bt ?_ (by assumption)))
    · have db : decide (b < 0) = false := decide_eq_false hb
      rw [m4 (by omega) (by omega)]
      clear m1 m2 m3 m4 p0 p1 ha hb
      go_enter Tryz.func166, Tryz.ntmps166
      go_wp2_with (first
        | (go_at_call 168; (with_reducible refine (CA _).mono ?_); rintro e w' ⟨rfl, rfl⟩)
        | (go_at_call 168; (with_reducible refine (CB _).mono ?_); rintro e w' ⟨rfl, rfl⟩)
        | (go_at_call 86; (with_reducible refine (CM _).mono ?_); rintro e w' ⟨rfl, rfl⟩))
      refine bodyPost_ret (v := .agg #[.int .i64 (hi P), .int .u64 (lo P)]) (by simp [results, Tryz.results166, go_sem]) rfl ⟨rfl, ?_⟩
      repeat (first | exact Below.refl _ _ | with_reducible refine ba ?_ _ | with_reducible refine bs ?_ (by omega) _ | with_reducible refine bd ?_ | (with_reducible refine bt ?_ (by assumption)))
end Go.Proofs.YtaafhjngnjjcmaaGreatDoor

/- Long numbers: held, shifted down, divided. -/
namespace Go.Proofs.YtaafhjngnjjcmaaGreatDoor
open Go.RowKit


theorem new0L (w : World) (u v : Value) (t : TypeId) : (w.alloc (.cells #[u, v] t)).cell? ⟨w.heap.size, 0, none⟩ = some u := by simp
theorem new1L (w : World) (u v : Value) (t : TypeId) : (w.alloc (.cells #[u, v] t)).cell? ⟨w.heap.size, 1, none⟩ = some v := by simp
theorem new_ltL (w : World) (o : Obj) : w.heap.size < (w.alloc o).heap.size := by simp
theorem wlo_same (x : Int) : lo (wrap64 (lo x)) = lo x := by unfold wrap64 lo; omega
theorem wlo_in {x : Int} (h0 : -9223372036854775808 ≤ x) (h1 : x ≤ 9223372036854775807) : wrap64 (lo x) = x := by unfold wrap64 lo; omega
theorem whi_out {x : Int} (h : x < -9223372036854775808 ∨ 9223372036854775807 < x) : hi x ≠ hi (wrap64 (lo x)) := by unfold wrap64 hi lo; omega
theorem wlo0 (x : Int) : -9223372036854775808 ≤ wrap64 x := by unfold wrap64; omega
theorem wlo1 (x : Int) : wrap64 x ≤ 9223372036854775807 := by unfold wrap64; omega
set_option maxHeartbeats 1000000 in
theorem whold_any (x : Int) (w : World) :
    Calls Tryz.prog 172 #[.agg #[.int .i64 (hi x), .int .u64 (lo x)]] w fun e w' => e = .returned (.int .i64 (holdI x)) ∧ Below w.heap.size w w' := by
  have n0 := new0L w (.int .i64 (hi x)) (.int .u64 (lo x)) 197
  have n1 := new1L w (.int .i64 (hi x)) (.int .u64 (lo x)) 197
  have n2 := new_ltL w (.cells #[.int .i64 (hi x), .int .u64 (lo x)] 197)
  have CO := of_any (wrap64 (lo x)) (wlo0 _) (wlo1 _)
  rw [wlo_same] at CO
  by_cases h : -9223372036854775808 ≤ x ∧ x ≤ 9223372036854775807
  · rw [holdI_in h.1 h.2]
    have e := wlo_in h.1 h.2
    rw [show hi (wrap64 (lo x)) = hi x by rw [e]] at CO
    have E := hide e
    clear e h
    go_enter Tryz.func172, Tryz.ntmps172
    go_wp2
    go_region_held3 (fun w' => w'.cell? ⟨w.heap.size, 0, none⟩ = some (.int .i64 (hi x)) ∧ w'.cell? ⟨w.heap.size, 1, none⟩ = some (.int .u64 (lo x)))
      (first | exact ⟨n0, n1⟩ | exact ⟨y0, y1⟩)
      (first
        | (go_at_call 171; (with_reducible refine (CO _).mono ?_); rintro e w1 ⟨rfl, b1⟩; have y0 := cb b1 n2 n0; have y1 := cb b1 n2 n1))
    clear n0 n1 n2
    go_wp2
    go_ret
    refine ⟨ret_i64 E.out, ?_⟩
    repeat (first | exact Below.refl _ _ | with_reducible refine ba ?_ _ | with_reducible refine bs ?_ (by omega) _ | with_reducible refine bd ?_ | (with_reducible refine bt ?_ (by assumption)))
  · have hne := whi_out (x := x) (by omega)
    generalize hi (wrap64 (lo x)) = h' at *
    have hb : (hi x == h') = false := beq_eq_false_iff_ne.2 hne
    have E := hide (hl x)
    have l0 := lo0 x
    have l1 := lo1 x
    have NE := hide h
    clear hne h
    by_cases hn : hi x < 0
    · have dn : decide (hi x < 0) = true := decide_eq_true hn
      rw [holdI_lo (by have := E.out; have := NE.out; omega)]
      go_enter Tryz.func172, Tryz.ntmps172
      go_wp2
      go_region_held3 (fun w' => w'.cell? ⟨w.heap.size, 0, none⟩ = some (.int .i64 (hi x)) ∧ w'.cell? ⟨w.heap.size, 1, none⟩ = some (.int .u64 (lo x)))
        (first | exact ⟨n0, n1⟩ | exact ⟨y0, y1⟩)
        (first
          | (go_at_call 171; (with_reducible refine (CO _).mono ?_); rintro e w1 ⟨rfl, b1⟩; have y0 := cb b1 n2 n0; have y1 := cb b1 n2 n1))
      clear n0 n1 n2
      go_wp2
      go_ret
      refine ⟨rfl, ?_⟩
      repeat (first | exact Below.refl _ _ | with_reducible refine ba ?_ _ | with_reducible refine bs ?_ (by omega) _ | with_reducible refine bd ?_ | (with_reducible refine bt ?_ (by assumption)))
    · have dn : decide (hi x < 0) = false := decide_eq_false hn
      rw [holdI_hi (by have := E.out; have := NE.out; omega)]
      go_enter Tryz.func172, Tryz.ntmps172
      go_wp2
      go_region_held3 (fun w' => w'.cell? ⟨w.heap.size, 0, none⟩ = some (.int .i64 (hi x)) ∧ w'.cell? ⟨w.heap.size, 1, none⟩ = some (.int .u64 (lo x)))
        (first | exact ⟨n0, n1⟩ | exact ⟨y0, y1⟩)
        (first
          | (go_at_call 171; (with_reducible refine (CO _).mono ?_); rintro e w1 ⟨rfl, b1⟩; have y0 := cb b1 n2 n0; have y1 := cb b1 n2 n1))
      clear n0 n1 n2
      go_wp2
      go_ret
      refine ⟨rfl, ?_⟩
      repeat (first | exact Below.refl _ _ | with_reducible refine ba ?_ _ | with_reducible refine bs ?_ (by omega) _ | with_reducible refine bd ?_ | (with_reducible refine bt ?_ (by assumption)))
/-- The library's long quotient at these numbers. -/
def Div64At (h l d : Int) : Prop := ∀ w : World, Calls Tryz.prog 188 #[.int .u64 h, .int .u64 l, .int .u64 d] w fun e w' => e = .returned (.tuple #[.int .u64 ((h * 18446744073709551616 + l) / d), .int .u64 ((h * 18446744073709551616 + l) % d)]) ∧ Below w.heap.size w w'
theorem div64_zero (l d : Int) (l0 : 0 ≤ l) (l1 : l < 18446744073709551616) (d0 : 0 < d) (d1 : d < 18446744073709551616) : Div64At 0 l d := by
  intro w
  rw [Int.zero_mul, Int.zero_add]
  have hd : (d == 0) = false := beq_eq_false_iff_ne.2 (by omega)
  have hd2 : decide (d ≤ 0) = false := decide_eq_false (by omega)
  have hd3 : d ≠ 0 := by omega
  go_enter Tryz.func188, Tryz.ntmps188
  go_wp2
  go_region
  go_wp2
  go_ret2
  exact ⟨rfl, bd (Below.refl _ _)⟩
theorem divide_any (x d : Int) (h0 : 0 ≤ x) (h1 : x < 170141183460469231731687303715884105728) (d0 : 0 < d) (d1 : d < 18446744073709551616) (CD : Div64At (hi x % d) (lo x) d) (w : World) :
    Calls Tryz.prog 169 #[.agg #[.int .i64 (hi x), .int .u64 (lo x)], .int .u64 d] w fun e w' => e = .returned (.tuple #[.agg #[.int .i64 (hi (x / d)), .int .u64 (lo (x / d))], .int .u64 (x % d)]) ∧ Below w.heap.size w w' := by
  have g0 := hi0 h0
  have g1 := hiS1 h1
  have hd : (d == 0) = false := beq_eq_false_iff_ne.2 (by omega)
  have hd2 : d ≠ 0 := by omega
  obtain ⟨D1, D2, D3⟩ := div_halves (x := x) d0
  have em : (hi x).tmod d = hi x % d := tmod_pp g0
  have CD : ∀ w : World, Calls Tryz.prog 188 #[.int .u64 ((hi x).tmod d), .int .u64 (lo x), .int .u64 d] w fun e w' => e = .returned (.tuple #[.int .u64 (lo (x / d)), .int .u64 (x % d)]) ∧ Below w.heap.size w w' := by
    rw [em, ← D2, ← D3]; exact CD
  have E1 := hide D1
  clear D1 D2 D3 em
  go_enter Tryz.func169, Tryz.ntmps169
  go_wp2
  have n0 := ca (ob := .cells #[.int .i64 0, .int .u64 0] 197) (new_ltL w (.cells #[.int .i64 (hi x), .int .u64 (lo x)] 197)) (new1L w (.int .i64 (hi x)) (.int .u64 (lo x)) 197)
  have n2 : w.heap.size < ((w.alloc (.cells #[.int .i64 (hi x), .int .u64 (lo x)] 197)).alloc (.cells #[.int .i64 0, .int .u64 0] 197)).heap.size := by simp; omega
  go_region_held3 (fun w' => w'.cell? ⟨w.heap.size, 1, none⟩ = some (.int .u64 (lo x)))
    (first | exact n0 | exact y0)
    (first
      | (go_at_call 188; (with_reducible refine (CD _).mono ?_); rintro e w1 ⟨rfl, b1⟩; have y0 := cb b1 n2 n0;
          have q0 : w1.cell? ⟨w.heap.size + 1, 0, none⟩ = some (.int .i64 0) := cb b1 (by simp) (by simp);
          have q1 : w1.cell? ⟨w.heap.size + 1, 1, none⟩ = some (.int .u64 0) := cb b1 (by simp) (by simp);
          have q2 : w1.frozen? ⟨w.heap.size + 1, 0, none⟩ = false := fb b1 (by simp) (by simp);
          have q3 : w1.frozen? ⟨w.heap.size + 1, 1, none⟩ = false := fb b1 (by simp) (by simp)))
  clear n0 n2
  have s0 : 0 ≤ hi x / d := Int.ediv_nonneg g0 (by omega)
  have s1 : hi x / d ≤ 9223372036854775807 := Int.le_trans (Int.ediv_le_self _ g0) g1
  go_wp2
  refine bodyPost_ret (v := .tuple #[.agg #[.int .i64 (hi x / d), .int .u64 (lo (x / d))], .int .u64 (x % d)]) (by simp [results, Tryz.results169, go_sem, q0, q1]) rfl ⟨by rw [E1.out], ?_⟩
  repeat (first | exact Below.refl _ _ | with_reducible refine ba ?_ _ | with_reducible refine bs ?_ (by omega) _ | with_reducible refine bd ?_ | (with_reducible refine bt ?_ (by assumption)))
theorem down_any (x : Int) (n : Nat) (h0 : -170141183460469231731687303715884105728 ≤ x) (h1 : x < 170141183460469231731687303715884105728) (hn : n ≤ 127) (w : World) :
    Calls Tryz.prog 192 #[.agg #[.int .i64 (hi x), .int .u64 (lo x)], .int .i64 n] w fun e w' => e = .returned (.agg #[.int .i64 (hi (x / 2 ^ n)), .int .u64 (lo (x / 2 ^ n))]) ∧ Below w.heap.size w w' := by
  have g0 := hiS0 h0
  have g1 := hiS1 h1
  by_cases h : 64 ≤ n
  · have e := down_far (x := x) h
    have p := pow2_pos (n - 64)
    have s0 : -9223372036854775808 ≤ hi x / 2 ^ (n - 64) := Int.le_trans (by omega) (Int.le_ediv_of_mul_le p (show -9223372036854775808 * 2 ^ (n - 64) ≤ hi x from Int.le_trans (by omega) g0))
    have s1 : hi x / 2 ^ (n - 64) ≤ 9223372036854775807 := by
      have : hi x / 2 ^ (n - 64) < 9223372036854775808 := Int.ediv_lt_of_lt_mul p (by omega)
      omega
    have CO := of_any (hi x / 2 ^ (n - 64)) s0 s1
    have E := hide e
    clear e s0 s1 p
    go_enter Tryz.func192, Tryz.ntmps192
    go_wp2_with (first
        | (go_at_call 171; (with_reducible refine (CO _).mono ?_); rintro e w2 ⟨rfl, b2⟩;
            have q0 : w2.cell? ⟨w.heap.size + 1, 0, none⟩ = some (.int .i64 0) := cb b2 (by simp) (by simp);
            have q1 : w2.cell? ⟨w.heap.size + 1, 1, none⟩ = some (.int .u64 0) := cb b2 (by simp) (by simp);
            have q2 : w2.frozen? ⟨w.heap.size + 1, 0, none⟩ = false := fb b2 (by simp) (by simp);
            have q3 : w2.frozen? ⟨w.heap.size + 1, 1, none⟩ = false := fb b2 (by simp) (by simp)))
    refine bodyPost_ret (v := .agg #[.int .i64 (hi (hi x / 2 ^ (n - 64))), .int .u64 (lo (hi x / 2 ^ (n - 64)))]) (by simp [results, Tryz.results192, go_sem, q0, q1]) rfl ⟨by rw [E.out], ?_⟩
    repeat (first | exact Below.refl _ _ | with_reducible refine ba ?_ _ | with_reducible refine bs ?_ (by omega) _ | with_reducible refine bd ?_ | (with_reducible refine bt ?_ (by assumption)))
  · go_enter Tryz.func192, Tryz.ntmps192
    go_wp2
    go_region
    go_wp2
    refine bodyPost_ret (v := .agg #[.int .i64 (hi (x / 2 ^ n)), .int .u64 (lo (x / 2 ^ n))]) (by simp [results, Tryz.results192, go_sem]; exact ⟨down_hi, down_lo (by omega)⟩) rfl ⟨rfl, ?_⟩
    repeat (first | exact Below.refl _ _ | with_reducible refine ba ?_ _ | with_reducible refine bs ?_ (by omega) _ | with_reducible refine bd ?_ | (with_reducible refine bt ?_ (by assumption)))
end Go.Proofs.YtaafhjngnjjcmaaGreatDoor
