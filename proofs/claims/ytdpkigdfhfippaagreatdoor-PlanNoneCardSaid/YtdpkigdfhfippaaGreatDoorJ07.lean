/- Parts, joined. -/
import Derived.Test.YtdpkigdfhfippaaGreatDoorJ04
import Derived.Test.YtdpkigdfhfippaaGreatDoorJ03
import Derived.Test.YtdpkigdfhfippaaGreatDoorJ06
import Derived.Test.YtdpkigdfhfippaaGreatDoorJ05
import Derived.Test.YtdpkigdfhfippaaGreatDoorJ01
import Derived.Laws.Bits64b
/- The program's rounded quotient (fixed.Div). -/
namespace Go.Proofs.YtdpkigdfhfippaaGreatDoor
open Go.RowKit


theorem half_neg (r b : Int) (hb : b < 0) (b0 : -9223372036854775808 ≤ b) (r0 : b < r) (r1 : r ≤ 0) (t : Bool) (ht : decide (2 * r ≤ b) = t) (w : World) :
    Calls Tryz.prog 134 #[.int .i64 r, .int .i64 b] w fun e w' => e = .returned (.bool t) ∧ w = w' := by
  have T := hide ht
  clear ht
  go_enter Tryz.func134, Tryz.ntmps134
  go_wp2
  go_ret
  exact ⟨ret_bool ((decide_eq_decide.2 (by omega)).trans T.out), rfl⟩
theorem half_pos (r b : Int) (hb : 0 < b) (b0 : b ≤ 9223372036854775807) (r0 : 0 ≤ r) (r1 : r < b) (t : Bool) (ht : decide (b ≤ 2 * r) = t) (w : World) :
    Calls Tryz.prog 134 #[.int .i64 r, .int .i64 b] w fun e w' => e = .returned (.bool t) ∧ w = w' := by
  have T := hide ht
  clear ht
  have hb' : ¬ b < 0 := by omega
  go_enter Tryz.func134, Tryz.ntmps134
  go_wp2
  go_ret
  exact ⟨ret_bool ((decide_eq_decide.2 (by omega)).trans T.out), rfl⟩
theorem fixdiv_any (a b : Int) (h0 : -9223372036854775808 ≤ a) (h1 : a ≤ 9223372036854775807) (k0 : -9223372036854775808 ≤ b) (k1 : b ≤ 9223372036854775807) (w : World) :
    Calls Tryz.prog 112 #[.int .i64 a, .int .i64 b] w fun e w' => e = .returned (.int .i64 (divF a b)) ∧ w = w' := by
  have CF := fixfloor_any a b h0 h1 k0 k1
  have CM := fixmod_any a b h0 h1 k0 k1
  by_cases hb : b = 0
  · subst hb
    rw [show floorF a 0 = 0 from if_pos rfl] at CF
    rw [show modF a 0 = 0 from if_pos rfl] at CM
    rw [show divF a 0 = 0 from if_pos rfl]
    go_enter Tryz.func112, Tryz.ntmps112
    go_wp2_with (first
      | (go_at_call 90; (with_reducible refine (CF _).mono ?_); rintro e w' ⟨rfl, rfl⟩)
      | (go_at_call 91; (with_reducible refine (CM _).mono ?_); rintro e w' ⟨rfl, rfl⟩))
    go_ret
    exact ⟨rfl, rfl⟩
  rw [floorF_of hb] at CF
  rw [modF_of hb] at CM
  rw [divF_of hb]
  have I := floorR_in a b
  by_cases hr : floorR a b = 0
  · have e : nearQ a b = floorQ a b := by
      by_cases hn : b < 0
      · rw [near_neg hn, hr, if_neg (by omega), Int.add_zero]
      · rw [near_pos (by omega), hr, if_neg (by omega), Int.add_zero]
    rw [e]
    rw [hr] at CM
    clear e I hr
    go_enter Tryz.func112, Tryz.ntmps112
    go_wp2_with (first
      | (go_at_call 90; (with_reducible refine (CF _).mono ?_); rintro e w' ⟨rfl, rfl⟩)
      | (go_at_call 91; (with_reducible refine (CM _).mono ?_); rintro e w' ⟨rfl, rfl⟩))
    go_ret
    exact ⟨rfl, rfl⟩
  have Q := floorQ_mid h0 h1 hb hr
  rw [holdI_in (by omega) (by omega)] at CF
  have key : ∃ t : Bool, nearQ a b = floorQ a b + (if t = true then 1 else 0) ∧ (∀ w : World, Calls Tryz.prog 134 #[.int .i64 (floorR a b), .int .i64 b] w fun e w' => e = .returned (.bool t) ∧ w = w') := by
    by_cases hn : b < 0
    · have i := I.2 hn
      refine ⟨decide (2 * floorR a b ≤ b), ?_, fun w => half_neg _ b hn k0 i.1 i.2 _ rfl w⟩
      rw [near_neg hn]; simp only [decide_eq_true_eq]
    · have i := I.1 (by omega)
      refine ⟨decide (b ≤ 2 * floorR a b), ?_, fun w => half_pos _ b (by omega) k1 i.1 i.2 _ rfl w⟩
      rw [near_pos (by omega)]; simp only [decide_eq_true_eq]
  obtain ⟨t, et, CH⟩ := key
  have hr' : (floorR a b != 0) = true := by simp [hr]
  clear hr I
  rw [et]
  clear et
  generalize floorQ a b = q at *
  generalize floorR a b = r at *
  cases t
  · rw [if_neg (by decide), Int.add_zero, holdI_in (by omega) (by omega)]
    go_enter Tryz.func112, Tryz.ntmps112
    go_wp2_with (first
      | (go_at_call 90; (with_reducible refine (CF _).mono ?_); rintro e w' ⟨rfl, rfl⟩)
      | (go_at_call 91; (with_reducible refine (CM _).mono ?_); rintro e w' ⟨rfl, rfl⟩)
      | (go_at_call 134; (with_reducible refine (CH _).mono ?_); rintro e w' ⟨rfl, rfl⟩))
    go_ret
    exact ⟨rfl, rfl⟩
  · rw [if_pos rfl, holdI_in (by omega) (by omega)]
    go_enter Tryz.func112, Tryz.ntmps112
    go_wp2_with (first
      | (go_at_call 90; (with_reducible refine (CF _).mono ?_); rintro e w' ⟨rfl, rfl⟩)
      | (go_at_call 91; (with_reducible refine (CM _).mono ?_); rintro e w' ⟨rfl, rfl⟩)
      | (go_at_call 134; (with_reducible refine (CH _).mono ?_); rintro e w' ⟨rfl, rfl⟩))
    go_ret
    exact ⟨by first | rfl | exact ret_i64 (wrap_in' (by omega) (by omega)), rfl⟩
end Go.Proofs.YtdpkigdfhfippaaGreatDoor

/- The law on shifts. -/
namespace Go.Proofs.YtdpkigdfhfippaaGreatDoor
open Go.RowKit


theorem refshift_any (x n : Int) (h0 : -9223372036854775808 ≤ x) (h1 : x ≤ 9223372036854775807) (w : World) :
    Calls Tryz.prog 79 #[.int .i64 x, .int .i64 n] w fun e w' => e = .returned (.int .i64 (shiftF x n)) ∧ Below w.heap.size w w' := by
  by_cases hs : n < 1
  · rw [show shiftF x n = x from if_pos (by omega)]
    exact (refshift_small x n hs w).mono fun e w' ⟨he, hw⟩ => ⟨he, hw ▸ Below.refl _ _⟩
  by_cases hg : 64 < n
  · rw [show shiftF x n = 0 from (if_neg (by omega)).trans (if_pos (by omega))]
    exact (refshift_great x n hg w).mono fun e w' ⟨he, hw⟩ => ⟨he, hw ▸ Below.refl _ _⟩
  obtain ⟨N, rfl⟩ : ∃ N : Nat, n = (N : Int) + 1 := ⟨n.toNat - 1, by omega⟩
  exact refshift_mid x _ N rfl h0 h1 (by omega) w
end Go.Proofs.YtdpkigdfhfippaaGreatDoor

/- Plain arithmetic for this seat: long numbers of 128 bits with a sign, going round. No program text in sight. -/
namespace Go.Proofs.YtdpkigdfhfippaaGreatDoor


/-- A whole number, gone round at 2^128 to where long numbers are. -/
def wrapL (x : Int) : Int := (x + 170141183460469231731687303715884105728) % 340282366920938463463374607431768211456 - 170141183460469231731687303715884105728
theorem wrapL_in {x : Int} (h0 : -170141183460469231731687303715884105728 ≤ x) (h1 : x < 170141183460469231731687303715884105728) : wrapL x = x := by unfold wrapL; omega
theorem hiS0 {x : Int} (h0 : -170141183460469231731687303715884105728 ≤ x) : -9223372036854775808 ≤ hi x := by unfold hi; omega
theorem hiS1 {x : Int} (h1 : x < 170141183460469231731687303715884105728) : hi x ≤ 9223372036854775807 := by unfold hi; omega
theorem lo_sum (x y : Int) : (lo x + lo y) % 18446744073709551616 = lo (wrapL (x + y)) := by unfold lo wrapL; omega
theorem hi_sum (x y : Int) : (hi x + hi y + (lo x + lo y) / 18446744073709551616 + 9223372036854775808) % 18446744073709551616 - 9223372036854775808 = hi (wrapL (x + y)) := by unfold hi lo wrapL; omega
theorem lo_neg (x : Int) : (0 - lo x) % 18446744073709551616 = lo (wrapL (-x)) := by unfold lo wrapL; omega
theorem hi_neg (x : Int) : (0 - hi x - (if 0 < lo x then 1 else 0) + 9223372036854775808) % 18446744073709551616 - 9223372036854775808 = hi (wrapL (-x)) := by unfold hi lo wrapL; split <;> omega
theorem hi_sum64 (x y : Int) : ((hi x % 18446744073709551616 + hi y % 18446744073709551616 + (lo x + lo y) / 18446744073709551616) % 18446744073709551616 + 9223372036854775808) % 18446744073709551616 - 9223372036854775808 = hi (wrapL (x + y)) := by rw [← hi_sum]; omega
theorem lo_neg0 {x : Int} (h : lo x = 0) : lo (wrapL (-x)) = 0 := by unfold lo at h; unfold lo wrapL; omega
theorem hi_neg0 {x : Int} (h : lo x = 0) : (-(hi x % 18446744073709551616) % 18446744073709551616 + 9223372036854775808) % 18446744073709551616 - 9223372036854775808 = hi (wrapL (-x)) := by rw [← hi_neg, if_neg (by omega)]; omega
theorem lo_neg1 {x : Int} (_h : 0 < lo x) : -lo x % 18446744073709551616 = lo (wrapL (-x)) := by rw [← lo_neg]; omega
theorem hi_neg1 {x : Int} (h : 0 < lo x) : ((-(hi x % 18446744073709551616) - 1) % 18446744073709551616 + 9223372036854775808) % 18446744073709551616 - 9223372036854775808 = hi (wrapL (-x)) := by rw [← hi_neg, if_pos h]; omega
theorem hiS_one {x : Int} (h0 : -9223372036854775808 ≤ x) (h1 : x ≤ 9223372036854775807) : x / 9223372036854775808 = hi x := by unfold hi; omega
/-- Two numbers that share no bit, put together. -/
theorem or_apart (a b : Int) (k : Nat) (a0 : 0 ≤ a) (a1 : a * 2 ^ k < 18446744073709551616) (b0 : 0 ≤ b) (b1 : b < 2 ^ k) (b2 : b < 18446744073709551616) : bits .or .u64 (a * 2 ^ k) b = a * 2 ^ k + b := by
  obtain ⟨a, rfl⟩ := Int.eq_ofNat_of_zero_le a0
  obtain ⟨b, rfl⟩ := Int.eq_ofNat_of_zero_le b0
  have hk : (2 : Int) ^ k = ((2 ^ k : Nat) : Int) := by simp
  rw [hk] at a1 b1 ⊢
  have e : (a : Int) * ((2 ^ k : Nat) : Int) = ((a * 2 ^ k : Nat) : Int) := by simp
  rw [e] at a1 ⊢
  rw [bits_or_u64_nat _ _ (by omega) (by omega)]
  have h := Nat.two_pow_add_eq_or_of_lt (show b < 2 ^ k by omega) a
  rw [Nat.mul_comm a]
  omega
theorem pow_split {n : Nat} (h : n ≤ 64) : (18446744073709551616 : Int) = 2 ^ n * 2 ^ (64 - n) := by
  have h2 : (18446744073709551616 : Int) = 2 ^ (n + (64 - n)) := by
    have : n + (64 - n) = 64 := by omega
    rw [this]; rfl
  rw [h2, Int.pow_add]
/-- A long number, shifted down. -/
theorem down_far {x : Int} {n : Nat} (h : 64 ≤ n) : hi x / 2 ^ (n - 64) = x / 2 ^ n := by
  have h2 : (2 : Int) ^ n = 18446744073709551616 * 2 ^ (n - 64) := by
    have h2 : (2 : Int) ^ n = 2 ^ (64 + (n - 64)) := by congr 1; omega
    rw [h2, Int.pow_add]; rfl
  unfold hi
  rw [h2, Int.ediv_ediv_of_nonneg (by decide)]
theorem down_hi {x : Int} {n : Nat} : hi x / 2 ^ n = hi (x / 2 ^ n) := by
  unfold hi
  rw [Int.ediv_ediv_of_nonneg (by decide), Int.ediv_ediv_of_nonneg (Int.le_of_lt (pow2_pos n)), Int.mul_comm]
theorem down_lo {x : Int} {n : Nat} (h : n ≤ 64) : bits .or .u64 (IntKind.u64.wrap (IntKind.u64.wrap (hi x) * 2 ^ (64 - n))) (lo x / 2 ^ n) = lo (x / 2 ^ n) := by
  have e := pow_split h
  have p := pow2_pos n
  have q := pow2_pos (64 - n)
  have l0 := lo0 x
  have l1 := lo1 x
  have b0 : 0 ≤ lo x / 2 ^ n := Int.ediv_nonneg l0 (Int.le_of_lt p)
  have b1 : lo x / 2 ^ n < 2 ^ (64 - n) := Int.ediv_lt_of_lt_mul p (by rw [Int.mul_comm, ← e]; exact l1)
  have b2 : lo x / 2 ^ n < 18446744073709551616 := Int.lt_of_le_of_lt (Int.ediv_le_self _ l0) l1
  have ed : x / 2 ^ n = hi x * 2 ^ (64 - n) + lo x / 2 ^ n := by
    have hx := hl x
    conv => lhs; rw [← hx, e]
    rw [Int.mul_comm (2 ^ n) (2 ^ (64 - n)), ← Int.mul_assoc, Int.mul_comm, Int.mul_add_ediv_left _ _ (Int.ne_of_gt p)]
  rw [IntKind.wrap_u64, IntKind.wrap_u64]
  have ew : (hi x % 18446744073709551616 * 2 ^ (64 - n)) % 18446744073709551616 = (hi x % 2 ^ n) * 2 ^ (64 - n) := by
    conv => lhs; rw [e]
    rw [Int.mul_comm (2 ^ n) (2 ^ (64 - n)), Int.mul_comm _ (2 ^ (64 - n)), Int.mul_emod_mul_of_pos _ _ q, Int.mul_comm]
    congr 1
    rw [Int.emod_emod_of_dvd]
    exact ⟨2 ^ (64 - n), Int.mul_comm _ _⟩
  rw [ew]
  have m := rest_in (x := hi x) p
  have hm : hi x % 2 ^ n * 2 ^ (64 - n) < 18446744073709551616 := by
    rw [e]; exact Int.mul_lt_mul_of_pos_right m.2 q
  rw [or_apart _ _ _ m.1 hm b0 b1 b2]
  have hk := Int.mul_ediv_add_emod (hi x) (2 ^ n)
  have et : hi x * 2 ^ (64 - n) = 18446744073709551616 * (hi x / 2 ^ n) + hi x % 2 ^ n * 2 ^ (64 - n) := by
    conv => lhs; rw [← hk]
    rw [Int.add_mul, e, Int.mul_right_comm]
  have hle : (hi x % 2 ^ n + 1) * 2 ^ (64 - n) ≤ 18446744073709551616 := by
    rw [e]; exact Int.mul_le_mul_of_nonneg_right (by omega) (Int.le_of_lt q)
  rw [Int.add_mul, Int.one_mul] at hle
  have m0 := Int.mul_nonneg m.1 (Int.le_of_lt q)
  exact (mod_of (a := x / 2 ^ n) (b := 18446744073709551616) (q := hi x / 2 ^ n) (by rw [ed, et]; omega) (by omega) (by omega)).symm
/-- A long quotient, by halves. -/
theorem div_halves {x d : Int} (d0 : 0 < d) : hi x / d = hi (x / d) ∧ (hi x % d * 18446744073709551616 + lo x) / d = lo (x / d) ∧ (hi x % d * 18446744073709551616 + lo x) % d = x % d := by
  have hx := hl x
  have l0 := lo0 x
  have l1 := lo1 x
  have e := Int.mul_ediv_add_emod (hi x) d
  have r := rest_in (x := hi x) d0
  generalize hi x % d = R at *
  generalize hi x / d = Q at *
  have e2 := Int.mul_ediv_add_emod (R * 18446744073709551616 + lo x) d
  have r2 := rest_in (x := R * 18446744073709551616 + lo x) d0
  have q1 : (R * 18446744073709551616 + lo x) / d < 18446744073709551616 := Int.ediv_lt_of_lt_mul d0 (by
    have : (R + 1) * 18446744073709551616 ≤ d * 18446744073709551616 := Int.mul_le_mul_of_nonneg_right (by omega) (by decide)
    rw [Int.mul_comm 18446744073709551616 d] at *
    omega)
  have q0 : 0 ≤ (R * 18446744073709551616 + lo x) / d := Int.ediv_nonneg (by omega) (by omega)
  generalize (R * 18446744073709551616 + lo x) / d = q at *
  generalize (R * 18446744073709551616 + lo x) % d = r at *
  have ex : x = d * (Q * 18446744073709551616 + q) + r := by
    rw [Int.mul_add, ← Int.mul_assoc]
    generalize d * q = dq at *
    have : d * Q * 18446744073709551616 = (hi x - R) * 18446744073709551616 := by congr 1; omega
    rw [this]
    omega
  rw [div_of ex r2.1 r2.2, mod_of ex r2.1 r2.2]
  exact ⟨hi_of rfl q0 q1, lo_of rfl q0 q1, rfl⟩
end Go.Proofs.YtdpkigdfhfippaaGreatDoor

/- Products, held: the program's (fixed.Mul). -/
namespace Go.Proofs.YtdpkigdfhfippaaGreatDoor
open Go.RowKit


theorem wrap_mul {p : Int} (h0 : -9223372036854775808 ≤ p) (h1 : p ≤ 9223372036854775807) : wrap64 p = p := wrap_in' h0 h1
/-- A product, by its factors without signs. -/
theorem mul_signs (a b : Int) : (a < 0 → b < 0 → a * b = absI a * absI b) ∧ (a < 0 → 0 ≤ b → a * b = -(absI a * absI b)) ∧ (0 ≤ a → b < 0 → a * b = -(absI a * absI b)) ∧ (0 ≤ a → 0 ≤ b → a * b = absI a * absI b) := by
  refine ⟨fun h k => ?_, fun h k => ?_, fun h k => ?_, fun h k => ?_⟩
  · rw [absI_neg h, absI_neg k, Int.neg_mul_neg]
  · rw [absI_neg h, absI_pos k, Int.neg_mul, Int.neg_neg]
  · rw [absI_pos h, absI_neg k, Int.mul_neg, Int.neg_neg]
  · rw [absI_pos h, absI_pos k]
theorem abs_mul_le {a b : Int} (h0 : -9223372036854775808 ≤ a) (h1 : a ≤ 9223372036854775807) (k0 : -9223372036854775808 ≤ b) (k1 : b ≤ 9223372036854775807) : 0 ≤ absI a * absI b ∧ absI a * absI b ≤ 85070591730234615865843651857942052864 := by
  have a0 := absI0 a
  have b0 := absI0 b
  have a1 : absI a ≤ 9223372036854775808 := absI1 h0 (by omega)
  have b1 : absI b ≤ 9223372036854775808 := absI1 k0 (by omega)
  exact ⟨Int.mul_nonneg a0 b0, by have := Int.mul_le_mul a1 b1 b0 (by omega); omega⟩
theorem mul64_int (x y : Int) (x0 : 0 ≤ x) (x1 : x < 18446744073709551616) (y0 : 0 ≤ y) (y1 : y < 18446744073709551616) (w : World) :
    Calls Tryz.prog 142 #[.int .u64 x, .int .u64 y] w fun e w' => e = .returned (.tuple #[.int .u64 (x * y / 18446744073709551616), .int .u64 (x * y % 18446744073709551616)]) ∧ w = w' := by
  obtain ⟨x, rfl⟩ := Int.eq_ofNat_of_zero_le x0
  obtain ⟨y, rfl⟩ := Int.eq_ofNat_of_zero_le y0
  have h := mul64_any x y (by omega) (by omega) w
  simpa using h
set_option maxHeartbeats 1000000 in
theorem fixmul_any (a b : Int) (h0 : -9223372036854775808 ≤ a) (h1 : a ≤ 9223372036854775807) (k0 : -9223372036854775808 ≤ b) (k1 : b ≤ 9223372036854775807) (w : World) :
    Calls Tryz.prog 119 #[.int .i64 a, .int .i64 b] w fun e w' => e = .returned (.int .i64 (holdI (a * b))) ∧ w = w' := by
  have CA := fixsize_any a h0 h1
  have CB := fixsize_any b k0 k1
  have a0 := absI0 a
  have b0 := absI0 b
  have a1 : absI a ≤ 9223372036854775808 := absI1 h0 (by omega)
  have b1 : absI b ≤ 9223372036854775808 := absI1 k0 (by omega)
  have CM := mul64_int (absI a) (absI b) a0 (by omega) b0 (by omega)
  obtain ⟨m1, m2, m3, m4⟩ := mul_signs a b
  obtain ⟨p0, p1⟩ := abs_mul_le h0 h1 k0 k1
  generalize absI a * absI b = P at *
  generalize absI a = A at *
  generalize absI b = B at *
  clear a0 b0 a1 b1
  obtain ⟨H, eH⟩ : ∃ H, H = P / 18446744073709551616 := ⟨_, rfl⟩
  obtain ⟨L, eL⟩ : ∃ L, L = P % 18446744073709551616 := ⟨_, rfl⟩
  rw [← eH, ← eL] at CM
  have eP : H * 18446744073709551616 + L = P := by omega
  have H0 : 0 ≤ H := by omega
  have L0 : 0 ≤ L := by omega
  have L1 : L < 18446744073709551616 := by omega
  have M1 := hide m1; have M2 := hide m2; have M3 := hide m3; have M4 := hide m4; have EP := hide eP
  clear m1 m2 m3 m4 eP eH eL p0 p1
  by_cases ha : a < 0
  · by_cases hb : b < 0
    · have ga : a < 0 := by omega
      have gb : b < 0 := by omega
      have e := M1.out ga gb
      have da : decide (a < 0) = true := decide_eq_true (by omega)
      have db : decide (b < 0) = true := decide_eq_true (by omega)
      by_cases hH0 : H = 0
      · by_cases hL : 9223372036854775807 < L
        · rw [holdI_hi (by have := EP.out; omega)]
          clear ga gb e
          have hH : (H != 0) = false := by simp [hH0]
          go_enter Tryz.func119, Tryz.ntmps119
          go_wp2_with (first
            | (go_at_call 143; (with_reducible refine (CA _).mono ?_); rintro e w' ⟨rfl, rfl⟩)
            | (go_at_call 143; (with_reducible refine (CB _).mono ?_); rintro e w' ⟨rfl, rfl⟩)
            | (go_at_call 142; (with_reducible refine (CM _).mono ?_); rintro e w' ⟨rfl, rfl⟩))
          go_ret
          exact ⟨rfl, rfl⟩
        · have e2 : a * b = L := by have := EP.out; omega
          rw [e, ← e, holdI_in (by omega) (by omega)]
          have W := hide (show wrap64 (a * b) = a * b from wrap_mul (by omega) (by omega))
          clear e2
          clear ga gb e
          have hH : (H != 0) = false := by simp [hH0]
          go_enter Tryz.func119, Tryz.ntmps119
          go_wp2_with (first
            | (go_at_call 143; (with_reducible refine (CA _).mono ?_); rintro e w' ⟨rfl, rfl⟩)
            | (go_at_call 143; (with_reducible refine (CB _).mono ?_); rintro e w' ⟨rfl, rfl⟩)
            | (go_at_call 142; (with_reducible refine (CM _).mono ?_); rintro e w' ⟨rfl, rfl⟩))
          go_ret
          exact ⟨ret_i64 (by first | rfl | exact W.out), rfl⟩
      · rw [holdI_hi (by have := EP.out; omega)]
        clear ga gb e
        have hH : (H != 0) = true := by simp [hH0]
        go_enter Tryz.func119, Tryz.ntmps119
        go_wp2_with (first
          | (go_at_call 143; (with_reducible refine (CA _).mono ?_); rintro e w' ⟨rfl, rfl⟩)
          | (go_at_call 143; (with_reducible refine (CB _).mono ?_); rintro e w' ⟨rfl, rfl⟩)
          | (go_at_call 142; (with_reducible refine (CM _).mono ?_); rintro e w' ⟨rfl, rfl⟩))
        go_ret
        exact ⟨rfl, rfl⟩
    · have ga : a < 0 := by omega
      have gb : 0 ≤ b := by omega
      have e := M2.out ga gb
      have da : decide (a < 0) = true := decide_eq_true (by omega)
      have db : decide (b < 0) = false := decide_eq_false (by omega)
      by_cases hH0 : H = 0
      · by_cases hL : 9223372036854775808 < L
        · rw [holdI_lo (by have := EP.out; omega)]
          clear ga gb e
          have hH : (H != 0) = false := by simp [hH0]
          go_enter Tryz.func119, Tryz.ntmps119
          go_wp2_with (first
            | (go_at_call 143; (with_reducible refine (CA _).mono ?_); rintro e w' ⟨rfl, rfl⟩)
            | (go_at_call 143; (with_reducible refine (CB _).mono ?_); rintro e w' ⟨rfl, rfl⟩)
            | (go_at_call 142; (with_reducible refine (CM _).mono ?_); rintro e w' ⟨rfl, rfl⟩))
          go_ret
          exact ⟨rfl, rfl⟩
        · have e2 : a * b = -L := by have := EP.out; omega
          rw [e, ← e, holdI_in (by omega) (by omega)]
          have W := hide (show wrap64 (a * b) = a * b from wrap_mul (by omega) (by omega))
          clear e2
          clear ga gb e
          have hH : (H != 0) = false := by simp [hH0]
          go_enter Tryz.func119, Tryz.ntmps119
          go_wp2_with (first
            | (go_at_call 143; (with_reducible refine (CA _).mono ?_); rintro e w' ⟨rfl, rfl⟩)
            | (go_at_call 143; (with_reducible refine (CB _).mono ?_); rintro e w' ⟨rfl, rfl⟩)
            | (go_at_call 142; (with_reducible refine (CM _).mono ?_); rintro e w' ⟨rfl, rfl⟩))
          go_ret
          exact ⟨ret_i64 (by first | rfl | exact W.out), rfl⟩
      · rw [holdI_lo (by have := EP.out; omega)]
        clear ga gb e
        have hH : (H != 0) = true := by simp [hH0]
        go_enter Tryz.func119, Tryz.ntmps119
        go_wp2_with (first
          | (go_at_call 143; (with_reducible refine (CA _).mono ?_); rintro e w' ⟨rfl, rfl⟩)
          | (go_at_call 143; (with_reducible refine (CB _).mono ?_); rintro e w' ⟨rfl, rfl⟩)
          | (go_at_call 142; (with_reducible refine (CM _).mono ?_); rintro e w' ⟨rfl, rfl⟩))
        go_ret
        exact ⟨rfl, rfl⟩
  · by_cases hb : b < 0
    · have ga : 0 ≤ a := by omega
      have gb : b < 0 := by omega
      have e := M3.out ga gb
      have da : decide (a < 0) = false := decide_eq_false (by omega)
      have db : decide (b < 0) = true := decide_eq_true (by omega)
      by_cases hH0 : H = 0
      · by_cases hL : 9223372036854775808 < L
        · rw [holdI_lo (by have := EP.out; omega)]
          clear ga gb e
          have hH : (H != 0) = false := by simp [hH0]
          go_enter Tryz.func119, Tryz.ntmps119
          go_wp2_with (first
            | (go_at_call 143; (with_reducible refine (CA _).mono ?_); rintro e w' ⟨rfl, rfl⟩)
            | (go_at_call 143; (with_reducible refine (CB _).mono ?_); rintro e w' ⟨rfl, rfl⟩)
            | (go_at_call 142; (with_reducible refine (CM _).mono ?_); rintro e w' ⟨rfl, rfl⟩))
          go_ret
          exact ⟨rfl, rfl⟩
        · have e2 : a * b = -L := by have := EP.out; omega
          rw [e, ← e, holdI_in (by omega) (by omega)]
          have W := hide (show wrap64 (a * b) = a * b from wrap_mul (by omega) (by omega))
          clear e2
          clear ga gb e
          have hH : (H != 0) = false := by simp [hH0]
          go_enter Tryz.func119, Tryz.ntmps119
          go_wp2_with (first
            | (go_at_call 143; (with_reducible refine (CA _).mono ?_); rintro e w' ⟨rfl, rfl⟩)
            | (go_at_call 143; (with_reducible refine (CB _).mono ?_); rintro e w' ⟨rfl, rfl⟩)
            | (go_at_call 142; (with_reducible refine (CM _).mono ?_); rintro e w' ⟨rfl, rfl⟩))
          go_ret
          exact ⟨ret_i64 (by first | rfl | exact W.out), rfl⟩
      · rw [holdI_lo (by have := EP.out; omega)]
        clear ga gb e
        have hH : (H != 0) = true := by simp [hH0]
        go_enter Tryz.func119, Tryz.ntmps119
        go_wp2_with (first
          | (go_at_call 143; (with_reducible refine (CA _).mono ?_); rintro e w' ⟨rfl, rfl⟩)
          | (go_at_call 143; (with_reducible refine (CB _).mono ?_); rintro e w' ⟨rfl, rfl⟩)
          | (go_at_call 142; (with_reducible refine (CM _).mono ?_); rintro e w' ⟨rfl, rfl⟩))
        go_ret
        exact ⟨rfl, rfl⟩
    · have ga : 0 ≤ a := by omega
      have gb : 0 ≤ b := by omega
      have e := M4.out ga gb
      have da : decide (a < 0) = false := decide_eq_false (by omega)
      have db : decide (b < 0) = false := decide_eq_false (by omega)
      by_cases hH0 : H = 0
      · by_cases hL : 9223372036854775807 < L
        · rw [holdI_hi (by have := EP.out; omega)]
          clear ga gb e
          have hH : (H != 0) = false := by simp [hH0]
          go_enter Tryz.func119, Tryz.ntmps119
          go_wp2_with (first
            | (go_at_call 143; (with_reducible refine (CA _).mono ?_); rintro e w' ⟨rfl, rfl⟩)
            | (go_at_call 143; (with_reducible refine (CB _).mono ?_); rintro e w' ⟨rfl, rfl⟩)
            | (go_at_call 142; (with_reducible refine (CM _).mono ?_); rintro e w' ⟨rfl, rfl⟩))
          go_ret
          exact ⟨rfl, rfl⟩
        · have e2 : a * b = L := by have := EP.out; omega
          rw [e, ← e, holdI_in (by omega) (by omega)]
          have W := hide (show wrap64 (a * b) = a * b from wrap_mul (by omega) (by omega))
          clear e2
          clear ga gb e
          have hH : (H != 0) = false := by simp [hH0]
          go_enter Tryz.func119, Tryz.ntmps119
          go_wp2_with (first
            | (go_at_call 143; (with_reducible refine (CA _).mono ?_); rintro e w' ⟨rfl, rfl⟩)
            | (go_at_call 143; (with_reducible refine (CB _).mono ?_); rintro e w' ⟨rfl, rfl⟩)
            | (go_at_call 142; (with_reducible refine (CM _).mono ?_); rintro e w' ⟨rfl, rfl⟩))
          go_ret
          exact ⟨ret_i64 (by first | rfl | exact W.out), rfl⟩
      · rw [holdI_hi (by have := EP.out; omega)]
        clear ga gb e
        have hH : (H != 0) = true := by simp [hH0]
        go_enter Tryz.func119, Tryz.ntmps119
        go_wp2_with (first
          | (go_at_call 143; (with_reducible refine (CA _).mono ?_); rintro e w' ⟨rfl, rfl⟩)
          | (go_at_call 143; (with_reducible refine (CB _).mono ?_); rintro e w' ⟨rfl, rfl⟩)
          | (go_at_call 142; (with_reducible refine (CM _).mono ?_); rintro e w' ⟨rfl, rfl⟩))
        go_ret
        exact ⟨rfl, rfl⟩
end Go.Proofs.YtdpkigdfhfippaaGreatDoor
