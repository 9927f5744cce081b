/- Parts, joined. -/
import Derived.Test.YtlknopmpbkepjaaGreatDoorJ01
import Derived.Test.YtlknopmpbkepjaaGreatDoorJ02
import Derived.Shelf.Bits.Mul64
import Derived.Deep.DeepCutAuto
import Derived.Laws.Bits64b
/- The exponential function, in integers: plain arithmetic. -/
namespace Go.Proofs.YtlknopmpbkepjaaGreatDoor
open Go.RowKit


/-- The terms, and their sum, with signs in turn. -/
def termE (r : Int) : Nat → Int
  | 0 => 1099511627776
  | n + 1 => divF (termE r n * r) (((n : Int) + 1) * 1099511627776)
def sumE (r : Int) : Nat → Int
  | 0 => 1099511627776
  | n + 1 => if n % 2 = 0 then sumE r n - termE r (n + 1) else sumE r n + termE r (n + 1)
def posI (t : Int) : Int := max t 0
def expoF (t : Int) : Int := shiftF (sumE (posI t % 762123384786) 16) (posI t / 762123384786)
def ratioF (d s : Int) : Int := if s < 1 ∨ 4194304 < s ∨ d < -16384 ∨ 16384 < d then 9223372036854775807 else divF (d * d * 2147483648 * 1099511627776) (s * s)
def gaussF (d s : Int) : Int := shiftF (expoF (ratioF d s)) 10
theorem near_in {X d m : Int} (hd : 0 < d) (h0 : 0 ≤ X) (h1 : X ≤ m * d) : 0 ≤ nearQ X d ∧ nearQ X d ≤ m := by
  unfold nearQ
  rw [if_neg (by omega)]
  refine ⟨Int.ediv_nonneg (by omega) (by omega), ?_⟩
  have h : (2 * X + d) / (2 * d) < m + 1 := by
    apply Int.ediv_lt_of_lt_mul (by omega)
    have e : (m + 1) * (2 * d) = 2 * (m * d) + 2 * d := by rw [Int.add_mul, Int.mul_left_comm]; omega
    rw [e]; omega
  omega
theorem termE_in {r : Int} (h0 : 0 ≤ r) (h1 : r ≤ 1099511627776) (n : Nat) : 0 ≤ termE r n ∧ termE r n ≤ 1099511627776 := by
  induction n with
  | zero => simp [termE]
  | succ n ih =>
    obtain ⟨a0, a1⟩ := ih
    have p0 : 0 ≤ termE r n * r := Int.mul_nonneg a0 h0
    have p1 : termE r n * r ≤ 1099511627776 * 1099511627776 := Int.mul_le_mul a1 h1 h0 (by omega)
    have p2 : (1099511627776 : Int) * 1099511627776 ≤ 1099511627776 * (((n : Int) + 1) * 1099511627776) := by omega
    have q := near_in (X := termE r n * r) (d := ((n : Int) + 1) * 1099511627776) (m := 1099511627776) (by omega) p0 (by omega)
    show 0 ≤ divF _ _ ∧ divF _ _ ≤ _
    rw [divF_of (by omega), holdI_in (by omega) (by omega)]
    exact q
theorem sumE_in {r : Int} (h0 : 0 ≤ r) (h1 : r ≤ 1099511627776) (n : Nat) : -(((n : Int) + 1) * 1099511627776) ≤ sumE r n ∧ sumE r n ≤ ((n : Int) + 1) * 1099511627776 := by
  induction n with
  | zero => simp [sumE]
  | succ n ih =>
    have t := termE_in h0 h1 (n + 1)
    unfold sumE
    split <;> omega
theorem posI0 (t : Int) : 0 ≤ posI t := by unfold posI; omega
theorem posI1 {t : Int} (h : t ≤ 9223372036854775807) : posI t ≤ 9223372036854775807 := by unfold posI; omega
theorem shiftF_in {x n : Int} (h0 : -9223372036854775808 ≤ x) (h1 : x ≤ 9223372036854775807) : -9223372036854775808 ≤ shiftF x n ∧ shiftF x n ≤ 9223372036854775807 := by
  unfold shiftF
  split
  · exact ⟨h0, h1⟩
  · split
    · omega
    · exact shift_in _ h0 h1
theorem sum16_in {r : Int} (h0 : 0 ≤ r) (h1 : r < 762123384786) : -18691697672192 ≤ sumE r 16 ∧ sumE r 16 ≤ 18691697672192 := by
  have := sumE_in h0 (by omega : r ≤ 1099511627776) 16
  omega
theorem exp_parts {t : Int} (h0 : 0 ≤ t) (h1 : t ≤ 9223372036854775807) : 0 ≤ t % 762123384786 ∧ t % 762123384786 < 762123384786 ∧ 0 ≤ t / 762123384786 ∧ t / 762123384786 ≤ 12102203 := by omega
theorem expoF_in {t : Int} (h1 : t ≤ 9223372036854775807) : -9223372036854775808 ≤ expoF t ∧ expoF t ≤ 9223372036854775807 := by
  have p := exp_parts (posI0 t) (posI1 h1)
  have s := sum16_in p.1 p.2.1
  exact shiftF_in (by omega) (by omega)
theorem divF_in (a b : Int) : -9223372036854775808 ≤ divF a b ∧ divF a b ≤ 9223372036854775807 := by
  unfold divF
  split
  · omega
  · exact ⟨holdI0 _, holdI1 _⟩
theorem ratioF_in (d s : Int) : -9223372036854775808 ≤ ratioF d s ∧ ratioF d s ≤ 9223372036854775807 := by
  unfold ratioF
  split
  · omega
  · exact divF_in _ _
theorem abs_sq (s : Int) : s * s = absI s * absI s := by
  unfold absI
  split
  · rw [Int.neg_mul_neg]
  · rfl
theorem sq_in {s : Int} (h0 : -16777216 ≤ s) (h1 : s ≤ 16777216) : 0 ≤ s * s ∧ s * s ≤ 281474976710656 := by
  have a := abs_sq s
  have b0 : 0 ≤ absI s := absI0 s
  have b1 : absI s ≤ 16777216 := by unfold absI; split <;> omega
  rw [a]
  exact ⟨Int.mul_nonneg b0 b0, Int.mul_le_mul b1 b1 b0 (by omega)⟩
theorem ratioF_pos (d s : Int) : 0 ≤ ratioF d s := by
  unfold ratioF
  split
  · omega
  · rename_i h
    have a := sq_in (s := d) (by omega) (by omega)
    have b := sq_in (s := s) (by omega) (by omega)
    generalize d * d = D at *
    generalize s * s = S at *
    unfold divF
    split
    · omega
    · have q := near_in (X := D * 2147483648 * 1099511627776) (d := S) (m := D * 2147483648 * 1099511627776) (by omega) (by omega) (by
        have : 1 * (D * 2147483648 * 1099511627776) ≤ S * (D * 2147483648 * 1099511627776) := Int.mul_le_mul_of_nonneg_right (by omega) (by omega)
        rw [Int.mul_comm S] at this; omega)
      unfold holdI
      split <;> (try split) <;> omega
end Go.Proofs.YtlknopmpbkepjaaGreatDoor

/- Products: the program's, held, and the document's, of 128 bits. -/
namespace Go.Proofs.YtlknopmpbkepjaaGreatDoor
open Go.RowKit


/-! ### The library's long product, by the shelf's contract, laid here -/
def lays264r : Go.Shelf.Ren := ⟨fun | 264 => 98 | n => n, fun | 53 => 95 | 46 => 107 | n => n, fun | n => n⟩
theorem lays264 : Go.Proofs.Lays.n264 Tryz.prog lays264r := {
  mixed := by kernel_rfl
  f264 := Tryz.func98.trans (congrArg some (by kernel_rfl))
  t46 := Tryz.underlying107
  a46 := Tryz.isAgg107
  z46 := Tryz.sizeOf107
  v46 := Tryz.zeroValue107
  t53 := Tryz.underlying95
  a53 := Tryz.isAgg95
  z53 := Tryz.sizeOf95
  v53 := Tryz.zeroValue95 }
theorem mul64_any (x y : Nat) (hx : x < 18446744073709551616) (hy : y < 18446744073709551616) (w : World) :
    Calls Tryz.prog 98 #[.int .u64 x, .int .u64 y] w fun e w' => e = .returned (.tuple #[.int .u64 ((x * y / 18446744073709551616 : Nat) : Int), .int .u64 ((x * y % 18446744073709551616 : Nat) : Int)]) ∧ w = w' :=
  (Any.bits_Mul64 lays264 x y hx hy w).mono fun _ _ ⟨he, hw⟩ => ⟨he, hw.symm⟩
end Go.Proofs.YtlknopmpbkepjaaGreatDoor

/- A number of 128 bits that lies in a block of the call's own: what calls, stores and new blocks leave of it. -/
namespace Go.Proofs.YtlknopmpbkepjaaGreatDoor
open Go.RowKit

/-! ### The plain arithmetic of a shift -/
theorem near_pow (x : Int) (m : Nat) : nearQ x (2 ^ (m + 1)) = (x / 2 ^ m + 1) / 2 := by
  have p := pow2_pos m
  have e : (2 : Int) ^ (m + 1) = 2 * 2 ^ m := by rw [Int.pow_succ, Int.mul_comm]
  unfold nearQ
  rw [if_neg (by omega), e, ← Int.mul_add, Int.mul_ediv_mul_of_pos _ _ (by decide), Int.mul_comm 2 (2 ^ m), ← Int.ediv_ediv_of_nonneg (Int.le_of_lt p), Int.add_ediv_of_dvd_right (Int.dvd_refl _), Int.ediv_self (Int.ne_of_gt p)]
end Go.Proofs.YtlknopmpbkepjaaGreatDoor

/- The program's rounded quotient (fixed.Div). -/
namespace Go.Proofs.YtlknopmpbkepjaaGreatDoor
open Go.RowKit


theorem half_neg (r b : Int) (hb : b < 0) (b0 : -9223372036854775808 ≤ b) (r0 : b < r) (r1 : r ≤ 0) (t : Bool) (ht : decide (2 * r ≤ b) = t) (w : World) :
    Calls Tryz.prog 89 #[.int .i64 r, .int .i64 b] w fun e w' => e = .returned (.bool t) ∧ w = w' := by
  have T := hide ht
  clear ht
  go_enter Tryz.func89, Tryz.ntmps89
  go_wp2
  go_ret
  exact ⟨ret_bool ((decide_eq_decide.2 (by omega)).trans T.out), rfl⟩
theorem half_pos (r b : Int) (hb : 0 < b) (b0 : b ≤ 9223372036854775807) (r0 : 0 ≤ r) (r1 : r < b) (t : Bool) (ht : decide (b ≤ 2 * r) = t) (w : World) :
    Calls Tryz.prog 89 #[.int .i64 r, .int .i64 b] w fun e w' => e = .returned (.bool t) ∧ w = w' := by
  have T := hide ht
  clear ht
  have hb' : ¬ b < 0 := by omega
  go_enter Tryz.func89, Tryz.ntmps89
  go_wp2
  go_ret
  exact ⟨ret_bool ((decide_eq_decide.2 (by omega)).trans T.out), rfl⟩
theorem fixdiv_any (a b : Int) (h0 : -9223372036854775808 ≤ a) (h1 : a ≤ 9223372036854775807) (k0 : -9223372036854775808 ≤ b) (k1 : b ≤ 9223372036854775807) (w : World) :
    Calls Tryz.prog 63 #[.int .i64 a, .int .i64 b] w fun e w' => e = .returned (.int .i64 (divF a b)) ∧ w = w' := by
  have CF := fixfloor_any a b h0 h1 k0 k1
  have CM := fixmod_any a b h0 h1 k0 k1
  by_cases hb : b = 0
  · subst hb
    rw [show floorF a 0 = 0 from if_pos rfl] at CF
    rw [show modF a 0 = 0 from if_pos rfl] at CM
    rw [show divF a 0 = 0 from if_pos rfl]
    go_enter Tryz.func63, Tryz.ntmps63
    go_wp2_with (first
      | (go_at_call 47; (with_reducible refine (CF _).mono ?_); rintro e w' ⟨rfl, rfl⟩)
      | (go_at_call 48; (with_reducible refine (CM _).mono ?_); rintro e w' ⟨rfl, rfl⟩))
    go_ret
    exact ⟨rfl, rfl⟩
  rw [floorF_of hb] at CF
  rw [modF_of hb] at CM
  rw [divF_of hb]
  have I := floorR_in a b
  by_cases hr : floorR a b = 0
  · have e : nearQ a b = floorQ a b := by
      by_cases hn : b < 0
      · rw [near_neg hn, hr, if_neg (by omega), Int.add_zero]
      · rw [near_pos (by omega), hr, if_neg (by omega), Int.add_zero]
    rw [e]
    rw [hr] at CM
    clear e I hr
    go_enter Tryz.func63, Tryz.ntmps63
    go_wp2_with (first
      | (go_at_call 47; (with_reducible refine (CF _).mono ?_); rintro e w' ⟨rfl, rfl⟩)
      | (go_at_call 48; (with_reducible refine (CM _).mono ?_); rintro e w' ⟨rfl, rfl⟩))
    go_ret
    exact ⟨rfl, rfl⟩
  have Q := floorQ_mid h0 h1 hb hr
  rw [holdI_in (by omega) (by omega)] at CF
  have key : ∃ t : Bool, nearQ a b = floorQ a b + (if t = true then 1 else 0) ∧ (∀ w : World, Calls Tryz.prog 89 #[.int .i64 (floorR a b), .int .i64 b] w fun e w' => e = .returned (.bool t) ∧ w = w') := by
    by_cases hn : b < 0
    · have i := I.2 hn
      refine ⟨decide (2 * floorR a b ≤ b), ?_, fun w => half_neg _ b hn k0 i.1 i.2 _ rfl w⟩
      rw [near_neg hn]; simp only [decide_eq_true_eq]
    · have i := I.1 (by omega)
      refine ⟨decide (b ≤ 2 * floorR a b), ?_, fun w => half_pos _ b (by omega) k1 i.1 i.2 _ rfl w⟩
      rw [near_pos (by omega)]; simp only [decide_eq_true_eq]
  obtain ⟨t, et, CH⟩ := key
  have hr' : (floorR a b != 0) = true := by simp [hr]
  clear hr I
  rw [et]
  clear et
  generalize floorQ a b = q at *
  generalize floorR a b = r at *
  cases t
  · rw [if_neg (by decide), Int.add_zero, holdI_in (by omega) (by omega)]
    go_enter Tryz.func63, Tryz.ntmps63
    go_wp2_with (first
      | (go_at_call 47; (with_reducible refine (CF _).mono ?_); rintro e w' ⟨rfl, rfl⟩)
      | (go_at_call 48; (with_reducible refine (CM _).mono ?_); rintro e w' ⟨rfl, rfl⟩)
      | (go_at_call 89; (with_reducible refine (CH _).mono ?_); rintro e w' ⟨rfl, rfl⟩))
    go_ret
    exact ⟨rfl, rfl⟩
  · rw [if_pos rfl, holdI_in (by omega) (by omega)]
    go_enter Tryz.func63, Tryz.ntmps63
    go_wp2_with (first
      | (go_at_call 47; (with_reducible refine (CF _).mono ?_); rintro e w' ⟨rfl, rfl⟩)
      | (go_at_call 48; (with_reducible refine (CM _).mono ?_); rintro e w' ⟨rfl, rfl⟩)
      | (go_at_call 89; (with_reducible refine (CH _).mono ?_); rintro e w' ⟨rfl, rfl⟩))
    go_ret
    exact ⟨by first | rfl | exact ret_i64 (wrap_in' (by omega) (by omega)), rfl⟩
end Go.Proofs.YtlknopmpbkepjaaGreatDoor

/- Plain arithmetic for this seat: long numbers of 128 bits with a sign, going round. No program text in sight. -/
namespace Go.Proofs.YtlknopmpbkepjaaGreatDoor


/-- A whole number, gone round at 2^128 to where long numbers are. -/
def wrapL (x : Int) : Int := (x + 170141183460469231731687303715884105728) % 340282366920938463463374607431768211456 - 170141183460469231731687303715884105728
theorem wrapL_in {x : Int} (h0 : -170141183460469231731687303715884105728 ≤ x) (h1 : x < 170141183460469231731687303715884105728) : wrapL x = x := by unfold wrapL; omega
theorem hiS0 {x : Int} (h0 : -170141183460469231731687303715884105728 ≤ x) : -9223372036854775808 ≤ hi x := by unfold hi; omega
theorem hiS1 {x : Int} (h1 : x < 170141183460469231731687303715884105728) : hi x ≤ 9223372036854775807 := by unfold hi; omega
theorem lo_sum (x y : Int) : (lo x + lo y) % 18446744073709551616 = lo (wrapL (x + y)) := by unfold lo wrapL; omega
theorem hi_sum (x y : Int) : (hi x + hi y + (lo x + lo y) / 18446744073709551616 + 9223372036854775808) % 18446744073709551616 - 9223372036854775808 = hi (wrapL (x + y)) := by unfold hi lo wrapL; omega
theorem lo_neg (x : Int) : (0 - lo x) % 18446744073709551616 = lo (wrapL (-x)) := by unfold lo wrapL; omega
theorem hi_neg (x : Int) : (0 - hi x - (if 0 < lo x then 1 else 0) + 9223372036854775808) % 18446744073709551616 - 9223372036854775808 = hi (wrapL (-x)) := by unfold hi lo wrapL; split <;> omega
theorem hi_sum64 (x y : Int) : ((hi x % 18446744073709551616 + hi y % 18446744073709551616 + (lo x + lo y) / 18446744073709551616) % 18446744073709551616 + 9223372036854775808) % 18446744073709551616 - 9223372036854775808 = hi (wrapL (x + y)) := by rw [← hi_sum]; omega
theorem lo_neg0 {x : Int} (h : lo x = 0) : lo (wrapL (-x)) = 0 := by unfold lo at h; unfold lo wrapL; omega
theorem hi_neg0 {x : Int} (h : lo x = 0) : (-(hi x % 18446744073709551616) % 18446744073709551616 + 9223372036854775808) % 18446744073709551616 - 9223372036854775808 = hi (wrapL (-x)) := by rw [← hi_neg, if_neg (by omega)]; omega
theorem lo_neg1 {x : Int} (_h : 0 < lo x) : -lo x % 18446744073709551616 = lo (wrapL (-x)) := by rw [← lo_neg]; omega
theorem hi_neg1 {x : Int} (h : 0 < lo x) : ((-(hi x % 18446744073709551616) - 1) % 18446744073709551616 + 9223372036854775808) % 18446744073709551616 - 9223372036854775808 = hi (wrapL (-x)) := by rw [← hi_neg, if_pos h]; omega
theorem hiS_one {x : Int} (h0 : -9223372036854775808 ≤ x) (h1 : x ≤ 9223372036854775807) : x / 9223372036854775808 = hi x := by unfold hi; omega
/-- Two numbers that share no bit, put together. -/
theorem or_apart (a b : Int) (k : Nat) (a0 : 0 ≤ a) (a1 : a * 2 ^ k < 18446744073709551616) (b0 : 0 ≤ b) (b1 : b < 2 ^ k) (b2 : b < 18446744073709551616) : bits .or .u64 (a * 2 ^ k) b = a * 2 ^ k + b := by
  obtain ⟨a, rfl⟩ := Int.eq_ofNat_of_zero_le a0
  obtain ⟨b, rfl⟩ := Int.eq_ofNat_of_zero_le b0
  have hk : (2 : Int) ^ k = ((2 ^ k : Nat) : Int) := by simp
  rw [hk] at a1 b1 ⊢
  have e : (a : Int) * ((2 ^ k : Nat) : Int) = ((a * 2 ^ k : Nat) : Int) := by simp
  rw [e] at a1 ⊢
  rw [bits_or_u64_nat _ _ (by omega) (by omega)]
  have h := Nat.two_pow_add_eq_or_of_lt (show b < 2 ^ k by omega) a
  rw [Nat.mul_comm a]
  omega
theorem pow_split {n : Nat} (h : n ≤ 64) : (18446744073709551616 : Int) = 2 ^ n * 2 ^ (64 - n) := by
  have h2 : (18446744073709551616 : Int) = 2 ^ (n + (64 - n)) := by
    have : n + (64 - n) = 64 := by omega
    rw [this]; rfl
  rw [h2, Int.pow_add]
/-- A long number, shifted down. -/
theorem down_far {x : Int} {n : Nat} (h : 64 ≤ n) : hi x / 2 ^ (n - 64) = x / 2 ^ n := by
  have h2 : (2 : Int) ^ n = 18446744073709551616 * 2 ^ (n - 64) := by
    have h2 : (2 : Int) ^ n = 2 ^ (64 + (n - 64)) := by congr 1; omega
    rw [h2, Int.pow_add]; rfl
  unfold hi
  rw [h2, Int.ediv_ediv_of_nonneg (by decide)]
theorem down_hi {x : Int} {n : Nat} : hi x / 2 ^ n = hi (x / 2 ^ n) := by
  unfold hi
  rw [Int.ediv_ediv_of_nonneg (by decide), Int.ediv_ediv_of_nonneg (Int.le_of_lt (pow2_pos n)), Int.mul_comm]
theorem down_lo {x : Int} {n : Nat} (h : n ≤ 64) : bits .or .u64 (IntKind.u64.wrap (IntKind.u64.wrap (hi x) * 2 ^ (64 - n))) (lo x / 2 ^ n) = lo (x / 2 ^ n) := by
  have e := pow_split h
  have p := pow2_pos n
  have q := pow2_pos (64 - n)
  have l0 := lo0 x
  have l1 := lo1 x
  have b0 : 0 ≤ lo x / 2 ^ n := Int.ediv_nonneg l0 (Int.le_of_lt p)
  have b1 : lo x / 2 ^ n < 2 ^ (64 - n) := Int.ediv_lt_of_lt_mul p (by rw [Int.mul_comm, ← e]; exact l1)
  have b2 : lo x / 2 ^ n < 18446744073709551616 := Int.lt_of_le_of_lt (Int.ediv_le_self _ l0) l1
  have ed : x / 2 ^ n = hi x * 2 ^ (64 - n) + lo x / 2 ^ n := by
    have hx := hl x
    conv => lhs; rw [← hx, e]
    rw [Int.mul_comm (2 ^ n) (2 ^ (64 - n)), ← Int.mul_assoc, Int.mul_comm, Int.mul_add_ediv_left _ _ (Int.ne_of_gt p)]
  rw [IntKind.wrap_u64, IntKind.wrap_u64]
  have ew : (hi x % 18446744073709551616 * 2 ^ (64 - n)) % 18446744073709551616 = (hi x % 2 ^ n) * 2 ^ (64 - n) := by
    conv => lhs; rw [e]
    rw [Int.mul_comm (2 ^ n) (2 ^ (64 - n)), Int.mul_comm _ (2 ^ (64 - n)), Int.mul_emod_mul_of_pos _ _ q, Int.mul_comm]
    congr 1
    rw [Int.emod_emod_of_dvd]
    exact ⟨2 ^ (64 - n), Int.mul_comm _ _⟩
  rw [ew]
  have m := rest_in (x := hi x) p
  have hm : hi x % 2 ^ n * 2 ^ (64 - n) < 18446744073709551616 := by
    rw [e]; exact Int.mul_lt_mul_of_pos_right m.2 q
  rw [or_apart _ _ _ m.1 hm b0 b1 b2]
  have hk := Int.mul_ediv_add_emod (hi x) (2 ^ n)
  have et : hi x * 2 ^ (64 - n) = 18446744073709551616 * (hi x / 2 ^ n) + hi x % 2 ^ n * 2 ^ (64 - n) := by
    conv => lhs; rw [← hk]
    rw [Int.add_mul, e, Int.mul_right_comm]
  have hle : (hi x % 2 ^ n + 1) * 2 ^ (64 - n) ≤ 18446744073709551616 := by
    rw [e]; exact Int.mul_le_mul_of_nonneg_right (by omega) (Int.le_of_lt q)
  rw [Int.add_mul, Int.one_mul] at hle
  have m0 := Int.mul_nonneg m.1 (Int.le_of_lt q)
  exact (mod_of (a := x / 2 ^ n) (b := 18446744073709551616) (q := hi x / 2 ^ n) (by rw [ed, et]; omega) (by omega) (by omega)).symm
/-- A long quotient, by halves. -/
theorem div_halves {x d : Int} (d0 : 0 < d) : hi x / d = hi (x / d) ∧ (hi x % d * 18446744073709551616 + lo x) / d = lo (x / d) ∧ (hi x % d * 18446744073709551616 + lo x) % d = x % d := by
  have hx := hl x
  have l0 := lo0 x
  have l1 := lo1 x
  have e := Int.mul_ediv_add_emod (hi x) d
  have r := rest_in (x := hi x) d0
  generalize hi x % d = R at *
  generalize hi x / d = Q at *
  have e2 := Int.mul_ediv_add_emod (R * 18446744073709551616 + lo x) d
  have r2 := rest_in (x := R * 18446744073709551616 + lo x) d0
  have q1 : (R * 18446744073709551616 + lo x) / d < 18446744073709551616 := Int.ediv_lt_of_lt_mul d0 (by
    have : (R + 1) * 18446744073709551616 ≤ d * 18446744073709551616 := Int.mul_le_mul_of_nonneg_right (by omega) (by decide)
    rw [Int.mul_comm 18446744073709551616 d] at *
    omega)
  have q0 : 0 ≤ (R * 18446744073709551616 + lo x) / d := Int.ediv_nonneg (by omega) (by omega)
  generalize (R * 18446744073709551616 + lo x) / d = q at *
  generalize (R * 18446744073709551616 + lo x) % d = r at *
  have ex : x = d * (Q * 18446744073709551616 + q) + r := by
    rw [Int.mul_add, ← Int.mul_assoc]
    generalize d * q = dq at *
    have : d * Q * 18446744073709551616 = (hi x - R) * 18446744073709551616 := by congr 1; omega
    rw [this]
    omega
  rw [div_of ex r2.1 r2.2, mod_of ex r2.1 r2.2]
  exact ⟨hi_of rfl q0 q1, lo_of rfl q0 q1, rfl⟩
end Go.Proofs.YtlknopmpbkepjaaGreatDoor
