/- Parts, joined. -/
import Derived.Test.YtclgghhpiljgfaaGreatDoorJ01
import Derived.IntWalk
import Derived.Deep.QuietTactic
import Derived.BigQuiet
import Derived.Laws.Bits64b
/- The program's quotients (package fixed): each as plain arithmetic. -/
namespace Go.Proofs.YtclgghhpiljgfaaGreatDoor
open Go.RowKit


theorem wrap_in' {n : Int} (h0 : -9223372036854775808 ≤ n) (h1 : n ≤ 9223372036854775807) : wrap64 n = n := IntWalk.wrap64_in n ⟨h0, h1⟩
theorem wrap_pred {t : Int} (h0 : -9223372036854775808 ≤ t - 1) (h1 : t - 1 ≤ 9223372036854775807) : wrap64 (wrap64 t - 1) = t - 1 := by unfold wrap64; omega
theorem fixfloor_any (a b : Int) (h0 : -9223372036854775808 ≤ a) (h1 : a ≤ 9223372036854775807) (k0 : -9223372036854775808 ≤ b) (k1 : b ≤ 9223372036854775807) (w : World) :
    Calls Tryz.prog 86 #[.int .i64 a, .int .i64 b] w fun e w' => e = .returned (.int .i64 (floorF a b)) ∧ w = w' := by
  by_cases hb : b = 0
  · subst hb
    go_enter Tryz.func86, Tryz.ntmps86
    go_wp2
    go_ret
    exact ⟨ret_i64 (by simp [floorF]), rfl⟩
  have C := cut_any h0 h1 k0 k1 hb
  rw [floorF_of hb]
  by_cases hs : a = -9223372036854775808 ∧ b = -1
  · obtain ⟨rfl, rfl⟩ := hs
    clear C
    go_enter Tryz.func86, Tryz.ntmps86
    go_wp2
    go_ret
    exact ⟨ret_i64 (by decide), rfl⟩
  have q1 := C.q1 (Or.inr hs)
  have q0 := C.q0
  rw [holdI_in q0 q1]
  have hb0 : (b == 0) = false := beq_eq_false_iff_ne.2 hb
  have HS := hide hs
  clear hs
  by_cases c1 : a.tmod b = 0
  · have E := C.f0 c1
    rw [E] at q0 q1 ⊢
    clear C E
    by_cases ha : a = -9223372036854775808
    · have hA : (a == -9223372036854775808) = true := beq_iff_eq.2 ha
      have hB : (b == -1) = false := beq_eq_false_iff_ne.2 fun e => HS.out ⟨ha, e⟩
      clear ha h0 h1
      go_enter Tryz.func86, Tryz.ntmps86
      go_wp2
      go_ret
      exact ⟨ret_i64 (by first | rfl | exact wrap_in' (by omega) (by omega)), rfl⟩
    · have hA : (a == -9223372036854775808) = false := beq_eq_false_iff_ne.2 ha
      clear ha
      go_enter Tryz.func86, Tryz.ntmps86
      go_wp2
      go_ret
      exact ⟨ret_i64 (by first | rfl | exact wrap_in' (by omega) (by omega)), rfl⟩
  have c1' : (a.tmod b != 0) = true := by simp [c1]
  by_cases ga : a < 0
  · by_cases gb : b < 0
    · have E := C.f1 (by omega)
      rw [E] at q0 q1 ⊢
      clear C E
      have da : decide (a < 0) = true := decide_eq_true (by omega)
      have db : decide (b < 0) = true := decide_eq_true (by omega)
      clear c1 ga gb
      by_cases ha : a = -9223372036854775808
      · have hA : (a == -9223372036854775808) = true := beq_iff_eq.2 ha
        have hB : (b == -1) = false := beq_eq_false_iff_ne.2 fun e => HS.out ⟨ha, e⟩
        clear ha h0 h1
        go_enter Tryz.func86, Tryz.ntmps86
        go_wp2
        go_ret
        exact ⟨ret_i64 (by first | rfl | exact wrap_in' (by omega) (by omega)), rfl⟩
      · have hA : (a == -9223372036854775808) = false := beq_eq_false_iff_ne.2 ha
        clear ha
        go_enter Tryz.func86, Tryz.ntmps86
        go_wp2
        go_ret
        exact ⟨ret_i64 (by first | rfl | exact wrap_in' (by omega) (by omega)), rfl⟩
    · have E := C.f2 c1 (by omega)
      rw [E] at q0 q1 ⊢
      clear C E
      have da : decide (a < 0) = true := decide_eq_true (by omega)
      have db : decide (b < 0) = false := decide_eq_false (by omega)
      clear c1 ga gb
      by_cases ha : a = -9223372036854775808
      · have hA : (a == -9223372036854775808) = true := beq_iff_eq.2 ha
        have hB : (b == -1) = false := beq_eq_false_iff_ne.2 fun e => HS.out ⟨ha, e⟩
        clear ha h0 h1
        go_enter Tryz.func86, Tryz.ntmps86
        go_wp2
        go_ret
        exact ⟨ret_i64 (by first | exact wrap_pred q0 q1 | exact wrap_in' q0 q1), rfl⟩
      · have hA : (a == -9223372036854775808) = false := beq_eq_false_iff_ne.2 ha
        clear ha
        go_enter Tryz.func86, Tryz.ntmps86
        go_wp2
        go_ret
        exact ⟨ret_i64 (by first | exact wrap_pred q0 q1 | exact wrap_in' q0 q1), rfl⟩
  · by_cases gb : b < 0
    · have E := C.f2 c1 (by omega)
      rw [E] at q0 q1 ⊢
      clear C E
      have da : decide (a < 0) = false := decide_eq_false (by omega)
      have db : decide (b < 0) = true := decide_eq_true (by omega)
      clear c1 ga gb
      by_cases ha : a = -9223372036854775808
      · have hA : (a == -9223372036854775808) = true := beq_iff_eq.2 ha
        have hB : (b == -1) = false := beq_eq_false_iff_ne.2 fun e => HS.out ⟨ha, e⟩
        clear ha h0 h1
        go_enter Tryz.func86, Tryz.ntmps86
        go_wp2
        go_ret
        exact ⟨ret_i64 (by first | exact wrap_pred q0 q1 | exact wrap_in' q0 q1), rfl⟩
      · have hA : (a == -9223372036854775808) = false := beq_eq_false_iff_ne.2 ha
        clear ha
        go_enter Tryz.func86, Tryz.ntmps86
        go_wp2
        go_ret
        exact ⟨ret_i64 (by first | exact wrap_pred q0 q1 | exact wrap_in' q0 q1), rfl⟩
    · have E := C.f1 (by omega)
      rw [E] at q0 q1 ⊢
      clear C E
      have da : decide (a < 0) = false := decide_eq_false (by omega)
      have db : decide (b < 0) = false := decide_eq_false (by omega)
      clear c1 ga gb
      by_cases ha : a = -9223372036854775808
      · have hA : (a == -9223372036854775808) = true := beq_iff_eq.2 ha
        have hB : (b == -1) = false := beq_eq_false_iff_ne.2 fun e => HS.out ⟨ha, e⟩
        clear ha h0 h1
        go_enter Tryz.func86, Tryz.ntmps86
        go_wp2
        go_ret
        exact ⟨ret_i64 (by first | rfl | exact wrap_in' (by omega) (by omega)), rfl⟩
      · have hA : (a == -9223372036854775808) = false := beq_eq_false_iff_ne.2 ha
        clear ha
        go_enter Tryz.func86, Tryz.ntmps86
        go_wp2
        go_ret
        exact ⟨ret_i64 (by first | rfl | exact wrap_in' (by omega) (by omega)), rfl⟩
theorem fixmod_any (a b : Int) (h0 : -9223372036854775808 ≤ a) (h1 : a ≤ 9223372036854775807) (k0 : -9223372036854775808 ≤ b) (k1 : b ≤ 9223372036854775807) (w : World) :
    Calls Tryz.prog 87 #[.int .i64 a, .int .i64 b] w fun e w' => e = .returned (.int .i64 (modF a b)) ∧ w = w' := by
  by_cases hb : b = 0
  · subst hb
    go_enter Tryz.func87, Tryz.ntmps87
    go_wp2
    go_ret
    exact ⟨ret_i64 (by simp [modF]), rfl⟩
  have C := cut_any h0 h1 k0 k1 hb
  have I := floorR_in a b
  rw [modF_of hb]
  have hb0 : (b == 0) = false := beq_eq_false_iff_ne.2 hb
  have m0 := C.m0
  have m1 := C.m1
  by_cases c1 : a.tmod b = 0
  · rw [C.r0 c1]
    clear C I
    go_enter Tryz.func87, Tryz.ntmps87
    go_wp2
    go_ret
    exact ⟨ret_i64 (by rfl), rfl⟩
  have c1' : (a.tmod b != 0) = true := by simp [c1]
  by_cases ga : a.tmod b < 0
  · by_cases gb : b < 0
    · rw [C.r1 c1 (by omega)]
      have da : decide (a.tmod b < 0) = true := decide_eq_true (by omega)
      have db : decide (b < 0) = true := decide_eq_true (by omega)
      clear C I c1 ga gb
      go_enter Tryz.func87, Tryz.ntmps87
      go_wp2
      go_ret
      exact ⟨ret_i64 (by rfl), rfl⟩
    · rw [C.r2 c1 (by omega)]
      have e2 := C.r2 c1 (by omega)
      have i2 := I.1 (by omega)
      rw [e2] at i2
      clear e2
      have da : decide (a.tmod b < 0) = true := decide_eq_true (by omega)
      have db : decide (b < 0) = false := decide_eq_false (by omega)
      clear C I c1 ga gb
      go_enter Tryz.func87, Tryz.ntmps87
      go_wp2
      go_ret
      exact ⟨ret_i64 (by first | rfl | exact wrap_in' (by omega) (by omega)), rfl⟩
  · by_cases gb : b < 0
    · rw [C.r2 c1 (by omega)]
      have e2 := C.r2 c1 (by omega)
      have i2 := I.2 gb
      rw [e2] at i2
      clear e2
      have da : decide (a.tmod b < 0) = false := decide_eq_false (by omega)
      have db : decide (b < 0) = true := decide_eq_true (by omega)
      clear C I c1 ga gb
      go_enter Tryz.func87, Tryz.ntmps87
      go_wp2
      go_ret
      exact ⟨ret_i64 (by first | rfl | exact wrap_in' (by omega) (by omega)), rfl⟩
    · rw [C.r1 c1 (by omega)]
      have da : decide (a.tmod b < 0) = false := decide_eq_false (by omega)
      have db : decide (b < 0) = false := decide_eq_false (by omega)
      clear C I c1 ga gb
      go_enter Tryz.func87, Tryz.ntmps87
      go_wp2
      go_ret
      exact ⟨ret_i64 (by rfl), rfl⟩
/-! ### Shift -/
def shiftF (x n : Int) : Int := if n ≤ 0 then x else if 63 < n then 0 else (x / 2 ^ (n.toNat - 1) + 1) / 2
theorem and_one_i64 (a : Int) : bits .and .i64 a 1 = a % 2 := by
  show IntKind.i64.wrap (((BitVec.ofInt 64 a &&& BitVec.ofInt 64 1).toNat : Nat) : Int) = _
  rw [BitVec.toNat_and, BitVec.toNat_ofInt, BitVec.toNat_ofInt]
  have e : ((1 : Int) % ((2 ^ 64 : Nat) : Int)).toNat = 1 := by decide
  rw [e, Nat.and_one_is_mod, IntKind.wrap_i64]
  have e2 : ((2 ^ 64 : Nat) : Int) = 18446744073709551616 := by decide
  rw [e2]
  omega
theorem two_step (x : Int) (m : Nat) : x / 2 ^ (m + 1) + x / 2 ^ m % 2 = (x / 2 ^ m + 1) / 2 := by
  have e : x / 2 ^ (m + 1) = x / 2 ^ m / 2 := by rw [Int.pow_succ, Int.ediv_ediv_of_nonneg (Int.le_of_lt (pow2_pos m))]
  rw [e]; omega
theorem shift_in {x : Int} (m : Nat) (h0 : -9223372036854775808 ≤ x) (h1 : x ≤ 9223372036854775807) : -9223372036854775808 ≤ (x / 2 ^ m + 1) / 2 ∧ (x / 2 ^ m + 1) / 2 ≤ 9223372036854775807 := by
  have p := pow2_pos m
  have p1 : (1 : Int) ≤ 2 ^ m := p
  have a0 : -9223372036854775808 ≤ x / 2 ^ m := by
    rw [Int.le_ediv_iff_mul_le p]
    generalize (2 : Int) ^ m = P at *
    omega
  have a1 : x / 2 ^ m ≤ 9223372036854775807 := by
    by_cases hx : 0 ≤ x
    · have := Int.ediv_le_self (2 ^ m) hx; omega
    · have := Int.ediv_neg_of_neg_of_pos (by omega : x < 0) p; omega
  omega
theorem fixshift_any (x n : Int) (h0 : -9223372036854775808 ≤ x) (h1 : x ≤ 9223372036854775807) (k0 : -9223372036854775808 ≤ n) (k1 : n ≤ 9223372036854775807) (w : World) :
    Calls Tryz.prog 120 #[.int .i64 x, .int .i64 n] w fun e w' => e = .returned (.int .i64 (shiftF x n)) ∧ Below w.heap.size w w' := by
  by_cases hn : n ≤ 0
  · rw [show shiftF x n = x from if_pos hn]
    go_enter Tryz.func120, Tryz.ntmps120
    go_wp2
    go_ret
    exact ⟨rfl, Below.refl _ _⟩
  by_cases hm : 63 < n
  · rw [show shiftF x n = 0 from (if_neg hn).trans (if_pos hm)]
    go_enter Tryz.func120, Tryz.ntmps120
    go_wp2
    go_ret
    exact ⟨rfl, Below.refl _ _⟩
  obtain ⟨m, rfl⟩ : ∃ m : Nat, n = ((m + 1 : Nat) : Int) := ⟨n.toNat - 1, by omega⟩
  have e : shiftF x ((m + 1 : Nat) : Int) = (x / 2 ^ m + 1) / 2 := (if_neg hn).trans (if_neg hm)
  rw [e]
  have S := hide (shift_in m h0 h1)
  have T := hide (two_step x m)
  clear e
  obtain ⟨j, hj⟩ : ∃ j, j = m + 1 := ⟨_, rfl⟩
  have J := hide hj
  rw [← hj] at hn hm k0 k1 ⊢
  have n1 : ((j : Int) - 1) = ((j - 1 : Nat) : Int) := by omega
  clear hj
  go_enter Tryz.func120, Tryz.ntmps120
  go_wp2
  go_quiet (fail)
  go_wp2
  go_ret
  refine ⟨ret_i64 ?_, below_drewN (Below.refl _ _) _⟩
  have hj := J.out
  subst hj
  rw [and_one_i64, Nat.add_sub_cancel, T.out]
  exact wrap_in' S.out.1 S.out.2
end Go.Proofs.YtclgghhpiljgfaaGreatDoor

/- The exponential function, in integers: plain arithmetic. -/
namespace Go.Proofs.YtclgghhpiljgfaaGreatDoor
open Go.RowKit


/-- The terms, and their sum, with signs in turn. -/
def termE (r : Int) : Nat → Int
  | 0 => 1099511627776
  | n + 1 => divF (termE r n * r) (((n : Int) + 1) * 1099511627776)
def sumE (r : Int) : Nat → Int
  | 0 => 1099511627776
  | n + 1 => if n % 2 = 0 then sumE r n - termE r (n + 1) else sumE r n + termE r (n + 1)
def posI (t : Int) : Int := max t 0
def expoF (t : Int) : Int := shiftF (sumE (posI t % 762123384786) 16) (posI t / 762123384786)
def ratioF (d s : Int) : Int := if s < 1 ∨ 4194304 < s ∨ d < -16384 ∨ 16384 < d then 9223372036854775807 else divF (d * d * 2147483648 * 1099511627776) (s * s)
def gaussF (d s : Int) : Int := shiftF (expoF (ratioF d s)) 10
theorem near_in {X d m : Int} (hd : 0 < d) (h0 : 0 ≤ X) (h1 : X ≤ m * d) : 0 ≤ nearQ X d ∧ nearQ X d ≤ m := by
  unfold nearQ
  rw [if_neg (by omega)]
  refine ⟨Int.ediv_nonneg (by omega) (by omega), ?_⟩
  have h : (2 * X + d) / (2 * d) < m + 1 := by
    apply Int.ediv_lt_of_lt_mul (by omega)
    have e : (m + 1) * (2 * d) = 2 * (m * d) + 2 * d := by rw [Int.add_mul, Int.mul_left_comm]; omega
    rw [e]; omega
  omega
theorem termE_in {r : Int} (h0 : 0 ≤ r) (h1 : r ≤ 1099511627776) (n : Nat) : 0 ≤ termE r n ∧ termE r n ≤ 1099511627776 := by
  induction n with
  | zero => simp [termE]
  | succ n ih =>
    obtain ⟨a0, a1⟩ := ih
    have p0 : 0 ≤ termE r n * r := Int.mul_nonneg a0 h0
    have p1 : termE r n * r ≤ 1099511627776 * 1099511627776 := Int.mul_le_mul a1 h1 h0 (by omega)
    have p2 : (1099511627776 : Int) * 1099511627776 ≤ 1099511627776 * (((n : Int) + 1) * 1099511627776) := by omega
    have q := near_in (X := termE r n * r) (d := ((n : Int) + 1) * 1099511627776) (m := 1099511627776) (by omega) p0 (by omega)
    show 0 ≤ divF _ _ ∧ divF _ _ ≤ _
    rw [divF_of (by omega), holdI_in (by omega) (by omega)]
    exact q
theorem sumE_in {r : Int} (h0 : 0 ≤ r) (h1 : r ≤ 1099511627776) (n : Nat) : -(((n : Int) + 1) * 1099511627776) ≤ sumE r n ∧ sumE r n ≤ ((n : Int) + 1) * 1099511627776 := by
  induction n with
  | zero => simp [sumE]
  | succ n ih =>
    have t := termE_in h0 h1 (n + 1)
    unfold sumE
    split <;> omega
theorem posI0 (t : Int) : 0 ≤ posI t := by unfold posI; omega
theorem posI1 {t : Int} (h : t ≤ 9223372036854775807) : posI t ≤ 9223372036854775807 := by unfold posI; omega
theorem shiftF_in {x n : Int} (h0 : -9223372036854775808 ≤ x) (h1 : x ≤ 9223372036854775807) : -9223372036854775808 ≤ shiftF x n ∧ shiftF x n ≤ 9223372036854775807 := by
  unfold shiftF
  split
  · exact ⟨h0, h1⟩
  · split
    · omega
    · exact shift_in _ h0 h1
theorem sum16_in {r : Int} (h0 : 0 ≤ r) (h1 : r < 762123384786) : -18691697672192 ≤ sumE r 16 ∧ sumE r 16 ≤ 18691697672192 := by
  have := sumE_in h0 (by omega : r ≤ 1099511627776) 16
  omega
theorem exp_parts {t : Int} (h0 : 0 ≤ t) (h1 : t ≤ 9223372036854775807) : 0 ≤ t % 762123384786 ∧ t % 762123384786 < 762123384786 ∧ 0 ≤ t / 762123384786 ∧ t / 762123384786 ≤ 12102203 := by omega
theorem expoF_in {t : Int} (h1 : t ≤ 9223372036854775807) : -9223372036854775808 ≤ expoF t ∧ expoF t ≤ 9223372036854775807 := by
  have p := exp_parts (posI0 t) (posI1 h1)
  have s := sum16_in p.1 p.2.1
  exact shiftF_in (by omega) (by omega)
theorem divF_in (a b : Int) : -9223372036854775808 ≤ divF a b ∧ divF a b ≤ 9223372036854775807 := by
  unfold divF
  split
  · omega
  · exact ⟨holdI0 _, holdI1 _⟩
theorem ratioF_in (d s : Int) : -9223372036854775808 ≤ ratioF d s ∧ ratioF d s ≤ 9223372036854775807 := by
  unfold ratioF
  split
  · omega
  · exact divF_in _ _
theorem abs_sq (s : Int) : s * s = absI s * absI s := by
  unfold absI
  split
  · rw [Int.neg_mul_neg]
  · rfl
theorem sq_in {s : Int} (h0 : -16777216 ≤ s) (h1 : s ≤ 16777216) : 0 ≤ s * s ∧ s * s ≤ 281474976710656 := by
  have a := abs_sq s
  have b0 : 0 ≤ absI s := absI0 s
  have b1 : absI s ≤ 16777216 := by unfold absI; split <;> omega
  rw [a]
  exact ⟨Int.mul_nonneg b0 b0, Int.mul_le_mul b1 b1 b0 (by omega)⟩
theorem ratioF_pos (d s : Int) : 0 ≤ ratioF d s := by
  unfold ratioF
  split
  · omega
  · rename_i h
    have a := sq_in (s := d) (by omega) (by omega)
    have b := sq_in (s := s) (by omega) (by omega)
    generalize d * d = D at *
    generalize s * s = S at *
    unfold divF
    split
    · omega
    · have q := near_in (X := D * 2147483648 * 1099511627776) (d := S) (m := D * 2147483648 * 1099511627776) (by omega) (by omega) (by
        have : 1 * (D * 2147483648 * 1099511627776) ≤ S * (D * 2147483648 * 1099511627776) := Int.mul_le_mul_of_nonneg_right (by omega) (by omega)
        rw [Int.mul_comm S] at this; omega)
      unfold holdI
      split <;> (try split) <;> omega
end Go.Proofs.YtclgghhpiljgfaaGreatDoor

/- Plain arithmetic for this seat: long numbers of 128 bits with a sign, going round. No program text in sight. -/
namespace Go.Proofs.YtclgghhpiljgfaaGreatDoor


/-- A whole number, gone round at 2^128 to where long numbers are. -/
def wrapL (x : Int) : Int := (x + 170141183460469231731687303715884105728) % 340282366920938463463374607431768211456 - 170141183460469231731687303715884105728
theorem wrapL_in {x : Int} (h0 : -170141183460469231731687303715884105728 ≤ x) (h1 : x < 170141183460469231731687303715884105728) : wrapL x = x := by unfold wrapL; omega
theorem hiS0 {x : Int} (h0 : -170141183460469231731687303715884105728 ≤ x) : -9223372036854775808 ≤ hi x := by unfold hi; omega
theorem hiS1 {x : Int} (h1 : x < 170141183460469231731687303715884105728) : hi x ≤ 9223372036854775807 := by unfold hi; omega
theorem lo_sum (x y : Int) : (lo x + lo y) % 18446744073709551616 = lo (wrapL (x + y)) := by unfold lo wrapL; omega
theorem hi_sum (x y : Int) : (hi x + hi y + (lo x + lo y) / 18446744073709551616 + 9223372036854775808) % 18446744073709551616 - 9223372036854775808 = hi (wrapL (x + y)) := by unfold hi lo wrapL; omega
theorem lo_neg (x : Int) : (0 - lo x) % 18446744073709551616 = lo (wrapL (-x)) := by unfold lo wrapL; omega
theorem hi_neg (x : Int) : (0 - hi x - (if 0 < lo x then 1 else 0) + 9223372036854775808) % 18446744073709551616 - 9223372036854775808 = hi (wrapL (-x)) := by unfold hi lo wrapL; split <;> omega
theorem hi_sum64 (x y : Int) : ((hi x % 18446744073709551616 + hi y % 18446744073709551616 + (lo x + lo y) / 18446744073709551616) % 18446744073709551616 + 9223372036854775808) % 18446744073709551616 - 9223372036854775808 = hi (wrapL (x + y)) := by rw [← hi_sum]; omega
theorem lo_neg0 {x : Int} (h : lo x = 0) : lo (wrapL (-x)) = 0 := by unfold lo at h; unfold lo wrapL; omega
theorem hi_neg0 {x : Int} (h : lo x = 0) : (-(hi x % 18446744073709551616) % 18446744073709551616 + 9223372036854775808) % 18446744073709551616 - 9223372036854775808 = hi (wrapL (-x)) := by rw [← hi_neg, if_neg (by omega)]; omega
theorem lo_neg1 {x : Int} (_h : 0 < lo x) : -lo x % 18446744073709551616 = lo (wrapL (-x)) := by rw [← lo_neg]; omega
theorem hi_neg1 {x : Int} (h : 0 < lo x) : ((-(hi x % 18446744073709551616) - 1) % 18446744073709551616 + 9223372036854775808) % 18446744073709551616 - 9223372036854775808 = hi (wrapL (-x)) := by rw [← hi_neg, if_pos h]; omega
theorem hiS_one {x : Int} (h0 : -9223372036854775808 ≤ x) (h1 : x ≤ 9223372036854775807) : x / 9223372036854775808 = hi x := by unfold hi; omega
/-- Two numbers that share no bit, put together. -/
theorem or_apart (a b : Int) (k : Nat) (a0 : 0 ≤ a) (a1 : a * 2 ^ k < 18446744073709551616) (b0 : 0 ≤ b) (b1 : b < 2 ^ k) (b2 : b < 18446744073709551616) : bits .or .u64 (a * 2 ^ k) b = a * 2 ^ k + b := by
  obtain ⟨a, rfl⟩ := Int.eq_ofNat_of_zero_le a0
  obtain ⟨b, rfl⟩ := Int.eq_ofNat_of_zero_le b0
  have hk : (2 : Int) ^ k = ((2 ^ k : Nat) : Int) := by simp
  rw [hk] at a1 b1 ⊢
  have e : (a : Int) * ((2 ^ k : Nat) : Int) = ((a * 2 ^ k : Nat) : Int) := by simp
  rw [e] at a1 ⊢
  rw [bits_or_u64_nat _ _ (by omega) (by omega)]
  have h := Nat.two_pow_add_eq_or_of_lt (show b < 2 ^ k by omega) a
  rw [Nat.mul_comm a]
  omega
theorem pow_split {n : Nat} (h : n ≤ 64) : (18446744073709551616 : Int) = 2 ^ n * 2 ^ (64 - n) := by
  have h2 : (18446744073709551616 : Int) = 2 ^ (n + (64 - n)) := by
    have : n + (64 - n) = 64 := by omega
    rw [this]; rfl
  rw [h2, Int.pow_add]
/-- A long number, shifted down. -/
theorem down_far {x : Int} {n : Nat} (h : 64 ≤ n) : hi x / 2 ^ (n - 64) = x / 2 ^ n := by
  have h2 : (2 : Int) ^ n = 18446744073709551616 * 2 ^ (n - 64) := by
    have h2 : (2 : Int) ^ n = 2 ^ (64 + (n - 64)) := by congr 1; omega
    rw [h2, Int.pow_add]; rfl
  unfold hi
  rw [h2, Int.ediv_ediv_of_nonneg (by decide)]
theorem down_hi {x : Int} {n : Nat} : hi x / 2 ^ n = hi (x / 2 ^ n) := by
  unfold hi
  rw [Int.ediv_ediv_of_nonneg (by decide), Int.ediv_ediv_of_nonneg (Int.le_of_lt (pow2_pos n)), Int.mul_comm]
theorem down_lo {x : Int} {n : Nat} (h : n ≤ 64) : bits .or .u64 (IntKind.u64.wrap (IntKind.u64.wrap (hi x) * 2 ^ (64 - n))) (lo x / 2 ^ n) = lo (x / 2 ^ n) := by
  have e := pow_split h
  have p := pow2_pos n
  have q := pow2_pos (64 - n)
  have l0 := lo0 x
  have l1 := lo1 x
  have b0 : 0 ≤ lo x / 2 ^ n := Int.ediv_nonneg l0 (Int.le_of_lt p)
  have b1 : lo x / 2 ^ n < 2 ^ (64 - n) := Int.ediv_lt_of_lt_mul p (by rw [Int.mul_comm, ← e]; exact l1)
  have b2 : lo x / 2 ^ n < 18446744073709551616 := Int.lt_of_le_of_lt (Int.ediv_le_self _ l0) l1
  have ed : x / 2 ^ n = hi x * 2 ^ (64 - n) + lo x / 2 ^ n := by
    have hx := hl x
    conv => lhs; rw [← hx, e]
    rw [Int.mul_comm (2 ^ n) (2 ^ (64 - n)), ← Int.mul_assoc, Int.mul_comm, Int.mul_add_ediv_left _ _ (Int.ne_of_gt p)]
  rw [IntKind.wrap_u64, IntKind.wrap_u64]
  have ew : (hi x % 18446744073709551616 * 2 ^ (64 - n)) % 18446744073709551616 = (hi x % 2 ^ n) * 2 ^ (64 - n) := by
    conv => lhs; rw [e]
    rw [Int.mul_comm (2 ^ n) (2 ^ (64 - n)), Int.mul_comm _ (2 ^ (64 - n)), Int.mul_emod_mul_of_pos _ _ q, Int.mul_comm]
    congr 1
    rw [Int.emod_emod_of_dvd]
    exact ⟨2 ^ (64 - n), Int.mul_comm _ _⟩
  rw [ew]
  have m := rest_in (x := hi x) p
  have hm : hi x % 2 ^ n * 2 ^ (64 - n) < 18446744073709551616 := by
    rw [e]; exact Int.mul_lt_mul_of_pos_right m.2 q
  rw [or_apart _ _ _ m.1 hm b0 b1 b2]
  have hk := Int.mul_ediv_add_emod (hi x) (2 ^ n)
  have et : hi x * 2 ^ (64 - n) = 18446744073709551616 * (hi x / 2 ^ n) + hi x % 2 ^ n * 2 ^ (64 - n) := by
    conv => lhs; rw [← hk]
    rw [Int.add_mul, e, Int.mul_right_comm]
  have hle : (hi x % 2 ^ n + 1) * 2 ^ (64 - n) ≤ 18446744073709551616 := by
    rw [e]; exact Int.mul_le_mul_of_nonneg_right (by omega) (Int.le_of_lt q)
  rw [Int.add_mul, Int.one_mul] at hle
  have m0 := Int.mul_nonneg m.1 (Int.le_of_lt q)
  exact (mod_of (a := x / 2 ^ n) (b := 18446744073709551616) (q := hi x / 2 ^ n) (by rw [ed, et]; omega) (by omega) (by omega)).symm
/-- A long quotient, by halves. -/
theorem div_halves {x d : Int} (d0 : 0 < d) : hi x / d = hi (x / d) ∧ (hi x % d * 18446744073709551616 + lo x) / d = lo (x / d) ∧ (hi x % d * 18446744073709551616 + lo x) % d = x % d := by
  have hx := hl x
  have l0 := lo0 x
  have l1 := lo1 x
  have e := Int.mul_ediv_add_emod (hi x) d
  have r := rest_in (x := hi x) d0
  generalize hi x % d = R at *
  generalize hi x / d = Q at *
  have e2 := Int.mul_ediv_add_emod (R * 18446744073709551616 + lo x) d
  have r2 := rest_in (x := R * 18446744073709551616 + lo x) d0
  have q1 : (R * 18446744073709551616 + lo x) / d < 18446744073709551616 := Int.ediv_lt_of_lt_mul d0 (by
    have : (R + 1) * 18446744073709551616 ≤ d * 18446744073709551616 := Int.mul_le_mul_of_nonneg_right (by omega) (by decide)
    rw [Int.mul_comm 18446744073709551616 d] at *
    omega)
  have q0 : 0 ≤ (R * 18446744073709551616 + lo x) / d := Int.ediv_nonneg (by omega) (by omega)
  generalize (R * 18446744073709551616 + lo x) / d = q at *
  generalize (R * 18446744073709551616 + lo x) % d = r at *
  have ex : x = d * (Q * 18446744073709551616 + q) + r := by
    rw [Int.mul_add, ← Int.mul_assoc]
    generalize d * q = dq at *
    have : d * Q * 18446744073709551616 = (hi x - R) * 18446744073709551616 := by congr 1; omega
    rw [this]
    omega
  rw [div_of ex r2.1 r2.2, mod_of ex r2.1 r2.2]
  exact ⟨hi_of rfl q0 q1, lo_of rfl q0 q1, rfl⟩
end Go.Proofs.YtclgghhpiljgfaaGreatDoor
