/- Parts, joined. -/
import Derived.Test.YtclgghhpiljgfaaGreatDoorJ04
import Derived.Test.YtclgghhpiljgfaaGreatDoorJ02
import Derived.Deep.DeepCutAuto
/- A number of 128 bits that lies in a block of the call's own: what calls, stores and new blocks leave of it. -/
namespace Go.Proofs.YtclgghhpiljgfaaGreatDoor
open Go.RowKit


structure BigAt (w : World) (b : Nat) (X : Int) : Prop where
  c0 : w.cell? ⟨b, 0, none⟩ = some (.int .u64 (hi X))
  c1 : w.cell? ⟨b, 1, none⟩ = some (.int .u64 (lo X))
  f0 : w.frozen? ⟨b, 0, none⟩ = false
  f1 : w.frozen? ⟨b, 1, none⟩ = false
  lt : b < w.heap.size
theorem BigAt.below {w w1 : World} {b : Nat} {X : Int} (h : BigAt w b X) (hb : Below w.heap.size w w1) : BigAt w1 b X :=
  ⟨cb hb h.lt h.c0, cb hb h.lt h.c1, fb hb h.lt h.f0, fb hb h.lt h.f1, Nat.lt_of_lt_of_le h.lt hb.size⟩
theorem BigAt.drew {w : World} {b : Nat} {X : Int} (h : BigAt w b X) : BigAt w.drew b X := ⟨h.c0, h.c1, h.f0, h.f1, h.lt⟩
theorem BigAt.alloc {w : World} {b : Nat} {X : Int} (h : BigAt w b X) (o : Obj) : BigAt (w.alloc o) b X :=
  ⟨ca h.lt h.c0, ca h.lt h.c1, fa h.lt h.f0, fa h.lt h.f1, by have := h.lt; simp; omega⟩
theorem BigAt.new (w : World) {h l X : Int} (eh : h = hi X) (el : l = lo X) (t : TypeId) : BigAt (w.alloc (.cells #[.int .u64 h, .int .u64 l] t)) w.heap.size X := by
  subst eh; subst el
  exact ⟨by simp, by simp, by simp, by simp, by simp⟩
theorem BigAt.set {w : World} {b : Nat} {X : Int} (X' : Int) (h : BigAt w b X) : BigAt ((w.setCell ⟨b, 0, none⟩ (.int .u64 (hi X'))).setCell ⟨b, 1, none⟩ (.int .u64 (lo X'))) b X' :=
  ⟨cs (by omega) (cw h.c0), cw (cs (by omega) h.c1), by simp [h.f0], by simp [h.f1], by simpa [World.setCell] using h.lt⟩
theorem BigAt.far {w : World} {b b' o o' : Nat} {X : Int} {u v : Value} (h : BigAt w b X) (hne : b' ≠ b) : BigAt ((w.setCell ⟨b', o, none⟩ u).setCell ⟨b', o', none⟩ v) b X :=
  ⟨cs (by omega) (cs (by omega) h.c0), cs (by omega) (cs (by omega) h.c1), by simp [h.f0], by simp [h.f1], by simpa [World.setCell] using h.lt⟩
/-! ### The plain arithmetic of a shift -/
theorem near_pow (x : Int) (m : Nat) : nearQ x (2 ^ (m + 1)) = (x / 2 ^ m + 1) / 2 := by
  have p := pow2_pos m
  have e : (2 : Int) ^ (m + 1) = 2 * 2 ^ m := by rw [Int.pow_succ, Int.mul_comm]
  unfold nearQ
  rw [if_neg (by omega), e, ← Int.mul_add, Int.mul_ediv_mul_of_pos _ _ (by decide), Int.mul_comm 2 (2 ^ m), ← Int.ediv_ediv_of_nonneg (Int.le_of_lt p), Int.add_ediv_of_dvd_right (Int.dvd_refl _), Int.ediv_self (Int.ne_of_gt p)]
/-- What is left of a number when its bits from n to i are taken away. -/
def restI (M : Int) (n i : Nat) : Int := M % 2 ^ n + 2 ^ i * (M / 2 ^ i)
theorem rest_start (M : Int) (n : Nat) : restI M n n = M := by unfold restI; rw [Int.add_comm]; exact Int.mul_ediv_add_emod M (2 ^ n)
theorem rest_end {M : Int} (n : Nat) (h0 : 0 ≤ M) (h1 : M < 340282366920938463463374607431768211456) : restI M n 128 = M % 2 ^ n := by
  unfold restI; rw [div_pow_all h0 h1, Int.mul_zero, Int.add_zero]
theorem rest_step (M : Int) (n i : Nat) : restI M n i = restI M n (i + 1) + 2 ^ i * bitI M i := by
  unfold restI
  have e : (2 : Int) ^ (i + 1) = 2 ^ i * 2 := Int.pow_succ _ _
  rw [half_pow M i, Int.mul_add, e]
  rw [show (2 : Int) ^ i * (2 * (M / (2 ^ i * 2))) = 2 ^ i * 2 * (M / (2 ^ i * 2)) by rw [Int.mul_assoc]]
  omega
theorem rest_in2 {M : Int} (n i : Nat) (h0 : 0 ≤ M) : 0 ≤ restI M n i := by
  unfold restI
  have := Int.emod_nonneg M (Int.ne_of_gt (pow2_pos n))
  have := Int.mul_nonneg (Int.le_of_lt (pow2_pos i)) (Int.ediv_nonneg h0 (Int.le_of_lt (pow2_pos i)))
  omega
theorem rest_le {M : Int} (n i : Nat) (h0 : 0 ≤ M) : restI M n i ≤ 2 * M := by
  unfold restI
  have e := Int.mul_ediv_add_emod M (2 ^ i)
  have r := Int.emod_nonneg M (Int.ne_of_gt (pow2_pos i))
  have a : M % 2 ^ n ≤ M := by
    have e2 := Int.mul_ediv_add_emod M (2 ^ n)
    have := Int.mul_nonneg (Int.le_of_lt (pow2_pos n)) (Int.ediv_nonneg h0 (Int.le_of_lt (pow2_pos n)))
    omega
  omega
theorem rest_bit {M : Int} (n i : Nat) (h0 : 0 ≤ M) (h : bitI M i = 1) : 2 ^ i ≤ restI M n i ∧ restI M n i - 2 ^ i = restI M n (i + 1) := by
  have e := rest_step M n i
  rw [h, Int.mul_one] at e
  have := rest_in2 n (i + 1) h0
  omega
/-- What a shift comes to. -/
theorem shift_res {x M : Int} {N : Nat} (hM : absI x = M) (h0 : -9223372036854775808 ≤ x) (h1 : x ≤ 9223372036854775807) (hN : N ≤ 63) :
    (0 ≤ x → shiftF x ((N : Int) + 1) = holdI (M / 2 ^ (N + 1) + if 2 ^ N ≤ M % 2 ^ (N + 1) then 1 else 0)) ∧
    (x < 0 → shiftF x ((N : Int) + 1) = holdI (-(M / 2 ^ (N + 1) + if 2 ^ N < M % 2 ^ (N + 1) then 1 else 0))) := by
  have hb := pow2_pos (N + 1)
  have ee : (2 : Int) ^ (N + 1) = 2 * 2 ^ N := by rw [Int.pow_succ, Int.mul_comm]
  by_cases hs : N ≤ 62
  · have e0 : shiftF x ((N : Int) + 1) = nearQ x (2 ^ (N + 1)) := by
      rw [near_pow]; unfold shiftF; rw [if_neg (by omega), if_neg (by omega)]
      have : ((N : Int) + 1).toNat - 1 = N := by omega
      rw [this]
    have hin := shift_in N h0 h1
    rw [← near_pow] at hin
    refine ⟨fun h => ?_, fun h => ?_⟩
    · have e1 : nearQ x (2 ^ (N + 1)) = M / 2 ^ (N + 1) + if 2 ^ N ≤ M % 2 ^ (N + 1) then 1 else 0 := by
        rw [absI_pos h] at hM
        subst hM
        unfold nearQ
        rw [if_neg (by omega), near_up hb]
        congr 1
        by_cases c : (2 : Int) ^ N ≤ x % 2 ^ (N + 1)
        · rw [if_pos c, if_pos (by omega)]
        · rw [if_neg c, if_neg (by omega)]
      rw [e0, ← e1, holdI_in hin.1 hin.2]
    · have e1 : nearQ x (2 ^ (N + 1)) = -(M / 2 ^ (N + 1) + if 2 ^ N < M % 2 ^ (N + 1) then 1 else 0) := by
        rw [absI_neg h] at hM
        obtain rfl : x = -M := by omega
        unfold nearQ
        rw [if_neg (by omega), near_below hb]
        congr 2
        by_cases c : (2 : Int) ^ N < M % 2 ^ (N + 1)
        · rw [if_pos c, if_pos (by omega)]
        · rw [if_neg c, if_neg (by omega)]
      rw [e0, ← e1, holdI_in hin.1 hin.2]
  · obtain rfl : N = 63 := by omega
    have M0 : 0 ≤ M := hM ▸ absI0 x
    have M1 : M ≤ 9223372036854775808 := hM ▸ absI1 h0 (by omega)
    have p64 : (2 : Int) ^ (63 + 1) = 18446744073709551616 := by decide
    have p63 : (2 : Int) ^ 63 = 9223372036854775808 := by decide
    have e0 : shiftF x (((63 : Nat) : Int) + 1) = 0 := by unfold shiftF; rw [if_neg (by omega), if_pos (by omega)]
    rw [e0, p64, p63, Int.ediv_eq_zero_of_lt M0 (by omega), Int.emod_eq_of_lt M0 (by omega)]
    refine ⟨fun h => ?_, fun h => ?_⟩
    · rw [absI_pos h] at hM
      rw [if_neg (by omega)]; decide
    · rw [if_neg (by omega)]; decide
theorem pow2_lt {i : Nat} (h : i ≤ 127) : (2 : Int) ^ i ≤ 170141183460469231731687303715884105728 := by
  have : (2 : Int) ^ i ≤ 2 ^ 127 := by exact_mod_cast Nat.pow_le_pow_right (by decide) h
  simpa using this
theorem pow2_lt6 {i : Nat} (h : i ≤ 126) : (2 : Int) ^ i < 170141183460469231731687303715884105728 := by
  have : (2 : Int) ^ i ≤ 2 ^ 126 := by exact_mod_cast Nat.pow_le_pow_right (by decide) h
  have e : (2 : Int) ^ 126 = 85070591730234615865843651857942052864 := by decide
  omega
theorem pow2_succ (i : Nat) : (2 : Int) ^ (i + 1) = 2 * 2 ^ i := by rw [Int.pow_succ, Int.mul_comm]
end Go.Proofs.YtclgghhpiljgfaaGreatDoor

/- Products, held: the program's (fixed.Mul). -/
namespace Go.Proofs.YtclgghhpiljgfaaGreatDoor
open Go.RowKit


theorem wrap_mul {p : Int} (h0 : -9223372036854775808 ≤ p) (h1 : p ≤ 9223372036854775807) : wrap64 p = p := wrap_in' h0 h1
/-- A product, by its factors without signs. -/
theorem mul_signs (a b : Int) : (a < 0 → b < 0 → a * b = absI a * absI b) ∧ (a < 0 → 0 ≤ b → a * b = -(absI a * absI b)) ∧ (0 ≤ a → b < 0 → a * b = -(absI a * absI b)) ∧ (0 ≤ a → 0 ≤ b → a * b = absI a * absI b) := by
  refine ⟨fun h k => ?_, fun h k => ?_, fun h k => ?_, fun h k => ?_⟩
  · rw [absI_neg h, absI_neg k, Int.neg_mul_neg]
  · rw [absI_neg h, absI_pos k, Int.neg_mul, Int.neg_neg]
  · rw [absI_pos h, absI_neg k, Int.mul_neg, Int.neg_neg]
  · rw [absI_pos h, absI_pos k]
theorem abs_mul_le {a b : Int} (h0 : -9223372036854775808 ≤ a) (h1 : a ≤ 9223372036854775807) (k0 : -9223372036854775808 ≤ b) (k1 : b ≤ 9223372036854775807) : 0 ≤ absI a * absI b ∧ absI a * absI b ≤ 85070591730234615865843651857942052864 := by
  have a0 := absI0 a
  have b0 := absI0 b
  have a1 : absI a ≤ 9223372036854775808 := absI1 h0 (by omega)
  have b1 : absI b ≤ 9223372036854775808 := absI1 k0 (by omega)
  exact ⟨Int.mul_nonneg a0 b0, by have := Int.mul_le_mul a1 b1 b0 (by omega); omega⟩
theorem mul64_int (x y : Int) (x0 : 0 ≤ x) (x1 : x < 18446744073709551616) (y0 : 0 ≤ y) (y1 : y < 18446744073709551616) (w : World) :
    Calls Tryz.prog 132 #[.int .u64 x, .int .u64 y] w fun e w' => e = .returned (.tuple #[.int .u64 (x * y / 18446744073709551616), .int .u64 (x * y % 18446744073709551616)]) ∧ w = w' := by
  obtain ⟨x, rfl⟩ := Int.eq_ofNat_of_zero_le x0
  obtain ⟨y, rfl⟩ := Int.eq_ofNat_of_zero_le y0
  have h := mul64_any x y (by omega) (by omega) w
  simpa using h
set_option maxHeartbeats 1000000 in
theorem fixmul_any (a b : Int) (h0 : -9223372036854775808 ≤ a) (h1 : a ≤ 9223372036854775807) (k0 : -9223372036854775808 ≤ b) (k1 : b ≤ 9223372036854775807) (w : World) :
    Calls Tryz.prog 123 #[.int .i64 a, .int .i64 b] w fun e w' => e = .returned (.int .i64 (holdI (a * b))) ∧ w = w' := by
  have CA := fixsize_any a h0 h1
  have CB := fixsize_any b k0 k1
  have a0 := absI0 a
  have b0 := absI0 b
  have a1 : absI a ≤ 9223372036854775808 := absI1 h0 (by omega)
  have b1 : absI b ≤ 9223372036854775808 := absI1 k0 (by omega)
  have CM := mul64_int (absI a) (absI b) a0 (by omega) b0 (by omega)
  obtain ⟨m1, m2, m3, m4⟩ := mul_signs a b
  obtain ⟨p0, p1⟩ := abs_mul_le h0 h1 k0 k1
  generalize absI a * absI b = P at *
  generalize absI a = A at *
  generalize absI b = B at *
  clear a0 b0 a1 b1
  obtain ⟨H, eH⟩ : ∃ H, H = P / 18446744073709551616 := ⟨_, rfl⟩
  obtain ⟨L, eL⟩ : ∃ L, L = P % 18446744073709551616 := ⟨_, rfl⟩
  rw [← eH, ← eL] at CM
  have eP : H * 18446744073709551616 + L = P := by omega
  have H0 : 0 ≤ H := by omega
  have L0 : 0 ≤ L := by omega
  have L1 : L < 18446744073709551616 := by omega
  have M1 := hide m1; have M2 := hide m2; have M3 := hide m3; have M4 := hide m4; have EP := hide eP
  clear m1 m2 m3 m4 eP eH eL p0 p1
  by_cases ha : a < 0
  · by_cases hb : b < 0
    · have ga : a < 0 := by omega
      have gb : b < 0 := by omega
      have e := M1.out ga gb
      have da : decide (a < 0) = true := decide_eq_true (by omega)
      have db : decide (b < 0) = true := decide_eq_true (by omega)
      by_cases hH0 : H = 0
      · by_cases hL : 9223372036854775807 < L
        · rw [holdI_hi (by have := EP.out; omega)]
          clear ga gb e
          have hH : (H != 0) = false := by simp [hH0]
          go_enter Tryz.func123, Tryz.ntmps123
          go_wp2_with (first
            | (go_at_call 141; (with_reducible refine (CA _).mono ?_); rintro e w' ⟨rfl, rfl⟩)
            | (go_at_call 141; (with_reducible refine (CB _).mono ?_); rintro e w' ⟨rfl, rfl⟩)
            | (go_at_call 132; (with_reducible refine (CM _).mono ?_); rintro e w' ⟨rfl, rfl⟩))
          go_ret
          exact ⟨rfl, rfl⟩
        · have e2 : a * b = L := by have := EP.out; omega
          rw [e, ← e, holdI_in (by omega) (by omega)]
          have W := hide (show wrap64 (a * b) = a * b from wrap_mul (by omega) (by omega))
          clear e2
          clear ga gb e
          have hH : (H != 0) = false := by simp [hH0]
          go_enter Tryz.func123, Tryz.ntmps123
          go_wp2_with (first
            | (go_at_call 141; (with_reducible refine (CA _).mono ?_); rintro e w' ⟨rfl, rfl⟩)
            | (go_at_call 141; (with_reducible refine (CB _).mono ?_); rintro e w' ⟨rfl, rfl⟩)
            | (go_at_call 132; (with_reducible refine (CM _).mono ?_); rintro e w' ⟨rfl, rfl⟩))
          go_ret
          exact ⟨ret_i64 (by first | rfl | exact W.out), rfl⟩
      · rw [holdI_hi (by have := EP.out; omega)]
        clear ga gb e
        have hH : (H != 0) = true := by simp [hH0]
        go_enter Tryz.func123, Tryz.ntmps123
        go_wp2_with (first
          | (go_at_call 141; (with_reducible refine (CA _).mono ?_); rintro e w' ⟨rfl, rfl⟩)
          | (go_at_call 141; (with_reducible refine (CB _).mono ?_); rintro e w' ⟨rfl, rfl⟩)
          | (go_at_call 132; (with_reducible refine (CM _).mono ?_); rintro e w' ⟨rfl, rfl⟩))
        go_ret
        exact ⟨rfl, rfl⟩
    · have ga : a < 0 := by omega
      have gb : 0 ≤ b := by omega
      have e := M2.out ga gb
      have da : decide (a < 0) = true := decide_eq_true (by omega)
      have db : decide (b < 0) = false := decide_eq_false (by omega)
      by_cases hH0 : H = 0
      · by_cases hL : 9223372036854775808 < L
        · rw [holdI_lo (by have := EP.out; omega)]
          clear ga gb e
          have hH : (H != 0) = false := by simp [hH0]
          go_enter Tryz.func123, Tryz.ntmps123
          go_wp2_with (first
            | (go_at_call 141; (with_reducible refine (CA _).mono ?_); rintro e w' ⟨rfl, rfl⟩)
            | (go_at_call 141; (with_reducible refine (CB _).mono ?_); rintro e w' ⟨rfl, rfl⟩)
            | (go_at_call 132; (with_reducible refine (CM _).mono ?_); rintro e w' ⟨rfl, rfl⟩))
          go_ret
          exact ⟨rfl, rfl⟩
        · have e2 : a * b = -L := by have := EP.out; omega
          rw [e, ← e, holdI_in (by omega) (by omega)]
          have W := hide (show wrap64 (a * b) = a * b from wrap_mul (by omega) (by omega))
          clear e2
          clear ga gb e
          have hH : (H != 0) = false := by simp [hH0]
          go_enter Tryz.func123, Tryz.ntmps123
          go_wp2_with (first
            | (go_at_call 141; (with_reducible refine (CA _).mono ?_); rintro e w' ⟨rfl, rfl⟩)
            | (go_at_call 141; (with_reducible refine (CB _).mono ?_); rintro e w' ⟨rfl, rfl⟩)
            | (go_at_call 132; (with_reducible refine (CM _).mono ?_); rintro e w' ⟨rfl, rfl⟩))
          go_ret
          exact ⟨ret_i64 (by first | rfl | exact W.out), rfl⟩
      · rw [holdI_lo (by have := EP.out; omega)]
        clear ga gb e
        have hH : (H != 0) = true := by simp [hH0]
        go_enter Tryz.func123, Tryz.ntmps123
        go_wp2_with (first
          | (go_at_call 141; (with_reducible refine (CA _).mono ?_); rintro e w' ⟨rfl, rfl⟩)
          | (go_at_call 141; (with_reducible refine (CB _).mono ?_); rintro e w' ⟨rfl, rfl⟩)
          | (go_at_call 132; (with_reducible refine (CM _).mono ?_); rintro e w' ⟨rfl, rfl⟩))
        go_ret
        exact ⟨rfl, rfl⟩
  · by_cases hb : b < 0
    · have ga : 0 ≤ a := by omega
      have gb : b < 0 := by omega
      have e := M3.out ga gb
      have da : decide (a < 0) = false := decide_eq_false (by omega)
      have db : decide (b < 0) = true := decide_eq_true (by omega)
      by_cases hH0 : H = 0
      · by_cases hL : 9223372036854775808 < L
        · rw [holdI_lo (by have := EP.out; omega)]
          clear ga gb e
          have hH : (H != 0) = false := by simp [hH0]
          go_enter Tryz.func123, Tryz.ntmps123
          go_wp2_with (first
            | (go_at_call 141; (with_reducible refine (CA _).mono ?_); rintro e w' ⟨rfl, rfl⟩)
            | (go_at_call 141; (with_reducible refine (CB _).mono ?_); rintro e w' ⟨rfl, rfl⟩)
            | (go_at_call 132; (with_reducible refine (CM _).mono ?_); rintro e w' ⟨rfl, rfl⟩))
          go_ret
          exact ⟨rfl, rfl⟩
        · have e2 : a * b = -L := by have := EP.out; omega
          rw [e, ← e, holdI_in (by omega) (by omega)]
          have W := hide (show wrap64 (a * b) = a * b from wrap_mul (by omega) (by omega))
          clear e2
          clear ga gb e
          have hH : (H != 0) = false := by simp [hH0]
          go_enter Tryz.func123, Tryz.ntmps123
          go_wp2_with (first
            | (go_at_call 141; (with_reducible refine (CA _).mono ?_); rintro e w' ⟨rfl, rfl⟩)
            | (go_at_call 141; (with_reducible refine (CB _).mono ?_); rintro e w' ⟨rfl, rfl⟩)
            | (go_at_call 132; (with_reducible refine (CM _).mono ?_); rintro e w' ⟨rfl, rfl⟩))
          go_ret
          exact ⟨ret_i64 (by first | rfl | exact W.out), rfl⟩
      · rw [holdI_lo (by have := EP.out; omega)]
        clear ga gb e
        have hH : (H != 0) = true := by simp [hH0]
        go_enter Tryz.func123, Tryz.ntmps123
        go_wp2_with (first
          | (go_at_call 141; (with_reducible refine (CA _).mono ?_); rintro e w' ⟨rfl, rfl⟩)
          | (go_at_call 141; (with_reducible refine (CB _).mono ?_); rintro e w' ⟨rfl, rfl⟩)
          | (go_at_call 132; (with_reducible refine (CM _).mono ?_); rintro e w' ⟨rfl, rfl⟩))
        go_ret
        exact ⟨rfl, rfl⟩
    · have ga : 0 ≤ a := by omega
      have gb : 0 ≤ b := by omega
      have e := M4.out ga gb
      have da : decide (a < 0) = false := decide_eq_false (by omega)
      have db : decide (b < 0) = false := decide_eq_false (by omega)
      by_cases hH0 : H = 0
      · by_cases hL : 9223372036854775807 < L
        · rw [holdI_hi (by have := EP.out; omega)]
          clear ga gb e
          have hH : (H != 0) = false := by simp [hH0]
          go_enter Tryz.func123, Tryz.ntmps123
          go_wp2_with (first
            | (go_at_call 141; (with_reducible refine (CA _).mono ?_); rintro e w' ⟨rfl, rfl⟩)
            | (go_at_call 141; (with_reducible refine (CB _).mono ?_); rintro e w' ⟨rfl, rfl⟩)
            | (go_at_call 132; (with_reducible refine (CM _).mono ?_); rintro e w' ⟨rfl, rfl⟩))
          go_ret
          exact ⟨rfl, rfl⟩
        · have e2 : a * b = L := by have := EP.out; omega
          rw [e, ← e, holdI_in (by omega) (by omega)]
          have W := hide (show wrap64 (a * b) = a * b from wrap_mul (by omega) (by omega))
          clear e2
          clear ga gb e
          have hH : (H != 0) = false := by simp [hH0]
          go_enter Tryz.func123, Tryz.ntmps123
          go_wp2_with (first
            | (go_at_call 141; (with_reducible refine (CA _).mono ?_); rintro e w' ⟨rfl, rfl⟩)
            | (go_at_call 141; (with_reducible refine (CB _).mono ?_); rintro e w' ⟨rfl, rfl⟩)
            | (go_at_call 132; (with_reducible refine (CM _).mono ?_); rintro e w' ⟨rfl, rfl⟩))
          go_ret
          exact ⟨ret_i64 (by first | rfl | exact W.out), rfl⟩
      · rw [holdI_hi (by have := EP.out; omega)]
        clear ga gb e
        have hH : (H != 0) = true := by simp [hH0]
        go_enter Tryz.func123, Tryz.ntmps123
        go_wp2_with (first
          | (go_at_call 141; (with_reducible refine (CA _).mono ?_); rintro e w' ⟨rfl, rfl⟩)
          | (go_at_call 141; (with_reducible refine (CB _).mono ?_); rintro e w' ⟨rfl, rfl⟩)
          | (go_at_call 132; (with_reducible refine (CM _).mono ?_); rintro e w' ⟨rfl, rfl⟩))
        go_ret
        exact ⟨rfl, rfl⟩
end Go.Proofs.YtclgghhpiljgfaaGreatDoor
