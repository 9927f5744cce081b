/- The program's quotients (package fixed): each as plain arithmetic. -/
import Derived.Test.YtcfbpilhgnofpaaB
import Derived.Test.YtcfbpilhgnofpaaN
import Derived.IntWalk
import Derived.Deep.QuietTactic
import Derived.BigQuiet
namespace Go.Proofs.Ytcfbpilhgnofpaa
open Go.RowKit


theorem wrap_in' {n : Int} (h0 : -9223372036854775808 ≤ n) (h1 : n ≤ 9223372036854775807) : wrap64 n = n := IntWalk.wrap64_in n ⟨h0, h1⟩
theorem wrap_pred {t : Int} (h0 : -9223372036854775808 ≤ t - 1) (h1 : t - 1 ≤ 9223372036854775807) : wrap64 (wrap64 t - 1) = t - 1 := by unfold wrap64; omega
theorem fixfloor_any (a b : Int) (h0 : -9223372036854775808 ≤ a) (h1 : a ≤ 9223372036854775807) (k0 : -9223372036854775808 ≤ b) (k1 : b ≤ 9223372036854775807) (w : World) :
    Calls Try.prog 24 #[.int .i64 a, .int .i64 b] w fun e w' => e = .returned (.int .i64 (floorF a b)) ∧ w = w' := by
  by_cases hb : b = 0
  · subst hb
    go_enter Try.func24, Try.ntmps24
    go_wp2
    go_ret
    exact ⟨ret_i64 (by simp [floorF]), rfl⟩
  have C := cut_any h0 h1 k0 k1 hb
  rw [floorF_of hb]
  by_cases hs : a = -9223372036854775808 ∧ b = -1
  · obtain ⟨rfl, rfl⟩ := hs
    clear C
    go_enter Try.func24, Try.ntmps24
    go_wp2
    go_ret
    exact ⟨ret_i64 (by decide), rfl⟩
  have q1 := C.q1 (Or.inr hs)
  have q0 := C.q0
  rw [holdI_in q0 q1]
  have hb0 : (b == 0) = false := beq_eq_false_iff_ne.2 hb
  have HS := hide hs
  clear hs
  by_cases c1 : a.tmod b = 0
  · have E := C.f0 c1
    rw [E] at q0 q1 ⊢
    clear C E
    by_cases ha : a = -9223372036854775808
    · have hA : (a == -9223372036854775808) = true := beq_iff_eq.2 ha
      have hB : (b == -1) = false := beq_eq_false_iff_ne.2 fun e => HS.out ⟨ha, e⟩
      clear ha h0 h1
      go_enter Try.func24, Try.ntmps24
      go_wp2
      go_ret
      exact ⟨ret_i64 (by first | rfl | exact wrap_in' (by omega) (by omega)), rfl⟩
    · have hA : (a == -9223372036854775808) = false := beq_eq_false_iff_ne.2 ha
      clear ha
      go_enter Try.func24, Try.ntmps24
      go_wp2
      go_ret
      exact ⟨ret_i64 (by first | rfl | exact wrap_in' (by omega) (by omega)), rfl⟩
  have c1' : (a.tmod b != 0) = true := by simp [c1]
  by_cases ga : a < 0
  · by_cases gb : b < 0
    · have E := C.f1 (by omega)
      rw [E] at q0 q1 ⊢
      clear C E
      have da : decide (a < 0) = true := decide_eq_true (by omega)
      have db : decide (b < 0) = true := decide_eq_true (by omega)
      clear c1 ga gb
      by_cases ha : a = -9223372036854775808
      · have hA : (a == -9223372036854775808) = true := beq_iff_eq.2 ha
        have hB : (b == -1) = false := beq_eq_false_iff_ne.2 fun e => HS.out ⟨ha, e⟩
        clear ha h0 h1
        go_enter Try.func24, Try.ntmps24
        go_wp2
        go_ret
        exact ⟨ret_i64 (by first | rfl | exact wrap_in' (by omega) (by omega)), rfl⟩
      · have hA : (a == -9223372036854775808) = false := beq_eq_false_iff_ne.2 ha
        clear ha
        go_enter Try.func24, Try.ntmps24
        go_wp2
        go_ret
        exact ⟨ret_i64 (by first | rfl | exact wrap_in' (by omega) (by omega)), rfl⟩
    · have E := C.f2 c1 (by omega)
      rw [E] at q0 q1 ⊢
      clear C E
      have da : decide (a < 0) = true := decide_eq_true (by omega)
      have db : decide (b < 0) = false := decide_eq_false (by omega)
      clear c1 ga gb
      by_cases ha : a = -9223372036854775808
      · have hA : (a == -9223372036854775808) = true := beq_iff_eq.2 ha
        have hB : (b == -1) = false := beq_eq_false_iff_ne.2 fun e => HS.out ⟨ha, e⟩
        clear ha h0 h1
        go_enter Try.func24, Try.ntmps24
        go_wp2
        go_ret
        exact ⟨ret_i64 (by first | exact wrap_pred q0 q1 | exact wrap_in' q0 q1), rfl⟩
      · have hA : (a == -9223372036854775808) = false := beq_eq_false_iff_ne.2 ha
        clear ha
        go_enter Try.func24, Try.ntmps24
        go_wp2
        go_ret
        exact ⟨ret_i64 (by first | exact wrap_pred q0 q1 | exact wrap_in' q0 q1), rfl⟩
  · by_cases gb : b < 0
    · have E := C.f2 c1 (by omega)
      rw [E] at q0 q1 ⊢
      clear C E
      have da : decide (a < 0) = false := decide_eq_false (by omega)
      have db : decide (b < 0) = true := decide_eq_true (by omega)
      clear c1 ga gb
      by_cases ha : a = -9223372036854775808
      · have hA : (a == -9223372036854775808) = true := beq_iff_eq.2 ha
        have hB : (b == -1) = false := beq_eq_false_iff_ne.2 fun e => HS.out ⟨ha, e⟩
        clear ha h0 h1
        go_enter Try.func24, Try.ntmps24
        go_wp2
        go_ret
        exact ⟨ret_i64 (by first | exact wrap_pred q0 q1 | exact wrap_in' q0 q1), rfl⟩
      · have hA : (a == -9223372036854775808) = false := beq_eq_false_iff_ne.2 ha
        clear ha
        go_enter Try.func24, Try.ntmps24
        go_wp2
        go_ret
        exact ⟨ret_i64 (by first | exact wrap_pred q0 q1 | exact wrap_in' q0 q1), rfl⟩
    · have E := C.f1 (by omega)
      rw [E] at q0 q1 ⊢
      clear C E
      have da : decide (a < 0) = false := decide_eq_false (by omega)
      have db : decide (b < 0) = false := decide_eq_false (by omega)
      clear c1 ga gb
      by_cases ha : a = -9223372036854775808
      · have hA : (a == -9223372036854775808) = true := beq_iff_eq.2 ha
        have hB : (b == -1) = false := beq_eq_false_iff_ne.2 fun e => HS.out ⟨ha, e⟩
        clear ha h0 h1
        go_enter Try.func24, Try.ntmps24
        go_wp2
        go_ret
        exact ⟨ret_i64 (by first | rfl | exact wrap_in' (by omega) (by omega)), rfl⟩
      · have hA : (a == -9223372036854775808) = false := beq_eq_false_iff_ne.2 ha
        clear ha
        go_enter Try.func24, Try.ntmps24
        go_wp2
        go_ret
        exact ⟨ret_i64 (by first | rfl | exact wrap_in' (by omega) (by omega)), rfl⟩
theorem fixmod_any (a b : Int) (h0 : -9223372036854775808 ≤ a) (h1 : a ≤ 9223372036854775807) (k0 : -9223372036854775808 ≤ b) (k1 : b ≤ 9223372036854775807) (w : World) :
    Calls Try.prog 25 #[.int .i64 a, .int .i64 b] w fun e w' => e = .returned (.int .i64 (modF a b)) ∧ w = w' := by
  by_cases hb : b = 0
  · subst hb
    go_enter Try.func25, Try.ntmps25
    go_wp2
    go_ret
    exact ⟨ret_i64 (by simp [modF]), rfl⟩
  have C := cut_any h0 h1 k0 k1 hb
  have I := floorR_in a b
  rw [modF_of hb]
  have hb0 : (b == 0) = false := beq_eq_false_iff_ne.2 hb
  have m0 := C.m0
  have m1 := C.m1
  by_cases c1 : a.tmod b = 0
  · rw [C.r0 c1]
    clear C I
    go_enter Try.func25, Try.ntmps25
    go_wp2
    go_ret
    exact ⟨ret_i64 (by rfl), rfl⟩
  have c1' : (a.tmod b != 0) = true := by simp [c1]
  by_cases ga : a.tmod b < 0
  · by_cases gb : b < 0
    · rw [C.r1 c1 (by omega)]
      have da : decide (a.tmod b < 0) = true := decide_eq_true (by omega)
      have db : decide (b < 0) = true := decide_eq_true (by omega)
      clear C I c1 ga gb
      go_enter Try.func25, Try.ntmps25
      go_wp2
      go_ret
      exact ⟨ret_i64 (by rfl), rfl⟩
    · rw [C.r2 c1 (by omega)]
      have e2 := C.r2 c1 (by omega)
      have i2 := I.1 (by omega)
      rw [e2] at i2
      clear e2
      have da : decide (a.tmod b < 0) = true := decide_eq_true (by omega)
      have db : decide (b < 0) = false := decide_eq_false (by omega)
      clear C I c1 ga gb
      go_enter Try.func25, Try.ntmps25
      go_wp2
      go_ret
      exact ⟨ret_i64 (by first | rfl | exact wrap_in' (by omega) (by omega)), rfl⟩
  · by_cases gb : b < 0
    · rw [C.r2 c1 (by omega)]
      have e2 := C.r2 c1 (by omega)
      have i2 := I.2 gb
      rw [e2] at i2
      clear e2
      have da : decide (a.tmod b < 0) = false := decide_eq_false (by omega)
      have db : decide (b < 0) = true := decide_eq_true (by omega)
      clear C I c1 ga gb
      go_enter Try.func25, Try.ntmps25
      go_wp2
      go_ret
      exact ⟨ret_i64 (by first | rfl | exact wrap_in' (by omega) (by omega)), rfl⟩
    · rw [C.r1 c1 (by omega)]
      have da : decide (a.tmod b < 0) = false := decide_eq_false (by omega)
      have db : decide (b < 0) = false := decide_eq_false (by omega)
      clear C I c1 ga gb
      go_enter Try.func25, Try.ntmps25
      go_wp2
      go_ret
      exact ⟨ret_i64 (by rfl), rfl⟩
/-! ### Shift -/
def shiftF (x n : Int) : Int := if n ≤ 0 then x else if 63 < n then 0 else (x / 2 ^ (n.toNat - 1) + 1) / 2
theorem and_one_i64 (a : Int) : bits .and .i64 a 1 = a % 2 := by
  show IntKind.i64.wrap (((BitVec.ofInt 64 a &&& BitVec.ofInt 64 1).toNat : Nat) : Int) = _
  rw [BitVec.toNat_and, BitVec.toNat_ofInt, BitVec.toNat_ofInt]
  have e : ((1 : Int) % ((2 ^ 64 : Nat) : Int)).toNat = 1 := by decide
  rw [e, Nat.and_one_is_mod, IntKind.wrap_i64]
  have e2 : ((2 ^ 64 : Nat) : Int) = 18446744073709551616 := by decide
  rw [e2]
  omega
theorem two_step (x : Int) (m : Nat) : x / 2 ^ (m + 1) + x / 2 ^ m % 2 = (x / 2 ^ m + 1) / 2 := by
  have e : x / 2 ^ (m + 1) = x / 2 ^ m / 2 := by rw [Int.pow_succ, Int.ediv_ediv_of_nonneg (Int.le_of_lt (pow2_pos m))]
  rw [e]; omega
theorem shift_in {x : Int} (m : Nat) (h0 : -9223372036854775808 ≤ x) (h1 : x ≤ 9223372036854775807) : -9223372036854775808 ≤ (x / 2 ^ m + 1) / 2 ∧ (x / 2 ^ m + 1) / 2 ≤ 9223372036854775807 := by
  have p := pow2_pos m
  have p1 : (1 : Int) ≤ 2 ^ m := p
  have a0 : -9223372036854775808 ≤ x / 2 ^ m := by
    rw [Int.le_ediv_iff_mul_le p]
    generalize (2 : Int) ^ m = P at *
    omega
  have a1 : x / 2 ^ m ≤ 9223372036854775807 := by
    by_cases hx : 0 ≤ x
    · have := Int.ediv_le_self (2 ^ m) hx; omega
    · have := Int.ediv_neg_of_neg_of_pos (by omega : x < 0) p; omega
  omega
theorem fixshift_any (x n : Int) (h0 : -9223372036854775808 ≤ x) (h1 : x ≤ 9223372036854775807) (k0 : -9223372036854775808 ≤ n) (k1 : n ≤ 9223372036854775807) (w : World) :
    Calls Try.prog 56 #[.int .i64 x, .int .i64 n] w fun e w' => e = .returned (.int .i64 (shiftF x n)) ∧ Below w.heap.size w w' := by
  by_cases hn : n ≤ 0
  · rw [show shiftF x n = x from if_pos hn]
    go_enter Try.func56, Try.ntmps56
    go_wp2
    go_ret
    exact ⟨rfl, Below.refl _ _⟩
  by_cases hm : 63 < n
  · rw [show shiftF x n = 0 from (if_neg hn).trans (if_pos hm)]
    go_enter Try.func56, Try.ntmps56
    go_wp2
    go_ret
    exact ⟨rfl, Below.refl _ _⟩
  obtain ⟨m, rfl⟩ : ∃ m : Nat, n = ((m + 1 : Nat) : Int) := ⟨n.toNat - 1, by omega⟩
  have e : shiftF x ((m + 1 : Nat) : Int) = (x / 2 ^ m + 1) / 2 := (if_neg hn).trans (if_neg hm)
  rw [e]
  have S := hide (shift_in m h0 h1)
  have T := hide (two_step x m)
  clear e
  obtain ⟨j, hj⟩ : ∃ j, j = m + 1 := ⟨_, rfl⟩
  have J := hide hj
  rw [← hj] at hn hm k0 k1 ⊢
  have n1 : ((j : Int) - 1) = ((j - 1 : Nat) : Int) := by omega
  clear hj
  go_enter Try.func56, Try.ntmps56
  go_wp2
  go_quiet (fail)
  go_wp2
  go_ret
  refine ⟨ret_i64 ?_, below_drewN (Below.refl _ _) _⟩
  have hj := J.out
  subst hj
  rw [and_one_i64, Nat.add_sub_cancel, T.out]
  exact wrap_in' S.out.1 S.out.2
end Go.Proofs.Ytcfbpilhgnofpaa
