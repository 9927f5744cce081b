/- The program's quotients (package fixed): each as plain arithmetic. -/
import Derived.Test.YthakcpjlnopcfaaDoorB
import Derived.Test.YthakcpjlnopcfaaDoorN
import Derived.IntWalk
import Derived.Deep.QuietTactic
import Derived.BigQuiet
namespace Go.Proofs.YthakcpjlnopcfaaDoor
open Go.RowKit


theorem wrap_in' {n : Int} (h0 : -9223372036854775808 ≤ n) (h1 : n ≤ 9223372036854775807) : wrap64 n = n := IntWalk.wrap64_in n ⟨h0, h1⟩
/-! ### Shift -/
def shiftF (x n : Int) : Int := if n ≤ 0 then x else if 63 < n then 0 else (x / 2 ^ (n.toNat - 1) + 1) / 2
theorem and_one_i64 (a : Int) : bits .and .i64 a 1 = a % 2 := by
  show IntKind.i64.wrap (((BitVec.ofInt 64 a &&& BitVec.ofInt 64 1).toNat : Nat) : Int) = _
  rw [BitVec.toNat_and, BitVec.toNat_ofInt, BitVec.toNat_ofInt]
  have e : ((1 : Int) % ((2 ^ 64 : Nat) : Int)).toNat = 1 := by decide
  rw [e, Nat.and_one_is_mod, IntKind.wrap_i64]
  have e2 : ((2 ^ 64 : Nat) : Int) = 18446744073709551616 := by decide
  rw [e2]
  omega
theorem two_step (x : Int) (m : Nat) : x / 2 ^ (m + 1) + x / 2 ^ m % 2 = (x / 2 ^ m + 1) / 2 := by
  have e : x / 2 ^ (m + 1) = x / 2 ^ m / 2 := by rw [Int.pow_succ, Int.ediv_ediv_of_nonneg (Int.le_of_lt (pow2_pos m))]
  rw [e]; omega
theorem shift_in {x : Int} (m : Nat) (h0 : -9223372036854775808 ≤ x) (h1 : x ≤ 9223372036854775807) : -9223372036854775808 ≤ (x / 2 ^ m + 1) / 2 ∧ (x / 2 ^ m + 1) / 2 ≤ 9223372036854775807 := by
  have p := pow2_pos m
  have p1 : (1 : Int) ≤ 2 ^ m := p
  have a0 : -9223372036854775808 ≤ x / 2 ^ m := by
    rw [Int.le_ediv_iff_mul_le p]
    generalize (2 : Int) ^ m = P at *
    omega
  have a1 : x / 2 ^ m ≤ 9223372036854775807 := by
    by_cases hx : 0 ≤ x
    · have := Int.ediv_le_self (2 ^ m) hx; omega
    · have := Int.ediv_neg_of_neg_of_pos (by omega : x < 0) p; omega
  omega
theorem fixshift_any (x n : Int) (h0 : -9223372036854775808 ≤ x) (h1 : x ≤ 9223372036854775807) (k0 : -9223372036854775808 ≤ n) (k1 : n ≤ 9223372036854775807) (w : World) :
    Calls Tryd.prog 17 #[.int .i64 x, .int .i64 n] w fun e w' => e = .returned (.int .i64 (shiftF x n)) ∧ Below w.heap.size w w' := by
  by_cases hn : n ≤ 0
  · rw [show shiftF x n = x from if_pos hn]
    go_enter Tryd.func17, Tryd.ntmps17
    go_wp2
    go_ret
    exact ⟨rfl, Below.refl _ _⟩
  by_cases hm : 63 < n
  · rw [show shiftF x n = 0 from (if_neg hn).trans (if_pos hm)]
    go_enter Tryd.func17, Tryd.ntmps17
    go_wp2
    go_ret
    exact ⟨rfl, Below.refl _ _⟩
  obtain ⟨m, rfl⟩ : ∃ m : Nat, n = ((m + 1 : Nat) : Int) := ⟨n.toNat - 1, by omega⟩
  have e : shiftF x ((m + 1 : Nat) : Int) = (x / 2 ^ m + 1) / 2 := (if_neg hn).trans (if_neg hm)
  rw [e]
  have S := hide (shift_in m h0 h1)
  have T := hide (two_step x m)
  clear e
  obtain ⟨j, hj⟩ : ∃ j, j = m + 1 := ⟨_, rfl⟩
  have J := hide hj
  rw [← hj] at hn hm k0 k1 ⊢
  have n1 : ((j : Int) - 1) = ((j - 1 : Nat) : Int) := by omega
  clear hj
  go_enter Tryd.func17, Tryd.ntmps17
  go_wp2
  go_quiet (fail)
  go_wp2
  go_ret
  refine ⟨ret_i64 ?_, below_drewN (Below.refl _ _) _⟩
  have hj := J.out
  subst hj
  rw [and_one_i64, Nat.add_sub_cancel, T.out]
  exact wrap_in' S.out.1 S.out.2
end Go.Proofs.YthakcpjlnopcfaaDoor
