/- The laws on the sinc. -/
import Derived.Test.YthakcpjlnopcfaaDoorS04B
namespace Go.Proofs.YthakcpjlnopcfaaDoor
open Go.RowKit


theorem slives (w : World) : Calls Tryd.prog 5 #[] w fun e w' => e = .returned (.bool true) ∧ Below w.heap.size w w' := by
  have C1 := sinc_any 0 5 (by omega) (by omega)
  have C2 := lanczos_any 0 1 (by omega) (by omega)
  have C3 := lanczos_any 3 1 (by omega) (by omega)
  rw [mid_all 5 (by omega) (by omega)] at C1
  rw [lanczos_mid] at C2
  rw [lanczos_end] at C3
  go_enter Tryd.func5, Tryd.ntmps5
  go_wp2_with (first
    | (go_at_call 7; (with_reducible refine (C1 _).mono ?_); rintro e w1 ⟨rfl, b1⟩)
    | (go_at_call 10; (with_reducible refine (C2 _).mono ?_); rintro e w2 ⟨rfl, b2⟩)
    | (go_at_call 10; (with_reducible refine (C3 _).mono ?_); rintro e w3 ⟨rfl, b3⟩))
  go_ret
  exact ⟨rfl, bt (bt b1 b2) b3⟩
theorem and_low20 (t : Int) : bits .and .i64 t 1048575 = t % 1048576 := by
  show IntKind.i64.wrap (((BitVec.ofInt 64 t &&& BitVec.ofInt 64 1048575).toNat : Nat) : Int) = _
  rw [BitVec.toNat_and, BitVec.toNat_ofInt, BitVec.toNat_ofInt]
  have e : ((1048575 : Int) % ((2 ^ 64 : Nat) : Int)).toNat = 2 ^ 20 - 1 := by decide
  rw [e, Nat.and_two_pow_sub_one_eq_mod, IntKind.wrap_i64]
  have e2 : ((2 ^ 64 : Nat) : Int) = 18446744073709551616 := by decide
  rw [e2]
  omega
end Go.Proofs.YthakcpjlnopcfaaDoor
