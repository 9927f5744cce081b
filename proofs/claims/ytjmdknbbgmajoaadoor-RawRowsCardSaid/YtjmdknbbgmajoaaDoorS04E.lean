/- The sine of package math: its walk. -/
import Derived.Test.YtjmdknbbgmajoaaDoorFD
import Derived.Test.YtjmdknbbgmajoaaDoorS04D
import Derived.WalkLawsBesides
namespace Go.Proofs.YtjmdknbbgmajoaaDoor
open Go.RowKit Ieee

theorem mul_op {x y r : Nat} (h : double.mul x y = some r) : ∀ t w, (binOp .mul t (.float .f64 x) (.float .f64 y)).run Tryd.prog w = .ok (.float .f64 r) w := fun t w => run_float_arith w .mul t .f64 x y r h
theorem add_op {x y r : Nat} (h : double.add x y = some r) : ∀ t w, (binOp .add t (.float .f64 x) (.float .f64 y)).run Tryd.prog w = .ok (.float .f64 r) w := fun t w => run_float_arith w .add t .f64 x y r h
theorem sub_op {x y r : Nat} (h : double.sub x y = some r) : ∀ t w, (binOp .sub t (.float .f64 x) (.float .f64 y)).run Tryd.prog w = .ok (.float .f64 r) w := fun t w => run_float_arith w .sub t .f64 x y r h
theorem div_op {x y r : Nat} (h : double.div x y = some r) : ∀ t w, (binOp .quo t (.float .f64 x) (.float .f64 y)).run Tryd.prog w = .ok (.float .f64 r) w := fun t w => run_float_arith w .quo t .f64 x y r h
theorem bits_op (x : Nat) : ∀ w, (callFunc 32 #[.float .f64 x]).run Tryd.prog w = .ok (.value (.int .u64 x)) w := fun w => by
  rw [run_callFunc_extern (e := Extern.MathFloatBits.float64bits) Tryd.func32 (by kernel_rfl) (by kernel_rfl) (by kernel_rfl) (by rfl)]
  rfl
theorem frombits_op (n : Int) : ∀ w, (callFunc 31 #[.int .u64 n]).run Tryd.prog w = .ok (.value (.float .f64 n.toNat)) w := fun w => by
  rw [run_callFunc_extern (e := Extern.MathFloatBits.float64frombits) Tryd.func31 (by kernel_rfl) (by kernel_rfl) (by kernel_rfl) (by rfl)]
  rfl
theorem and_not63 (x : Nat) (_h : x < 18446744073709551616) : bits .andNot .u64 (x : Int) 9223372036854775808 = (x : Int) % 9223372036854775808 := by
  show IntKind.u64.wrap (((BitVec.ofInt 64 (x : Int) &&& ~~~ BitVec.ofInt 64 9223372036854775808).toNat : Nat) : Int) = _
  rw [BitVec.toNat_and, BitVec.toNat_ofInt]
  have e : (~~~ BitVec.ofInt 64 9223372036854775808).toNat = 2 ^ 63 - 1 := by decide
  have e2 : ((2 ^ 64 : Nat) : Int) = 18446744073709551616 := by decide
  rw [e, Nat.and_two_pow_sub_one_eq_mod, IntKind.wrap_u64, e2]
  omega
theorem abs_walk (x : Nat) (h : x < 18446744073709551616) (w : World) :
    Calls Tryd.prog 18 #[.float .f64 x] w fun e w' => e = .returned (.float .f64 (x % 9223372036854775808)) ∧ w = w' := by
  have h1 := bits_op x
  have h2 := frombits_op ((x : Int) % 9223372036854775808)
  rw [show ((x : Int) % 9223372036854775808).toNat = x % 9223372036854775808 by omega] at h2
  have h3 := and_not63 x h
  go_enter Tryd.func18, Tryd.ntmps18
  go_wp2
  go_ret
  exact ⟨rfl, rfl⟩
end Go.Proofs.YtjmdknbbgmajoaaDoor
