/- The program's quotients (package fixed): each as plain arithmetic. -/
import Derived.Test.YthhdclgpllnenaaDoorB
import Derived.Test.YthhdclgpllnenaaDoorN
import Derived.IntWalk
import Derived.Deep.QuietTactic
import Derived.BigQuiet
namespace Go.Proofs.YthhdclgpllnenaaDoor
open Go.RowKit


theorem wrap_in' {n : Int} (h0 : -9223372036854775808 ≤ n) (h1 : n ≤ 9223372036854775807) : wrap64 n = n := IntWalk.wrap64_in n ⟨h0, h1⟩
theorem fixmod_any (a b : Int) (h0 : -9223372036854775808 ≤ a) (h1 : a ≤ 9223372036854775807) (k0 : -9223372036854775808 ≤ b) (k1 : b ≤ 9223372036854775807) (w : World) :
    Calls Tryd.prog 10 #[.int .i64 a, .int .i64 b] w fun e w' => e = .returned (.int .i64 (modF a b)) ∧ w = w' := by
  by_cases hb : b = 0
  · subst hb
    go_enter Tryd.func10, Tryd.ntmps10
    go_wp2
    go_ret
    exact ⟨ret_i64 (by simp [modF]), rfl⟩
  have C := cut_any h0 h1 k0 k1 hb
  have I := floorR_in a b
  rw [modF_of hb]
  have hb0 : (b == 0) = false := beq_eq_false_iff_ne.2 hb
  have m0 := C.m0
  have m1 := C.m1
  by_cases c1 : a.tmod b = 0
  · rw [C.r0 c1]
    clear C I
    go_enter Tryd.func10, Tryd.ntmps10
    go_wp2
    go_ret
    exact ⟨ret_i64 (by rfl), rfl⟩
  have c1' : (a.tmod b != 0) = true := by simp [c1]
  by_cases ga : a.tmod b < 0
  · by_cases gb : b < 0
    · rw [C.r1 c1 (by omega)]
      have da : decide (a.tmod b < 0) = true := decide_eq_true (by omega)
      have db : decide (b < 0) = true := decide_eq_true (by omega)
      clear C I c1 ga gb
      go_enter Tryd.func10, Tryd.ntmps10
      go_wp2
      go_ret
      exact ⟨ret_i64 (by rfl), rfl⟩
    · rw [C.r2 c1 (by omega)]
      have e2 := C.r2 c1 (by omega)
      have i2 := I.1 (by omega)
      rw [e2] at i2
      clear e2
      have da : decide (a.tmod b < 0) = true := decide_eq_true (by omega)
      have db : decide (b < 0) = false := decide_eq_false (by omega)
      clear C I c1 ga gb
      go_enter Tryd.func10, Tryd.ntmps10
      go_wp2
      go_ret
      exact ⟨ret_i64 (by first | rfl | exact wrap_in' (by omega) (by omega)), rfl⟩
  · by_cases gb : b < 0
    · rw [C.r2 c1 (by omega)]
      have e2 := C.r2 c1 (by omega)
      have i2 := I.2 gb
      rw [e2] at i2
      clear e2
      have da : decide (a.tmod b < 0) = false := decide_eq_false (by omega)
      have db : decide (b < 0) = true := decide_eq_true (by omega)
      clear C I c1 ga gb
      go_enter Tryd.func10, Tryd.ntmps10
      go_wp2
      go_ret
      exact ⟨ret_i64 (by first | rfl | exact wrap_in' (by omega) (by omega)), rfl⟩
    · rw [C.r1 c1 (by omega)]
      have da : decide (a.tmod b < 0) = false := decide_eq_false (by omega)
      have db : decide (b < 0) = false := decide_eq_false (by omega)
      clear C I c1 ga gb
      go_enter Tryd.func10, Tryd.ntmps10
      go_wp2
      go_ret
      exact ⟨ret_i64 (by rfl), rfl⟩
end Go.Proofs.YthhdclgpllnenaaDoor
