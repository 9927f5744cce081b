/- Sums and bounds, held: the program's; and the law on them. -/
import Derived.Test.YthhdclgpllnenaaF
namespace Go.Proofs.Ythhdclgpllnenaa
open Go.RowKit


theorem fixadd_any (a b : Int) (h0 : -9223372036854775808 ≤ a) (h1 : a ≤ 9223372036854775807) (k0 : -9223372036854775808 ≤ b) (k1 : b ≤ 9223372036854775807) (w : World) :
    Calls Try.prog 16 #[.int .i64 a, .int .i64 b] w fun e w' => e = .returned (.int .i64 (holdI (a + b))) ∧ w = w' := by
  by_cases hp : 0 < b
  · by_cases hc : 9223372036854775807 - b < a
    · rw [holdI_hi (by omega)]
      go_enter Try.func16, Try.ntmps16
      go_wp2
      go_ret
      exact ⟨rfl, rfl⟩
    · rw [holdI_in (by omega) (by omega)]
      go_enter Try.func16, Try.ntmps16
      go_wp2
      go_ret
      exact ⟨rfl, rfl⟩
  by_cases hn : b < 0
  · by_cases hc : a < -9223372036854775808 - b
    · rw [holdI_lo (by omega)]
      go_enter Try.func16, Try.ntmps16
      go_wp2
      go_ret
      exact ⟨rfl, rfl⟩
    · rw [holdI_in (by omega) (by omega)]
      go_enter Try.func16, Try.ntmps16
      go_wp2
      go_ret
      exact ⟨rfl, rfl⟩
  · obtain rfl : b = 0 := by omega
    rw [holdI_in (by omega) (by omega)]
    go_enter Try.func16, Try.ntmps16
    go_wp2
    go_ret
    exact ⟨by first | rfl | simp, rfl⟩
/-- Within two numbers. -/
def clampF (x low high : Int) : Int := if x < low ∨ high < low then low else if high < x then high else x
theorem fixclamp_any (x l h : Int) (w : World) :
    Calls Try.prog 15 #[.int .i64 x, .int .i64 l, .int .i64 h] w fun e w' => e = .returned (.int .i64 (clampF x l h)) ∧ w = w' := by
  unfold clampF
  by_cases c1 : x < l
  · rw [if_pos (Or.inl c1)]
    go_enter Try.func15, Try.ntmps15
    go_wp2
    go_ret
    exact ⟨rfl, rfl⟩
  by_cases c2 : h < l
  · rw [if_pos (Or.inr c2)]
    go_enter Try.func15, Try.ntmps15
    go_wp2
    go_ret
    exact ⟨rfl, rfl⟩
  rw [if_neg (by omega)]
  by_cases c3 : h < x
  · rw [if_pos c3]
    go_enter Try.func15, Try.ntmps15
    go_wp2
    go_ret
    exact ⟨rfl, rfl⟩
  · rw [if_neg c3]
    go_enter Try.func15, Try.ntmps15
    go_wp2
    go_ret
    exact ⟨rfl, rfl⟩
end Go.Proofs.Ythhdclgpllnenaa
