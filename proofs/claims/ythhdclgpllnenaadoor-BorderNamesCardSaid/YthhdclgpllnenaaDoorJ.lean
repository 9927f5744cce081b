/- Sums and bounds, held: the program's; and the law on them. -/
import Derived.Test.YthhdclgpllnenaaDoorF
namespace Go.Proofs.YthhdclgpllnenaaDoor
open Go.RowKit

/-- Within two numbers. -/
def clampF (x low high : Int) : Int := if x < low ∨ high < low then low else if high < x then high else x
theorem fixclamp_any (x l h : Int) (w : World) :
    Calls Tryd.prog 11 #[.int .i64 x, .int .i64 l, .int .i64 h] w fun e w' => e = .returned (.int .i64 (clampF x l h)) ∧ w = w' := by
  unfold clampF
  by_cases c1 : x < l
  · rw [if_pos (Or.inl c1)]
    go_enter Tryd.func11, Tryd.ntmps11
    go_wp2
    go_ret
    exact ⟨rfl, rfl⟩
  by_cases c2 : h < l
  · rw [if_pos (Or.inr c2)]
    go_enter Tryd.func11, Tryd.ntmps11
    go_wp2
    go_ret
    exact ⟨rfl, rfl⟩
  rw [if_neg (by omega)]
  by_cases c3 : h < x
  · rw [if_pos c3]
    go_enter Tryd.func11, Tryd.ntmps11
    go_wp2
    go_ret
    exact ⟨rfl, rfl⟩
  · rw [if_neg c3]
    go_enter Tryd.func11, Tryd.ntmps11
    go_wp2
    go_ret
    exact ⟨rfl, rfl⟩
end Go.Proofs.YthhdclgpllnenaaDoor
