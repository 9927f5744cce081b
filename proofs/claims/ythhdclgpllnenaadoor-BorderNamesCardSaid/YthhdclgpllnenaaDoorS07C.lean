/- What stands beyond the edge: so many, one behind the other; and the laws. -/
import Derived.Test.YthhdclgpllnenaaDoorS07B
import Derived.Test.YthhdclgpllnenaaDoorLA
import Derived.Deep.RegionLaw
import Derived.Laws.CopyOwn
import Derived.OpenShut
namespace Go.Proofs.YthhdclgpllnenaaDoor
open Go.RowKit

/-! ### The laws -/
theorem elives (w : World) : Calls Tryd.prog 4 #[] w fun e w' => e = .returned (.bool true) ∧ w = w' := by
  have C := fun p j n h0 h1 w => at_any p j n h0 h1 w
  have e1 : atF 1 (-1) 3 = 0 := by decide
  have e2 : atF 1 (-4) 3 = 2 := by decide
  have e3 : atF 1 3 3 = 2 := by decide
  have e4 : atF 2 (-1) 3 = 2 := by decide
  have e5 : atF 0 9 3 = 2 := by decide
  have C1 := at_any 1 (-1) 3 (by omega) (by omega)
  have C2 := at_any 1 (-4) 3 (by omega) (by omega)
  have C3 := at_any 1 3 3 (by omega) (by omega)
  have C4 := at_any 2 (-1) 3 (by omega) (by omega)
  have C5 := at_any 0 9 3 (by omega) (by omega)
  rw [e1] at C1
  rw [e2] at C2
  rw [e3] at C3
  rw [e4] at C4
  rw [e5] at C5
  clear e1 e2 e3 e4 e5 C
  go_enter Tryd.func4, Tryd.ntmps4
  go_wp2_with (first
    | (go_at_call 7; (with_reducible refine (C1 _).mono ?_); rintro e w2 ⟨rfl, rfl⟩)
    | (go_at_call 7; (with_reducible refine (C2 _).mono ?_); rintro e w2 ⟨rfl, rfl⟩)
    | (go_at_call 7; (with_reducible refine (C3 _).mono ?_); rintro e w2 ⟨rfl, rfl⟩)
    | (go_at_call 7; (with_reducible refine (C4 _).mono ?_); rintro e w2 ⟨rfl, rfl⟩)
    | (go_at_call 7; (with_reducible refine (C5 _).mono ?_); rintro e w2 ⟨rfl, rfl⟩))
  go_ret
  exact ⟨rfl, rfl⟩
end Go.Proofs.YthhdclgpllnenaaDoor
