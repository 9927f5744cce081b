/- Plain arithmetic for this seat: quotients of numbers with signs, cut, downwards and to the nearest. No program text in sight. -/
import Derived.Test.YthakcpjlnopcfaaDoorM
namespace Go.Proofs.YthakcpjlnopcfaaDoor

def divF (a b : Int) : Int := if b = 0 then 0 else holdI (nearQ a b)
theorem divF_of {a b : Int} (h : b ≠ 0) : divF a b = holdI (nearQ a b) := if_neg h
theorem tmod_pp {x d : Int} (h0 : 0 ≤ x) : x.tmod d = x % d := Int.tmod_eq_emod_of_nonneg h0
theorem quo_le {x d : Int} (h0 : 0 ≤ x) (hd : 0 < d) : 0 ≤ x / d ∧ x / d ≤ x := ⟨Int.ediv_nonneg h0 (by omega), Int.ediv_le_self _ h0⟩
theorem rest_in {x d : Int} (hd : 0 < d) : 0 ≤ x % d ∧ x % d < d := ⟨Int.emod_nonneg x (Int.ne_of_gt hd), Int.emod_lt_of_pos x hd⟩
end Go.Proofs.YthakcpjlnopcfaaDoor
