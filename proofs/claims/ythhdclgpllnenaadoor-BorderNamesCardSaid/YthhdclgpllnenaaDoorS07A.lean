/- What stands beyond the edge: plain arithmetic. No number of the program stands in it. -/
import Derived.Test.YthhdclgpllnenaaDoorN
namespace Go.Proofs.YthhdclgpllnenaaDoor


/-- What stands for j, of n, by a policy. -/
def EdgeP (p n : Int) : Prop := 0 ≤ p ∧ p ≤ 2 ∧ 1 ≤ n ∧ n ≤ 65536
def edgeB (p n : Int) : Bool := decide (0 ≤ p) && decide (p ≤ 2) && decide (1 ≤ n) && decide (n ≤ 65536)
theorem edgeB_iff (p n : Int) : edgeB p n = true ↔ EdgeP p n := by unfold edgeB EdgeP; simp; omega
def clampE (j n : Int) : Int := if j < 0 then 0 else if n ≤ j then n - 1 else j
def mirrorE (j n : Int) : Int := if j % (2 * n) < n then j % (2 * n) else 2 * n - 1 - j % (2 * n)
def atF (p j n : Int) : Int := if edgeB p n = true then (if p = 0 then clampE j n else if p = 1 then mirrorE j n else j % n) else 0
theorem atF_no {p j n : Int} (h : ¬ EdgeP p n) : atF p j n = 0 := if_neg fun g => h ((edgeB_iff p n).1 g)
theorem edge_mk {p n : Int} (h0 : 0 ≤ p) (h1 : p ≤ 2) (n0 : 1 ≤ n) (n1 : n ≤ 65536) : edgeB p n = true := (edgeB_iff p n).2 ⟨h0, h1, n0, n1⟩
theorem atF_clamp {j n : Int} (n0 : 1 ≤ n) (n1 : n ≤ 65536) : atF 0 j n = clampE j n := by unfold atF; rw [if_pos (edge_mk (by omega) (by omega) n0 n1), if_pos rfl]
theorem atF_mirror {j n : Int} (n0 : 1 ≤ n) (n1 : n ≤ 65536) : atF 1 j n = mirrorE j n := by unfold atF; rw [if_pos (edge_mk (by omega) (by omega) n0 n1), if_neg (by omega), if_pos rfl]
theorem atF_wrap {j n : Int} (n0 : 1 ≤ n) (n1 : n ≤ 65536) : atF 2 j n = j % n := by unfold atF; rw [if_pos (edge_mk (by omega) (by omega) n0 n1), if_neg (by omega), if_neg (by omega)]
end Go.Proofs.YthhdclgpllnenaaDoor
