/- The series in integers and package math's sine: how near they are. -/
import Derived.Test.YtjmdknbbgmajoaaDoorS04F
namespace Go.Proofs.YtjmdknbbgmajoaaDoor
open Go.RowKit Ieee


theorem near_rat {X d : Int} {t : Rat} (hd : 0 < d) (ht : t * (d : Rat) = (X : Rat)) : InR ((nearQ X d : Rat) - t) (1 / 2) := by
  obtain ⟨n0, n1⟩ := near_err (X := X) hd
  have a : ((-d : Int) : Rat) ≤ ((2 * (d * nearQ X d) - 2 * X : Int) : Rat) := Rat.intCast_le_intCast.2 n0
  have b : ((2 * (d * nearQ X d) - 2 * X : Int) : Rat) ≤ ((d : Int) : Rat) := Rat.intCast_le_intCast.2 n1
  simp only [Rat.intCast_sub, Rat.intCast_mul, Rat.intCast_neg] at a b
  rw [show ((2 : Int) : Rat) = 2 from rfl, ← ht] at a b
  have hp : (0 : Rat) < (d : Rat) := Rat.intCast_pos.2 hd
  refine cut_by (A := (d : Rat)) ?_ hp
  generalize (nearQ X d : Rat) = n at *
  generalize (d : Rat) = D at *
  unfold InR; constructor <;> grind
end Go.Proofs.YtjmdknbbgmajoaaDoor
