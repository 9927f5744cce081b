/- What package math's sine, and the laws' own sinc, answer, nearly. -/
import Derived.Test.YtjmdknbbgmajoaaDoorS04E
namespace Go.Proofs.YtjmdknbbgmajoaaDoor
open Go.RowKit Ieee

theorem inR_neg {x B : Rat} (h : InR x B) : InR (-x) B := by unfold InR at *; constructor <;> grind
theorem cut_by {d A B : Rat} (h : InR (d * A) (B * A)) (hA : 0 < A) : InR d B := by
  unfold InR at *
  constructor
  · by_cases g : -B ≤ d
    · exact g
    · have := Rat.mul_pos (show 0 < -B - d by grind) hA
      grind
  · by_cases g : d ≤ B
    · exact g
    · have := Rat.mul_pos (show 0 < d - B by grind) hA
      grind
end Go.Proofs.YtjmdknbbgmajoaaDoor
