/- Images in memory: the record g, the samples h. No number of the program stands in it. -/
import Derived.Test.YtmkkhgnhpcgaaaaDoorS09A
import Derived.Test.YtmkkhgnhpcgaaaaDoorLG
namespace Go.Proofs.YtmkkhgnhpcgaaaaDoor
open Go.RowKit

theorem allU {xs : List Int} (h : AllK .u16 xs) : ∀ x ∈ xs, 0 ≤ x ∧ x ≤ 65535 := fun x hx => by simpa [Lit.wf, IntKind.min, IntKind.max, IntKind.signed, IntKind.bits] using h x hx
end Go.Proofs.YtmkkhgnhpcgaaaaDoor
