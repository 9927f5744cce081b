/- Long products and quotients of the document's answers (layer 1): their loops. -/
import Derived.Test.YthhdclgpllnenaaB
import Derived.Deep.RegionHeld3
import Derived.Deep.DeepCutAuto
namespace Go.Proofs.Ythhdclgpllnenaa
open Go.RowKit

theorem cb {W w1 : World} {b o : Nat} {v : Value} (hb : Below W.heap.size W w1) (h : b < W.heap.size) (hc : W.cell? ⟨b, o, none⟩ = some v) : w1.cell? ⟨b, o, none⟩ = some v := (hb.cell (p := ⟨b, o, none⟩) h).trans hc
end Go.Proofs.Ythhdclgpllnenaa
