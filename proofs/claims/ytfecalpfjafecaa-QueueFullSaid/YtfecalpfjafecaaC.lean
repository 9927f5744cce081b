/- Long products and quotients of the document's answers (layer 1): their loops. -/
import Derived.Test.YtfecalpfjafecaaB
import Derived.Deep.RegionHeld3
import Derived.Deep.DeepCutAuto
namespace Go.Proofs.Ytfecalpfjafecaa
open Go.RowKit

theorem cb {W w1 : World} {b o : Nat} {v : Value} (hb : Below W.heap.size W w1) (h : b < W.heap.size) (hc : W.cell? ⟨b, o, none⟩ = some v) : w1.cell? ⟨b, o, none⟩ = some v := (hb.cell (p := ⟨b, o, none⟩) h).trans hc
theorem fb {W w1 : World} {b o : Nat} (hb : Below W.heap.size W w1) (h : b < W.heap.size) (hc : W.frozen? ⟨b, o, none⟩ = false) : w1.frozen? ⟨b, o, none⟩ = false := (hb.frozen (p := ⟨b, o, none⟩) h).trans hc
end Go.Proofs.Ytfecalpfjafecaa
