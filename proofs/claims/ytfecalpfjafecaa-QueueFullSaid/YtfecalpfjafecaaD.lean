/- The rounded quotients of the document's answers (layer 1). -/
import Derived.Test.YtfecalpfjafecaaC
namespace Go.Proofs.Ytfecalpfjafecaa
open Go.RowKit


theorem bt {a w w1 : World} (h : Below a.heap.size a w) (b : Below w.heap.size w w1) : Below a.heap.size a w1 := h.trans (b.mono h.size)
theorem ba {a w : World} (h : Below a.heap.size a w) (o : Obj) : Below a.heap.size a (w.alloc o) := h.alloc h.size o
theorem bs {a w : World} {b o : Nat} (h : Below a.heap.size a w) (hp : a.heap.size ≤ b) (u : Value) : Below a.heap.size a (w.setCell ⟨b, o, none⟩ u) := h.setCell (p := ⟨b, o, none⟩) hp u
theorem bd {a w : World} (h : Below a.heap.size a w) : Below a.heap.size a w.drew := h.drew
theorem ca {w : World} {b o : Nat} {v : Value} {ob : Obj} (h : b < w.heap.size) (hc : w.cell? ⟨b, o, none⟩ = some v) : (w.alloc ob).cell? ⟨b, o, none⟩ = some v := (World.cell?_alloc_past ob b o h).trans hc
theorem fa {w : World} {b o : Nat} {ob : Obj} (h : b < w.heap.size) (hc : w.frozen? ⟨b, o, none⟩ = false) : (w.alloc ob).frozen? ⟨b, o, none⟩ = false := (World.frozen?_alloc_past ob b o h).trans hc
end Go.Proofs.Ytfecalpfjafecaa
