/- The rounded quotients of the document's answers (layer 1). -/
import Derived.Test.YthhdclgpllnenaaDoorC
namespace Go.Proofs.YthhdclgpllnenaaDoor
open Go.RowKit

theorem ba {a w : World} (h : Below a.heap.size a w) (o : Obj) : Below a.heap.size a (w.alloc o) := h.alloc h.size o
end Go.Proofs.YthhdclgpllnenaaDoor
