/- A ring within a statement; rows one behind the other. The statements on what is below, what is reset, and the example. -/
import Derived.Test.YtfecalpfjafecaaS16N
import Derived.Test.YtfecalpfjafecaaLA
namespace Go.Proofs.Ytfecalpfjafecaa
open Go.RowKit
open Go.Maps (Keyed)
open Go.MapKept Go.ChangeMaps

theorem row_lit (k : IntKind) (w : World) (T : TypeId) (xs : List Int) : RowAt k (w.alloc (.cells (xs.map (Value.int k)).toArray T)) (some ⟨w.heap.size, 0, none⟩) xs := by
  refine Or.inr ⟨w.heap.size, 0, rfl, fun j hj => ?_⟩
  rw [Nat.zero_add]
  simp [List.getD_eq_getElem?_getD, List.getElem?_eq_getElem hj]
end Go.Proofs.Ytfecalpfjafecaa
