/- What the small calls of the document's answers (layer 1) do to the world: numbers of 128 bits. -/
import Derived.Test.YtoppojilndnghaaDoorM
import Derived.Test.YtoppojilndnghaaDoorProg
import Derived.WalkKit
import Derived.WalkSpells
import Derived.WalkLawsBesides
namespace Go.Proofs.YtoppojilndnghaaDoor
open Go.RowKit


theorem hide {p : Prop} (h : p) : Hid p := h
theorem below1 (w : World) (o : Obj) : Below w.heap.size w (w.alloc o) := (Below.refl _ _).alloc (Nat.le_refl _) _
theorem ret_i64 {a b : Int} (h : a = b) : Ending.returned (.int .i64 a) = .returned (.int .i64 b) := by rw [h]
theorem ret_bool {a b : Bool} (h : a = b) : Ending.returned (.bool a) = .returned (.bool b) := by rw [h]
end Go.Proofs.YtoppojilndnghaaDoor
