/- What the small calls of the document's answers (layer 1) do to the world: numbers of 128 bits. -/
import Derived.Test.YtfecalpfjafecaaM
import Derived.Test.YtfecalpfjafecaaProg
import Derived.WalkKit
import Derived.WalkSpells
import Derived.WalkLawsBesides
namespace Go.Proofs.Ytfecalpfjafecaa
open Go.RowKit


theorem hide {p : Prop} (h : p) : Hid p := h
theorem below1 (w : World) (o : Obj) : Below w.heap.size w (w.alloc o) := (Below.refl _ _).alloc (Nat.le_refl _) _
end Go.Proofs.Ytfecalpfjafecaa
