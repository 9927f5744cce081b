/- A row is put. -/
import Derived.Test.YtfecalpfjafecaaM
import Derived.Test.YtfecalpfjafecaaS16B
import Derived.Test.YtfecalpfjafecaaLA
import Derived.Deep.RegionLaw
import Derived.Laws.CopyOwn
import Derived.OpenShut
import Derived.Shelf.Abstract
import Derived.Deep.LoopGhost
import Derived.BigQuiet
namespace Go.Proofs.Ytfecalpfjafecaa
open Go.RowKit
open Go.Maps (Keyed)
open Go.MapKept Go.ChangeMaps


theorem calmE {P : Program} {f : FuncId} {args : Array Value} {u : Value} {w : World} {n : Nat} (h : Calls P f args (w.drewN n) fun e w' => e = .returned u ∧ w.drewN n = w') :
    Calls P f args (w.drewN n) fun e w'' => e = .returned u ∧ ∃ m, w'' = w.drewN m := h.mono fun _ _ q => ⟨q.1, n, q.2.symm⟩
theorem OwnI.fresh {k : IntKind} {T : TypeId} {w : World} {base : Nat} {v : Value} {xs : List Int} (h : OwnI k T w base v xs) : ∀ g, v.ownBlock = some g → base ≤ g := own_fresh h
end Go.Proofs.Ytfecalpfjafecaa
