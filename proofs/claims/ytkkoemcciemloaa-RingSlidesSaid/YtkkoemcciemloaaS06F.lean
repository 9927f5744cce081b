/- Weights that come to one: what the calls answer, whatever comes in. -/
import Derived.Test.YtkkoemcciemloaaM
import Derived.Test.YtkkoemcciemloaaLA
import Derived.Test.YtkkoemcciemloaaSM
import Derived.Test.YtkkoemcciemloaaB
import Derived.Test.YtkkoemcciemloaaD
import Derived.Test.YtkkoemcciemloaaLB
import Derived.IntWalk
import Derived.Deep.QuietTactic
import Derived.BigQuiet
import Derived.Shelf.Bits.Mul64
import Derived.Deep.DeepCutAuto
import Derived.Laws.Bits64b
import Derived.Laws.Externs
import Derived.Shelf.Spec.BitsCarry
import Derived.Deep.RegionHeld3
import Derived.Lib.BitFns
import Derived.Shelf.Small.Bits
import Derived.Deep.CutBlock
import Derived.Deep.LoopGhost
namespace Go.Proofs.Ytkkoemcciemloaa
open Go.RowKit


/-- A slice that reads so. -/
def Ret (k : IntKind) (xs : List Int) (w : World) (v : Value) : Prop := ∃ ad cap, v = .slice ad xs.length cap ∧ RowAt k w ad xs
theorem OwnI.ret {k : IntKind} {T : TypeId} {w : World} {base : Nat} {v : Value} {xs : List Int} (h : OwnI k T w base v xs) : Ret k xs w v := by
  obtain ⟨ad, cap, h1, h2, _⟩ := h.form
  exact ⟨ad, cap, h1, h2⟩
theorem Ret.below {k : IntKind} {xs : List Int} {w w' : World} {v : Value} (h : Ret k xs w v) (hb : Below w.heap.size w w') : Ret k xs w' v := by
  obtain ⟨ad, cap, h1, h2⟩ := h
  exact ⟨ad, cap, h1, h2.below hb⟩
theorem Ret.formn {k : IntKind} {w : World} {n : Nat} {v : Value} {xs : List Int} (h : Ret k xs w v) (hn : xs.length = n) : ∃ ad cap, v = .slice ad n cap ∧ RowAt k w ad xs := by subst hn; exact h
end Go.Proofs.Ytkkoemcciemloaa
