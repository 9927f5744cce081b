/- Lines of a table: plain lists. No number of the program stands in it. -/
import Derived.Test.YtkkoemcciemloaaM
import Derived.Test.YtkkoemcciemloaaLA
import Derived.Test.YtkkoemcciemloaaSM
import Derived.Test.YtkkoemcciemloaaB
import Derived.Test.YtkkoemcciemloaaD
import Derived.IntWalk
import Derived.Deep.QuietTactic
import Derived.BigQuiet
import Derived.Shelf.Bits.Mul64
import Derived.Deep.DeepCutAuto
import Derived.Laws.Bits64b
import Derived.Laws.Externs
import Derived.Shelf.Spec.BitsCarry
import Derived.Deep.RegionHeld3
import Derived.Lib.BitFns
import Derived.Shelf.Small.Bits
import Derived.Deep.CutBlock
namespace Go.Proofs.Ytkkoemcciemloaa


/-- An output sample's line: its first source sample, and its taps. -/
def lnAt (L : List (Int × List Int)) (j : Nat) : Int × List Int := L.getD j (0, [])
theorem lnAt_get {L : List (Int × List Int)} {j : Nat} (h : j < L.length) : lnAt L j = L[j] := by
  unfold lnAt; rw [List.getD_eq_getElem?_getD, List.getElem?_eq_getElem h]; rfl
theorem lnAt_mem {L : List (Int × List Int)} {j : Nat} (h : j < L.length) : lnAt L j ∈ L := by rw [lnAt_get h]; exact List.getElem_mem h
theorem lnAt_old {L : List (Int × List Int)} (x : Int × List Int) {j : Nat} (h : j < L.length) : lnAt (L ++ [x]) j = lnAt L j := by
  unfold lnAt; rw [List.getD_eq_getElem?_getD, List.getD_eq_getElem?_getD, List.getElem?_append_left h]
theorem lnAt_new (L : List (Int × List Int)) (x : Int × List Int) : lnAt (L ++ [x]) L.length = x := by
  unfold lnAt; rw [List.getD_eq_getElem?_getD, List.getElem?_append_right (Nat.le_refl _), Nat.sub_self]; rfl
end Go.Proofs.Ytkkoemcciemloaa
