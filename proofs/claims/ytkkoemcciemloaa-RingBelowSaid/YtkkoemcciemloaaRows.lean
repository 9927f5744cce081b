/-
  No cell of these rows narrows 'for every input' (looked for: loops, veiled, ifaces, maps, wideKeys, modest, calm, conditions, laid).
  DERIVED. THE GIVEN ROWS OF THIS SEAT. 5 by the template 'for every input the law returns true; each argument reads behind the call as it read before'; 0 by the template 'total and deterministic' (their statements: YtkkoemcciemloaaTotals.lean).
  GIVEN WITH THE SEED: the statements are not yours to turn. If you find one false, say at which input.
  Laid BY PROGRAM, IN A SANDBOX (cutbox-rows.mjs): the forced cells as the released guide's own fill.sh prints them over the translation 6d21ac992040b7d6… (all of the seat's roots in one cut). By AI agents, Wed Nov 11 2026. No macro, syntax, notation, axiom, sorry.
-/
import Derived.Test.YtkkoemcciemloaaChecked
import GoSem.Claim
import GoSem.ClaimJoined
import GoSem.ClaimMapViews
import Derived.JoinedTies
import Derived.KernelRfl
namespace Go.Proofs.Ytkkoemcciemloaa
/- THE CELL 'sum', in the pinned program and in every row, IS THE sha256 OF THE DUMP (.gsa) THAT YtkkoemcciemloaaProg.lean LOADS. Nothing in Lean hashes anything: it is a label: what it is worth is what the hold of that sum in a sandbox is worth. -/
noncomputable def Try.pinned : Pinned := { name := "ytkkoemcciemloaa", sum := "6d21ac992040b7d6c7ffb5883ec15bfa6e6671dfc466fb191e3e7e9c004c2575", checked := Try.checked }
namespace Rows
def none {H : Type} : Left H := { results := [], args := [] }

/-- 'smaltolaw16.RingReset': WHATEVER THE INPUT: true; the input reads as it did. -/
def ringResetSpec : ChangeSpec := { name := "ringReset", fn := fun _ => fun
  | [d1, d2, d3] => { results := [.lit (.bool true)], args := [d1, d2, d3] }
  | _ => none }
def ringResetRow : OpenClaim := { program := "ytkkoemcciemloaa", sum := "6d21ac992040b7d6c7ffb5883ec15bfa6e6671dfc466fb191e3e7e9c004c2575", func := "smalto/smaltolaw16.RingReset", spec := "ringReset", unfollowed := true, recurses := true, apart := false }
def RingResetSaid : Prop := ringResetRow.holds Try.pinned (OpenSpec.ofChange ringResetSpec)

/-- ITS FALSE NEIGHBOUR: 'it returns false'. Refute it at one input. -/
def ringResetWrong : ChangeSpec := { name := "ringReset", fn := fun _ => fun
  | [d1, d2, d3] => { results := [.lit (.bool false)], args := [d1, d2, d3] }
  | _ => none }
def RingResetWrongFalsely : Prop := ringResetRow.holds Try.pinned (OpenSpec.ofChange ringResetWrong)

/-- 'smaltolaw16.RingPlays': WHATEVER THE INPUT: true; the input reads as it did. -/
def ringPlaysSpec : ChangeSpec := { name := "ringPlays", fn := fun _ => fun
  | [d1, d2, d3] => { results := [.lit (.bool true)], args := [d1, d2, d3] }
  | _ => none }
def ringPlaysRow : OpenClaim := { program := "ytkkoemcciemloaa", sum := "6d21ac992040b7d6c7ffb5883ec15bfa6e6671dfc466fb191e3e7e9c004c2575", func := "smalto/smaltolaw16.RingPlays", spec := "ringPlays", unfollowed := true, recurses := true, apart := false }
def RingPlaysSaid : Prop := ringPlaysRow.holds Try.pinned (OpenSpec.ofChange ringPlaysSpec)

/-- ITS FALSE NEIGHBOUR: 'it returns false'. Refute it at one input. -/
def ringPlaysWrong : ChangeSpec := { name := "ringPlays", fn := fun _ => fun
  | [d1, d2, d3] => { results := [.lit (.bool false)], args := [d1, d2, d3] }
  | _ => none }
def RingPlaysWrongFalsely : Prop := ringPlaysRow.holds Try.pinned (OpenSpec.ofChange ringPlaysWrong)

/-- 'smaltolaw16.RingSlides': WHATEVER THE INPUT: true; the input reads as it did. -/
def ringSlidesSpec : ChangeSpec := { name := "ringSlides", fn := fun _ => fun
  | [d1, d2, d3] => { results := [.lit (.bool true)], args := [d1, d2, d3] }
  | _ => none }
def ringSlidesRow : OpenClaim := { program := "ytkkoemcciemloaa", sum := "6d21ac992040b7d6c7ffb5883ec15bfa6e6671dfc466fb191e3e7e9c004c2575", func := "smalto/smaltolaw16.RingSlides", spec := "ringSlides", unfollowed := true, recurses := true, apart := false }
def RingSlidesSaid : Prop := ringSlidesRow.holds Try.pinned (OpenSpec.ofChange ringSlidesSpec)

/-- ITS FALSE NEIGHBOUR: 'it returns false'. Refute it at one input. -/
def ringSlidesWrong : ChangeSpec := { name := "ringSlides", fn := fun _ => fun
  | [d1, d2, d3] => { results := [.lit (.bool false)], args := [d1, d2, d3] }
  | _ => none }
def RingSlidesWrongFalsely : Prop := ringSlidesRow.holds Try.pinned (OpenSpec.ofChange ringSlidesWrong)

/-- 'smaltolaw16.RingSizes': WHATEVER THE INPUT: true; the input reads as it did. -/
def ringSizesSpec : ChangeSpec := { name := "ringSizes", fn := fun _ => fun
  | [d1, d2] => { results := [.lit (.bool true)], args := [d1, d2] }
  | _ => none }
def ringSizesRow : OpenClaim := { program := "ytkkoemcciemloaa", sum := "6d21ac992040b7d6c7ffb5883ec15bfa6e6671dfc466fb191e3e7e9c004c2575", func := "smalto/smaltolaw16.RingSizes", spec := "ringSizes", unfollowed := true, recurses := true, apart := false }
def RingSizesSaid : Prop := ringSizesRow.holds Try.pinned (OpenSpec.ofChange ringSizesSpec)

/-- ITS FALSE NEIGHBOUR: 'it returns false'. Refute it at one input. -/
def ringSizesWrong : ChangeSpec := { name := "ringSizes", fn := fun _ => fun
  | [d1, d2] => { results := [.lit (.bool false)], args := [d1, d2] }
  | _ => none }
def RingSizesWrongFalsely : Prop := ringSizesRow.holds Try.pinned (OpenSpec.ofChange ringSizesWrong)

/-- 'smaltolaw16.RingBelow': WHATEVER THE INPUT: true; the input reads as it did. -/
def ringBelowSpec : ChangeSpec := { name := "ringBelow", fn := fun _ => fun
  | [d1, d2] => { results := [.lit (.bool true)], args := [d1, d2] }
  | _ => none }
def ringBelowRow : OpenClaim := { program := "ytkkoemcciemloaa", sum := "6d21ac992040b7d6c7ffb5883ec15bfa6e6671dfc466fb191e3e7e9c004c2575", func := "smalto/smaltolaw16.RingBelow", spec := "ringBelow", unfollowed := true, recurses := true, apart := false }
def RingBelowSaid : Prop := ringBelowRow.holds Try.pinned (OpenSpec.ofChange ringBelowSpec)

/-- ITS FALSE NEIGHBOUR: 'it returns false'. Refute it at one input. -/
def ringBelowWrong : ChangeSpec := { name := "ringBelow", fn := fun _ => fun
  | [d1, d2] => { results := [.lit (.bool false)], args := [d1, d2] }
  | _ => none }
def RingBelowWrongFalsely : Prop := ringBelowRow.holds Try.pinned (OpenSpec.ofChange ringBelowWrong)

/- THE SECOND FORM. 'bulk': how many values and letters a reading holds, each counted each time it is reached (what is shared counts as often as it is met; a slice's spare places count too). A statement '..UptoSaid' is the law's where the arguments, and the package variables that the reading takes, are together of bulk at most 1048576: NARROWER than '..Said'. Prove '..Said' where nothing that the law and all that it calls make is longer than what came in: it says more and counts as full. Else prove '..UptoSaid'. A law counts once. -/
mutual
def uptoBulk {H : Type} : DataW H → Nat
  | .lit (.string bytes) => bytes.length + 1
  | .lit _ => 1
  | .nil => 1
  | .ptr d => uptoBulk d + 1
  | .slice elems spare => uptoBulkAll elems + uptoBulkAll spare + 1
  | .agg parts => uptoBulkAll parts + 1
  | .iface _ d => uptoBulk d + 1
  | .map entries => uptoBulkEntries entries + 1
  | .held _ => 1
def uptoBulkAll {H : Type} : List (DataW H) → Nat
  | [] => 0
  | d :: r => uptoBulk d + uptoBulkAll r
def uptoBulkEntries {H : Type} : List (Lit × DataW H) → Nat
  | [] => 0
  | x :: r => uptoBulkEntry x + uptoBulkEntries r
def uptoBulkEntry {H : Type} : Lit × DataW H → Nat
  | (.string bytes, d) => bytes.length + uptoBulk d + 1
  | (_, d) => uptoBulk d + 1
 end
def uptoSmall : (H : Type) → List (DataW H) → Bool := fun _ ds => decide (uptoBulkAll ds ≤ 1048576)
def OpenSpec.upto (s : _root_.Go.ChangeSpec) : _root_.Go.OpenSpec := { _root_.Go.OpenSpec.ofChange s with cond := some uptoSmall }

/-- 'smaltolaw16.RingReset', WHERE WHAT IT READS IS OF BULK AT MOST 1048576: true; the input reads as it did. -/
def ringResetUptoRow : OpenClaim := { program := "ytkkoemcciemloaa", sum := "6d21ac992040b7d6c7ffb5883ec15bfa6e6671dfc466fb191e3e7e9c004c2575", func := "smalto/smaltolaw16.RingReset", spec := "ringReset", unfollowed := true, recurses := true, apart := false, narrowed := true }
def RingResetUptoSaid : Prop := ringResetUptoRow.holds Try.pinned (OpenSpec.upto ringResetSpec)

/-- 'smaltolaw16.RingPlays', WHERE WHAT IT READS IS OF BULK AT MOST 1048576: true; the input reads as it did. -/
def ringPlaysUptoRow : OpenClaim := { program := "ytkkoemcciemloaa", sum := "6d21ac992040b7d6c7ffb5883ec15bfa6e6671dfc466fb191e3e7e9c004c2575", func := "smalto/smaltolaw16.RingPlays", spec := "ringPlays", unfollowed := true, recurses := true, apart := false, narrowed := true }
def RingPlaysUptoSaid : Prop := ringPlaysUptoRow.holds Try.pinned (OpenSpec.upto ringPlaysSpec)

/-- 'smaltolaw16.RingSlides', WHERE WHAT IT READS IS OF BULK AT MOST 1048576: true; the input reads as it did. -/
def ringSlidesUptoRow : OpenClaim := { program := "ytkkoemcciemloaa", sum := "6d21ac992040b7d6c7ffb5883ec15bfa6e6671dfc466fb191e3e7e9c004c2575", func := "smalto/smaltolaw16.RingSlides", spec := "ringSlides", unfollowed := true, recurses := true, apart := false, narrowed := true }
def RingSlidesUptoSaid : Prop := ringSlidesUptoRow.holds Try.pinned (OpenSpec.upto ringSlidesSpec)

/-- 'smaltolaw16.RingSizes', WHERE WHAT IT READS IS OF BULK AT MOST 1048576: true; the input reads as it did. -/
def ringSizesUptoRow : OpenClaim := { program := "ytkkoemcciemloaa", sum := "6d21ac992040b7d6c7ffb5883ec15bfa6e6671dfc466fb191e3e7e9c004c2575", func := "smalto/smaltolaw16.RingSizes", spec := "ringSizes", unfollowed := true, recurses := true, apart := false, narrowed := true }
def RingSizesUptoSaid : Prop := ringSizesUptoRow.holds Try.pinned (OpenSpec.upto ringSizesSpec)

/-- 'smaltolaw16.RingBelow', WHERE WHAT IT READS IS OF BULK AT MOST 1048576: true; the input reads as it did. -/
def ringBelowUptoRow : OpenClaim := { program := "ytkkoemcciemloaa", sum := "6d21ac992040b7d6c7ffb5883ec15bfa6e6671dfc466fb191e3e7e9c004c2575", func := "smalto/smaltolaw16.RingBelow", spec := "ringBelow", unfollowed := true, recurses := true, apart := false, narrowed := true }
def RingBelowUptoSaid : Prop := ringBelowUptoRow.holds Try.pinned (OpenSpec.upto ringBelowSpec)

end Rows
end Go.Proofs.Ytkkoemcciemloaa
