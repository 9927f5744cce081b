/-
  NARROWER THAN 'FOR EVERY INPUT', by the rows' own cells (each row's printed sentence says how): DirectNever: laid · DirectApplies: laid · DirectRounds: laid · DirectComposes: laid · DirectFlat: laid · DirectSuits: laid.
  DERIVED. THE GIVEN ROWS OF THIS SEAT. 6 by the template 'for every input the law returns true; each argument reads behind the call as it read before'; 0 by the template 'total and deterministic' (their statements: YtaafhjngnjjcmaaGreatDoorTotals.lean).
  GIVEN WITH THE SEED: the statements are not yours to turn. If you find one false, say at which input.
  Laid BY PROGRAM, IN A SANDBOX (cutbox-rows.mjs): the forced cells as the released guide's own fill.sh prints them over the translation 8f47f2ac4ad3397d… (all of the seat's roots in one cut). By AI agents, Wed Nov 11 2026. No macro, syntax, notation, axiom, sorry.
-/
import Derived.Test.YtaafhjngnjjcmaaGreatDoorChecked
import GoSem.Claim
import GoSem.ClaimJoined
import GoSem.ClaimMapViews
import Derived.JoinedTies
import Derived.KernelRfl
namespace Go.Proofs.YtaafhjngnjjcmaaGreatDoor
/- THE CELL 'sum', in the pinned program and in every row, IS THE sha256 OF THE DUMP (.gsa) THAT YtaafhjngnjjcmaaGreatDoorProg.lean LOADS. Nothing in Lean hashes anything: it is a label: what it is worth is what the hold of that sum in a sandbox is worth. -/
noncomputable def Tryz.pinned : Pinned := { name := "ytaafhjngnjjcmaagreatdoor", sum := "8f47f2ac4ad3397df43c145292a24adc05b7427da9e748c80d4a9a1fa0b0d288", checked := Tryz.checked }
namespace Rows
def none {H : Type} : Left H := { results := [], args := [] }

/- WHAT THE LISTED PACKAGE-LEVEL VARIABLES READ AS WHEN THE CALL BEGINS. Each datum BY PROGRAM (the guide's laid-datum.mjs) off the statement by which the dump's own 'gosem.cut.vars' lays the variable. In a bare row this is a premise. The card (YtaafhjngnjjcmaaGreatDoorCards.lean) ties it to the program's text. -/
def laid_smalto_border_names {H : Type} : DataW H := .agg [.lit (.string [99, 108, 97, 109, 112]), .lit (.string [109, 105, 114, 114, 111, 114]), .lit (.string [119, 114, 97, 112])]
def laid_smalto_raw_kinds {H : Type} : DataW H := .agg [.agg [.lit (.string [98, 111, 120]), .lit (.int .i64 0)], .agg [.lit (.string [99, 117, 98, 105, 99]), .lit (.int .i64 2)], .agg [.lit (.string [108, 97, 110, 99, 122, 111, 115]), .lit (.int .i64 3)]]

/-- 'smaltolaw15.DirectNever': WHATEVER THE INPUT: true; the input reads as it did. -/
def directNeverSpec : ChangeSpec := { name := "directNever", fn := fun _ => fun
  | [d1, d2] => { results := [.lit (.bool true)], args := [d1, d2] }
  | _ => none }
def directNeverRow : OpenClaim := { program := "ytaafhjngnjjcmaagreatdoor", sum := "8f47f2ac4ad3397df43c145292a24adc05b7427da9e748c80d4a9a1fa0b0d288", func := "smalto/smaltolaw15.DirectNever", spec := "directNever", inPlace := ["math/bits.Sub64", "math/bits.Add64"], unfollowed := true, recurses := true, named := ["smalto/border.names", "smalto/raw.kinds", "math/bits.divideError", "math/bits.overflowError"], apart := false, laid := [("smalto/border.names", laid_smalto_border_names), ("smalto/raw.kinds", laid_smalto_raw_kinds)] }
def DirectNeverSaid : Prop := directNeverRow.holds Tryz.pinned (OpenSpec.ofChange directNeverSpec)

/-- ITS FALSE NEIGHBOUR: 'it returns false'. Refute it at one input. -/
def directNeverWrong : ChangeSpec := { name := "directNever", fn := fun _ => fun
  | [d1, d2] => { results := [.lit (.bool false)], args := [d1, d2] }
  | _ => none }
def DirectNeverWrongFalsely : Prop := directNeverRow.holds Tryz.pinned (OpenSpec.ofChange directNeverWrong)

/-- 'smaltolaw15.DirectApplies': WHATEVER THE INPUT: true; the input reads as it did. -/
def directAppliesSpec : ChangeSpec := { name := "directApplies", fn := fun _ => fun
  | [d1, d2, d3, d4, d5] => { results := [.lit (.bool true)], args := [d1, d2, d3, d4, d5] }
  | _ => none }
def directAppliesRow : OpenClaim := { program := "ytaafhjngnjjcmaagreatdoor", sum := "8f47f2ac4ad3397df43c145292a24adc05b7427da9e748c80d4a9a1fa0b0d288", func := "smalto/smaltolaw15.DirectApplies", spec := "directApplies", inPlace := ["math/bits.Sub64", "math/bits.Add64"], unfollowed := true, recurses := true, named := ["smalto/border.names", "smalto/raw.kinds", "math/bits.divideError", "math/bits.overflowError"], apart := false, laid := [("smalto/border.names", laid_smalto_border_names), ("smalto/raw.kinds", laid_smalto_raw_kinds)] }
def DirectAppliesSaid : Prop := directAppliesRow.holds Tryz.pinned (OpenSpec.ofChange directAppliesSpec)

/-- ITS FALSE NEIGHBOUR: 'it returns false'. Refute it at one input. -/
def directAppliesWrong : ChangeSpec := { name := "directApplies", fn := fun _ => fun
  | [d1, d2, d3, d4, d5] => { results := [.lit (.bool false)], args := [d1, d2, d3, d4, d5] }
  | _ => none }
def DirectAppliesWrongFalsely : Prop := directAppliesRow.holds Tryz.pinned (OpenSpec.ofChange directAppliesWrong)

/-- 'smaltolaw15.DirectRounds': WHATEVER THE INPUT: true; the input reads as it did. -/
def directRoundsSpec : ChangeSpec := { name := "directRounds", fn := fun _ => fun
  | [d1, d2] => { results := [.lit (.bool true)], args := [d1, d2] }
  | _ => none }
def directRoundsRow : OpenClaim := { program := "ytaafhjngnjjcmaagreatdoor", sum := "8f47f2ac4ad3397df43c145292a24adc05b7427da9e748c80d4a9a1fa0b0d288", func := "smalto/smaltolaw15.DirectRounds", spec := "directRounds", inPlace := ["math/bits.Sub64", "math/bits.Add64"], unfollowed := true, recurses := true, named := ["smalto/border.names", "smalto/raw.kinds", "math/bits.divideError", "math/bits.overflowError"], apart := false, laid := [("smalto/border.names", laid_smalto_border_names), ("smalto/raw.kinds", laid_smalto_raw_kinds)] }
def DirectRoundsSaid : Prop := directRoundsRow.holds Tryz.pinned (OpenSpec.ofChange directRoundsSpec)

/-- ITS FALSE NEIGHBOUR: 'it returns false'. Refute it at one input. -/
def directRoundsWrong : ChangeSpec := { name := "directRounds", fn := fun _ => fun
  | [d1, d2] => { results := [.lit (.bool false)], args := [d1, d2] }
  | _ => none }
def DirectRoundsWrongFalsely : Prop := directRoundsRow.holds Tryz.pinned (OpenSpec.ofChange directRoundsWrong)

/-- 'smaltolaw15.DirectComposes': WHATEVER THE INPUT: true; the input reads as it did. -/
def directComposesSpec : ChangeSpec := { name := "directComposes", fn := fun _ => fun
  | [d1, d2] => { results := [.lit (.bool true)], args := [d1, d2] }
  | _ => none }
def directComposesRow : OpenClaim := { program := "ytaafhjngnjjcmaagreatdoor", sum := "8f47f2ac4ad3397df43c145292a24adc05b7427da9e748c80d4a9a1fa0b0d288", func := "smalto/smaltolaw15.DirectComposes", spec := "directComposes", inPlace := ["math/bits.Sub64", "math/bits.Add64"], unfollowed := true, recurses := true, named := ["smalto/border.names", "smalto/raw.kinds", "math/bits.divideError", "math/bits.overflowError"], apart := false, laid := [("smalto/border.names", laid_smalto_border_names), ("smalto/raw.kinds", laid_smalto_raw_kinds)] }
def DirectComposesSaid : Prop := directComposesRow.holds Tryz.pinned (OpenSpec.ofChange directComposesSpec)

/-- ITS FALSE NEIGHBOUR: 'it returns false'. Refute it at one input. -/
def directComposesWrong : ChangeSpec := { name := "directComposes", fn := fun _ => fun
  | [d1, d2] => { results := [.lit (.bool false)], args := [d1, d2] }
  | _ => none }
def DirectComposesWrongFalsely : Prop := directComposesRow.holds Tryz.pinned (OpenSpec.ofChange directComposesWrong)

/-- 'smaltolaw15.DirectFlat': WHATEVER THE INPUT: true; the input reads as it did. -/
def directFlatSpec : ChangeSpec := { name := "directFlat", fn := fun _ => fun
  | [d1, d2, d3] => { results := [.lit (.bool true)], args := [d1, d2, d3] }
  | _ => none }
def directFlatRow : OpenClaim := { program := "ytaafhjngnjjcmaagreatdoor", sum := "8f47f2ac4ad3397df43c145292a24adc05b7427da9e748c80d4a9a1fa0b0d288", func := "smalto/smaltolaw15.DirectFlat", spec := "directFlat", inPlace := ["math/bits.Sub64", "math/bits.Add64"], unfollowed := true, recurses := true, named := ["smalto/border.names", "smalto/raw.kinds", "math/bits.divideError", "math/bits.overflowError"], apart := false, laid := [("smalto/border.names", laid_smalto_border_names), ("smalto/raw.kinds", laid_smalto_raw_kinds)] }
def DirectFlatSaid : Prop := directFlatRow.holds Tryz.pinned (OpenSpec.ofChange directFlatSpec)

/-- ITS FALSE NEIGHBOUR: 'it returns false'. Refute it at one input. -/
def directFlatWrong : ChangeSpec := { name := "directFlat", fn := fun _ => fun
  | [d1, d2, d3] => { results := [.lit (.bool false)], args := [d1, d2, d3] }
  | _ => none }
def DirectFlatWrongFalsely : Prop := directFlatRow.holds Tryz.pinned (OpenSpec.ofChange directFlatWrong)

/-- 'smaltolaw15.DirectSuits': WHATEVER THE INPUT: true; the input reads as it did. -/
def directSuitsSpec : ChangeSpec := { name := "directSuits", fn := fun _ => fun
  | [d1, d2, d3, d4] => { results := [.lit (.bool true)], args := [d1, d2, d3, d4] }
  | _ => none }
def directSuitsRow : OpenClaim := { program := "ytaafhjngnjjcmaagreatdoor", sum := "8f47f2ac4ad3397df43c145292a24adc05b7427da9e748c80d4a9a1fa0b0d288", func := "smalto/smaltolaw15.DirectSuits", spec := "directSuits", inPlace := ["math/bits.Sub64", "math/bits.Add64"], unfollowed := true, recurses := true, named := ["smalto/border.names", "smalto/raw.kinds", "math/bits.divideError", "math/bits.overflowError"], apart := false, laid := [("smalto/border.names", laid_smalto_border_names), ("smalto/raw.kinds", laid_smalto_raw_kinds)] }
def DirectSuitsSaid : Prop := directSuitsRow.holds Tryz.pinned (OpenSpec.ofChange directSuitsSpec)

/-- ITS FALSE NEIGHBOUR: 'it returns false'. Refute it at one input. -/
def directSuitsWrong : ChangeSpec := { name := "directSuits", fn := fun _ => fun
  | [d1, d2, d3, d4] => { results := [.lit (.bool false)], args := [d1, d2, d3, d4] }
  | _ => none }
def DirectSuitsWrongFalsely : Prop := directSuitsRow.holds Tryz.pinned (OpenSpec.ofChange directSuitsWrong)

/- THE SECOND FORM. 'bulk': how many values and letters a reading holds, each counted each time it is reached (what is shared counts as often as it is met; a slice's spare places count too). A statement '..UptoSaid' is the law's where the arguments, and the package variables that the reading takes, are together of bulk at most 1048576: NARROWER than '..Said'. Prove '..Said' where nothing that the law and all that it calls make is longer than what came in: it says more and counts as full. Else prove '..UptoSaid'. A law counts once. -/
mutual
def uptoBulk {H : Type} : DataW H → Nat
  | .lit (.string bytes) => bytes.length + 1
  | .lit _ => 1
  | .nil => 1
  | .ptr d => uptoBulk d + 1
  | .slice elems spare => uptoBulkAll elems + uptoBulkAll spare + 1
  | .agg parts => uptoBulkAll parts + 1
  | .iface _ d => uptoBulk d + 1
  | .map entries => uptoBulkEntries entries + 1
  | .held _ => 1
def uptoBulkAll {H : Type} : List (DataW H) → Nat
  | [] => 0
  | d :: r => uptoBulk d + uptoBulkAll r
def uptoBulkEntries {H : Type} : List (Lit × DataW H) → Nat
  | [] => 0
  | x :: r => uptoBulkEntry x + uptoBulkEntries r
def uptoBulkEntry {H : Type} : Lit × DataW H → Nat
  | (.string bytes, d) => bytes.length + uptoBulk d + 1
  | (_, d) => uptoBulk d + 1
 end
def uptoSmall : (H : Type) → List (DataW H) → Bool := fun _ ds => decide (uptoBulkAll ds ≤ 1048576)
def OpenSpec.upto (s : _root_.Go.ChangeSpec) : _root_.Go.OpenSpec := { _root_.Go.OpenSpec.ofChange s with cond := some uptoSmall }

/-- 'smaltolaw15.DirectNever', WHERE WHAT IT READS IS OF BULK AT MOST 1048576: true; the input reads as it did. -/
def directNeverUptoRow : OpenClaim := { program := "ytaafhjngnjjcmaagreatdoor", sum := "8f47f2ac4ad3397df43c145292a24adc05b7427da9e748c80d4a9a1fa0b0d288", func := "smalto/smaltolaw15.DirectNever", spec := "directNever", inPlace := ["math/bits.Sub64", "math/bits.Add64"], unfollowed := true, recurses := true, named := ["smalto/border.names", "smalto/raw.kinds", "math/bits.divideError", "math/bits.overflowError"], apart := false, laid := [("smalto/border.names", laid_smalto_border_names), ("smalto/raw.kinds", laid_smalto_raw_kinds)], narrowed := true }
def DirectNeverUptoSaid : Prop := directNeverUptoRow.holds Tryz.pinned (OpenSpec.upto directNeverSpec)

/-- 'smaltolaw15.DirectApplies', WHERE WHAT IT READS IS OF BULK AT MOST 1048576: true; the input reads as it did. -/
def directAppliesUptoRow : OpenClaim := { program := "ytaafhjngnjjcmaagreatdoor", sum := "8f47f2ac4ad3397df43c145292a24adc05b7427da9e748c80d4a9a1fa0b0d288", func := "smalto/smaltolaw15.DirectApplies", spec := "directApplies", inPlace := ["math/bits.Sub64", "math/bits.Add64"], unfollowed := true, recurses := true, named := ["smalto/border.names", "smalto/raw.kinds", "math/bits.divideError", "math/bits.overflowError"], apart := false, laid := [("smalto/border.names", laid_smalto_border_names), ("smalto/raw.kinds", laid_smalto_raw_kinds)], narrowed := true }
def DirectAppliesUptoSaid : Prop := directAppliesUptoRow.holds Tryz.pinned (OpenSpec.upto directAppliesSpec)

/-- 'smaltolaw15.DirectRounds', WHERE WHAT IT READS IS OF BULK AT MOST 1048576: true; the input reads as it did. -/
def directRoundsUptoRow : OpenClaim := { program := "ytaafhjngnjjcmaagreatdoor", sum := "8f47f2ac4ad3397df43c145292a24adc05b7427da9e748c80d4a9a1fa0b0d288", func := "smalto/smaltolaw15.DirectRounds", spec := "directRounds", inPlace := ["math/bits.Sub64", "math/bits.Add64"], unfollowed := true, recurses := true, named := ["smalto/border.names", "smalto/raw.kinds", "math/bits.divideError", "math/bits.overflowError"], apart := false, laid := [("smalto/border.names", laid_smalto_border_names), ("smalto/raw.kinds", laid_smalto_raw_kinds)], narrowed := true }
def DirectRoundsUptoSaid : Prop := directRoundsUptoRow.holds Tryz.pinned (OpenSpec.upto directRoundsSpec)

/-- 'smaltolaw15.DirectComposes', WHERE WHAT IT READS IS OF BULK AT MOST 1048576: true; the input reads as it did. -/
def directComposesUptoRow : OpenClaim := { program := "ytaafhjngnjjcmaagreatdoor", sum := "8f47f2ac4ad3397df43c145292a24adc05b7427da9e748c80d4a9a1fa0b0d288", func := "smalto/smaltolaw15.DirectComposes", spec := "directComposes", inPlace := ["math/bits.Sub64", "math/bits.Add64"], unfollowed := true, recurses := true, named := ["smalto/border.names", "smalto/raw.kinds", "math/bits.divideError", "math/bits.overflowError"], apart := false, laid := [("smalto/border.names", laid_smalto_border_names), ("smalto/raw.kinds", laid_smalto_raw_kinds)], narrowed := true }
def DirectComposesUptoSaid : Prop := directComposesUptoRow.holds Tryz.pinned (OpenSpec.upto directComposesSpec)

/-- 'smaltolaw15.DirectFlat', WHERE WHAT IT READS IS OF BULK AT MOST 1048576: true; the input reads as it did. -/
def directFlatUptoRow : OpenClaim := { program := "ytaafhjngnjjcmaagreatdoor", sum := "8f47f2ac4ad3397df43c145292a24adc05b7427da9e748c80d4a9a1fa0b0d288", func := "smalto/smaltolaw15.DirectFlat", spec := "directFlat", inPlace := ["math/bits.Sub64", "math/bits.Add64"], unfollowed := true, recurses := true, named := ["smalto/border.names", "smalto/raw.kinds", "math/bits.divideError", "math/bits.overflowError"], apart := false, laid := [("smalto/border.names", laid_smalto_border_names), ("smalto/raw.kinds", laid_smalto_raw_kinds)], narrowed := true }
def DirectFlatUptoSaid : Prop := directFlatUptoRow.holds Tryz.pinned (OpenSpec.upto directFlatSpec)

/-- 'smaltolaw15.DirectSuits', WHERE WHAT IT READS IS OF BULK AT MOST 1048576: true; the input reads as it did. -/
def directSuitsUptoRow : OpenClaim := { program := "ytaafhjngnjjcmaagreatdoor", sum := "8f47f2ac4ad3397df43c145292a24adc05b7427da9e748c80d4a9a1fa0b0d288", func := "smalto/smaltolaw15.DirectSuits", spec := "directSuits", inPlace := ["math/bits.Sub64", "math/bits.Add64"], unfollowed := true, recurses := true, named := ["smalto/border.names", "smalto/raw.kinds", "math/bits.divideError", "math/bits.overflowError"], apart := false, laid := [("smalto/border.names", laid_smalto_border_names), ("smalto/raw.kinds", laid_smalto_raw_kinds)], narrowed := true }
def DirectSuitsUptoSaid : Prop := directSuitsUptoRow.holds Tryz.pinned (OpenSpec.upto directSuitsSpec)

end Rows
end Go.Proofs.YtaafhjngnjjcmaaGreatDoor
