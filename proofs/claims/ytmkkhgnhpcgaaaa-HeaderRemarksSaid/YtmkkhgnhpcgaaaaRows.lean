/-
  No cell of these rows narrows 'for every input' (looked for: loops, veiled, ifaces, maps, wideKeys, modest, calm, conditions, laid).
  DERIVED. THE GIVEN ROWS OF THIS SEAT. 3 by the template 'for every input the law returns true; each argument reads behind the call as it read before'; 0 by the template 'total and deterministic' (their statements: YtmkkhgnhpcgaaaaTotals.lean).
  GIVEN WITH THE SEED: the statements are not yours to turn. If you find one false, say at which input.
  Laid BY PROGRAM, IN A SANDBOX (cutbox-rows.mjs): the forced cells as the released guide's own fill.sh prints them over the translation 9b0032c0cf3ae1e0… (all of the seat's roots in one cut). By AI agents, Wed Nov 11 2026. No macro, syntax, notation, axiom, sorry.
-/
import Derived.Test.YtmkkhgnhpcgaaaaChecked
import GoSem.Claim
import GoSem.ClaimJoined
import GoSem.ClaimMapViews
import Derived.JoinedTies
import Derived.KernelRfl
namespace Go.Proofs.Ytmkkhgnhpcgaaaa
/- THE CELL 'sum', in the pinned program and in every row, IS THE sha256 OF THE DUMP (.gsa) THAT YtmkkhgnhpcgaaaaProg.lean LOADS. Nothing in Lean hashes anything: it is a label: what it is worth is what the hold of that sum in a sandbox is worth. -/
noncomputable def Try.pinned : Pinned := { name := "ytmkkhgnhpcgaaaa", sum := "9b0032c0cf3ae1e049f3c3004662d12f9a9e875d7265d57d43b70cf237b26279", checked := Try.checked }
namespace Rows
def none {H : Type} : Left H := { results := [], args := [] }

/-- 'smaltolaw10.HeaderParses': WHATEVER THE INPUT: true; the input reads as it did. -/
def headerParsesSpec : ChangeSpec := { name := "headerParses", fn := fun _ => fun
  | [d] => { results := [.lit (.bool true)], args := [d] }
  | _ => none }
def headerParsesRow : OpenClaim := { program := "ytmkkhgnhpcgaaaa", sum := "9b0032c0cf3ae1e049f3c3004662d12f9a9e875d7265d57d43b70cf237b26279", func := "smalto/smaltolaw10.HeaderParses", spec := "headerParses", apart := false }
def HeaderParsesSaid : Prop := headerParsesRow.holds Try.pinned (OpenSpec.ofChange headerParsesSpec)

/-- ITS FALSE NEIGHBOUR: 'it returns false'. Refute it at one input. -/
def headerParsesWrong : ChangeSpec := { name := "headerParses", fn := fun _ => fun
  | [d] => { results := [.lit (.bool false)], args := [d] }
  | _ => none }
def HeaderParsesWrongFalsely : Prop := headerParsesRow.holds Try.pinned (OpenSpec.ofChange headerParsesWrong)

/-- 'smaltolaw10.HeaderRemarks': WHATEVER THE INPUT: true; the input reads as it did. -/
def headerRemarksSpec : ChangeSpec := { name := "headerRemarks", fn := fun _ => fun
  | [d1, d2, d3, d4, d5, d6] => { results := [.lit (.bool true)], args := [d1, d2, d3, d4, d5, d6] }
  | _ => none }
def headerRemarksRow : OpenClaim := { program := "ytmkkhgnhpcgaaaa", sum := "9b0032c0cf3ae1e049f3c3004662d12f9a9e875d7265d57d43b70cf237b26279", func := "smalto/smaltolaw10.HeaderRemarks", spec := "headerRemarks", unfollowed := true, recurses := true, apart := false }
def HeaderRemarksSaid : Prop := headerRemarksRow.holds Try.pinned (OpenSpec.ofChange headerRemarksSpec)

/-- ITS FALSE NEIGHBOUR: 'it returns false'. Refute it at one input. -/
def headerRemarksWrong : ChangeSpec := { name := "headerRemarks", fn := fun _ => fun
  | [d1, d2, d3, d4, d5, d6] => { results := [.lit (.bool false)], args := [d1, d2, d3, d4, d5, d6] }
  | _ => none }
def HeaderRemarksWrongFalsely : Prop := headerRemarksRow.holds Try.pinned (OpenSpec.ofChange headerRemarksWrong)

/-- 'smaltolaw10.HeaderBlanks': WHATEVER THE INPUT: true; the input reads as it did. -/
def headerBlanksSpec : ChangeSpec := { name := "headerBlanks", fn := fun _ => fun
  | [d] => { results := [.lit (.bool true)], args := [d] }
  | _ => none }
def headerBlanksRow : OpenClaim := { program := "ytmkkhgnhpcgaaaa", sum := "9b0032c0cf3ae1e049f3c3004662d12f9a9e875d7265d57d43b70cf237b26279", func := "smalto/smaltolaw10.HeaderBlanks", spec := "headerBlanks", apart := false }
def HeaderBlanksSaid : Prop := headerBlanksRow.holds Try.pinned (OpenSpec.ofChange headerBlanksSpec)

/-- ITS FALSE NEIGHBOUR: 'it returns false'. Refute it at one input. -/
def headerBlanksWrong : ChangeSpec := { name := "headerBlanks", fn := fun _ => fun
  | [d] => { results := [.lit (.bool false)], args := [d] }
  | _ => none }
def HeaderBlanksWrongFalsely : Prop := headerBlanksRow.holds Try.pinned (OpenSpec.ofChange headerBlanksWrong)

/- THE SECOND FORM. 'bulk': how many values and letters a reading holds, each counted each time it is reached (what is shared counts as often as it is met; a slice's spare places count too). A statement '..UptoSaid' is the law's where the arguments, and the package variables that the reading takes, are together of bulk at most 1048576: NARROWER than '..Said'. Prove '..Said' where nothing that the law and all that it calls make is longer than what came in: it says more and counts as full. Else prove '..UptoSaid'. A law counts once. -/
mutual
def uptoBulk {H : Type} : DataW H → Nat
  | .lit (.string bytes) => bytes.length + 1
  | .lit _ => 1
  | .nil => 1
  | .ptr d => uptoBulk d + 1
  | .slice elems spare => uptoBulkAll elems + uptoBulkAll spare + 1
  | .agg parts => uptoBulkAll parts + 1
  | .iface _ d => uptoBulk d + 1
  | .map entries => uptoBulkEntries entries + 1
  | .held _ => 1
def uptoBulkAll {H : Type} : List (DataW H) → Nat
  | [] => 0
  | d :: r => uptoBulk d + uptoBulkAll r
def uptoBulkEntries {H : Type} : List (Lit × DataW H) → Nat
  | [] => 0
  | x :: r => uptoBulkEntry x + uptoBulkEntries r
def uptoBulkEntry {H : Type} : Lit × DataW H → Nat
  | (.string bytes, d) => bytes.length + uptoBulk d + 1
  | (_, d) => uptoBulk d + 1
 end
def uptoSmall : (H : Type) → List (DataW H) → Bool := fun _ ds => decide (uptoBulkAll ds ≤ 1048576)
def OpenSpec.upto (s : _root_.Go.ChangeSpec) : _root_.Go.OpenSpec := { _root_.Go.OpenSpec.ofChange s with cond := some uptoSmall }

/-- 'smaltolaw10.HeaderParses', WHERE WHAT IT READS IS OF BULK AT MOST 1048576: true; the input reads as it did. -/
def headerParsesUptoRow : OpenClaim := { program := "ytmkkhgnhpcgaaaa", sum := "9b0032c0cf3ae1e049f3c3004662d12f9a9e875d7265d57d43b70cf237b26279", func := "smalto/smaltolaw10.HeaderParses", spec := "headerParses", apart := false, narrowed := true }
def HeaderParsesUptoSaid : Prop := headerParsesUptoRow.holds Try.pinned (OpenSpec.upto headerParsesSpec)

/-- 'smaltolaw10.HeaderRemarks', WHERE WHAT IT READS IS OF BULK AT MOST 1048576: true; the input reads as it did. -/
def headerRemarksUptoRow : OpenClaim := { program := "ytmkkhgnhpcgaaaa", sum := "9b0032c0cf3ae1e049f3c3004662d12f9a9e875d7265d57d43b70cf237b26279", func := "smalto/smaltolaw10.HeaderRemarks", spec := "headerRemarks", unfollowed := true, recurses := true, apart := false, narrowed := true }
def HeaderRemarksUptoSaid : Prop := headerRemarksUptoRow.holds Try.pinned (OpenSpec.upto headerRemarksSpec)

/-- 'smaltolaw10.HeaderBlanks', WHERE WHAT IT READS IS OF BULK AT MOST 1048576: true; the input reads as it did. -/
def headerBlanksUptoRow : OpenClaim := { program := "ytmkkhgnhpcgaaaa", sum := "9b0032c0cf3ae1e049f3c3004662d12f9a9e875d7265d57d43b70cf237b26279", func := "smalto/smaltolaw10.HeaderBlanks", spec := "headerBlanks", apart := false, narrowed := true }
def HeaderBlanksUptoSaid : Prop := headerBlanksUptoRow.holds Try.pinned (OpenSpec.upto headerBlanksSpec)

end Rows
end Go.Proofs.Ytmkkhgnhpcgaaaa
