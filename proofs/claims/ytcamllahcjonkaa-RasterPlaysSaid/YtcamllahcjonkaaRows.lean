/-
  No cell of these rows narrows 'for every input' (looked for: loops, veiled, ifaces, maps, wideKeys, modest, calm, conditions, laid).
  DERIVED. THE GIVEN ROWS OF THIS SEAT. 5 by the template 'for every input the law returns true; each argument reads behind the call as it read before'; 0 by the template 'total and deterministic' (their statements: YtcamllahcjonkaaTotals.lean).
  GIVEN WITH THE SEED: the statements are not yours to turn. If you find one false, say at which input.
  Laid BY PROGRAM, IN A SANDBOX (cutbox-rows.mjs): the forced cells as the released guide's own fill.sh prints them over the translation e9bb4d11b60fec49… (all of the seat's roots in one cut). By AI agents, Wed Nov 11 2026. No macro, syntax, notation, axiom, sorry.
-/
import Derived.Test.YtcamllahcjonkaaChecked
import GoSem.Claim
import GoSem.ClaimJoined
import GoSem.ClaimMapViews
import Derived.JoinedTies
import Derived.KernelRfl
namespace Go.Proofs.Ytcamllahcjonkaa
/- THE CELL 'sum', in the pinned program and in every row, IS THE sha256 OF THE DUMP (.gsa) THAT YtcamllahcjonkaaProg.lean LOADS. Nothing in Lean hashes anything: it is a label: what it is worth is what the hold of that sum in a sandbox is worth. -/
noncomputable def Try.pinned : Pinned := { name := "ytcamllahcjonkaa", sum := "e9bb4d11b60fec492d0282215aa6cc480e5b716c9092d539fa2561bb394ce03f", checked := Try.checked }
namespace Rows
def none {H : Type} : Left H := { results := [], args := [] }

/-- 'smaltolaw09.RasterRows': WHATEVER THE INPUT: true; the input reads as it did. -/
def rasterRowsSpec : ChangeSpec := { name := "rasterRows", fn := fun _ => fun
  | [d1, d2, d3, d4, d5] => { results := [.lit (.bool true)], args := [d1, d2, d3, d4, d5] }
  | _ => none }
def rasterRowsRow : OpenClaim := { program := "ytcamllahcjonkaa", sum := "e9bb4d11b60fec492d0282215aa6cc480e5b716c9092d539fa2561bb394ce03f", func := "smalto/smaltolaw09.RasterRows", spec := "rasterRows", apart := false }
def RasterRowsSaid : Prop := rasterRowsRow.holds Try.pinned (OpenSpec.ofChange rasterRowsSpec)

/-- ITS FALSE NEIGHBOUR: 'it returns false'. Refute it at one input. -/
def rasterRowsWrong : ChangeSpec := { name := "rasterRows", fn := fun _ => fun
  | [d1, d2, d3, d4, d5] => { results := [.lit (.bool false)], args := [d1, d2, d3, d4, d5] }
  | _ => none }
def RasterRowsWrongFalsely : Prop := rasterRowsRow.holds Try.pinned (OpenSpec.ofChange rasterRowsWrong)

/-- 'smaltolaw09.RasterCodes': WHATEVER THE INPUT: true; the input reads as it did. -/
def rasterCodesSpec : ChangeSpec := { name := "rasterCodes", fn := fun _ => fun
  | [d1, d2, d3, d4] => { results := [.lit (.bool true)], args := [d1, d2, d3, d4] }
  | _ => none }
def rasterCodesRow : OpenClaim := { program := "ytcamllahcjonkaa", sum := "e9bb4d11b60fec492d0282215aa6cc480e5b716c9092d539fa2561bb394ce03f", func := "smalto/smaltolaw09.RasterCodes", spec := "rasterCodes", apart := false }
def RasterCodesSaid : Prop := rasterCodesRow.holds Try.pinned (OpenSpec.ofChange rasterCodesSpec)

/-- ITS FALSE NEIGHBOUR: 'it returns false'. Refute it at one input. -/
def rasterCodesWrong : ChangeSpec := { name := "rasterCodes", fn := fun _ => fun
  | [d1, d2, d3, d4] => { results := [.lit (.bool false)], args := [d1, d2, d3, d4] }
  | _ => none }
def RasterCodesWrongFalsely : Prop := rasterCodesRow.holds Try.pinned (OpenSpec.ofChange rasterCodesWrong)

/-- 'smaltolaw09.RasterOf': WHATEVER THE INPUT: true; the input reads as it did. -/
def rasterOfSpec : ChangeSpec := { name := "rasterOf", fn := fun _ => fun
  | [d1, d2, d3, d4, d5] => { results := [.lit (.bool true)], args := [d1, d2, d3, d4, d5] }
  | _ => none }
def rasterOfRow : OpenClaim := { program := "ytcamllahcjonkaa", sum := "e9bb4d11b60fec492d0282215aa6cc480e5b716c9092d539fa2561bb394ce03f", func := "smalto/smaltolaw09.RasterOf", spec := "rasterOf", apart := false }
def RasterOfSaid : Prop := rasterOfRow.holds Try.pinned (OpenSpec.ofChange rasterOfSpec)

/-- ITS FALSE NEIGHBOUR: 'it returns false'. Refute it at one input. -/
def rasterOfWrong : ChangeSpec := { name := "rasterOf", fn := fun _ => fun
  | [d1, d2, d3, d4, d5] => { results := [.lit (.bool false)], args := [d1, d2, d3, d4, d5] }
  | _ => none }
def RasterOfWrongFalsely : Prop := rasterOfRow.holds Try.pinned (OpenSpec.ofChange rasterOfWrong)

/-- 'smaltolaw09.RasterPlays': WHATEVER THE INPUT: true; the input reads as it did. -/
def rasterPlaysSpec : ChangeSpec := { name := "rasterPlays", fn := fun _ => fun
  | [d1, d2, d3, d4, d5, d6] => { results := [.lit (.bool true)], args := [d1, d2, d3, d4, d5, d6] }
  | _ => none }
def rasterPlaysRow : OpenClaim := { program := "ytcamllahcjonkaa", sum := "e9bb4d11b60fec492d0282215aa6cc480e5b716c9092d539fa2561bb394ce03f", func := "smalto/smaltolaw09.RasterPlays", spec := "rasterPlays", apart := false }
def RasterPlaysSaid : Prop := rasterPlaysRow.holds Try.pinned (OpenSpec.ofChange rasterPlaysSpec)

/-- ITS FALSE NEIGHBOUR: 'it returns false'. Refute it at one input. -/
def rasterPlaysWrong : ChangeSpec := { name := "rasterPlays", fn := fun _ => fun
  | [d1, d2, d3, d4, d5, d6] => { results := [.lit (.bool false)], args := [d1, d2, d3, d4, d5, d6] }
  | _ => none }
def RasterPlaysWrongFalsely : Prop := rasterPlaysRow.holds Try.pinned (OpenSpec.ofChange rasterPlaysWrong)

/-- 'smaltolaw09.RasterNil': WHATEVER THE INPUT: true; the input reads as it did. -/
def rasterNilSpec : ChangeSpec := { name := "rasterNil", fn := fun _ => fun
  | [d1, d2, d3, d4, d5] => { results := [.lit (.bool true)], args := [d1, d2, d3, d4, d5] }
  | _ => none }
def rasterNilRow : OpenClaim := { program := "ytcamllahcjonkaa", sum := "e9bb4d11b60fec492d0282215aa6cc480e5b716c9092d539fa2561bb394ce03f", func := "smalto/smaltolaw09.RasterNil", spec := "rasterNil", apart := false }
def RasterNilSaid : Prop := rasterNilRow.holds Try.pinned (OpenSpec.ofChange rasterNilSpec)

/-- ITS FALSE NEIGHBOUR: 'it returns false'. Refute it at one input. -/
def rasterNilWrong : ChangeSpec := { name := "rasterNil", fn := fun _ => fun
  | [d1, d2, d3, d4, d5] => { results := [.lit (.bool false)], args := [d1, d2, d3, d4, d5] }
  | _ => none }
def RasterNilWrongFalsely : Prop := rasterNilRow.holds Try.pinned (OpenSpec.ofChange rasterNilWrong)

/- THE SECOND FORM. 'bulk': how many values and letters a reading holds, each counted each time it is reached (what is shared counts as often as it is met; a slice's spare places count too). A statement '..UptoSaid' is the law's where the arguments, and the package variables that the reading takes, are together of bulk at most 1048576: NARROWER than '..Said'. Prove '..Said' where nothing that the law and all that it calls make is longer than what came in: it says more and counts as full. Else prove '..UptoSaid'. A law counts once. -/
mutual
def uptoBulk {H : Type} : DataW H → Nat
  | .lit (.string bytes) => bytes.length + 1
  | .lit _ => 1
  | .nil => 1
  | .ptr d => uptoBulk d + 1
  | .slice elems spare => uptoBulkAll elems + uptoBulkAll spare + 1
  | .agg parts => uptoBulkAll parts + 1
  | .iface _ d => uptoBulk d + 1
  | .map entries => uptoBulkEntries entries + 1
  | .held _ => 1
def uptoBulkAll {H : Type} : List (DataW H) → Nat
  | [] => 0
  | d :: r => uptoBulk d + uptoBulkAll r
def uptoBulkEntries {H : Type} : List (Lit × DataW H) → Nat
  | [] => 0
  | x :: r => uptoBulkEntry x + uptoBulkEntries r
def uptoBulkEntry {H : Type} : Lit × DataW H → Nat
  | (.string bytes, d) => bytes.length + uptoBulk d + 1
  | (_, d) => uptoBulk d + 1
 end
def uptoSmall : (H : Type) → List (DataW H) → Bool := fun _ ds => decide (uptoBulkAll ds ≤ 1048576)
def OpenSpec.upto (s : _root_.Go.ChangeSpec) : _root_.Go.OpenSpec := { _root_.Go.OpenSpec.ofChange s with cond := some uptoSmall }

/-- 'smaltolaw09.RasterRows', WHERE WHAT IT READS IS OF BULK AT MOST 1048576: true; the input reads as it did. -/
def rasterRowsUptoRow : OpenClaim := { program := "ytcamllahcjonkaa", sum := "e9bb4d11b60fec492d0282215aa6cc480e5b716c9092d539fa2561bb394ce03f", func := "smalto/smaltolaw09.RasterRows", spec := "rasterRows", apart := false, narrowed := true }
def RasterRowsUptoSaid : Prop := rasterRowsUptoRow.holds Try.pinned (OpenSpec.upto rasterRowsSpec)

/-- 'smaltolaw09.RasterCodes', WHERE WHAT IT READS IS OF BULK AT MOST 1048576: true; the input reads as it did. -/
def rasterCodesUptoRow : OpenClaim := { program := "ytcamllahcjonkaa", sum := "e9bb4d11b60fec492d0282215aa6cc480e5b716c9092d539fa2561bb394ce03f", func := "smalto/smaltolaw09.RasterCodes", spec := "rasterCodes", apart := false, narrowed := true }
def RasterCodesUptoSaid : Prop := rasterCodesUptoRow.holds Try.pinned (OpenSpec.upto rasterCodesSpec)

/-- 'smaltolaw09.RasterOf', WHERE WHAT IT READS IS OF BULK AT MOST 1048576: true; the input reads as it did. -/
def rasterOfUptoRow : OpenClaim := { program := "ytcamllahcjonkaa", sum := "e9bb4d11b60fec492d0282215aa6cc480e5b716c9092d539fa2561bb394ce03f", func := "smalto/smaltolaw09.RasterOf", spec := "rasterOf", apart := false, narrowed := true }
def RasterOfUptoSaid : Prop := rasterOfUptoRow.holds Try.pinned (OpenSpec.upto rasterOfSpec)

/-- 'smaltolaw09.RasterPlays', WHERE WHAT IT READS IS OF BULK AT MOST 1048576: true; the input reads as it did. -/
def rasterPlaysUptoRow : OpenClaim := { program := "ytcamllahcjonkaa", sum := "e9bb4d11b60fec492d0282215aa6cc480e5b716c9092d539fa2561bb394ce03f", func := "smalto/smaltolaw09.RasterPlays", spec := "rasterPlays", apart := false, narrowed := true }
def RasterPlaysUptoSaid : Prop := rasterPlaysUptoRow.holds Try.pinned (OpenSpec.upto rasterPlaysSpec)

/-- 'smaltolaw09.RasterNil', WHERE WHAT IT READS IS OF BULK AT MOST 1048576: true; the input reads as it did. -/
def rasterNilUptoRow : OpenClaim := { program := "ytcamllahcjonkaa", sum := "e9bb4d11b60fec492d0282215aa6cc480e5b716c9092d539fa2561bb394ce03f", func := "smalto/smaltolaw09.RasterNil", spec := "rasterNil", apart := false, narrowed := true }
def RasterNilUptoSaid : Prop := rasterNilUptoRow.holds Try.pinned (OpenSpec.upto rasterNilSpec)

end Rows
end Go.Proofs.Ytcamllahcjonkaa
