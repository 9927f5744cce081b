/-
  NARROWER THAN 'FOR EVERY INPUT', by the rows' own cells (each row's printed sentence says how): OpSame: laid · OpMakes: laid · OpAll: laid · OpChains: laid · OpNames: laid.
  DERIVED. THE GIVEN ROWS OF THIS SEAT. 5 by the template 'for every input the law returns true; each argument reads behind the call as it read before'; 0 by the template 'total and deterministic' (their statements: YtclgghhpiljgfaaGreatDoorTotals.lean).
  GIVEN WITH THE SEED: the statements are not yours to turn. If you find one false, say at which input.
  Laid BY PROGRAM, IN A SANDBOX (cutbox-rows.mjs): the forced cells as the released guide's own fill.sh prints them over the translation a1bbd00b7f1e4fa8… (all of the seat's roots in one cut). By AI agents, Wed Nov 11 2026. No macro, syntax, notation, axiom, sorry.
-/
import Derived.Test.YtclgghhpiljgfaaGreatDoorChecked
import GoSem.Claim
import GoSem.ClaimJoined
import GoSem.ClaimMapViews
import Derived.JoinedTies
import Derived.KernelRfl
namespace Go.Proofs.YtclgghhpiljgfaaGreatDoor
/- THE CELL 'sum', in the pinned program and in every row, IS THE sha256 OF THE DUMP (.gsa) THAT YtclgghhpiljgfaaGreatDoorProg.lean LOADS. Nothing in Lean hashes anything: it is a label: what it is worth is what the hold of that sum in a sandbox is worth. -/
noncomputable def Tryz.pinned : Pinned := { name := "ytclgghhpiljgfaagreatdoor", sum := "a1bbd00b7f1e4fa8490803c52842ad9cd63dd5f920a86fb59fb13d1b58e3bb1a", checked := Tryz.checked }
namespace Rows
def none {H : Type} : Left H := { results := [], args := [] }

/- WHAT THE LISTED PACKAGE-LEVEL VARIABLES READ AS WHEN THE CALL BEGINS. Each datum BY PROGRAM (the guide's laid-datum.mjs) off the statement by which the dump's own 'gosem.cut.vars' lays the variable. In a bare row this is a premise. The card (YtclgghhpiljgfaaGreatDoorCards.lean) ties it to the program's text. -/
def laid_smalto_border_names {H : Type} : DataW H := .agg [.lit (.string [99, 108, 97, 109, 112]), .lit (.string [109, 105, 114, 114, 111, 114]), .lit (.string [119, 114, 97, 112])]
def laid_smalto_raw_kinds {H : Type} : DataW H := .agg [.agg [.lit (.string [98, 111, 120]), .lit (.int .i64 0)], .agg [.lit (.string [99, 117, 98, 105, 99]), .lit (.int .i64 2)], .agg [.lit (.string [108, 97, 110, 99, 122, 111, 115]), .lit (.int .i64 3)]]
def laid_smalto_op_names {H : Type} : DataW H := .agg [.lit (.string [103, 97, 117, 115, 115]), .lit (.string [98, 108, 117, 114]), .lit (.string [107, 101, 114, 110, 101, 108]), .lit (.string [114, 101, 115, 105, 122, 101])]

/-- 'smaltolaw12.OpSame': WHATEVER THE INPUT: true; the input reads as it did. -/
def opSameSpec : ChangeSpec := { name := "opSame", fn := fun _ => fun
  | [d1, d2] => { results := [.lit (.bool true)], args := [d1, d2] }
  | _ => none }
def opSameRow : OpenClaim := { program := "ytclgghhpiljgfaagreatdoor", sum := "a1bbd00b7f1e4fa8490803c52842ad9cd63dd5f920a86fb59fb13d1b58e3bb1a", func := "smalto/smaltolaw12.OpSame", spec := "opSame", inPlace := ["math/bits.Sub64", "math/bits.Add64"], unfollowed := true, recurses := true, named := ["smalto/border.names", "smalto/raw.kinds", "math/bits.divideError", "math/bits.overflowError"], apart := false, laid := [("smalto/border.names", laid_smalto_border_names), ("smalto/raw.kinds", laid_smalto_raw_kinds)] }
def OpSameSaid : Prop := opSameRow.holds Tryz.pinned (OpenSpec.ofChange opSameSpec)

/-- ITS FALSE NEIGHBOUR: 'it returns false'. Refute it at one input. -/
def opSameWrong : ChangeSpec := { name := "opSame", fn := fun _ => fun
  | [d1, d2] => { results := [.lit (.bool false)], args := [d1, d2] }
  | _ => none }
def OpSameWrongFalsely : Prop := opSameRow.holds Tryz.pinned (OpenSpec.ofChange opSameWrong)

/-- 'smaltolaw12.OpMakes': WHATEVER THE INPUT: true; the input reads as it did. -/
def opMakesSpec : ChangeSpec := { name := "opMakes", fn := fun _ => fun
  | [d1, d2, d3] => { results := [.lit (.bool true)], args := [d1, d2, d3] }
  | _ => none }
def opMakesRow : OpenClaim := { program := "ytclgghhpiljgfaagreatdoor", sum := "a1bbd00b7f1e4fa8490803c52842ad9cd63dd5f920a86fb59fb13d1b58e3bb1a", func := "smalto/smaltolaw12.OpMakes", spec := "opMakes", inPlace := ["math/bits.Sub64", "math/bits.Add64"], unfollowed := true, recurses := true, named := ["smalto/border.names", "smalto/raw.kinds", "math/bits.divideError", "math/bits.overflowError"], apart := false, laid := [("smalto/border.names", laid_smalto_border_names), ("smalto/raw.kinds", laid_smalto_raw_kinds)] }
def OpMakesSaid : Prop := opMakesRow.holds Tryz.pinned (OpenSpec.ofChange opMakesSpec)

/-- ITS FALSE NEIGHBOUR: 'it returns false'. Refute it at one input. -/
def opMakesWrong : ChangeSpec := { name := "opMakes", fn := fun _ => fun
  | [d1, d2, d3] => { results := [.lit (.bool false)], args := [d1, d2, d3] }
  | _ => none }
def OpMakesWrongFalsely : Prop := opMakesRow.holds Tryz.pinned (OpenSpec.ofChange opMakesWrong)

/-- 'smaltolaw12.OpAll': WHATEVER THE INPUT: true; the input reads as it did. -/
def opAllSpec : ChangeSpec := { name := "opAll", fn := fun _ => fun
  | [d1, d2, d3, d4] => { results := [.lit (.bool true)], args := [d1, d2, d3, d4] }
  | _ => none }
def opAllRow : OpenClaim := { program := "ytclgghhpiljgfaagreatdoor", sum := "a1bbd00b7f1e4fa8490803c52842ad9cd63dd5f920a86fb59fb13d1b58e3bb1a", func := "smalto/smaltolaw12.OpAll", spec := "opAll", inPlace := ["math/bits.Sub64", "math/bits.Add64"], unfollowed := true, recurses := true, named := ["smalto/border.names", "smalto/raw.kinds", "math/bits.divideError", "math/bits.overflowError"], apart := false, laid := [("smalto/border.names", laid_smalto_border_names), ("smalto/raw.kinds", laid_smalto_raw_kinds)] }
def OpAllSaid : Prop := opAllRow.holds Tryz.pinned (OpenSpec.ofChange opAllSpec)

/-- ITS FALSE NEIGHBOUR: 'it returns false'. Refute it at one input. -/
def opAllWrong : ChangeSpec := { name := "opAll", fn := fun _ => fun
  | [d1, d2, d3, d4] => { results := [.lit (.bool false)], args := [d1, d2, d3, d4] }
  | _ => none }
def OpAllWrongFalsely : Prop := opAllRow.holds Tryz.pinned (OpenSpec.ofChange opAllWrong)

/-- 'smaltolaw12.OpChains': WHATEVER THE INPUT: true; the input reads as it did. -/
def opChainsSpec : ChangeSpec := { name := "opChains", fn := fun _ => fun
  | [d1, d2, d3] => { results := [.lit (.bool true)], args := [d1, d2, d3] }
  | _ => none }
def opChainsRow : OpenClaim := { program := "ytclgghhpiljgfaagreatdoor", sum := "a1bbd00b7f1e4fa8490803c52842ad9cd63dd5f920a86fb59fb13d1b58e3bb1a", func := "smalto/smaltolaw12.OpChains", spec := "opChains", inPlace := ["math/bits.Sub64", "math/bits.Add64"], unfollowed := true, recurses := true, named := ["smalto/border.names", "smalto/raw.kinds", "math/bits.divideError", "math/bits.overflowError"], apart := false, laid := [("smalto/border.names", laid_smalto_border_names), ("smalto/raw.kinds", laid_smalto_raw_kinds)] }
def OpChainsSaid : Prop := opChainsRow.holds Tryz.pinned (OpenSpec.ofChange opChainsSpec)

/-- ITS FALSE NEIGHBOUR: 'it returns false'. Refute it at one input. -/
def opChainsWrong : ChangeSpec := { name := "opChains", fn := fun _ => fun
  | [d1, d2, d3] => { results := [.lit (.bool false)], args := [d1, d2, d3] }
  | _ => none }
def OpChainsWrongFalsely : Prop := opChainsRow.holds Tryz.pinned (OpenSpec.ofChange opChainsWrong)

/-- 'smaltolaw12.OpNames': WHATEVER THE INPUT: true; the input reads as it did. -/
def opNamesSpec : ChangeSpec := { name := "opNames", fn := fun _ => fun
  | [d] => { results := [.lit (.bool true)], args := [d] }
  | _ => none }
def opNamesRow : OpenClaim := { program := "ytclgghhpiljgfaagreatdoor", sum := "a1bbd00b7f1e4fa8490803c52842ad9cd63dd5f920a86fb59fb13d1b58e3bb1a", func := "smalto/smaltolaw12.OpNames", spec := "opNames", inPlace := ["math/bits.Sub64", "math/bits.Add64"], unfollowed := true, recurses := true, named := ["smalto/border.names", "smalto/raw.kinds", "math/bits.divideError", "math/bits.overflowError", "smalto/op.names"], apart := false, laid := [("smalto/border.names", laid_smalto_border_names), ("smalto/raw.kinds", laid_smalto_raw_kinds), ("smalto/op.names", laid_smalto_op_names)] }
def OpNamesSaid : Prop := opNamesRow.holds Tryz.pinned (OpenSpec.ofChange opNamesSpec)

/-- ITS FALSE NEIGHBOUR: 'it returns false'. Refute it at one input. -/
def opNamesWrong : ChangeSpec := { name := "opNames", fn := fun _ => fun
  | [d] => { results := [.lit (.bool false)], args := [d] }
  | _ => none }
def OpNamesWrongFalsely : Prop := opNamesRow.holds Tryz.pinned (OpenSpec.ofChange opNamesWrong)

/- THE SECOND FORM. 'bulk': how many values and letters a reading holds, each counted each time it is reached (what is shared counts as often as it is met; a slice's spare places count too). A statement '..UptoSaid' is the law's where the arguments, and the package variables that the reading takes, are together of bulk at most 1048576: NARROWER than '..Said'. Prove '..Said' where nothing that the law and all that it calls make is longer than what came in: it says more and counts as full. Else prove '..UptoSaid'. A law counts once. -/
mutual
def uptoBulk {H : Type} : DataW H → Nat
  | .lit (.string bytes) => bytes.length + 1
  | .lit _ => 1
  | .nil => 1
  | .ptr d => uptoBulk d + 1
  | .slice elems spare => uptoBulkAll elems + uptoBulkAll spare + 1
  | .agg parts => uptoBulkAll parts + 1
  | .iface _ d => uptoBulk d + 1
  | .map entries => uptoBulkEntries entries + 1
  | .held _ => 1
def uptoBulkAll {H : Type} : List (DataW H) → Nat
  | [] => 0
  | d :: r => uptoBulk d + uptoBulkAll r
def uptoBulkEntries {H : Type} : List (Lit × DataW H) → Nat
  | [] => 0
  | x :: r => uptoBulkEntry x + uptoBulkEntries r
def uptoBulkEntry {H : Type} : Lit × DataW H → Nat
  | (.string bytes, d) => bytes.length + uptoBulk d + 1
  | (_, d) => uptoBulk d + 1
 end
def uptoSmall : (H : Type) → List (DataW H) → Bool := fun _ ds => decide (uptoBulkAll ds ≤ 1048576)
def OpenSpec.upto (s : _root_.Go.ChangeSpec) : _root_.Go.OpenSpec := { _root_.Go.OpenSpec.ofChange s with cond := some uptoSmall }

/-- 'smaltolaw12.OpSame', WHERE WHAT IT READS IS OF BULK AT MOST 1048576: true; the input reads as it did. -/
def opSameUptoRow : OpenClaim := { program := "ytclgghhpiljgfaagreatdoor", sum := "a1bbd00b7f1e4fa8490803c52842ad9cd63dd5f920a86fb59fb13d1b58e3bb1a", func := "smalto/smaltolaw12.OpSame", spec := "opSame", inPlace := ["math/bits.Sub64", "math/bits.Add64"], unfollowed := true, recurses := true, named := ["smalto/border.names", "smalto/raw.kinds", "math/bits.divideError", "math/bits.overflowError"], apart := false, laid := [("smalto/border.names", laid_smalto_border_names), ("smalto/raw.kinds", laid_smalto_raw_kinds)], narrowed := true }
def OpSameUptoSaid : Prop := opSameUptoRow.holds Tryz.pinned (OpenSpec.upto opSameSpec)

/-- 'smaltolaw12.OpMakes', WHERE WHAT IT READS IS OF BULK AT MOST 1048576: true; the input reads as it did. -/
def opMakesUptoRow : OpenClaim := { program := "ytclgghhpiljgfaagreatdoor", sum := "a1bbd00b7f1e4fa8490803c52842ad9cd63dd5f920a86fb59fb13d1b58e3bb1a", func := "smalto/smaltolaw12.OpMakes", spec := "opMakes", inPlace := ["math/bits.Sub64", "math/bits.Add64"], unfollowed := true, recurses := true, named := ["smalto/border.names", "smalto/raw.kinds", "math/bits.divideError", "math/bits.overflowError"], apart := false, laid := [("smalto/border.names", laid_smalto_border_names), ("smalto/raw.kinds", laid_smalto_raw_kinds)], narrowed := true }
def OpMakesUptoSaid : Prop := opMakesUptoRow.holds Tryz.pinned (OpenSpec.upto opMakesSpec)

/-- 'smaltolaw12.OpAll', WHERE WHAT IT READS IS OF BULK AT MOST 1048576: true; the input reads as it did. -/
def opAllUptoRow : OpenClaim := { program := "ytclgghhpiljgfaagreatdoor", sum := "a1bbd00b7f1e4fa8490803c52842ad9cd63dd5f920a86fb59fb13d1b58e3bb1a", func := "smalto/smaltolaw12.OpAll", spec := "opAll", inPlace := ["math/bits.Sub64", "math/bits.Add64"], unfollowed := true, recurses := true, named := ["smalto/border.names", "smalto/raw.kinds", "math/bits.divideError", "math/bits.overflowError"], apart := false, laid := [("smalto/border.names", laid_smalto_border_names), ("smalto/raw.kinds", laid_smalto_raw_kinds)], narrowed := true }
def OpAllUptoSaid : Prop := opAllUptoRow.holds Tryz.pinned (OpenSpec.upto opAllSpec)

/-- 'smaltolaw12.OpChains', WHERE WHAT IT READS IS OF BULK AT MOST 1048576: true; the input reads as it did. -/
def opChainsUptoRow : OpenClaim := { program := "ytclgghhpiljgfaagreatdoor", sum := "a1bbd00b7f1e4fa8490803c52842ad9cd63dd5f920a86fb59fb13d1b58e3bb1a", func := "smalto/smaltolaw12.OpChains", spec := "opChains", inPlace := ["math/bits.Sub64", "math/bits.Add64"], unfollowed := true, recurses := true, named := ["smalto/border.names", "smalto/raw.kinds", "math/bits.divideError", "math/bits.overflowError"], apart := false, laid := [("smalto/border.names", laid_smalto_border_names), ("smalto/raw.kinds", laid_smalto_raw_kinds)], narrowed := true }
def OpChainsUptoSaid : Prop := opChainsUptoRow.holds Tryz.pinned (OpenSpec.upto opChainsSpec)

/-- 'smaltolaw12.OpNames', WHERE WHAT IT READS IS OF BULK AT MOST 1048576: true; the input reads as it did. -/
def opNamesUptoRow : OpenClaim := { program := "ytclgghhpiljgfaagreatdoor", sum := "a1bbd00b7f1e4fa8490803c52842ad9cd63dd5f920a86fb59fb13d1b58e3bb1a", func := "smalto/smaltolaw12.OpNames", spec := "opNames", inPlace := ["math/bits.Sub64", "math/bits.Add64"], unfollowed := true, recurses := true, named := ["smalto/border.names", "smalto/raw.kinds", "math/bits.divideError", "math/bits.overflowError", "smalto/op.names"], apart := false, laid := [("smalto/border.names", laid_smalto_border_names), ("smalto/raw.kinds", laid_smalto_raw_kinds), ("smalto/op.names", laid_smalto_op_names)], narrowed := true }
def OpNamesUptoSaid : Prop := opNamesUptoRow.holds Tryz.pinned (OpenSpec.upto opNamesSpec)

end Rows
end Go.Proofs.YtclgghhpiljgfaaGreatDoor
