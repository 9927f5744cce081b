/-
  NARROWER THAN 'FOR EVERY INPUT', by the rows' own cells (each row's printed sentence says how): PnmDecodes: laid · PnmBack: laid · PnmCuts: laid · PnmSamples: laid · PnmSizes: laid.
  DERIVED. THE GIVEN ROWS OF THIS SEAT. 5 by the template 'for every input the law returns true; each argument reads behind the call as it read before'; 0 by the template 'total and deterministic' (their statements: YtoppojilndnghaaDoorTotals.lean).
  GIVEN WITH THE SEED: the statements are not yours to turn. If you find one false, say at which input.
  Laid BY PROGRAM, IN A SANDBOX (cutbox-rows.mjs): the forced cells as the released guide's own fill.sh prints them over the translation 8448a0b202888fd9… (all of the seat's roots in one cut). By AI agents, Wed Nov 11 2026. No macro, syntax, notation, axiom, sorry.
-/
import Derived.Test.YtoppojilndnghaaDoorChecked
import GoSem.Claim
import GoSem.ClaimJoined
import GoSem.ClaimMapViews
import Derived.JoinedTies
import Derived.KernelRfl
namespace Go.Proofs.YtoppojilndnghaaDoor
/- THE CELL 'sum', in the pinned program and in every row, IS THE sha256 OF THE DUMP (.gsa) THAT YtoppojilndnghaaDoorProg.lean LOADS. Nothing in Lean hashes anything: it is a label: what it is worth is what the hold of that sum in a sandbox is worth. -/
noncomputable def Tryd.pinned : Pinned := { name := "ytoppojilndnghaadoor", sum := "8448a0b202888fd96cfd1426cf6e4921d4f2e39fbd665b3a552f64fb34faaead", checked := Tryd.checked }
namespace Rows
def none {H : Type} : Left H := { results := [], args := [] }

/- WHAT THE LISTED PACKAGE-LEVEL VARIABLES READ AS WHEN THE CALL BEGINS. Each datum BY PROGRAM (the guide's laid-datum.mjs) off the statement by which the dump's own 'gosem.cut.vars' lays the variable. In a bare row this is a premise. The card (YtoppojilndnghaaDoorCards.lean) ties it to the program's text. -/
def laid_math_bits_deBruijn32tab {H : Type} : DataW H := .agg [.lit (.int .u8 0), .lit (.int .u8 1), .lit (.int .u8 28), .lit (.int .u8 2), .lit (.int .u8 29), .lit (.int .u8 14), .lit (.int .u8 24), .lit (.int .u8 3), .lit (.int .u8 30), .lit (.int .u8 22), .lit (.int .u8 20), .lit (.int .u8 15), .lit (.int .u8 25), .lit (.int .u8 17), .lit (.int .u8 4), .lit (.int .u8 8), .lit (.int .u8 31), .lit (.int .u8 27), .lit (.int .u8 13), .lit (.int .u8 23), .lit (.int .u8 21), .lit (.int .u8 19), .lit (.int .u8 16), .lit (.int .u8 7), .lit (.int .u8 26), .lit (.int .u8 12), .lit (.int .u8 18), .lit (.int .u8 6), .lit (.int .u8 11), .lit (.int .u8 5), .lit (.int .u8 10), .lit (.int .u8 9)]
def laid_math_bits_deBruijn64tab {H : Type} : DataW H := .agg [.lit (.int .u8 0), .lit (.int .u8 1), .lit (.int .u8 56), .lit (.int .u8 2), .lit (.int .u8 57), .lit (.int .u8 49), .lit (.int .u8 28), .lit (.int .u8 3), .lit (.int .u8 61), .lit (.int .u8 58), .lit (.int .u8 42), .lit (.int .u8 50), .lit (.int .u8 38), .lit (.int .u8 29), .lit (.int .u8 17), .lit (.int .u8 4), .lit (.int .u8 62), .lit (.int .u8 47), .lit (.int .u8 59), .lit (.int .u8 36), .lit (.int .u8 45), .lit (.int .u8 43), .lit (.int .u8 51), .lit (.int .u8 22), .lit (.int .u8 53), .lit (.int .u8 39), .lit (.int .u8 33), .lit (.int .u8 30), .lit (.int .u8 24), .lit (.int .u8 18), .lit (.int .u8 12), .lit (.int .u8 5), .lit (.int .u8 63), .lit (.int .u8 55), .lit (.int .u8 48), .lit (.int .u8 27), .lit (.int .u8 60), .lit (.int .u8 41), .lit (.int .u8 37), .lit (.int .u8 16), .lit (.int .u8 46), .lit (.int .u8 35), .lit (.int .u8 44), .lit (.int .u8 21), .lit (.int .u8 52), .lit (.int .u8 32), .lit (.int .u8 23), .lit (.int .u8 11), .lit (.int .u8 54), .lit (.int .u8 26), .lit (.int .u8 40), .lit (.int .u8 15), .lit (.int .u8 34), .lit (.int .u8 20), .lit (.int .u8 31), .lit (.int .u8 10), .lit (.int .u8 25), .lit (.int .u8 14), .lit (.int .u8 19), .lit (.int .u8 9), .lit (.int .u8 13), .lit (.int .u8 8), .lit (.int .u8 7), .lit (.int .u8 6)]
def laid_internal_strconv_uint64pow10 {H : Type} : DataW H := .agg [.lit (.int .u64 1), .lit (.int .u64 10), .lit (.int .u64 100), .lit (.int .u64 1000), .lit (.int .u64 10000), .lit (.int .u64 100000), .lit (.int .u64 1000000), .lit (.int .u64 10000000), .lit (.int .u64 100000000), .lit (.int .u64 1000000000), .lit (.int .u64 10000000000), .lit (.int .u64 100000000000), .lit (.int .u64 1000000000000), .lit (.int .u64 10000000000000), .lit (.int .u64 100000000000000), .lit (.int .u64 1000000000000000), .lit (.int .u64 10000000000000000), .lit (.int .u64 100000000000000000), .lit (.int .u64 1000000000000000000), .lit (.int .u64 10000000000000000000)]

/-- 'smaltolaw11.PnmDecodes': WHATEVER THE INPUT: true; the input reads as it did. -/
def pnmDecodesSpec : ChangeSpec := { name := "pnmDecodes", fn := fun _ => fun
  | [d] => { results := [.lit (.bool true)], args := [d] }
  | _ => none }
def pnmDecodesRow : OpenClaim := { program := "ytoppojilndnghaadoor", sum := "8448a0b202888fd96cfd1426cf6e4921d4f2e39fbd665b3a552f64fb34faaead", func := "smalto/smaltolaw11.PnmDecodes", spec := "pnmDecodes", named := ["internal/strconv.uint64pow10", "math/bits.deBruijn32tab", "math/bits.deBruijn64tab"], apart := false, laid := [("math/bits.deBruijn32tab", laid_math_bits_deBruijn32tab), ("math/bits.deBruijn64tab", laid_math_bits_deBruijn64tab), ("internal/strconv.uint64pow10", laid_internal_strconv_uint64pow10)] }
def PnmDecodesSaid : Prop := pnmDecodesRow.holds Tryd.pinned (OpenSpec.ofChange pnmDecodesSpec)

/-- ITS FALSE NEIGHBOUR: 'it returns false'. Refute it at one input. -/
def pnmDecodesWrong : ChangeSpec := { name := "pnmDecodes", fn := fun _ => fun
  | [d] => { results := [.lit (.bool false)], args := [d] }
  | _ => none }
def PnmDecodesWrongFalsely : Prop := pnmDecodesRow.holds Tryd.pinned (OpenSpec.ofChange pnmDecodesWrong)

/-- 'smaltolaw11.PnmBack': WHATEVER THE INPUT: true; the input reads as it did. -/
def pnmBackSpec : ChangeSpec := { name := "pnmBack", fn := fun _ => fun
  | [d1, d2, d3, d4, d5, d6] => { results := [.lit (.bool true)], args := [d1, d2, d3, d4, d5, d6] }
  | _ => none }
def pnmBackRow : OpenClaim := { program := "ytoppojilndnghaadoor", sum := "8448a0b202888fd96cfd1426cf6e4921d4f2e39fbd665b3a552f64fb34faaead", func := "smalto/smaltolaw11.PnmBack", spec := "pnmBack", named := ["internal/strconv.uint64pow10", "math/bits.deBruijn32tab", "math/bits.deBruijn64tab"], apart := false, laid := [("math/bits.deBruijn32tab", laid_math_bits_deBruijn32tab), ("math/bits.deBruijn64tab", laid_math_bits_deBruijn64tab), ("internal/strconv.uint64pow10", laid_internal_strconv_uint64pow10)] }
def PnmBackSaid : Prop := pnmBackRow.holds Tryd.pinned (OpenSpec.ofChange pnmBackSpec)

/-- ITS FALSE NEIGHBOUR: 'it returns false'. Refute it at one input. -/
def pnmBackWrong : ChangeSpec := { name := "pnmBack", fn := fun _ => fun
  | [d1, d2, d3, d4, d5, d6] => { results := [.lit (.bool false)], args := [d1, d2, d3, d4, d5, d6] }
  | _ => none }
def PnmBackWrongFalsely : Prop := pnmBackRow.holds Tryd.pinned (OpenSpec.ofChange pnmBackWrong)

/-- 'smaltolaw11.PnmCuts': WHATEVER THE INPUT: true; the input reads as it did. -/
def pnmCutsSpec : ChangeSpec := { name := "pnmCuts", fn := fun _ => fun
  | [d1, d2, d3, d4, d5, d6] => { results := [.lit (.bool true)], args := [d1, d2, d3, d4, d5, d6] }
  | _ => none }
def pnmCutsRow : OpenClaim := { program := "ytoppojilndnghaadoor", sum := "8448a0b202888fd96cfd1426cf6e4921d4f2e39fbd665b3a552f64fb34faaead", func := "smalto/smaltolaw11.PnmCuts", spec := "pnmCuts", named := ["internal/strconv.uint64pow10", "math/bits.deBruijn32tab", "math/bits.deBruijn64tab"], apart := false, laid := [("math/bits.deBruijn32tab", laid_math_bits_deBruijn32tab), ("math/bits.deBruijn64tab", laid_math_bits_deBruijn64tab), ("internal/strconv.uint64pow10", laid_internal_strconv_uint64pow10)] }
def PnmCutsSaid : Prop := pnmCutsRow.holds Tryd.pinned (OpenSpec.ofChange pnmCutsSpec)

/-- ITS FALSE NEIGHBOUR: 'it returns false'. Refute it at one input. -/
def pnmCutsWrong : ChangeSpec := { name := "pnmCuts", fn := fun _ => fun
  | [d1, d2, d3, d4, d5, d6] => { results := [.lit (.bool false)], args := [d1, d2, d3, d4, d5, d6] }
  | _ => none }
def PnmCutsWrongFalsely : Prop := pnmCutsRow.holds Tryd.pinned (OpenSpec.ofChange pnmCutsWrong)

/-- 'smaltolaw11.PnmSamples': WHATEVER THE INPUT: true; the input reads as it did. -/
def pnmSamplesSpec : ChangeSpec := { name := "pnmSamples", fn := fun _ => fun
  | [d1, d2, d3, d4, d5] => { results := [.lit (.bool true)], args := [d1, d2, d3, d4, d5] }
  | _ => none }
def pnmSamplesRow : OpenClaim := { program := "ytoppojilndnghaadoor", sum := "8448a0b202888fd96cfd1426cf6e4921d4f2e39fbd665b3a552f64fb34faaead", func := "smalto/smaltolaw11.PnmSamples", spec := "pnmSamples", named := ["internal/strconv.uint64pow10", "math/bits.deBruijn32tab", "math/bits.deBruijn64tab"], apart := false, laid := [("math/bits.deBruijn32tab", laid_math_bits_deBruijn32tab), ("math/bits.deBruijn64tab", laid_math_bits_deBruijn64tab), ("internal/strconv.uint64pow10", laid_internal_strconv_uint64pow10)] }
def PnmSamplesSaid : Prop := pnmSamplesRow.holds Tryd.pinned (OpenSpec.ofChange pnmSamplesSpec)

/-- ITS FALSE NEIGHBOUR: 'it returns false'. Refute it at one input. -/
def pnmSamplesWrong : ChangeSpec := { name := "pnmSamples", fn := fun _ => fun
  | [d1, d2, d3, d4, d5] => { results := [.lit (.bool false)], args := [d1, d2, d3, d4, d5] }
  | _ => none }
def PnmSamplesWrongFalsely : Prop := pnmSamplesRow.holds Tryd.pinned (OpenSpec.ofChange pnmSamplesWrong)

/-- 'smaltolaw11.PnmSizes': WHATEVER THE INPUT: true; the input reads as it did. -/
def pnmSizesSpec : ChangeSpec := { name := "pnmSizes", fn := fun _ => fun
  | [d] => { results := [.lit (.bool true)], args := [d] }
  | _ => none }
def pnmSizesRow : OpenClaim := { program := "ytoppojilndnghaadoor", sum := "8448a0b202888fd96cfd1426cf6e4921d4f2e39fbd665b3a552f64fb34faaead", func := "smalto/smaltolaw11.PnmSizes", spec := "pnmSizes", named := ["internal/strconv.uint64pow10", "math/bits.deBruijn32tab", "math/bits.deBruijn64tab"], apart := false, laid := [("math/bits.deBruijn32tab", laid_math_bits_deBruijn32tab), ("math/bits.deBruijn64tab", laid_math_bits_deBruijn64tab), ("internal/strconv.uint64pow10", laid_internal_strconv_uint64pow10)] }
def PnmSizesSaid : Prop := pnmSizesRow.holds Tryd.pinned (OpenSpec.ofChange pnmSizesSpec)

/-- ITS FALSE NEIGHBOUR: 'it returns false'. Refute it at one input. -/
def pnmSizesWrong : ChangeSpec := { name := "pnmSizes", fn := fun _ => fun
  | [d] => { results := [.lit (.bool false)], args := [d] }
  | _ => none }
def PnmSizesWrongFalsely : Prop := pnmSizesRow.holds Tryd.pinned (OpenSpec.ofChange pnmSizesWrong)

/- THE SECOND FORM. 'bulk': how many values and letters a reading holds, each counted each time it is reached (what is shared counts as often as it is met; a slice's spare places count too). A statement '..UptoSaid' is the law's where the arguments, and the package variables that the reading takes, are together of bulk at most 1048576: NARROWER than '..Said'. Prove '..Said' where nothing that the law and all that it calls make is longer than what came in: it says more and counts as full. Else prove '..UptoSaid'. A law counts once. -/
mutual
def uptoBulk {H : Type} : DataW H → Nat
  | .lit (.string bytes) => bytes.length + 1
  | .lit _ => 1
  | .nil => 1
  | .ptr d => uptoBulk d + 1
  | .slice elems spare => uptoBulkAll elems + uptoBulkAll spare + 1
  | .agg parts => uptoBulkAll parts + 1
  | .iface _ d => uptoBulk d + 1
  | .map entries => uptoBulkEntries entries + 1
  | .held _ => 1
def uptoBulkAll {H : Type} : List (DataW H) → Nat
  | [] => 0
  | d :: r => uptoBulk d + uptoBulkAll r
def uptoBulkEntries {H : Type} : List (Lit × DataW H) → Nat
  | [] => 0
  | x :: r => uptoBulkEntry x + uptoBulkEntries r
def uptoBulkEntry {H : Type} : Lit × DataW H → Nat
  | (.string bytes, d) => bytes.length + uptoBulk d + 1
  | (_, d) => uptoBulk d + 1
 end
def uptoSmall : (H : Type) → List (DataW H) → Bool := fun _ ds => decide (uptoBulkAll ds ≤ 1048576)
def OpenSpec.upto (s : _root_.Go.ChangeSpec) : _root_.Go.OpenSpec := { _root_.Go.OpenSpec.ofChange s with cond := some uptoSmall }

/-- 'smaltolaw11.PnmDecodes', WHERE WHAT IT READS IS OF BULK AT MOST 1048576: true; the input reads as it did. -/
def pnmDecodesUptoRow : OpenClaim := { program := "ytoppojilndnghaadoor", sum := "8448a0b202888fd96cfd1426cf6e4921d4f2e39fbd665b3a552f64fb34faaead", func := "smalto/smaltolaw11.PnmDecodes", spec := "pnmDecodes", named := ["internal/strconv.uint64pow10", "math/bits.deBruijn32tab", "math/bits.deBruijn64tab"], apart := false, laid := [("math/bits.deBruijn32tab", laid_math_bits_deBruijn32tab), ("math/bits.deBruijn64tab", laid_math_bits_deBruijn64tab), ("internal/strconv.uint64pow10", laid_internal_strconv_uint64pow10)], narrowed := true }
def PnmDecodesUptoSaid : Prop := pnmDecodesUptoRow.holds Tryd.pinned (OpenSpec.upto pnmDecodesSpec)

/-- 'smaltolaw11.PnmBack', WHERE WHAT IT READS IS OF BULK AT MOST 1048576: true; the input reads as it did. -/
def pnmBackUptoRow : OpenClaim := { program := "ytoppojilndnghaadoor", sum := "8448a0b202888fd96cfd1426cf6e4921d4f2e39fbd665b3a552f64fb34faaead", func := "smalto/smaltolaw11.PnmBack", spec := "pnmBack", named := ["internal/strconv.uint64pow10", "math/bits.deBruijn32tab", "math/bits.deBruijn64tab"], apart := false, laid := [("math/bits.deBruijn32tab", laid_math_bits_deBruijn32tab), ("math/bits.deBruijn64tab", laid_math_bits_deBruijn64tab), ("internal/strconv.uint64pow10", laid_internal_strconv_uint64pow10)], narrowed := true }
def PnmBackUptoSaid : Prop := pnmBackUptoRow.holds Tryd.pinned (OpenSpec.upto pnmBackSpec)

/-- 'smaltolaw11.PnmCuts', WHERE WHAT IT READS IS OF BULK AT MOST 1048576: true; the input reads as it did. -/
def pnmCutsUptoRow : OpenClaim := { program := "ytoppojilndnghaadoor", sum := "8448a0b202888fd96cfd1426cf6e4921d4f2e39fbd665b3a552f64fb34faaead", func := "smalto/smaltolaw11.PnmCuts", spec := "pnmCuts", named := ["internal/strconv.uint64pow10", "math/bits.deBruijn32tab", "math/bits.deBruijn64tab"], apart := false, laid := [("math/bits.deBruijn32tab", laid_math_bits_deBruijn32tab), ("math/bits.deBruijn64tab", laid_math_bits_deBruijn64tab), ("internal/strconv.uint64pow10", laid_internal_strconv_uint64pow10)], narrowed := true }
def PnmCutsUptoSaid : Prop := pnmCutsUptoRow.holds Tryd.pinned (OpenSpec.upto pnmCutsSpec)

/-- 'smaltolaw11.PnmSamples', WHERE WHAT IT READS IS OF BULK AT MOST 1048576: true; the input reads as it did. -/
def pnmSamplesUptoRow : OpenClaim := { program := "ytoppojilndnghaadoor", sum := "8448a0b202888fd96cfd1426cf6e4921d4f2e39fbd665b3a552f64fb34faaead", func := "smalto/smaltolaw11.PnmSamples", spec := "pnmSamples", named := ["internal/strconv.uint64pow10", "math/bits.deBruijn32tab", "math/bits.deBruijn64tab"], apart := false, laid := [("math/bits.deBruijn32tab", laid_math_bits_deBruijn32tab), ("math/bits.deBruijn64tab", laid_math_bits_deBruijn64tab), ("internal/strconv.uint64pow10", laid_internal_strconv_uint64pow10)], narrowed := true }
def PnmSamplesUptoSaid : Prop := pnmSamplesUptoRow.holds Tryd.pinned (OpenSpec.upto pnmSamplesSpec)

/-- 'smaltolaw11.PnmSizes', WHERE WHAT IT READS IS OF BULK AT MOST 1048576: true; the input reads as it did. -/
def pnmSizesUptoRow : OpenClaim := { program := "ytoppojilndnghaadoor", sum := "8448a0b202888fd96cfd1426cf6e4921d4f2e39fbd665b3a552f64fb34faaead", func := "smalto/smaltolaw11.PnmSizes", spec := "pnmSizes", named := ["internal/strconv.uint64pow10", "math/bits.deBruijn32tab", "math/bits.deBruijn64tab"], apart := false, laid := [("math/bits.deBruijn32tab", laid_math_bits_deBruijn32tab), ("math/bits.deBruijn64tab", laid_math_bits_deBruijn64tab), ("internal/strconv.uint64pow10", laid_internal_strconv_uint64pow10)], narrowed := true }
def PnmSizesUptoSaid : Prop := pnmSizesUptoRow.holds Tryd.pinned (OpenSpec.upto pnmSizesSpec)

end Rows
end Go.Proofs.YtoppojilndnghaaDoor
