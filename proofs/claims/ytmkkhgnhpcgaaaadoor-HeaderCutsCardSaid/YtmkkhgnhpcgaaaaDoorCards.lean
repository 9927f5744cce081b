/-
  DERIVED. GIVEN WITH THE SEED: THE CARDS: each row of YtmkkhgnhpcgaaaaDoorRows.lean that lists a variable, with what it lists TIED to the program's text (the seventh form; the later family's looks); each row that meets fmt, with fmt's text TOLD by the authors' own Lean function (tested against real Go, not proved from fmt's source: count such statements apart). THE CARD IS WHAT COUNTS. Prove the row's statement (the work); the ties are given (YtmkkhgnhpcgaaaaDoorTie.lean); close each card by the builder's one call (the guide's Derived/Test/ToyasCard.lean, 'card_holds'). Laid BY PROGRAM, IN A SANDBOX (cutbox-door.mjs). By AI agents, Wed Nov 11 2026. No macro, syntax, notation, axiom, sorry.
-/
import Derived.Test.YtmkkhgnhpcgaaaaDoorRows
import GoSem.ClaimSeven
namespace Go.Proofs.YtmkkhgnhpcgaaaaDoor
namespace Rows

/-- THE TIED CARD OF 'smaltolaw10.HeaderTexts'. -/
def headerTextsCard : Claim7 := { stood := { row := headerTextsRow, standIns := [], harness := (true, "2d6a85bdc6eab280ec981ee890e11f2651c778395bafaec966256ba897255014"), looks := false }, kinds := [], alts := [], laidByText := true, laidKinds := [.data, .data, .data], laidTests := true, laidLooks := .later }
def HeaderTextsCardSaid : Prop := Claim7.holds Tryd.pinned (.plain (OpenSpec.ofChange headerTextsSpec)) headerTextsCard

/-- THE TIED CARD OF 'smaltolaw10.HeaderCuts'. -/
def headerCutsCard : Claim7 := { stood := { row := headerCutsRow, standIns := [], harness := (true, "2d6a85bdc6eab280ec981ee890e11f2651c778395bafaec966256ba897255014"), looks := false }, kinds := [], alts := [], laidByText := true, laidKinds := [.data, .data, .data], laidTests := true, laidLooks := .later }
def HeaderCutsCardSaid : Prop := Claim7.holds Tryd.pinned (.plain (OpenSpec.ofChange headerCutsSpec)) headerCutsCard

/-- THE SECOND FORM's CARD OF 'smaltolaw10.HeaderTexts'. -/
def headerTextsUptoCard : Claim7 := { stood := { row := headerTextsUptoRow, standIns := [], harness := (true, "2d6a85bdc6eab280ec981ee890e11f2651c778395bafaec966256ba897255014"), looks := false }, kinds := [], alts := [], laidByText := true, laidKinds := [.data, .data, .data], laidTests := true, laidLooks := .later }
def HeaderTextsUptoCardSaid : Prop := Claim7.holds Tryd.pinned (.plain (OpenSpec.upto headerTextsSpec)) headerTextsUptoCard

/-- THE SECOND FORM's CARD OF 'smaltolaw10.HeaderCuts'. -/
def headerCutsUptoCard : Claim7 := { stood := { row := headerCutsUptoRow, standIns := [], harness := (true, "2d6a85bdc6eab280ec981ee890e11f2651c778395bafaec966256ba897255014"), looks := false }, kinds := [], alts := [], laidByText := true, laidKinds := [.data, .data, .data], laidTests := true, laidLooks := .later }
def HeaderCutsUptoCardSaid : Prop := Claim7.holds Tryd.pinned (.plain (OpenSpec.upto headerCutsSpec)) headerCutsUptoCard
end Rows
end Go.Proofs.YtmkkhgnhpcgaaaaDoor
