/-
  DERIVED. GIVEN WITH THE SEED: THE CARDS: each row of YtjmdknbbgmajoaaDoorRows.lean that lists a variable, with what it lists TIED to the program's text (the seventh form; the later family's looks); each row that meets fmt, with fmt's text TOLD by the authors' own Lean function (tested against real Go, not proved from fmt's source: count such statements apart). THE CARD IS WHAT COUNTS. Prove the row's statement (the work); the ties are given (YtjmdknbbgmajoaaDoorTie.lean); close each card by the builder's one call (the guide's Derived/Test/ToyasCard.lean, 'card_holds'). Laid BY PROGRAM, IN A SANDBOX (cutbox-door.mjs). By AI agents, Wed Nov 11 2026. No macro, syntax, notation, axiom, sorry.
-/
import Derived.Test.YtjmdknbbgmajoaaDoorRows
import GoSem.ClaimSeven
namespace Go.Proofs.YtjmdknbbgmajoaaDoor
namespace Rows

/-- THE TIED CARD OF 'smaltolaw05.RawRows'. -/
def rawRowsCard : Claim7 := { stood := { row := rawRowsRow, standIns := [], harness := (true, "5da5d1c6894f5a1a46882ba7b13fc626c0febb571bceeeafe3ea0023cfe8dc81"), looks := false }, kinds := [], alts := [], laidByText := true, laidKinds := [.data], laidTests := true, laidLooks := .later }
def RawRowsCardSaid : Prop := Claim7.holds Tryd.pinned (.plain (OpenSpec.ofChange rawRowsSpec)) rawRowsCard

/-- THE TIED CARD OF 'smaltolaw05.RawBox'. -/
def rawBoxCard : Claim7 := { stood := { row := rawBoxRow, standIns := [], harness := (true, "5da5d1c6894f5a1a46882ba7b13fc626c0febb571bceeeafe3ea0023cfe8dc81"), looks := false }, kinds := [], alts := [], laidByText := true, laidKinds := [.data], laidTests := true, laidLooks := .later }
def RawBoxCardSaid : Prop := Claim7.holds Tryd.pinned (.plain (OpenSpec.ofChange rawBoxSpec)) rawBoxCard

/-- THE TIED CARD OF 'smaltolaw05.RawKeys'. -/
def rawKeysCard : Claim7 := { stood := { row := rawKeysRow, standIns := [], harness := (true, "5da5d1c6894f5a1a46882ba7b13fc626c0febb571bceeeafe3ea0023cfe8dc81"), looks := false }, kinds := [], alts := [], laidByText := true, laidKinds := [.data], laidTests := true, laidLooks := .later }
def RawKeysCardSaid : Prop := Claim7.holds Tryd.pinned (.plain (OpenSpec.ofChange rawKeysSpec)) rawKeysCard

/-- THE TIED CARD OF 'smaltolaw05.RawMirror'. -/
def rawMirrorCard : Claim7 := { stood := { row := rawMirrorRow, standIns := [], harness := (true, "5da5d1c6894f5a1a46882ba7b13fc626c0febb571bceeeafe3ea0023cfe8dc81"), looks := false }, kinds := [], alts := [], laidByText := true, laidKinds := [.data], laidTests := true, laidLooks := .later }
def RawMirrorCardSaid : Prop := Claim7.holds Tryd.pinned (.plain (OpenSpec.ofChange rawMirrorSpec)) rawMirrorCard

/-- THE TIED CARD OF 'smaltolaw05.RawNames'. -/
def rawNamesCard : Claim7 := { stood := { row := rawNamesRow, standIns := [], harness := (true, "5da5d1c6894f5a1a46882ba7b13fc626c0febb571bceeeafe3ea0023cfe8dc81"), looks := false }, kinds := [], alts := [], laidByText := true, laidKinds := [.data], laidTests := true, laidLooks := .later }
def RawNamesCardSaid : Prop := Claim7.holds Tryd.pinned (.plain (OpenSpec.ofChange rawNamesSpec)) rawNamesCard

/-- THE SECOND FORM's CARD OF 'smaltolaw05.RawRows'. -/
def rawRowsUptoCard : Claim7 := { stood := { row := rawRowsUptoRow, standIns := [], harness := (true, "5da5d1c6894f5a1a46882ba7b13fc626c0febb571bceeeafe3ea0023cfe8dc81"), looks := false }, kinds := [], alts := [], laidByText := true, laidKinds := [.data], laidTests := true, laidLooks := .later }
def RawRowsUptoCardSaid : Prop := Claim7.holds Tryd.pinned (.plain (OpenSpec.upto rawRowsSpec)) rawRowsUptoCard

/-- THE SECOND FORM's CARD OF 'smaltolaw05.RawBox'. -/
def rawBoxUptoCard : Claim7 := { stood := { row := rawBoxUptoRow, standIns := [], harness := (true, "5da5d1c6894f5a1a46882ba7b13fc626c0febb571bceeeafe3ea0023cfe8dc81"), looks := false }, kinds := [], alts := [], laidByText := true, laidKinds := [.data], laidTests := true, laidLooks := .later }
def RawBoxUptoCardSaid : Prop := Claim7.holds Tryd.pinned (.plain (OpenSpec.upto rawBoxSpec)) rawBoxUptoCard

/-- THE SECOND FORM's CARD OF 'smaltolaw05.RawKeys'. -/
def rawKeysUptoCard : Claim7 := { stood := { row := rawKeysUptoRow, standIns := [], harness := (true, "5da5d1c6894f5a1a46882ba7b13fc626c0febb571bceeeafe3ea0023cfe8dc81"), looks := false }, kinds := [], alts := [], laidByText := true, laidKinds := [.data], laidTests := true, laidLooks := .later }
def RawKeysUptoCardSaid : Prop := Claim7.holds Tryd.pinned (.plain (OpenSpec.upto rawKeysSpec)) rawKeysUptoCard

/-- THE SECOND FORM's CARD OF 'smaltolaw05.RawMirror'. -/
def rawMirrorUptoCard : Claim7 := { stood := { row := rawMirrorUptoRow, standIns := [], harness := (true, "5da5d1c6894f5a1a46882ba7b13fc626c0febb571bceeeafe3ea0023cfe8dc81"), looks := false }, kinds := [], alts := [], laidByText := true, laidKinds := [.data], laidTests := true, laidLooks := .later }
def RawMirrorUptoCardSaid : Prop := Claim7.holds Tryd.pinned (.plain (OpenSpec.upto rawMirrorSpec)) rawMirrorUptoCard

/-- THE SECOND FORM's CARD OF 'smaltolaw05.RawNames'. -/
def rawNamesUptoCard : Claim7 := { stood := { row := rawNamesUptoRow, standIns := [], harness := (true, "5da5d1c6894f5a1a46882ba7b13fc626c0febb571bceeeafe3ea0023cfe8dc81"), looks := false }, kinds := [], alts := [], laidByText := true, laidKinds := [.data], laidTests := true, laidLooks := .later }
def RawNamesUptoCardSaid : Prop := Claim7.holds Tryd.pinned (.plain (OpenSpec.upto rawNamesSpec)) rawNamesUptoCard
end Rows
end Go.Proofs.YtjmdknbbgmajoaaDoor
