/-
  DERIVED. GIVEN WITH THE SEED: THE CARDS: each row of YtclgghhpiljgfaaGreatDoorRows.lean that lists a variable, with what it lists TIED to the program's text (the seventh form; the later family's looks); each row that meets fmt, with fmt's text TOLD by the authors' own Lean function (tested against real Go, not proved from fmt's source: count such statements apart). THE CARD IS WHAT COUNTS. Prove the row's statement (the work); the ties are given (YtclgghhpiljgfaaGreatDoorTie.lean); close each card by the builder's one call (the guide's Derived/Test/ToyasCard.lean, 'card_holds'). Laid BY PROGRAM, IN A SANDBOX (cutbox-door.mjs). By AI agents, Wed Nov 11 2026. No macro, syntax, notation, axiom, sorry.
-/
import Derived.Test.YtclgghhpiljgfaaGreatDoorRows
import GoSem.ClaimSeven
namespace Go.Proofs.YtclgghhpiljgfaaGreatDoor
namespace Rows

/-- THE TIED CARD OF 'smaltolaw12.OpSame'. -/
def opSameCard : Claim7 := { stood := { row := opSameRow, standIns := [], harness := (true, "f5df4b65835837d8ace8a45ab40a4e60d5e3df6979e65025b586f357726cf73f"), looks := false }, kinds := [], alts := [], laidByText := true, laidKinds := [.data, .data], laidTests := true, laidLooks := .later }
def OpSameCardSaid : Prop := Claim7.holds Tryz.pinned (.plain (OpenSpec.ofChange opSameSpec)) opSameCard

/-- THE TIED CARD OF 'smaltolaw12.OpMakes'. -/
def opMakesCard : Claim7 := { stood := { row := opMakesRow, standIns := [], harness := (true, "f5df4b65835837d8ace8a45ab40a4e60d5e3df6979e65025b586f357726cf73f"), looks := false }, kinds := [], alts := [], laidByText := true, laidKinds := [.data, .data], laidTests := true, laidLooks := .later }
def OpMakesCardSaid : Prop := Claim7.holds Tryz.pinned (.plain (OpenSpec.ofChange opMakesSpec)) opMakesCard

/-- THE TIED CARD OF 'smaltolaw12.OpAll'. -/
def opAllCard : Claim7 := { stood := { row := opAllRow, standIns := [], harness := (true, "f5df4b65835837d8ace8a45ab40a4e60d5e3df6979e65025b586f357726cf73f"), looks := false }, kinds := [], alts := [], laidByText := true, laidKinds := [.data, .data], laidTests := true, laidLooks := .later }
def OpAllCardSaid : Prop := Claim7.holds Tryz.pinned (.plain (OpenSpec.ofChange opAllSpec)) opAllCard

/-- THE TIED CARD OF 'smaltolaw12.OpChains'. -/
def opChainsCard : Claim7 := { stood := { row := opChainsRow, standIns := [], harness := (true, "f5df4b65835837d8ace8a45ab40a4e60d5e3df6979e65025b586f357726cf73f"), looks := false }, kinds := [], alts := [], laidByText := true, laidKinds := [.data, .data], laidTests := true, laidLooks := .later }
def OpChainsCardSaid : Prop := Claim7.holds Tryz.pinned (.plain (OpenSpec.ofChange opChainsSpec)) opChainsCard

/-- THE TIED CARD OF 'smaltolaw12.OpNames'. -/
def opNamesCard : Claim7 := { stood := { row := opNamesRow, standIns := [], harness := (true, "f5df4b65835837d8ace8a45ab40a4e60d5e3df6979e65025b586f357726cf73f"), looks := false }, kinds := [], alts := [], laidByText := true, laidKinds := [.data, .data, .data], laidTests := true, laidLooks := .later }
def OpNamesCardSaid : Prop := Claim7.holds Tryz.pinned (.plain (OpenSpec.ofChange opNamesSpec)) opNamesCard

/-- THE SECOND FORM's CARD OF 'smaltolaw12.OpSame'. -/
def opSameUptoCard : Claim7 := { stood := { row := opSameUptoRow, standIns := [], harness := (true, "f5df4b65835837d8ace8a45ab40a4e60d5e3df6979e65025b586f357726cf73f"), looks := false }, kinds := [], alts := [], laidByText := true, laidKinds := [.data, .data], laidTests := true, laidLooks := .later }
def OpSameUptoCardSaid : Prop := Claim7.holds Tryz.pinned (.plain (OpenSpec.upto opSameSpec)) opSameUptoCard

/-- THE SECOND FORM's CARD OF 'smaltolaw12.OpMakes'. -/
def opMakesUptoCard : Claim7 := { stood := { row := opMakesUptoRow, standIns := [], harness := (true, "f5df4b65835837d8ace8a45ab40a4e60d5e3df6979e65025b586f357726cf73f"), looks := false }, kinds := [], alts := [], laidByText := true, laidKinds := [.data, .data], laidTests := true, laidLooks := .later }
def OpMakesUptoCardSaid : Prop := Claim7.holds Tryz.pinned (.plain (OpenSpec.upto opMakesSpec)) opMakesUptoCard

/-- THE SECOND FORM's CARD OF 'smaltolaw12.OpAll'. -/
def opAllUptoCard : Claim7 := { stood := { row := opAllUptoRow, standIns := [], harness := (true, "f5df4b65835837d8ace8a45ab40a4e60d5e3df6979e65025b586f357726cf73f"), looks := false }, kinds := [], alts := [], laidByText := true, laidKinds := [.data, .data], laidTests := true, laidLooks := .later }
def OpAllUptoCardSaid : Prop := Claim7.holds Tryz.pinned (.plain (OpenSpec.upto opAllSpec)) opAllUptoCard

/-- THE SECOND FORM's CARD OF 'smaltolaw12.OpChains'. -/
def opChainsUptoCard : Claim7 := { stood := { row := opChainsUptoRow, standIns := [], harness := (true, "f5df4b65835837d8ace8a45ab40a4e60d5e3df6979e65025b586f357726cf73f"), looks := false }, kinds := [], alts := [], laidByText := true, laidKinds := [.data, .data], laidTests := true, laidLooks := .later }
def OpChainsUptoCardSaid : Prop := Claim7.holds Tryz.pinned (.plain (OpenSpec.upto opChainsSpec)) opChainsUptoCard

/-- THE SECOND FORM's CARD OF 'smaltolaw12.OpNames'. -/
def opNamesUptoCard : Claim7 := { stood := { row := opNamesUptoRow, standIns := [], harness := (true, "f5df4b65835837d8ace8a45ab40a4e60d5e3df6979e65025b586f357726cf73f"), looks := false }, kinds := [], alts := [], laidByText := true, laidKinds := [.data, .data, .data], laidTests := true, laidLooks := .later }
def OpNamesUptoCardSaid : Prop := Claim7.holds Tryz.pinned (.plain (OpenSpec.upto opNamesSpec)) opNamesUptoCard
end Rows
end Go.Proofs.YtclgghhpiljgfaaGreatDoor
