/-
  DERIVED. GIVEN WITH THE SEED: THE CARDS: each row of YtjmjgokgjeankaaGreatDoorRows.lean that lists a variable, with what it lists TIED to the program's text (the seventh form; the later family's looks); each row that meets fmt, with fmt's text TOLD by the authors' own Lean function (tested against real Go, not proved from fmt's source: count such statements apart). THE CARD IS WHAT COUNTS. Prove the row's statement (the work); the ties are given (YtjmjgokgjeankaaGreatDoorTie.lean); close each card by the builder's one call (the guide's Derived/Test/ToyasCard.lean, 'card_holds'). Laid BY PROGRAM, IN A SANDBOX (cutbox-door.mjs). By AI agents, Wed Nov 11 2026. No macro, syntax, notation, axiom, sorry.
-/
import Derived.Test.YtjmjgokgjeankaaGreatDoorRows
import GoSem.ClaimSeven
namespace Go.Proofs.YtjmjgokgjeankaaGreatDoor
namespace Rows

/-- THE TIED CARD OF 'smaltolaw08.TableResizes'. -/
def tableResizesCard : Claim7 := { stood := { row := tableResizesRow, standIns := [], harness := (true, "98a01f9521937299a490ac103766919b058745f66e8ee356bf4b5d022d6aa71b"), looks := false }, kinds := [], alts := [], laidByText := true, laidKinds := [.data], laidTests := true, laidLooks := .later }
def TableResizesCardSaid : Prop := Claim7.holds Tryz.pinned (.plain (OpenSpec.ofChange tableResizesSpec)) tableResizesCard

/-- THE TIED CARD OF 'smaltolaw08.TableFilters'. -/
def tableFiltersCard : Claim7 := { stood := { row := tableFiltersRow, standIns := [], harness := (true, "98a01f9521937299a490ac103766919b058745f66e8ee356bf4b5d022d6aa71b"), looks := false }, kinds := [], alts := [], laidByText := true, laidKinds := [.data], laidTests := true, laidLooks := .later }
def TableFiltersCardSaid : Prop := Claim7.holds Tryz.pinned (.plain (OpenSpec.ofChange tableFiltersSpec)) tableFiltersCard

/-- THE SECOND FORM's CARD OF 'smaltolaw08.TableResizes'. -/
def tableResizesUptoCard : Claim7 := { stood := { row := tableResizesUptoRow, standIns := [], harness := (true, "98a01f9521937299a490ac103766919b058745f66e8ee356bf4b5d022d6aa71b"), looks := false }, kinds := [], alts := [], laidByText := true, laidKinds := [.data], laidTests := true, laidLooks := .later }
def TableResizesUptoCardSaid : Prop := Claim7.holds Tryz.pinned (.plain (OpenSpec.upto tableResizesSpec)) tableResizesUptoCard

/-- THE SECOND FORM's CARD OF 'smaltolaw08.TableFilters'. -/
def tableFiltersUptoCard : Claim7 := { stood := { row := tableFiltersUptoRow, standIns := [], harness := (true, "98a01f9521937299a490ac103766919b058745f66e8ee356bf4b5d022d6aa71b"), looks := false }, kinds := [], alts := [], laidByText := true, laidKinds := [.data], laidTests := true, laidLooks := .later }
def TableFiltersUptoCardSaid : Prop := Claim7.holds Tryz.pinned (.plain (OpenSpec.upto tableFiltersSpec)) tableFiltersUptoCard
end Rows
end Go.Proofs.YtjmjgokgjeankaaGreatDoor
