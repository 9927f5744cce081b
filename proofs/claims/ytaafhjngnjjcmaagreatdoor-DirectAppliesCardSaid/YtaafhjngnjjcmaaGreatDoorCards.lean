/-
  DERIVED. GIVEN WITH THE SEED: THE CARDS: each row of YtaafhjngnjjcmaaGreatDoorRows.lean that lists a variable, with what it lists TIED to the program's text (the seventh form; the later family's looks); each row that meets fmt, with fmt's text TOLD by the authors' own Lean function (tested against real Go, not proved from fmt's source: count such statements apart). THE CARD IS WHAT COUNTS. Prove the row's statement (the work); the ties are given (YtaafhjngnjjcmaaGreatDoorTie.lean); close each card by the builder's one call (the guide's Derived/Test/ToyasCard.lean, 'card_holds'). Laid BY PROGRAM, IN A SANDBOX (cutbox-door.mjs). By AI agents, Wed Nov 11 2026. No macro, syntax, notation, axiom, sorry.
-/
import Derived.Test.YtaafhjngnjjcmaaGreatDoorRows
import GoSem.ClaimSeven
namespace Go.Proofs.YtaafhjngnjjcmaaGreatDoor
namespace Rows

/-- THE TIED CARD OF 'smaltolaw15.DirectNever'. -/
def directNeverCard : Claim7 := { stood := { row := directNeverRow, standIns := [], harness := (true, "398afa3882519a7dee1e3b99e1197c255151d1e9016145807b2acfe2debc6b2d"), looks := false }, kinds := [], alts := [], laidByText := true, laidKinds := [.data, .data], laidTests := true, laidLooks := .later }
def DirectNeverCardSaid : Prop := Claim7.holds Tryz.pinned (.plain (OpenSpec.ofChange directNeverSpec)) directNeverCard

/-- THE TIED CARD OF 'smaltolaw15.DirectApplies'. -/
def directAppliesCard : Claim7 := { stood := { row := directAppliesRow, standIns := [], harness := (true, "398afa3882519a7dee1e3b99e1197c255151d1e9016145807b2acfe2debc6b2d"), looks := false }, kinds := [], alts := [], laidByText := true, laidKinds := [.data, .data], laidTests := true, laidLooks := .later }
def DirectAppliesCardSaid : Prop := Claim7.holds Tryz.pinned (.plain (OpenSpec.ofChange directAppliesSpec)) directAppliesCard

/-- THE TIED CARD OF 'smaltolaw15.DirectRounds'. -/
def directRoundsCard : Claim7 := { stood := { row := directRoundsRow, standIns := [], harness := (true, "398afa3882519a7dee1e3b99e1197c255151d1e9016145807b2acfe2debc6b2d"), looks := false }, kinds := [], alts := [], laidByText := true, laidKinds := [.data, .data], laidTests := true, laidLooks := .later }
def DirectRoundsCardSaid : Prop := Claim7.holds Tryz.pinned (.plain (OpenSpec.ofChange directRoundsSpec)) directRoundsCard

/-- THE TIED CARD OF 'smaltolaw15.DirectComposes'. -/
def directComposesCard : Claim7 := { stood := { row := directComposesRow, standIns := [], harness := (true, "398afa3882519a7dee1e3b99e1197c255151d1e9016145807b2acfe2debc6b2d"), looks := false }, kinds := [], alts := [], laidByText := true, laidKinds := [.data, .data], laidTests := true, laidLooks := .later }
def DirectComposesCardSaid : Prop := Claim7.holds Tryz.pinned (.plain (OpenSpec.ofChange directComposesSpec)) directComposesCard

/-- THE TIED CARD OF 'smaltolaw15.DirectFlat'. -/
def directFlatCard : Claim7 := { stood := { row := directFlatRow, standIns := [], harness := (true, "398afa3882519a7dee1e3b99e1197c255151d1e9016145807b2acfe2debc6b2d"), looks := false }, kinds := [], alts := [], laidByText := true, laidKinds := [.data, .data], laidTests := true, laidLooks := .later }
def DirectFlatCardSaid : Prop := Claim7.holds Tryz.pinned (.plain (OpenSpec.ofChange directFlatSpec)) directFlatCard

/-- THE TIED CARD OF 'smaltolaw15.DirectSuits'. -/
def directSuitsCard : Claim7 := { stood := { row := directSuitsRow, standIns := [], harness := (true, "398afa3882519a7dee1e3b99e1197c255151d1e9016145807b2acfe2debc6b2d"), looks := false }, kinds := [], alts := [], laidByText := true, laidKinds := [.data, .data], laidTests := true, laidLooks := .later }
def DirectSuitsCardSaid : Prop := Claim7.holds Tryz.pinned (.plain (OpenSpec.ofChange directSuitsSpec)) directSuitsCard

/-- THE SECOND FORM's CARD OF 'smaltolaw15.DirectNever'. -/
def directNeverUptoCard : Claim7 := { stood := { row := directNeverUptoRow, standIns := [], harness := (true, "398afa3882519a7dee1e3b99e1197c255151d1e9016145807b2acfe2debc6b2d"), looks := false }, kinds := [], alts := [], laidByText := true, laidKinds := [.data, .data], laidTests := true, laidLooks := .later }
def DirectNeverUptoCardSaid : Prop := Claim7.holds Tryz.pinned (.plain (OpenSpec.upto directNeverSpec)) directNeverUptoCard

/-- THE SECOND FORM's CARD OF 'smaltolaw15.DirectApplies'. -/
def directAppliesUptoCard : Claim7 := { stood := { row := directAppliesUptoRow, standIns := [], harness := (true, "398afa3882519a7dee1e3b99e1197c255151d1e9016145807b2acfe2debc6b2d"), looks := false }, kinds := [], alts := [], laidByText := true, laidKinds := [.data, .data], laidTests := true, laidLooks := .later }
def DirectAppliesUptoCardSaid : Prop := Claim7.holds Tryz.pinned (.plain (OpenSpec.upto directAppliesSpec)) directAppliesUptoCard

/-- THE SECOND FORM's CARD OF 'smaltolaw15.DirectRounds'. -/
def directRoundsUptoCard : Claim7 := { stood := { row := directRoundsUptoRow, standIns := [], harness := (true, "398afa3882519a7dee1e3b99e1197c255151d1e9016145807b2acfe2debc6b2d"), looks := false }, kinds := [], alts := [], laidByText := true, laidKinds := [.data, .data], laidTests := true, laidLooks := .later }
def DirectRoundsUptoCardSaid : Prop := Claim7.holds Tryz.pinned (.plain (OpenSpec.upto directRoundsSpec)) directRoundsUptoCard

/-- THE SECOND FORM's CARD OF 'smaltolaw15.DirectComposes'. -/
def directComposesUptoCard : Claim7 := { stood := { row := directComposesUptoRow, standIns := [], harness := (true, "398afa3882519a7dee1e3b99e1197c255151d1e9016145807b2acfe2debc6b2d"), looks := false }, kinds := [], alts := [], laidByText := true, laidKinds := [.data, .data], laidTests := true, laidLooks := .later }
def DirectComposesUptoCardSaid : Prop := Claim7.holds Tryz.pinned (.plain (OpenSpec.upto directComposesSpec)) directComposesUptoCard

/-- THE SECOND FORM's CARD OF 'smaltolaw15.DirectFlat'. -/
def directFlatUptoCard : Claim7 := { stood := { row := directFlatUptoRow, standIns := [], harness := (true, "398afa3882519a7dee1e3b99e1197c255151d1e9016145807b2acfe2debc6b2d"), looks := false }, kinds := [], alts := [], laidByText := true, laidKinds := [.data, .data], laidTests := true, laidLooks := .later }
def DirectFlatUptoCardSaid : Prop := Claim7.holds Tryz.pinned (.plain (OpenSpec.upto directFlatSpec)) directFlatUptoCard

/-- THE SECOND FORM's CARD OF 'smaltolaw15.DirectSuits'. -/
def directSuitsUptoCard : Claim7 := { stood := { row := directSuitsUptoRow, standIns := [], harness := (true, "398afa3882519a7dee1e3b99e1197c255151d1e9016145807b2acfe2debc6b2d"), looks := false }, kinds := [], alts := [], laidByText := true, laidKinds := [.data, .data], laidTests := true, laidLooks := .later }
def DirectSuitsUptoCardSaid : Prop := Claim7.holds Tryz.pinned (.plain (OpenSpec.upto directSuitsSpec)) directSuitsUptoCard
end Rows
end Go.Proofs.YtaafhjngnjjcmaaGreatDoor
