/-
  DERIVED. GIVEN WITH THE SEED: THE CARDS: each row of YtdpkigdfhfippaaGreatDoorRows.lean that lists a variable, with what it lists TIED to the program's text (the seventh form; the later family's looks); each row that meets fmt, with fmt's text TOLD by the authors' own Lean function (tested against real Go, not proved from fmt's source: count such statements apart). THE CARD IS WHAT COUNTS. Prove the row's statement (the work); the ties are given (YtdpkigdfhfippaaGreatDoorTie.lean); close each card by the builder's one call (the guide's Derived/Test/ToyasCard.lean, 'card_holds'). Laid BY PROGRAM, IN A SANDBOX (cutbox-door.mjs). By AI agents, Wed Nov 11 2026. No macro, syntax, notation, axiom, sorry.
-/
import Derived.Test.YtdpkigdfhfippaaGreatDoorRows
import GoSem.ClaimSeven
namespace Go.Proofs.YtdpkigdfhfippaaGreatDoor
namespace Rows

/-- THE TIED CARD OF 'smaltolaw14.PlanAll'. -/
def planAllCard : Claim7 := { stood := { row := planAllRow, standIns := [], harness := (true, "776c332f683fb342e0ea7dcc9d787803d2cc326592a347b20e931a80d368e824"), looks := false }, kinds := [], alts := [], laidByText := true, laidKinds := [.data, .data], laidTests := true, laidLooks := .later }
def PlanAllCardSaid : Prop := Claim7.holds Tryz.pinned (.plain (OpenSpec.ofChange planAllSpec)) planAllCard

/-- THE TIED CARD OF 'smaltolaw14.PlanTiles'. -/
def planTilesCard : Claim7 := { stood := { row := planTilesRow, standIns := [], harness := (true, "776c332f683fb342e0ea7dcc9d787803d2cc326592a347b20e931a80d368e824"), looks := false }, kinds := [], alts := [], laidByText := true, laidKinds := [.data, .data], laidTests := true, laidLooks := .later }
def PlanTilesCardSaid : Prop := Claim7.holds Tryz.pinned (.plain (OpenSpec.ofChange planTilesSpec)) planTilesCard

/-- THE TIED CARD OF 'smaltolaw14.PlanCovers'. -/
def planCoversCard : Claim7 := { stood := { row := planCoversRow, standIns := [], harness := (true, "776c332f683fb342e0ea7dcc9d787803d2cc326592a347b20e931a80d368e824"), looks := false }, kinds := [], alts := [], laidByText := true, laidKinds := [.data, .data], laidTests := true, laidLooks := .later }
def PlanCoversCardSaid : Prop := Claim7.holds Tryz.pinned (.plain (OpenSpec.ofChange planCoversSpec)) planCoversCard

/-- THE TIED CARD OF 'smaltolaw14.PlanReaches'. -/
def planReachesCard : Claim7 := { stood := { row := planReachesRow, standIns := [], harness := (true, "776c332f683fb342e0ea7dcc9d787803d2cc326592a347b20e931a80d368e824"), looks := false }, kinds := [], alts := [], laidByText := true, laidKinds := [.data, .data], laidTests := true, laidLooks := .later }
def PlanReachesCardSaid : Prop := Claim7.holds Tryz.pinned (.plain (OpenSpec.ofChange planReachesSpec)) planReachesCard

/-- THE TIED CARD OF 'smaltolaw14.PlanNone'. -/
def planNoneCard : Claim7 := { stood := { row := planNoneRow, standIns := [], harness := (true, "776c332f683fb342e0ea7dcc9d787803d2cc326592a347b20e931a80d368e824"), looks := false }, kinds := [], alts := [], laidByText := true, laidKinds := [.data, .data], laidTests := true, laidLooks := .later }
def PlanNoneCardSaid : Prop := Claim7.holds Tryz.pinned (.plain (OpenSpec.ofChange planNoneSpec)) planNoneCard

/-- THE SECOND FORM's CARD OF 'smaltolaw14.PlanAll'. -/
def planAllUptoCard : Claim7 := { stood := { row := planAllUptoRow, standIns := [], harness := (true, "776c332f683fb342e0ea7dcc9d787803d2cc326592a347b20e931a80d368e824"), looks := false }, kinds := [], alts := [], laidByText := true, laidKinds := [.data, .data], laidTests := true, laidLooks := .later }
def PlanAllUptoCardSaid : Prop := Claim7.holds Tryz.pinned (.plain (OpenSpec.upto planAllSpec)) planAllUptoCard

/-- THE SECOND FORM's CARD OF 'smaltolaw14.PlanTiles'. -/
def planTilesUptoCard : Claim7 := { stood := { row := planTilesUptoRow, standIns := [], harness := (true, "776c332f683fb342e0ea7dcc9d787803d2cc326592a347b20e931a80d368e824"), looks := false }, kinds := [], alts := [], laidByText := true, laidKinds := [.data, .data], laidTests := true, laidLooks := .later }
def PlanTilesUptoCardSaid : Prop := Claim7.holds Tryz.pinned (.plain (OpenSpec.upto planTilesSpec)) planTilesUptoCard

/-- THE SECOND FORM's CARD OF 'smaltolaw14.PlanCovers'. -/
def planCoversUptoCard : Claim7 := { stood := { row := planCoversUptoRow, standIns := [], harness := (true, "776c332f683fb342e0ea7dcc9d787803d2cc326592a347b20e931a80d368e824"), looks := false }, kinds := [], alts := [], laidByText := true, laidKinds := [.data, .data], laidTests := true, laidLooks := .later }
def PlanCoversUptoCardSaid : Prop := Claim7.holds Tryz.pinned (.plain (OpenSpec.upto planCoversSpec)) planCoversUptoCard

/-- THE SECOND FORM's CARD OF 'smaltolaw14.PlanReaches'. -/
def planReachesUptoCard : Claim7 := { stood := { row := planReachesUptoRow, standIns := [], harness := (true, "776c332f683fb342e0ea7dcc9d787803d2cc326592a347b20e931a80d368e824"), looks := false }, kinds := [], alts := [], laidByText := true, laidKinds := [.data, .data], laidTests := true, laidLooks := .later }
def PlanReachesUptoCardSaid : Prop := Claim7.holds Tryz.pinned (.plain (OpenSpec.upto planReachesSpec)) planReachesUptoCard

/-- THE SECOND FORM's CARD OF 'smaltolaw14.PlanNone'. -/
def planNoneUptoCard : Claim7 := { stood := { row := planNoneUptoRow, standIns := [], harness := (true, "776c332f683fb342e0ea7dcc9d787803d2cc326592a347b20e931a80d368e824"), looks := false }, kinds := [], alts := [], laidByText := true, laidKinds := [.data, .data], laidTests := true, laidLooks := .later }
def PlanNoneUptoCardSaid : Prop := Claim7.holds Tryz.pinned (.plain (OpenSpec.upto planNoneSpec)) planNoneUptoCard
end Rows
end Go.Proofs.YtdpkigdfhfippaaGreatDoor
