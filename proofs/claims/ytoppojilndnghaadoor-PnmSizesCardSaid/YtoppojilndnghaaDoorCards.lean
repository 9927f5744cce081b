/-
  DERIVED. GIVEN WITH THE SEED: THE CARDS: each row of YtoppojilndnghaaDoorRows.lean that lists a variable, with what it lists TIED to the program's text (the seventh form; the later family's looks); each row that meets fmt, with fmt's text TOLD by the authors' own Lean function (tested against real Go, not proved from fmt's source: count such statements apart). THE CARD IS WHAT COUNTS. Prove the row's statement (the work); the ties are given (YtoppojilndnghaaDoorTie.lean); close each card by the builder's one call (the guide's Derived/Test/ToyasCard.lean, 'card_holds'). Laid BY PROGRAM, IN A SANDBOX (cutbox-door.mjs). By AI agents, Wed Nov 11 2026. No macro, syntax, notation, axiom, sorry.
-/
import Derived.Test.YtoppojilndnghaaDoorRows
import GoSem.ClaimSeven
namespace Go.Proofs.YtoppojilndnghaaDoor
namespace Rows

/-- THE TIED CARD OF 'smaltolaw11.PnmDecodes'. -/
def pnmDecodesCard : Claim7 := { stood := { row := pnmDecodesRow, standIns := [], harness := (true, "5f1a2a3273575cf3980a2554e3b229ffae1e6737a84561b223fcf5cdfb5452a2"), looks := false }, kinds := [], alts := [], laidByText := true, laidKinds := [.data, .data, .data], laidTests := true, laidLooks := .later }
def PnmDecodesCardSaid : Prop := Claim7.holds Tryd.pinned (.plain (OpenSpec.ofChange pnmDecodesSpec)) pnmDecodesCard

/-- THE TIED CARD OF 'smaltolaw11.PnmBack'. -/
def pnmBackCard : Claim7 := { stood := { row := pnmBackRow, standIns := [], harness := (true, "5f1a2a3273575cf3980a2554e3b229ffae1e6737a84561b223fcf5cdfb5452a2"), looks := false }, kinds := [], alts := [], laidByText := true, laidKinds := [.data, .data, .data], laidTests := true, laidLooks := .later }
def PnmBackCardSaid : Prop := Claim7.holds Tryd.pinned (.plain (OpenSpec.ofChange pnmBackSpec)) pnmBackCard

/-- THE TIED CARD OF 'smaltolaw11.PnmCuts'. -/
def pnmCutsCard : Claim7 := { stood := { row := pnmCutsRow, standIns := [], harness := (true, "5f1a2a3273575cf3980a2554e3b229ffae1e6737a84561b223fcf5cdfb5452a2"), looks := false }, kinds := [], alts := [], laidByText := true, laidKinds := [.data, .data, .data], laidTests := true, laidLooks := .later }
def PnmCutsCardSaid : Prop := Claim7.holds Tryd.pinned (.plain (OpenSpec.ofChange pnmCutsSpec)) pnmCutsCard

/-- THE TIED CARD OF 'smaltolaw11.PnmSamples'. -/
def pnmSamplesCard : Claim7 := { stood := { row := pnmSamplesRow, standIns := [], harness := (true, "5f1a2a3273575cf3980a2554e3b229ffae1e6737a84561b223fcf5cdfb5452a2"), looks := false }, kinds := [], alts := [], laidByText := true, laidKinds := [.data, .data, .data], laidTests := true, laidLooks := .later }
def PnmSamplesCardSaid : Prop := Claim7.holds Tryd.pinned (.plain (OpenSpec.ofChange pnmSamplesSpec)) pnmSamplesCard

/-- THE TIED CARD OF 'smaltolaw11.PnmSizes'. -/
def pnmSizesCard : Claim7 := { stood := { row := pnmSizesRow, standIns := [], harness := (true, "5f1a2a3273575cf3980a2554e3b229ffae1e6737a84561b223fcf5cdfb5452a2"), looks := false }, kinds := [], alts := [], laidByText := true, laidKinds := [.data, .data, .data], laidTests := true, laidLooks := .later }
def PnmSizesCardSaid : Prop := Claim7.holds Tryd.pinned (.plain (OpenSpec.ofChange pnmSizesSpec)) pnmSizesCard

/-- THE SECOND FORM's CARD OF 'smaltolaw11.PnmDecodes'. -/
def pnmDecodesUptoCard : Claim7 := { stood := { row := pnmDecodesUptoRow, standIns := [], harness := (true, "5f1a2a3273575cf3980a2554e3b229ffae1e6737a84561b223fcf5cdfb5452a2"), looks := false }, kinds := [], alts := [], laidByText := true, laidKinds := [.data, .data, .data], laidTests := true, laidLooks := .later }
def PnmDecodesUptoCardSaid : Prop := Claim7.holds Tryd.pinned (.plain (OpenSpec.upto pnmDecodesSpec)) pnmDecodesUptoCard

/-- THE SECOND FORM's CARD OF 'smaltolaw11.PnmBack'. -/
def pnmBackUptoCard : Claim7 := { stood := { row := pnmBackUptoRow, standIns := [], harness := (true, "5f1a2a3273575cf3980a2554e3b229ffae1e6737a84561b223fcf5cdfb5452a2"), looks := false }, kinds := [], alts := [], laidByText := true, laidKinds := [.data, .data, .data], laidTests := true, laidLooks := .later }
def PnmBackUptoCardSaid : Prop := Claim7.holds Tryd.pinned (.plain (OpenSpec.upto pnmBackSpec)) pnmBackUptoCard

/-- THE SECOND FORM's CARD OF 'smaltolaw11.PnmCuts'. -/
def pnmCutsUptoCard : Claim7 := { stood := { row := pnmCutsUptoRow, standIns := [], harness := (true, "5f1a2a3273575cf3980a2554e3b229ffae1e6737a84561b223fcf5cdfb5452a2"), looks := false }, kinds := [], alts := [], laidByText := true, laidKinds := [.data, .data, .data], laidTests := true, laidLooks := .later }
def PnmCutsUptoCardSaid : Prop := Claim7.holds Tryd.pinned (.plain (OpenSpec.upto pnmCutsSpec)) pnmCutsUptoCard

/-- THE SECOND FORM's CARD OF 'smaltolaw11.PnmSamples'. -/
def pnmSamplesUptoCard : Claim7 := { stood := { row := pnmSamplesUptoRow, standIns := [], harness := (true, "5f1a2a3273575cf3980a2554e3b229ffae1e6737a84561b223fcf5cdfb5452a2"), looks := false }, kinds := [], alts := [], laidByText := true, laidKinds := [.data, .data, .data], laidTests := true, laidLooks := .later }
def PnmSamplesUptoCardSaid : Prop := Claim7.holds Tryd.pinned (.plain (OpenSpec.upto pnmSamplesSpec)) pnmSamplesUptoCard

/-- THE SECOND FORM's CARD OF 'smaltolaw11.PnmSizes'. -/
def pnmSizesUptoCard : Claim7 := { stood := { row := pnmSizesUptoRow, standIns := [], harness := (true, "5f1a2a3273575cf3980a2554e3b229ffae1e6737a84561b223fcf5cdfb5452a2"), looks := false }, kinds := [], alts := [], laidByText := true, laidKinds := [.data, .data, .data], laidTests := true, laidLooks := .later }
def PnmSizesUptoCardSaid : Prop := Claim7.holds Tryd.pinned (.plain (OpenSpec.upto pnmSizesSpec)) pnmSizesUptoCard
end Rows
end Go.Proofs.YtoppojilndnghaaDoor
