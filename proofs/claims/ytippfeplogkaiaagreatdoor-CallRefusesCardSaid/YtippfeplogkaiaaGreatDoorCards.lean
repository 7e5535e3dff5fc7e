/-
  DERIVED. GIVEN WITH THE SEED: THE CARDS: each row of YtippfeplogkaiaaGreatDoorRows.lean that lists a variable, with what it lists TIED to the program's text (the seventh form; the later family's looks); each row that meets fmt, with fmt's text TOLD by the authors' own Lean function (tested against real Go, not proved from fmt's source: count such statements apart). THE CARD IS WHAT COUNTS. Prove the row's statement (the work); the ties are given (YtippfeplogkaiaaGreatDoorTie.lean); close each card by the builder's one call (the guide's Derived/Test/ToyasCard.lean, 'card_holds'). Laid BY PROGRAM, IN A SANDBOX (cutbox-door.mjs). By AI agents, Wed Nov 11 2026. No macro, syntax, notation, axiom, sorry.
-/
import Derived.Test.YtippfeplogkaiaaGreatDoorRows
import GoSem.ClaimSeven
namespace Go.Proofs.YtippfeplogkaiaaGreatDoor
namespace Rows

/-- THE TIED CARD OF 'allotmentlaw14.CallSteps'. -/
def callStepsCard : Claim7 := { stood := { row := callStepsRow, standIns := [], harness := (true, "3b3214eca17435077ba8cc4b892c92c14d3ed277f3d4b743aa00edd4522eacb8"), looks := false }, kinds := [], alts := [], laidByText := true, laidKinds := [.data], laidTests := true, laidLooks := .later }
def CallStepsCardSaid : Prop := Claim7.holds Tryz.pinned (.plain (OpenSpec.ofChange callStepsSpec)) callStepsCard

/-- THE TIED CARD OF 'allotmentlaw14.CallApart'. -/
def callApartCard : Claim7 := { stood := { row := callApartRow, standIns := [], harness := (true, "3b3214eca17435077ba8cc4b892c92c14d3ed277f3d4b743aa00edd4522eacb8"), looks := false }, kinds := [], alts := [], laidByText := true, laidKinds := [.data], laidTests := true, laidLooks := .later }
def CallApartCardSaid : Prop := Claim7.holds Tryz.pinned (.plain (OpenSpec.ofChange callApartSpec)) callApartCard

/-- THE TIED CARD OF 'allotmentlaw14.CallBounds'. -/
def callBoundsCard : Claim7 := { stood := { row := callBoundsRow, standIns := [], harness := (true, "3b3214eca17435077ba8cc4b892c92c14d3ed277f3d4b743aa00edd4522eacb8"), looks := false }, kinds := [], alts := [], laidByText := true, laidKinds := [.data], laidTests := true, laidLooks := .later }
def CallBoundsCardSaid : Prop := Claim7.holds Tryz.pinned (.plain (OpenSpec.ofChange callBoundsSpec)) callBoundsCard

/-- THE TIED CARD OF 'allotmentlaw14.CallFull'. -/
def callFullCard : Claim7 := { stood := { row := callFullRow, standIns := [], harness := (true, "3b3214eca17435077ba8cc4b892c92c14d3ed277f3d4b743aa00edd4522eacb8"), looks := false }, kinds := [], alts := [], laidByText := true, laidKinds := [.data], laidTests := true, laidLooks := .later }
def CallFullCardSaid : Prop := Claim7.holds Tryz.pinned (.plain (OpenSpec.ofChange callFullSpec)) callFullCard

/-- THE TIED CARD OF 'allotmentlaw14.CallLeaks'. -/
def callLeaksCard : Claim7 := { stood := { row := callLeaksRow, standIns := [], harness := (true, "3b3214eca17435077ba8cc4b892c92c14d3ed277f3d4b743aa00edd4522eacb8"), looks := false }, kinds := [], alts := [], laidByText := true, laidKinds := [.data], laidTests := true, laidLooks := .later }
def CallLeaksCardSaid : Prop := Claim7.holds Tryz.pinned (.plain (OpenSpec.ofChange callLeaksSpec)) callLeaksCard

/-- THE TIED CARD OF 'allotmentlaw14.CallBack'. -/
def callBackCard : Claim7 := { stood := { row := callBackRow, standIns := [], harness := (true, "3b3214eca17435077ba8cc4b892c92c14d3ed277f3d4b743aa00edd4522eacb8"), looks := false }, kinds := [], alts := [], laidByText := true, laidKinds := [.data], laidTests := true, laidLooks := .later }
def CallBackCardSaid : Prop := Claim7.holds Tryz.pinned (.plain (OpenSpec.ofChange callBackSpec)) callBackCard

/-- THE TIED CARD OF 'allotmentlaw14.CallRefuses'. -/
def callRefusesCard : Claim7 := { stood := { row := callRefusesRow, standIns := [], harness := (true, "3b3214eca17435077ba8cc4b892c92c14d3ed277f3d4b743aa00edd4522eacb8"), looks := false }, kinds := [], alts := [], laidByText := true, laidKinds := [.data], laidTests := true, laidLooks := .later }
def CallRefusesCardSaid : Prop := Claim7.holds Tryz.pinned (.plain (OpenSpec.ofChange callRefusesSpec)) callRefusesCard

/-- THE SECOND FORM's CARD OF 'allotmentlaw14.CallSteps'. -/
def callStepsUptoCard : Claim7 := { stood := { row := callStepsUptoRow, standIns := [], harness := (true, "3b3214eca17435077ba8cc4b892c92c14d3ed277f3d4b743aa00edd4522eacb8"), looks := false }, kinds := [], alts := [], laidByText := true, laidKinds := [.data], laidTests := true, laidLooks := .later }
def CallStepsUptoCardSaid : Prop := Claim7.holds Tryz.pinned (.plain (OpenSpec.upto callStepsSpec)) callStepsUptoCard

/-- THE SECOND FORM's CARD OF 'allotmentlaw14.CallApart'. -/
def callApartUptoCard : Claim7 := { stood := { row := callApartUptoRow, standIns := [], harness := (true, "3b3214eca17435077ba8cc4b892c92c14d3ed277f3d4b743aa00edd4522eacb8"), looks := false }, kinds := [], alts := [], laidByText := true, laidKinds := [.data], laidTests := true, laidLooks := .later }
def CallApartUptoCardSaid : Prop := Claim7.holds Tryz.pinned (.plain (OpenSpec.upto callApartSpec)) callApartUptoCard

/-- THE SECOND FORM's CARD OF 'allotmentlaw14.CallBounds'. -/
def callBoundsUptoCard : Claim7 := { stood := { row := callBoundsUptoRow, standIns := [], harness := (true, "3b3214eca17435077ba8cc4b892c92c14d3ed277f3d4b743aa00edd4522eacb8"), looks := false }, kinds := [], alts := [], laidByText := true, laidKinds := [.data], laidTests := true, laidLooks := .later }
def CallBoundsUptoCardSaid : Prop := Claim7.holds Tryz.pinned (.plain (OpenSpec.upto callBoundsSpec)) callBoundsUptoCard

/-- THE SECOND FORM's CARD OF 'allotmentlaw14.CallFull'. -/
def callFullUptoCard : Claim7 := { stood := { row := callFullUptoRow, standIns := [], harness := (true, "3b3214eca17435077ba8cc4b892c92c14d3ed277f3d4b743aa00edd4522eacb8"), looks := false }, kinds := [], alts := [], laidByText := true, laidKinds := [.data], laidTests := true, laidLooks := .later }
def CallFullUptoCardSaid : Prop := Claim7.holds Tryz.pinned (.plain (OpenSpec.upto callFullSpec)) callFullUptoCard

/-- THE SECOND FORM's CARD OF 'allotmentlaw14.CallLeaks'. -/
def callLeaksUptoCard : Claim7 := { stood := { row := callLeaksUptoRow, standIns := [], harness := (true, "3b3214eca17435077ba8cc4b892c92c14d3ed277f3d4b743aa00edd4522eacb8"), looks := false }, kinds := [], alts := [], laidByText := true, laidKinds := [.data], laidTests := true, laidLooks := .later }
def CallLeaksUptoCardSaid : Prop := Claim7.holds Tryz.pinned (.plain (OpenSpec.upto callLeaksSpec)) callLeaksUptoCard

/-- THE SECOND FORM's CARD OF 'allotmentlaw14.CallBack'. -/
def callBackUptoCard : Claim7 := { stood := { row := callBackUptoRow, standIns := [], harness := (true, "3b3214eca17435077ba8cc4b892c92c14d3ed277f3d4b743aa00edd4522eacb8"), looks := false }, kinds := [], alts := [], laidByText := true, laidKinds := [.data], laidTests := true, laidLooks := .later }
def CallBackUptoCardSaid : Prop := Claim7.holds Tryz.pinned (.plain (OpenSpec.upto callBackSpec)) callBackUptoCard

/-- THE SECOND FORM's CARD OF 'allotmentlaw14.CallRefuses'. -/
def callRefusesUptoCard : Claim7 := { stood := { row := callRefusesUptoRow, standIns := [], harness := (true, "3b3214eca17435077ba8cc4b892c92c14d3ed277f3d4b743aa00edd4522eacb8"), looks := false }, kinds := [], alts := [], laidByText := true, laidKinds := [.data], laidTests := true, laidLooks := .later }
def CallRefusesUptoCardSaid : Prop := Claim7.holds Tryz.pinned (.plain (OpenSpec.upto callRefusesSpec)) callRefusesUptoCard
end Rows
end Go.Proofs.YtippfeplogkaiaaGreatDoor
