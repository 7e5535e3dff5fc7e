/-
  DERIVED. GIVEN WITH THE SEED: THE CARDS: each row of YthblggnjfmgonaaDoorRows.lean that lists a variable, with what it lists TIED to the program's text (the seventh form; the later family's looks); each row that meets fmt, with fmt's text TOLD by the authors' own Lean function (tested against real Go, not proved from fmt's source: count such statements apart). THE CARD IS WHAT COUNTS. Prove the row's statement (the work); the ties are given (YthblggnjfmgonaaDoorTie.lean); close each card by the builder's one call (the guide's Derived/Test/ToyasCard.lean, 'card_holds'). Laid BY PROGRAM, IN A SANDBOX (cutbox-door.mjs). By AI agents, Wed Nov 11 2026. No macro, syntax, notation, axiom, sorry.
-/
import Derived.Test.YthblggnjfmgonaaDoorRows
import GoSem.ClaimSeven
namespace Go.Proofs.YthblggnjfmgonaaDoor
namespace Rows

/-- THE TIED CARD OF 'allotmentlaw05.ClassTables'. -/
def classTablesCard : Claim7 := { stood := { row := classTablesRow, standIns := [], harness := (true, "c3edd0b55498f8c30c6cfbafc12caaac92bbf7a2d457e74aa7547719cd1bf50d"), looks := false }, kinds := [], alts := [], laidByText := true, laidKinds := [.data], laidTests := true, laidLooks := .later }
def ClassTablesCardSaid : Prop := Claim7.holds Tryd.pinned (.plain (OpenSpec.ofChange classTablesSpec)) classTablesCard

/-- THE TIED CARD OF 'allotmentlaw05.ClassPlans'. -/
def classPlansCard : Claim7 := { stood := { row := classPlansRow, standIns := [], harness := (true, "c3edd0b55498f8c30c6cfbafc12caaac92bbf7a2d457e74aa7547719cd1bf50d"), looks := false }, kinds := [], alts := [], laidByText := true, laidKinds := [.data], laidTests := true, laidLooks := .later }
def ClassPlansCardSaid : Prop := Claim7.holds Tryd.pinned (.plain (OpenSpec.ofChange classPlansSpec)) classPlansCard

/-- THE TIED CARD OF 'allotmentlaw05.ClassEnough'. -/
def classEnoughCard : Claim7 := { stood := { row := classEnoughRow, standIns := [], harness := (true, "c3edd0b55498f8c30c6cfbafc12caaac92bbf7a2d457e74aa7547719cd1bf50d"), looks := false }, kinds := [], alts := [], laidByText := true, laidKinds := [.data], laidTests := true, laidLooks := .later }
def ClassEnoughCardSaid : Prop := Claim7.holds Tryd.pinned (.plain (OpenSpec.ofChange classEnoughSpec)) classEnoughCard

/-- THE TIED CARD OF 'allotmentlaw05.ClassFits'. -/
def classFitsCard : Claim7 := { stood := { row := classFitsRow, standIns := [], harness := (true, "c3edd0b55498f8c30c6cfbafc12caaac92bbf7a2d457e74aa7547719cd1bf50d"), looks := false }, kinds := [], alts := [], laidByText := true, laidKinds := [.data], laidTests := true, laidLooks := .later }
def ClassFitsCardSaid : Prop := Claim7.holds Tryd.pinned (.plain (OpenSpec.ofChange classFitsSpec)) classFitsCard

/-- THE TIED CARD OF 'allotmentlaw05.ClassMore'. -/
def classMoreCard : Claim7 := { stood := { row := classMoreRow, standIns := [], harness := (true, "c3edd0b55498f8c30c6cfbafc12caaac92bbf7a2d457e74aa7547719cd1bf50d"), looks := false }, kinds := [], alts := [], laidByText := true, laidKinds := [.data], laidTests := true, laidLooks := .later }
def ClassMoreCardSaid : Prop := Claim7.holds Tryd.pinned (.plain (OpenSpec.ofChange classMoreSpec)) classMoreCard

/-- THE TIED CARD OF 'allotmentlaw05.ClassRefuses'. -/
def classRefusesCard : Claim7 := { stood := { row := classRefusesRow, standIns := [], harness := (true, "c3edd0b55498f8c30c6cfbafc12caaac92bbf7a2d457e74aa7547719cd1bf50d"), looks := false }, kinds := [], alts := [], laidByText := true, laidKinds := [.data], laidTests := true, laidLooks := .later }
def ClassRefusesCardSaid : Prop := Claim7.holds Tryd.pinned (.plain (OpenSpec.ofChange classRefusesSpec)) classRefusesCard

/-- THE TIED CARD OF 'allotmentlaw05.ClassWaste'. -/
def classWasteCard : Claim7 := { stood := { row := classWasteRow, standIns := [], harness := (true, "c3edd0b55498f8c30c6cfbafc12caaac92bbf7a2d457e74aa7547719cd1bf50d"), looks := false }, kinds := [], alts := [], laidByText := true, laidKinds := [.data], laidTests := true, laidLooks := .later }
def ClassWasteCardSaid : Prop := Claim7.holds Tryd.pinned (.plain (OpenSpec.ofChange classWasteSpec)) classWasteCard

/-- THE SECOND FORM's CARD OF 'allotmentlaw05.ClassTables'. -/
def classTablesUptoCard : Claim7 := { stood := { row := classTablesUptoRow, standIns := [], harness := (true, "c3edd0b55498f8c30c6cfbafc12caaac92bbf7a2d457e74aa7547719cd1bf50d"), looks := false }, kinds := [], alts := [], laidByText := true, laidKinds := [.data], laidTests := true, laidLooks := .later }
def ClassTablesUptoCardSaid : Prop := Claim7.holds Tryd.pinned (.plain (OpenSpec.upto classTablesSpec)) classTablesUptoCard

/-- THE SECOND FORM's CARD OF 'allotmentlaw05.ClassPlans'. -/
def classPlansUptoCard : Claim7 := { stood := { row := classPlansUptoRow, standIns := [], harness := (true, "c3edd0b55498f8c30c6cfbafc12caaac92bbf7a2d457e74aa7547719cd1bf50d"), looks := false }, kinds := [], alts := [], laidByText := true, laidKinds := [.data], laidTests := true, laidLooks := .later }
def ClassPlansUptoCardSaid : Prop := Claim7.holds Tryd.pinned (.plain (OpenSpec.upto classPlansSpec)) classPlansUptoCard

/-- THE SECOND FORM's CARD OF 'allotmentlaw05.ClassEnough'. -/
def classEnoughUptoCard : Claim7 := { stood := { row := classEnoughUptoRow, standIns := [], harness := (true, "c3edd0b55498f8c30c6cfbafc12caaac92bbf7a2d457e74aa7547719cd1bf50d"), looks := false }, kinds := [], alts := [], laidByText := true, laidKinds := [.data], laidTests := true, laidLooks := .later }
def ClassEnoughUptoCardSaid : Prop := Claim7.holds Tryd.pinned (.plain (OpenSpec.upto classEnoughSpec)) classEnoughUptoCard

/-- THE SECOND FORM's CARD OF 'allotmentlaw05.ClassFits'. -/
def classFitsUptoCard : Claim7 := { stood := { row := classFitsUptoRow, standIns := [], harness := (true, "c3edd0b55498f8c30c6cfbafc12caaac92bbf7a2d457e74aa7547719cd1bf50d"), looks := false }, kinds := [], alts := [], laidByText := true, laidKinds := [.data], laidTests := true, laidLooks := .later }
def ClassFitsUptoCardSaid : Prop := Claim7.holds Tryd.pinned (.plain (OpenSpec.upto classFitsSpec)) classFitsUptoCard

/-- THE SECOND FORM's CARD OF 'allotmentlaw05.ClassMore'. -/
def classMoreUptoCard : Claim7 := { stood := { row := classMoreUptoRow, standIns := [], harness := (true, "c3edd0b55498f8c30c6cfbafc12caaac92bbf7a2d457e74aa7547719cd1bf50d"), looks := false }, kinds := [], alts := [], laidByText := true, laidKinds := [.data], laidTests := true, laidLooks := .later }
def ClassMoreUptoCardSaid : Prop := Claim7.holds Tryd.pinned (.plain (OpenSpec.upto classMoreSpec)) classMoreUptoCard

/-- THE SECOND FORM's CARD OF 'allotmentlaw05.ClassRefuses'. -/
def classRefusesUptoCard : Claim7 := { stood := { row := classRefusesUptoRow, standIns := [], harness := (true, "c3edd0b55498f8c30c6cfbafc12caaac92bbf7a2d457e74aa7547719cd1bf50d"), looks := false }, kinds := [], alts := [], laidByText := true, laidKinds := [.data], laidTests := true, laidLooks := .later }
def ClassRefusesUptoCardSaid : Prop := Claim7.holds Tryd.pinned (.plain (OpenSpec.upto classRefusesSpec)) classRefusesUptoCard

/-- THE SECOND FORM's CARD OF 'allotmentlaw05.ClassWaste'. -/
def classWasteUptoCard : Claim7 := { stood := { row := classWasteUptoRow, standIns := [], harness := (true, "c3edd0b55498f8c30c6cfbafc12caaac92bbf7a2d457e74aa7547719cd1bf50d"), looks := false }, kinds := [], alts := [], laidByText := true, laidKinds := [.data], laidTests := true, laidLooks := .later }
def ClassWasteUptoCardSaid : Prop := Claim7.holds Tryd.pinned (.plain (OpenSpec.upto classWasteSpec)) classWasteUptoCard
end Rows
end Go.Proofs.YthblggnjfmgonaaDoor
