/-
  DERIVED. GIVEN WITH THE SEED: THE CARDS: each row of YtmjeelnidiijdaaGreatDoorRows.lean that lists a variable, with what it lists TIED to the program's text (the seventh form; the later family's looks); each row that meets fmt, with fmt's text TOLD by the authors' own Lean function (tested against real Go, not proved from fmt's source: count such statements apart). THE CARD IS WHAT COUNTS. Prove the row's statement (the work); the ties are given (YtmjeelnidiijdaaGreatDoorTie.lean); close each card by the builder's one call (the guide's Derived/Test/ToyasCard.lean, 'card_holds'). Laid BY PROGRAM, IN A SANDBOX (cutbox-door.mjs). By AI agents, Wed Nov 11 2026. No macro, syntax, notation, axiom, sorry.
-/
import Derived.Test.YtmjeelnidiijdaaGreatDoorRows
import GoSem.ClaimSeven
namespace Go.Proofs.YtmjeelnidiijdaaGreatDoor
namespace Rows

/-- THE TIED CARD OF 'allotmentlaw12.HeapActs'. -/
def heapActsCard : Claim7 := { stood := { row := heapActsRow, standIns := [], harness := (true, "b26ceee48962085a3f410ac3eccca7c3657531c620198c186fbc394cd07b114c"), looks := false }, kinds := [], alts := [], laidByText := true, laidKinds := [.data], laidTests := true, laidLooks := .later }
def HeapActsCardSaid : Prop := Claim7.holds Tryz.pinned (.plain (OpenSpec.ofChange heapActsSpec)) heapActsCard

/-- THE TIED CARD OF 'allotmentlaw12.HeapApart'. -/
def heapApartCard : Claim7 := { stood := { row := heapApartRow, standIns := [], harness := (true, "b26ceee48962085a3f410ac3eccca7c3657531c620198c186fbc394cd07b114c"), looks := false }, kinds := [], alts := [], laidByText := true, laidKinds := [.data], laidTests := true, laidLooks := .later }
def HeapApartCardSaid : Prop := Claim7.holds Tryz.pinned (.plain (OpenSpec.ofChange heapApartSpec)) heapApartCard

/-- THE TIED CARD OF 'allotmentlaw12.HeapBack'. -/
def heapBackCard : Claim7 := { stood := { row := heapBackRow, standIns := [], harness := (true, "b26ceee48962085a3f410ac3eccca7c3657531c620198c186fbc394cd07b114c"), looks := false }, kinds := [], alts := [], laidByText := true, laidKinds := [.data], laidTests := true, laidLooks := .later }
def HeapBackCardSaid : Prop := Claim7.holds Tryz.pinned (.plain (OpenSpec.ofChange heapBackSpec)) heapBackCard

/-- THE SECOND FORM's CARD OF 'allotmentlaw12.HeapActs'. -/
def heapActsUptoCard : Claim7 := { stood := { row := heapActsUptoRow, standIns := [], harness := (true, "b26ceee48962085a3f410ac3eccca7c3657531c620198c186fbc394cd07b114c"), looks := false }, kinds := [], alts := [], laidByText := true, laidKinds := [.data], laidTests := true, laidLooks := .later }
def HeapActsUptoCardSaid : Prop := Claim7.holds Tryz.pinned (.plain (OpenSpec.upto heapActsSpec)) heapActsUptoCard

/-- THE SECOND FORM's CARD OF 'allotmentlaw12.HeapApart'. -/
def heapApartUptoCard : Claim7 := { stood := { row := heapApartUptoRow, standIns := [], harness := (true, "b26ceee48962085a3f410ac3eccca7c3657531c620198c186fbc394cd07b114c"), looks := false }, kinds := [], alts := [], laidByText := true, laidKinds := [.data], laidTests := true, laidLooks := .later }
def HeapApartUptoCardSaid : Prop := Claim7.holds Tryz.pinned (.plain (OpenSpec.upto heapApartSpec)) heapApartUptoCard

/-- THE SECOND FORM's CARD OF 'allotmentlaw12.HeapBack'. -/
def heapBackUptoCard : Claim7 := { stood := { row := heapBackUptoRow, standIns := [], harness := (true, "b26ceee48962085a3f410ac3eccca7c3657531c620198c186fbc394cd07b114c"), looks := false }, kinds := [], alts := [], laidByText := true, laidKinds := [.data], laidTests := true, laidLooks := .later }
def HeapBackUptoCardSaid : Prop := Claim7.holds Tryz.pinned (.plain (OpenSpec.upto heapBackSpec)) heapBackUptoCard
end Rows
end Go.Proofs.YtmjeelnidiijdaaGreatDoor
