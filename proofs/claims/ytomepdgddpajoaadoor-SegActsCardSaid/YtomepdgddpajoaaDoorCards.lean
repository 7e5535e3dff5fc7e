/-
  DERIVED. GIVEN WITH THE SEED: THE CARDS: each row of YtomepdgddpajoaaDoorRows.lean that lists a variable, with what it lists TIED to the program's text (the seventh form; the later family's looks); each row that meets fmt, with fmt's text TOLD by the authors' own Lean function (tested against real Go, not proved from fmt's source: count such statements apart). THE CARD IS WHAT COUNTS. Prove the row's statement (the work); the ties are given (YtomepdgddpajoaaDoorTie.lean); close each card by the builder's one call (the guide's Derived/Test/ToyasCard.lean, 'card_holds'). Laid BY PROGRAM, IN A SANDBOX (cutbox-door.mjs). By AI agents, Wed Nov 11 2026. No macro, syntax, notation, axiom, sorry.
-/
import Derived.Test.YtomepdgddpajoaaDoorRows
import GoSem.ClaimSeven
namespace Go.Proofs.YtomepdgddpajoaaDoor
namespace Rows

/-- THE TIED CARD OF 'allotmentlaw10.SegActs'. -/
def segActsCard : Claim7 := { stood := { row := segActsRow, standIns := [], harness := (true, "6a20fd51ebbec142a593e50a11c92bf134829a2b4c7629fa14e3664417ba2fc1"), looks := false }, kinds := [], alts := [], laidByText := true, laidKinds := [.data], laidTests := true, laidLooks := .later }
def SegActsCardSaid : Prop := Claim7.holds Tryd.pinned (.plain (OpenSpec.ofChange segActsSpec)) segActsCard

/-- THE TIED CARD OF 'allotmentlaw10.SegApart'. -/
def segApartCard : Claim7 := { stood := { row := segApartRow, standIns := [], harness := (true, "6a20fd51ebbec142a593e50a11c92bf134829a2b4c7629fa14e3664417ba2fc1"), looks := false }, kinds := [], alts := [], laidByText := true, laidKinds := [.data], laidTests := true, laidLooks := .later }
def SegApartCardSaid : Prop := Claim7.holds Tryd.pinned (.plain (OpenSpec.ofChange segApartSpec)) segApartCard

/-- THE TIED CARD OF 'allotmentlaw10.SegDrops'. -/
def segDropsCard : Claim7 := { stood := { row := segDropsRow, standIns := [], harness := (true, "6a20fd51ebbec142a593e50a11c92bf134829a2b4c7629fa14e3664417ba2fc1"), looks := false }, kinds := [], alts := [], laidByText := true, laidKinds := [.data], laidTests := true, laidLooks := .later }
def SegDropsCardSaid : Prop := Claim7.holds Tryd.pinned (.plain (OpenSpec.ofChange segDropsSpec)) segDropsCard

/-- THE TIED CARD OF 'allotmentlaw10.SegFills'. -/
def segFillsCard : Claim7 := { stood := { row := segFillsRow, standIns := [], harness := (true, "6a20fd51ebbec142a593e50a11c92bf134829a2b4c7629fa14e3664417ba2fc1"), looks := false }, kinds := [], alts := [], laidByText := true, laidKinds := [.data], laidTests := true, laidLooks := .later }
def SegFillsCardSaid : Prop := Claim7.holds Tryd.pinned (.plain (OpenSpec.ofChange segFillsSpec)) segFillsCard

/-- THE TIED CARD OF 'allotmentlaw10.SegOwners'. -/
def segOwnersCard : Claim7 := { stood := { row := segOwnersRow, standIns := [], harness := (true, "6a20fd51ebbec142a593e50a11c92bf134829a2b4c7629fa14e3664417ba2fc1"), looks := false }, kinds := [], alts := [], laidByText := true, laidKinds := [.data], laidTests := true, laidLooks := .later }
def SegOwnersCardSaid : Prop := Claim7.holds Tryd.pinned (.plain (OpenSpec.ofChange segOwnersSpec)) segOwnersCard

/-- THE TIED CARD OF 'allotmentlaw10.SegWrites'. -/
def segWritesCard : Claim7 := { stood := { row := segWritesRow, standIns := [], harness := (true, "6a20fd51ebbec142a593e50a11c92bf134829a2b4c7629fa14e3664417ba2fc1"), looks := false }, kinds := [], alts := [], laidByText := true, laidKinds := [.data], laidTests := true, laidLooks := .later }
def SegWritesCardSaid : Prop := Claim7.holds Tryd.pinned (.plain (OpenSpec.ofChange segWritesSpec)) segWritesCard

/-- THE TIED CARD OF 'allotmentlaw10.SegKinds'. -/
def segKindsCard : Claim7 := { stood := { row := segKindsRow, standIns := [], harness := (true, "6a20fd51ebbec142a593e50a11c92bf134829a2b4c7629fa14e3664417ba2fc1"), looks := false }, kinds := [], alts := [], laidByText := true, laidKinds := [.data], laidTests := true, laidLooks := .later }
def SegKindsCardSaid : Prop := Claim7.holds Tryd.pinned (.plain (OpenSpec.ofChange segKindsSpec)) segKindsCard

/-- THE SECOND FORM's CARD OF 'allotmentlaw10.SegActs'. -/
def segActsUptoCard : Claim7 := { stood := { row := segActsUptoRow, standIns := [], harness := (true, "6a20fd51ebbec142a593e50a11c92bf134829a2b4c7629fa14e3664417ba2fc1"), looks := false }, kinds := [], alts := [], laidByText := true, laidKinds := [.data], laidTests := true, laidLooks := .later }
def SegActsUptoCardSaid : Prop := Claim7.holds Tryd.pinned (.plain (OpenSpec.upto segActsSpec)) segActsUptoCard

/-- THE SECOND FORM's CARD OF 'allotmentlaw10.SegApart'. -/
def segApartUptoCard : Claim7 := { stood := { row := segApartUptoRow, standIns := [], harness := (true, "6a20fd51ebbec142a593e50a11c92bf134829a2b4c7629fa14e3664417ba2fc1"), looks := false }, kinds := [], alts := [], laidByText := true, laidKinds := [.data], laidTests := true, laidLooks := .later }
def SegApartUptoCardSaid : Prop := Claim7.holds Tryd.pinned (.plain (OpenSpec.upto segApartSpec)) segApartUptoCard

/-- THE SECOND FORM's CARD OF 'allotmentlaw10.SegDrops'. -/
def segDropsUptoCard : Claim7 := { stood := { row := segDropsUptoRow, standIns := [], harness := (true, "6a20fd51ebbec142a593e50a11c92bf134829a2b4c7629fa14e3664417ba2fc1"), looks := false }, kinds := [], alts := [], laidByText := true, laidKinds := [.data], laidTests := true, laidLooks := .later }
def SegDropsUptoCardSaid : Prop := Claim7.holds Tryd.pinned (.plain (OpenSpec.upto segDropsSpec)) segDropsUptoCard

/-- THE SECOND FORM's CARD OF 'allotmentlaw10.SegFills'. -/
def segFillsUptoCard : Claim7 := { stood := { row := segFillsUptoRow, standIns := [], harness := (true, "6a20fd51ebbec142a593e50a11c92bf134829a2b4c7629fa14e3664417ba2fc1"), looks := false }, kinds := [], alts := [], laidByText := true, laidKinds := [.data], laidTests := true, laidLooks := .later }
def SegFillsUptoCardSaid : Prop := Claim7.holds Tryd.pinned (.plain (OpenSpec.upto segFillsSpec)) segFillsUptoCard

/-- THE SECOND FORM's CARD OF 'allotmentlaw10.SegOwners'. -/
def segOwnersUptoCard : Claim7 := { stood := { row := segOwnersUptoRow, standIns := [], harness := (true, "6a20fd51ebbec142a593e50a11c92bf134829a2b4c7629fa14e3664417ba2fc1"), looks := false }, kinds := [], alts := [], laidByText := true, laidKinds := [.data], laidTests := true, laidLooks := .later }
def SegOwnersUptoCardSaid : Prop := Claim7.holds Tryd.pinned (.plain (OpenSpec.upto segOwnersSpec)) segOwnersUptoCard

/-- THE SECOND FORM's CARD OF 'allotmentlaw10.SegWrites'. -/
def segWritesUptoCard : Claim7 := { stood := { row := segWritesUptoRow, standIns := [], harness := (true, "6a20fd51ebbec142a593e50a11c92bf134829a2b4c7629fa14e3664417ba2fc1"), looks := false }, kinds := [], alts := [], laidByText := true, laidKinds := [.data], laidTests := true, laidLooks := .later }
def SegWritesUptoCardSaid : Prop := Claim7.holds Tryd.pinned (.plain (OpenSpec.upto segWritesSpec)) segWritesUptoCard

/-- THE SECOND FORM's CARD OF 'allotmentlaw10.SegKinds'. -/
def segKindsUptoCard : Claim7 := { stood := { row := segKindsUptoRow, standIns := [], harness := (true, "6a20fd51ebbec142a593e50a11c92bf134829a2b4c7629fa14e3664417ba2fc1"), looks := false }, kinds := [], alts := [], laidByText := true, laidKinds := [.data], laidTests := true, laidLooks := .later }
def SegKindsUptoCardSaid : Prop := Claim7.holds Tryd.pinned (.plain (OpenSpec.upto segKindsSpec)) segKindsUptoCard
end Rows
end Go.Proofs.YtomepdgddpajoaaDoor
