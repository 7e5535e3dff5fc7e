/- An act of layer 12's laws. -/
import Derived.Test.YtpibbcnkgdmcbaaGreatDoorElems
import Derived.Test.YtpibbcnkgdmcbaaGreatDoorRecs12
set_option linter.unusedVariables false
namespace Go.Proofs.YtpibbcnkgdmcbaaGreatDoor
open Go.RowKit
theorem iM {w w':World} {a:Addr} {v:Value} (h:w.cell? a=some v) (hb:Below w.heap.size w w'):w'.cell? a=some v:=(hb.cell (p:=a) (World.block_lt_of_cell? w _ h)).trans h
end Go.Proofs.YtpibbcnkgdmcbaaGreatDoor
