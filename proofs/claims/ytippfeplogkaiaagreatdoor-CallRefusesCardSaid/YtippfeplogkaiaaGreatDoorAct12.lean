/- An act of layer 12's laws. -/
import Derived.Test.YtippfeplogkaiaaGreatDoorElems
import Derived.Test.YtippfeplogkaiaaGreatDoorRecs12
namespace Go.Proofs.YtippfeplogkaiaaGreatDoor
open Go.RowKit
set_option linter.unusedVariables false
theorem cell_then {w w':World} {a:Addr} {v:Value} (h:w.cell? a=some v) (hb:Below w.heap.size w w'):w'.cell? a=some v:=(hb.cell (p:=a) (World.block_lt_of_cell? w _ h)).trans h
end Go.Proofs.YtippfeplogkaiaaGreatDoor
