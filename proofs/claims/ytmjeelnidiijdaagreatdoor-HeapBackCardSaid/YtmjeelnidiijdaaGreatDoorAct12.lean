/- An act of layer 12's laws. -/
import Derived.Test.YtmjeelnidiijdaaGreatDoorElems
import Derived.Test.YtmjeelnidiijdaaGreatDoorRecs12
namespace Go.Proofs.YtmjeelnidiijdaaGreatDoor
open Go.RowKit
set_option linter.unusedVariables false
theorem cell_then {w w' : World} {a : Addr} {v : Value} (h : w.cell? a = some v) (hb : Below w.heap.size w w') : w'.cell? a = some v := (hb.cell (p := a) (World.block_lt_of_cell? w _ h)).trans h
end Go.Proofs.YtmjeelnidiijdaaGreatDoor
