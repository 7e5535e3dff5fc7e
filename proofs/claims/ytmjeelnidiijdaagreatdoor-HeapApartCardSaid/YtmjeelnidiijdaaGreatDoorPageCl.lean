/- What the laws of layer 9 need of the program's pages (to be proved of the code that landed): the state of a page is told by a predicate of the landed code's own. -/
import Derived.Test.YtmjeelnidiijdaaGreatDoorWheres12
import Derived.Test.YtmjeelnidiijdaaGreatDoorMems12
import Derived.Test.YtmjeelnidiijdaaGreatDoorGeos12
import Derived.Test.YtmjeelnidiijdaaGreatDoorPlaces
namespace Go.Proofs.YtmjeelnidiijdaaGreatDoor
open Go.RowKit ListMath PageMath GeoMath
set_option linter.unusedVariables false

/-! ### A page of a law's own -/
section
variable {pp p g nb : Nat} {O : Nat → Prop} {c : Addr} {L L' : List Nat} {S S' : PG} {w' w2 : World}
end
end Go.Proofs.YtmjeelnidiijdaaGreatDoor
