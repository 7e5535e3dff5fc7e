/- What the laws of layer 9 need of the program's pages (to be proved of the code that landed): the state of a page is told by a predicate of the landed code's own. -/
import Derived.Test.YtippfeplogkaiaaGreatDoorWheres12
import Derived.Test.YtippfeplogkaiaaGreatDoorMems12
import Derived.Test.YtippfeplogkaiaaGreatDoorGeos12
import Derived.Test.YtippfeplogkaiaaGreatDoorPlaces
namespace Go.Proofs.YtippfeplogkaiaaGreatDoor
open Go.RowKit ListMath PageMath GeoMath
set_option linter.unusedVariables false
section
variable {pp p g nb:Nat} {O:Nat→Prop} {c:Addr} {L L':List Nat} {S S':PG} {w' w2:World}
end
end Go.Proofs.YtippfeplogkaiaaGreatDoor
