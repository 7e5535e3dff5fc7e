/- What the laws of layer 9 need of the program's pages (to be proved of the code that landed): the state of a page is told by a predicate of the landed code's own. -/
import Derived.Test.YtpibbcnkgdmcbaaGreatDoorWheres12
import Derived.Test.YtpibbcnkgdmcbaaGreatDoorMems12
import Derived.Test.YtpibbcnkgdmcbaaGreatDoorGeos12
import Derived.Test.YtpibbcnkgdmcbaaGreatDoorPlaces
set_option linter.unusedVariables false
namespace Go.Proofs.YtpibbcnkgdmcbaaGreatDoor
open Go.RowKit aC aF aG
section
variable {pp p g nb:Nat} {O:Nat→Prop} {c:Addr} {L L':List Nat} {S S':PG} {w' w2:World}
end
end Go.Proofs.YtpibbcnkgdmcbaaGreatDoor
