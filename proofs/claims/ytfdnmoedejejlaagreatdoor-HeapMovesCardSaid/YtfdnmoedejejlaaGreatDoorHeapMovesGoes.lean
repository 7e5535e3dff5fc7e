/- The law HeapMoves, walked over the program's own code. -/
import Derived.Test.YtfdnmoedejejlaaGreatDoorHeapMovesWalk
import Derived.Test.YtfdnmoedejejlaaGreatDoorSegs12
import Derived.Test.YtfdnmoedejejlaaGreatDoorHpsB
import Derived.Test.YtfdnmoedejejlaaGreatDoorFoE
import Derived.Test.YtfdnmoedejejlaaGreatDoorLay
namespace Go.Proofs.YtfdnmoedejejlaaGreatDoor.heapMoves
open Go.RowKit ListMath PageMath GeoMath SegMath ClassMath HeapMath QueueMath ArenaMath
set_option linter.unusedVariables false
theorem walk (w : World) (L : Lay w) {a : Option Addr} {n cap : Nat} (l : List Int) (hl : NumsAt w .u64 (.slice a n cap) l) :
    Calls Tryz.prog 6 #[.slice a n cap] w fun e w' => e = .returned (.bool true) ∧ Below w.heap.size w w' := walk_of w (hpc w L (sgc w L)) (fo L) l hl
end Go.Proofs.YtfdnmoedejejlaaGreatDoor.heapMoves
