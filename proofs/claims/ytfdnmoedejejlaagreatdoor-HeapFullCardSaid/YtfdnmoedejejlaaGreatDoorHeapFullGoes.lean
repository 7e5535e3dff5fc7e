/- The law HeapFull, walked over the program's own code. -/
import Derived.Test.YtfdnmoedejejlaaGreatDoorHeapFullWalk
import Derived.Test.YtfdnmoedejejlaaGreatDoorSegs12
import Derived.Test.YtfdnmoedejejlaaGreatDoorHpsB
import Derived.Test.YtfdnmoedejejlaaGreatDoorFoE
import Derived.Test.YtfdnmoedejejlaaGreatDoorLay
namespace Go.Proofs.YtfdnmoedejejlaaGreatDoor.heapFull
open Go.RowKit ListMath PageMath GeoMath SegMath ClassMath HeapMath QueueMath ArenaMath
set_option linter.unusedVariables false
theorem walk (w : World) (L : Lay w) (n : Int) (h1 : (Lit.int .u8 n).wf = true) (m : Int) (h2 : (Lit.int .u16 m).wf = true) :
    Calls Tryz.prog 7 #[.int .u8 n, .int .u16 m] w fun e w' => e = .returned (.bool true) ∧ Below w.heap.size w w' := walk_of w (hpc w L (sgc w L)) (fo L) (kn L) n h1 m h2
end Go.Proofs.YtfdnmoedejejlaaGreatDoor.heapFull
