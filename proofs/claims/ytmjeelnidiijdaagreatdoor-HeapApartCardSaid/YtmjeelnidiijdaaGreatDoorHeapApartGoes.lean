/- The law HeapApart, walked over the program's own code. -/
import Derived.Test.YtmjeelnidiijdaaGreatDoorHeapApartWalk
import Derived.Test.YtmjeelnidiijdaaGreatDoorSegs12
import Derived.Test.YtmjeelnidiijdaaGreatDoorHpsB
import Derived.Test.YtmjeelnidiijdaaGreatDoorFoE
import Derived.Test.YtmjeelnidiijdaaGreatDoorLay
namespace Go.Proofs.YtmjeelnidiijdaaGreatDoor.heapApart
open Go.RowKit ListMath PageMath GeoMath SegMath ClassMath HeapMath QueueMath ArenaMath
set_option linter.unusedVariables false
theorem walk (w : World) (L : Lay w) {a : Option Addr} {n cap : Nat} (len : Nat) (G : Nat → Nat → Value) (hr : Recs w (.slice a n cap) [.num .i64, .num .i64, .num .i64, .num .i64, .num .u64] len G) :
    Calls Tryz.prog 4 #[.slice a n cap] w fun e w' => e = .returned (.bool true) ∧ Below w.heap.size w w' := walk_of w (hpc w L (sgc w L)) (fo L) len G hr
end Go.Proofs.YtmjeelnidiijdaaGreatDoor.heapApart
