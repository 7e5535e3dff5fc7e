/- The law HeapBack, walked over the program's own code. -/
import Derived.Test.YtmjeelnidiijdaaGreatDoorHeapBackWalk
import Derived.Test.YtmjeelnidiijdaaGreatDoorSegs12
import Derived.Test.YtmjeelnidiijdaaGreatDoorHpsB
import Derived.Test.YtmjeelnidiijdaaGreatDoorFoE
import Derived.Test.YtmjeelnidiijdaaGreatDoorLay
namespace Go.Proofs.YtmjeelnidiijdaaGreatDoor.heapBack
open Go.RowKit ListMath PageMath GeoMath SegMath ClassMath HeapMath QueueMath ArenaMath
set_option linter.unusedVariables false
theorem walk (w : World) (L : Lay w) {a : Option Addr} {n cap : Nat} (l : List Int) (hl : NumsAt w .u64 (.slice a n cap) l) {ap : Option Addr} {np capp : Nat} (fl : List Bool) (hf : FlagsAt w (.slice ap np capp) fl) :
    Calls Tryz.prog 5 #[.slice a n cap, .slice ap np capp] w fun e w' => e = .returned (.bool true) ∧ Below w.heap.size w w' := walk_of w (hpc w L (sgc w L)) (fo L) l hl fl hf
end Go.Proofs.YtmjeelnidiijdaaGreatDoor.heapBack
