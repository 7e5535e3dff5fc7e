/- The law SegFills, walked over the program's own code. -/
import Derived.Test.YtomepdgddpajoaaDoorSegFillsWalk
import Derived.Test.YtomepdgddpajoaaDoorSegs10
import Derived.Test.YtomepdgddpajoaaDoorLay
namespace Go.Proofs.YtomepdgddpajoaaDoor.segFills
open Go.RowKit ListMath PageMath GeoMath SegMath ClassMath
set_option linter.unusedVariables false
theorem walk (w : World) (L : Lay w) (n : Int) (h1 : (Lit.int .u8 n).wf = true) :
    Calls Tryd.prog 6 #[.int .u8 n] w fun e w' => e = .returned (.bool true) ∧ Below w.heap.size w w' := walk_of w (sgc w L) n h1
end Go.Proofs.YtomepdgddpajoaaDoor.segFills
