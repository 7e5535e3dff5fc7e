/- The law SegOwners, walked over the program's own code. -/
import Derived.Test.YtomepdgddpajoaaDoorSegOwnersWalk
import Derived.Test.YtomepdgddpajoaaDoorSegs10
import Derived.Test.YtomepdgddpajoaaDoorLay
namespace Go.Proofs.YtomepdgddpajoaaDoor.segOwners
open Go.RowKit ListMath PageMath GeoMath SegMath ClassMath
set_option linter.unusedVariables false
theorem walk (w : World) (L : Lay w) (x : Int) (h1 : (Lit.int .u64 x).wf = true) (y : Int) (h2 : (Lit.int .u64 y).wf = true) :
    Calls Tryd.prog 7 #[.int .u64 x, .int .u64 y] w fun e w' => e = .returned (.bool true) ∧ Below w.heap.size w w' := walk_of w (sgc w L) x h1 y h2
end Go.Proofs.YtomepdgddpajoaaDoor.segOwners
