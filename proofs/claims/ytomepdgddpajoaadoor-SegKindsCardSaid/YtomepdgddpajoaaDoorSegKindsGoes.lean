/- The law SegKinds, walked over the program's own code. -/
import Derived.Test.YtomepdgddpajoaaDoorSegKindsWalk
import Derived.Test.YtomepdgddpajoaaDoorSegs10
import Derived.Test.YtomepdgddpajoaaDoorLay
namespace Go.Proofs.YtomepdgddpajoaaDoor.segKinds
open Go.RowKit ListMath PageMath GeoMath SegMath ClassMath
set_option linter.unusedVariables false
theorem walk (w : World) (L : Lay w) (n : Int) (h1 : (Lit.int .u8 n).wf = true) (m : Int) (h2 : (Lit.int .u8 m).wf = true) :
    Calls Tryd.prog 9 #[.int .u8 n, .int .u8 m] w fun e w' => e = .returned (.bool true) ∧ Below w.heap.size w w' := walk_of w (sgc w L) (kn L) n h1 m h2
end Go.Proofs.YtomepdgddpajoaaDoor.segKinds
