/- The law GeoBlocks, walked over the program's own code. -/
import Derived.Test.YtophomnbclgjfaaGeoBlocksWalk
import Derived.Test.YtophomnbclgjfaaGeoE
namespace Go.Proofs.Ytophomnbclgjfaa.geoBlocks
open Go.RowKit GeoMath
set_option linter.unusedVariables false
theorem walk (w : World) (n : Int) (h1 : (Lit.int .u32 n).wf = true) (sz : Int) (h2 : (Lit.int .u8 sz).wf = true) (m : Int) (h3 : (Lit.int .u8 m).wf = true) (of : Int) (h4 : (Lit.int .u8 of).wf = true) :
    Calls Try.prog 7 #[.agg #[.int .u32 n, .int .u8 sz, .int .u8 m, .int .u8 of]] w fun e w' => e = .returned (.bool true) ∧ Below w.heap.size w w' := walk_of w (ge w) n h1 sz h2 m h3 of h4
end Go.Proofs.Ytophomnbclgjfaa.geoBlocks
