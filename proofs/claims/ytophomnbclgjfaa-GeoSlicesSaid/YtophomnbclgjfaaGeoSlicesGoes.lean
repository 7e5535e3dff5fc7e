/- The law GeoSlices, walked over the program's own code. -/
import Derived.Test.YtophomnbclgjfaaGeoSlicesWalk
import Derived.Test.YtophomnbclgjfaaGeoE
namespace Go.Proofs.Ytophomnbclgjfaa.geoSlices
open Go.RowKit GeoMath
set_option linter.unusedVariables false
theorem walk (w : World) (sg : Int) (h1 : (Lit.int .u8 sg).wf = true) (of : Int) (h2 : (Lit.int .u16 of).wf = true) :
    Calls Try.prog 9 #[.int .u8 sg, .int .u16 of] w fun e w' => e = .returned (.bool true) ∧ Below w.heap.size w w' := walk_of w (ge w) sg h1 of h2
end Go.Proofs.Ytophomnbclgjfaa.geoSlices
