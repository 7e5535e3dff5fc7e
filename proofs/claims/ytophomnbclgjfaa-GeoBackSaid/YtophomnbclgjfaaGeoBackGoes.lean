/- The law GeoBack, walked over the program's own code. -/
import Derived.Test.YtophomnbclgjfaaGeoBackWalk
import Derived.Test.YtophomnbclgjfaaGeoE
namespace Go.Proofs.Ytophomnbclgjfaa.geoBack
open Go.RowKit GeoMath
set_option linter.unusedVariables false
theorem walk (w : World) (n : Int) (h1 : (Lit.int .u32 n).wf = true) (sg : Int) (h2 : (Lit.int .u8 sg).wf = true) (sl : Int) (h3 : (Lit.int .u8 sl).wf = true) (of : Int) (h4 : (Lit.int .u16 of).wf = true) :
    Calls Try.prog 6 #[.agg #[.int .u32 n, .int .u8 sg, .int .u8 sl, .int .u16 of]] w fun e w' => e = .returned (.bool true) ∧ Below w.heap.size w w' := walk_of w (ge w) n h1 sg h2 sl h3 of h4
end Go.Proofs.Ytophomnbclgjfaa.geoBack
