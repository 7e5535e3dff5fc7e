/- The law GeoRuns, walked over the program's own code. -/
import Derived.Test.YtophomnbclgjfaaGeoRunsWalk
import Derived.Test.YtophomnbclgjfaaGeoE
namespace Go.Proofs.Ytophomnbclgjfaa.geoRuns
open Go.RowKit GeoMath
set_option linter.unusedVariables false
theorem walk (w : World) (f : Int) (h1 : (Lit.int .u64 f).wf = true) (s : Int) (h2 : (Lit.int .u64 s).wf = true) (n : Int) (h3 : (Lit.int .i64 n).wf = true) (i : Int) (h4 : (Lit.int .i64 i).wf = true) (a : Int) (h5 : (Lit.int .u64 a).wf = true) :
    Calls Try.prog 4 #[.agg #[.int .u64 f, .int .u64 s, .int .i64 n], .int .i64 i, .int .u64 a] w fun e w' => e = .returned (.bool true) ∧ Below w.heap.size w w' := walk_of w (ge w) f h1 s h2 n h3 i h4 a h5
end Go.Proofs.Ytophomnbclgjfaa.geoRuns
