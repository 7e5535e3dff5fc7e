/- The law GeoPlaces, walked over the program's own code. -/
import Derived.Test.YtophomnbclgjfaaGeoPlacesWalk
import Derived.Test.YtophomnbclgjfaaGeoE
namespace Go.Proofs.Ytophomnbclgjfaa.geoPlaces
open Go.RowKit GeoMath
set_option linter.unusedVariables false
theorem walk (w : World) (a : Int) (h1 : (Lit.int .u64 a).wf = true) (g : Int) (h2 : (Lit.int .i64 g).wf = true) (l : Int) (h3 : (Lit.int .i64 l).wf = true) (o : Int) (h4 : (Lit.int .u64 o).wf = true) :
    Calls Try.prog 3 #[.int .u64 a, .agg #[.int .i64 g, .int .i64 l, .int .u64 o]] w fun e w' => e = .returned (.bool true) ∧ Below w.heap.size w w' := walk_of w (ge w) a h1 g h2 l h3 o h4
end Go.Proofs.Ytophomnbclgjfaa.geoPlaces
