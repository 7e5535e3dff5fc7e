/- The law GeoApart, walked over the program's own code. -/
import Derived.Test.YtophomnbclgjfaaGeoApartWalk
import Derived.Test.YtophomnbclgjfaaGeoE
namespace Go.Proofs.Ytophomnbclgjfaa.geoApart
open Go.RowKit GeoMath
set_option linter.unusedVariables false
theorem walk (w : World) {a : Option Addr} {nn cap : Nat} (l : List Int) (h : NumsAt w .u8 (.slice a nn cap) l) (wh : Int) (h2 : (Lit.int .u8 wh).wf = true) (bk : Int) (h3 : (Lit.int .u8 bk).wf = true) :
    Calls Try.prog 8 #[.slice a nn cap, .int .u8 wh, .int .u8 bk] w fun e w' => e = .returned (.bool true) ∧ Below w.heap.size w w' := walk_of w (ge w) l h wh h2 bk h3
end Go.Proofs.Ytophomnbclgjfaa.geoApart
