/- The law GeoMeets, walked over the program's own code. -/
import Derived.Test.YtophomnbclgjfaaGeoMeetsWalk
import Derived.Test.YtophomnbclgjfaaGeoE
namespace Go.Proofs.Ytophomnbclgjfaa.geoMeets
open Go.RowKit GeoMath
set_option linter.unusedVariables false
theorem walk (w : World) {a : Option Addr} {nn cap : Nat} (len : Nat) (F : Nat → Nat → Value) (h : Recs w (.slice a nn cap) [.num .u64, .num .u64, .num .i64] len F) :
    Calls Try.prog 5 #[.slice a nn cap] w fun e w' => e = .returned (.bool true) ∧ Below w.heap.size w w' := walk_of w (ge w) len F h
end Go.Proofs.Ytophomnbclgjfaa.geoMeets
