/- The law SegApart, walked over the program's own code. -/
import Derived.Test.YtomepdgddpajoaaDoorSegApartWalk
import Derived.Test.YtomepdgddpajoaaDoorSegs10
import Derived.Test.YtomepdgddpajoaaDoorLay
import Derived.Test.YtomepdgddpajoaaDoorGeoM
namespace Go.Proofs.YtomepdgddpajoaaDoor.segApart
open Go.RowKit ListMath PageMath GeoMath SegMath ClassMath
set_option linter.unusedVariables false
theorem walk (w : World) (L : Lay w) {a : Option Addr} {n cap : Nat} (len : Nat) (F : Nat → Nat → Value) (hr : Recs w (.slice a n cap) [.num .i64, .num .i64, .num .u64] len F) (m : Int) (h1 : (Lit.int .u16 m).wf = true) :
    Calls Tryd.prog 4 #[.slice a n cap, .int .u16 m] w fun e w' => e = .returned (.bool true) ∧ Below w.heap.size w w' := walk_of w (sgc w L) (gm w) len F hr m h1
end Go.Proofs.YtomepdgddpajoaaDoor.segApart
