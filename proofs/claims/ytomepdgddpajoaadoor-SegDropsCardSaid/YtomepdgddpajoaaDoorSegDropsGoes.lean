/- The law SegDrops, walked over the program's own code. -/
import Derived.Test.YtomepdgddpajoaaDoorSegDropsWalk
import Derived.Test.YtomepdgddpajoaaDoorSegs10
import Derived.Test.YtomepdgddpajoaaDoorLay
namespace Go.Proofs.YtomepdgddpajoaaDoor.segDrops
open Go.RowKit ListMath PageMath GeoMath SegMath ClassMath
set_option linter.unusedVariables false
theorem walk (w : World) (L : Lay w) {a : Option Addr} {n cap : Nat} (len : Nat) (F : Nat → Nat → Value) (hr : Recs w (.slice a n cap) [.num .i64, .num .i64, .num .u64] len F) (m : Int) (h1 : (Lit.int .u8 m).wf = true) :
    Calls Tryd.prog 5 #[.slice a n cap, .int .u8 m] w fun e w' => e = .returned (.bool true) ∧ Below w.heap.size w w' := walk_of w (sgc w L) len F hr m h1
end Go.Proofs.YtomepdgddpajoaaDoor.segDrops
