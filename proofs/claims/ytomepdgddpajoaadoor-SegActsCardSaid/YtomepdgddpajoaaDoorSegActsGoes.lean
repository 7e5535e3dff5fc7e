/- The law SegActs, walked over the program's own code. -/
import Derived.Test.YtomepdgddpajoaaDoorSegActsWalk
import Derived.Test.YtomepdgddpajoaaDoorSegs10
import Derived.Test.YtomepdgddpajoaaDoorLay
namespace Go.Proofs.YtomepdgddpajoaaDoor.segActs
open Go.RowKit ListMath PageMath GeoMath SegMath ClassMath
set_option linter.unusedVariables false
theorem walk (w : World) (L : Lay w) (place : Int) (h1 : (Lit.int .i64 place).wf = true) {a : Option Addr} {n cap : Nat} (len : Nat) (F : Nat → Nat → Value) (hr : Recs w (.slice a n cap) [.num .i64, .num .i64, .num .u64] len F) :
    Calls Tryd.prog 3 #[.int .i64 place, .slice a n cap] w fun e w' => e = .returned (.bool true) ∧ Below w.heap.size w w' := walk_of w (sgc w L) place h1 len F hr
end Go.Proofs.YtomepdgddpajoaaDoor.segActs
