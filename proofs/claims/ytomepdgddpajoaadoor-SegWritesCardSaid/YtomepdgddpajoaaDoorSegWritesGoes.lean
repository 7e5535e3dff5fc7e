/- The law SegWrites, walked over the program's own code. -/
import Derived.Test.YtomepdgddpajoaaDoorSegWritesWalk
import Derived.Test.YtomepdgddpajoaaDoorSegs10
import Derived.Test.YtomepdgddpajoaaDoorLay
namespace Go.Proofs.YtomepdgddpajoaaDoor.segWrites
open Go.RowKit ListMath PageMath GeoMath SegMath ClassMath
set_option linter.unusedVariables false
theorem walk (w : World) (L : Lay w) {a : Option Addr} {n cap : Nat} (len : Nat) (F : Nat → Nat → Value) (hr : Recs w (.slice a n cap) [.num .i64, .num .i64, .num .u64] len F) (m : Int) (h1 : (Lit.int .u8 m).wf = true) (fb : Int) (h2 : (Lit.int .u8 fb).wf = true) :
    Calls Tryd.prog 8 #[.slice a n cap, .int .u8 m, .int .u8 fb] w fun e w' => e = .returned (.bool true) ∧ Below w.heap.size w w' := walk_of w (sgc w L) len F hr m h1 fb h2
end Go.Proofs.YtomepdgddpajoaaDoor.segWrites
