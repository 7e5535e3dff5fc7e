/- The law CellActs, walked over the program's own code. -/
import Derived.Test.YtgfinibimdgkfaaCellActsWalk
import Derived.Test.YtgfinibimdgkfaaCell8
namespace Go.Proofs.Ytgfinibimdgkfaa.cellActs
open Go.RowKit
set_option linter.unusedVariables false
theorem walk (w : World) {a : Option Addr} {n cap : Nat} (len : Nat) (F : Nat → Nat → Value) (h : Recs w (.slice a n cap) [.num .i64, .num .u64, .num .u64] len F) :
    Calls Try.prog 3 #[.slice a n cap] w fun e w' => e = .returned (.bool true) ∧ Below w.heap.size w w' := walk_of w (ce w) len F h
end Go.Proofs.Ytgfinibimdgkfaa.cellActs
