/- The law QueueEmpties, walked over the program's own code. -/
import Derived.Test.YtolccandekgmoaaQueueEmptiesWalk
import Derived.Test.YtolccandekgmoaaQuc
namespace Go.Proofs.Ytolccandekgmoaa.queueEmpties
open Go.RowKit QueueMath
set_option linter.unusedVariables false
theorem walk (w : World) {a : Option Addr} {n cap : Nat} (len : Nat) (F : Nat → Nat → Value) (hr : Recs w (.slice a n cap) [.num .i64, .num .i64, .nums .i64] len F) (hf : Fits F len) :
    Calls Try.prog 8 #[.slice a n cap] w fun e w' => e = .returned (.bool true) ∧ Below w.heap.size w w' := walk_of w (quc w) len F hr hf
end Go.Proofs.Ytolccandekgmoaa.queueEmpties
