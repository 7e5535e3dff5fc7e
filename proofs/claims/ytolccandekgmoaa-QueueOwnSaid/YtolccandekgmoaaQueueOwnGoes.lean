/- The law QueueOwn, walked over the program's own code. -/
import Derived.Test.YtolccandekgmoaaQueueOwnWalk
import Derived.Test.YtolccandekgmoaaQuc
namespace Go.Proofs.Ytolccandekgmoaa.queueOwn
open Go.RowKit QueueMath
set_option linter.unusedVariables false
theorem walk (w : World) {a : Option Addr} {n cap : Nat} (l : List Int) (h : NumsAt w .i64 (.slice a n cap) l) :
    Calls Try.prog 7 #[.slice a n cap] w fun e w' => e = .returned (.bool true) ∧ Below w.heap.size w w' := walk_of w (quc w) l h
end Go.Proofs.Ytolccandekgmoaa.queueOwn
