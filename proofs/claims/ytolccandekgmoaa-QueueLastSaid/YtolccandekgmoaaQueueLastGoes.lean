/- The law QueueLast, walked over the program's own code. -/
import Derived.Test.YtolccandekgmoaaQueueLastWalk
import Derived.Test.YtolccandekgmoaaQuc
namespace Go.Proofs.Ytolccandekgmoaa.queueLast
open Go.RowKit QueueMath
set_option linter.unusedVariables false
theorem walk (w : World) {a : Option Addr} {n cap : Nat} (len : Nat) (F : Nat → Nat → Value) (hr : Recs w (.slice a n cap) [.num .i64, .num .i64, .nums .i64] len F) (hf : Fits F len) (x : Int) (h1 : (Lit.int .i64 x).wf = true) :
    Calls Try.prog 5 #[.slice a n cap, .int .i64 x] w fun e w' => e = .returned (.bool true) ∧ Below w.heap.size w w' := walk_of w (quc w) len F hr hf x h1
end Go.Proofs.Ytolccandekgmoaa.queueLast
