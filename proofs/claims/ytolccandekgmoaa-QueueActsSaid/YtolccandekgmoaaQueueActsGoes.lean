/- The law QueueActs, walked over the program's own code. -/
import Derived.Test.YtolccandekgmoaaQueueActsWalk
import Derived.Test.YtolccandekgmoaaQuc
import Derived.Test.YtolccandekgmoaaRefQ11d
namespace Go.Proofs.Ytolccandekgmoaa.queueActs
open Go.RowKit QueueMath
set_option linter.unusedVariables false
theorem walk (w : World) {a : Option Addr} {n cap : Nat} (len : Nat) (F : Nat → Nat → Value) (hr : Recs w (.slice a n cap) [.num .i64, .num .i64, .nums .i64] len F) (hf : Fits F len) {ah : Option Addr} {nh ch : Nat} (has : List Int) (hh : NumsAt w .i64 (.slice ah nh ch) has) :
    Calls Try.prog 3 #[.slice a n cap, .slice ah nh ch] w fun e w' => e = .returned (.bool true) ∧ Below w.heap.size w w' := walk_of w (quc w) ⟨rq_fill, rq_wake⟩ len F hr hf has hh
end Go.Proofs.Ytolccandekgmoaa.queueActs
