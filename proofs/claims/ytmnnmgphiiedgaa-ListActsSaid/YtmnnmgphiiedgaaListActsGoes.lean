/- The law ListActs, walked over the program's own code. -/
import Derived.Test.YtmnnmgphiiedgaaListActsWalk
import Derived.Test.YtmnnmgphiiedgaaListJn
namespace Go.Proofs.Ytmnnmgphiiedgaa.listActs
open Go.RowKit ListMath
set_option linter.unusedVariables false
theorem walk (w : World) {a : Option Addr} {n cap : Nat} (len : Nat) (F : Nat → Nat → Value) (h : Recs w (.slice a n cap) [.num .i64, .num .i64, .num .i64, .nums .u64, .num .u64] len F) :
    Calls Try.prog 3 #[.slice a n cap] w fun e w' => e = .returned (.bool true) ∧ Below w.heap.size w w' := walk_of w (lig w) len F h
end Go.Proofs.Ytmnnmgphiiedgaa.listActs
