/- The law ListOrders, walked over the program's own code. -/
import Derived.Test.YtmnnmgphiiedgaaListOrdersWalk
import Derived.Test.YtmnnmgphiiedgaaListJn
namespace Go.Proofs.Ytmnnmgphiiedgaa.listOrders
open Go.RowKit ListMath
set_option linter.unusedVariables false
theorem walk (w : World) {a : Option Addr} {nn cap : Nat} (l : List Int) (h : NumsAt w .u8 (.slice a nn cap) l) :
    Calls Try.prog 4 #[.slice a nn cap] w fun e w' => e = .returned (.bool true) ∧ Below w.heap.size w w' := walk_of w (li_of (lig w)) l h
end Go.Proofs.Ytmnnmgphiiedgaa.listOrders
