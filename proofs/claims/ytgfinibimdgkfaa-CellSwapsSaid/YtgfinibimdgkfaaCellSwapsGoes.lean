/- The law CellSwaps, walked over the program's own code. -/
import Derived.Test.YtgfinibimdgkfaaCellSwapsWalk
import Derived.Test.YtgfinibimdgkfaaCell8
namespace Go.Proofs.Ytgfinibimdgkfaa.cellSwaps
open Go.RowKit
set_option linter.unusedVariables false
theorem walk (w : World) {a : Option Addr} {nn cap : Nat} (l : List Int) (h : NumsAt w .u64 (.slice a nn cap) l) :
    Calls Try.prog 7 #[.slice a nn cap] w fun e w' => e = .returned (.bool true) ∧ Below w.heap.size w w' := walk_of w (ce w) l h
end Go.Proofs.Ytgfinibimdgkfaa.cellSwaps
