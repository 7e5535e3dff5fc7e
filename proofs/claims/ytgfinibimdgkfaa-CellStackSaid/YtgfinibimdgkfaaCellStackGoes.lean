/- The law CellStack, walked over the program's own code. -/
import Derived.Test.YtgfinibimdgkfaaCellStackWalk
import Derived.Test.YtgfinibimdgkfaaCell8
namespace Go.Proofs.Ytgfinibimdgkfaa.cellStack
open Go.RowKit
set_option linter.unusedVariables false
theorem walk (w : World) {a : Option Addr} {n cap : Nat} (l : List Bool) (h : FlagsAt w (.slice a n cap) l) (k : Int) (hk : (Lit.int .u8 k).wf = true) :
    Calls Try.prog 6 #[.slice a n cap, .int .u8 k] w fun e w' => e = .returned (.bool true) ∧ Below w.heap.size w w' := walk_of w (ce w) l h k hk
end Go.Proofs.Ytgfinibimdgkfaa.cellStack
