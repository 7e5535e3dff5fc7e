/- The law CellFirst, walked over the program's own code. -/
import Derived.Test.YtgfinibimdgkfaaCellFirstWalk
import Derived.Test.YtgfinibimdgkfaaCell8
namespace Go.Proofs.Ytgfinibimdgkfaa.cellFirst
open Go.RowKit
set_option linter.unusedVariables false
theorem walk (w : World) (f : Int) (hf : (Lit.int .u64 f).wf = true) {a : Option Addr} {nn cap : Nat} (l : List Int) (h : NumsAt w .u64 (.slice a nn cap) l) (back : Bool) :
    Calls Try.prog 4 #[.int .u64 f, .slice a nn cap, .bool back] w fun e w' => e = .returned (.bool true) ∧ Below w.heap.size w w' := walk_of w (ce w) f hf l h back
end Go.Proofs.Ytgfinibimdgkfaa.cellFirst
