/- The law ListUntouched, walked over the program's own code. -/
import Derived.Test.YtmnnmgphiiedgaaListUntouchedWalk
import Derived.Test.YtmnnmgphiiedgaaListJn
namespace Go.Proofs.Ytmnnmgphiiedgaa.listUntouched
open Go.RowKit Go.Maps ListMath
set_option linter.unusedVariables false
theorem walk (w : World) {a : Option Addr} {nn cap : Nat} (l : List Int) (h : NumsAt w .u8 (.slice a nn cap) l) (fl : Int) (hfw : (Lit.int .u8 fl).wf = true) :
    Calls Try.prog 8 #[.slice a nn cap, .int .u8 fl] w fun e w' => e = .returned (.bool true) ∧ Below w.heap.size w w' := walk_of w (li_of (lig w)) l h fl hfw
end Go.Proofs.Ytmnnmgphiiedgaa.listUntouched
