/- The law ListJoins, walked over the program's own code. -/
import Derived.Test.YtmnnmgphiiedgaaListJoinsWalk
import Derived.Test.YtmnnmgphiiedgaaListJn
namespace Go.Proofs.Ytmnnmgphiiedgaa.listJoins
open Go.RowKit ListMath
set_option linter.unusedVariables false
theorem walk (w : World) {a : Option Addr} {nn cap : Nat} (l : List Int) (h : NumsAt w .u8 (.slice a nn cap) l) (cut : Int) (hcw : (Lit.int .u8 cut).wf = true) :
    Calls Try.prog 5 #[.slice a nn cap, .int .u8 cut] w fun e w' => e = .returned (.bool true) ∧ Below w.heap.size w w' := walk_of w (li_of (lig w)) l h cut hcw
end Go.Proofs.Ytmnnmgphiiedgaa.listJoins
