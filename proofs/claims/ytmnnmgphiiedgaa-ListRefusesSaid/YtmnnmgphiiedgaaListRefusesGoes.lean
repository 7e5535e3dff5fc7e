/- The law ListRefuses, walked over the program's own code. -/
import Derived.Test.YtmnnmgphiiedgaaListRefusesWalk
import Derived.Test.YtmnnmgphiiedgaaListJn
namespace Go.Proofs.Ytmnnmgphiiedgaa.listRefuses
open Go.RowKit ListMath
set_option linter.unusedVariables false
theorem walk (w : World) {a : Option Addr} {nn cap : Nat} (l : List Int) (h : NumsAt w .u8 (.slice a nn cap) l) (bad : Int) (hbw : (Lit.int .u64 bad).wf = true) {ma : Option Addr} {mn mcap : Nat} (ml : List Int) (hml : NumsAt w .u8 (.slice ma mn mcap) ml) :
    Calls Try.prog 7 #[.slice a nn cap, .int .u64 bad, .slice ma mn mcap] w fun e w' => e = .returned (.bool true) ∧ Below w.heap.size w w' := walk_of w (li_of (lig w)) l h bad hbw ml hml
end Go.Proofs.Ytmnnmgphiiedgaa.listRefuses
