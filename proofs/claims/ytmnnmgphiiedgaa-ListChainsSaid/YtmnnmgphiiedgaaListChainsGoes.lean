/- The law ListChains, walked over the program's own code. -/
import Derived.Test.YtmnnmgphiiedgaaListChainsWalk
import Derived.Test.YtmnnmgphiiedgaaListJn
namespace Go.Proofs.Ytmnnmgphiiedgaa.listChains
open Go.RowKit ListMath
set_option linter.unusedVariables false
theorem walk (w : World) {a : Option Addr} {nn cap : Nat} (l : List Int) (h : NumsAt w .u8 (.slice a nn cap) l) (fr : Int) (hfw : (Lit.int .u8 fr).wf = true) :
    Calls Try.prog 6 #[.slice a nn cap, .int .u8 fr] w fun e w' => e = .returned (.bool true) ∧ Below w.heap.size w w' := walk_of w (li_of (lig w)) l h fr hfw
end Go.Proofs.Ytmnnmgphiiedgaa.listChains
