/- The law ListCounts, walked over the program's own code. -/
import Derived.Test.YtmnnmgphiiedgaaListCountsWalk
import Derived.Test.YtmnnmgphiiedgaaListJn
namespace Go.Proofs.Ytmnnmgphiiedgaa.listCounts
open Go.RowKit ListMath
set_option linter.unusedVariables false
theorem walk (w : World) {a : Option Addr} {nn cap : Nat} (l : List Int) (h : NumsAt w .u8 (.slice a nn cap) l) {pa : Option Addr} {pn pcap : Nat} (pl : List Bool) (hp : FlagsAt w (.slice pa pn pcap) pl) :
    Calls Try.prog 9 #[.slice a nn cap, .slice pa pn pcap] w fun e w' => e = .returned (.bool true) ∧ Below w.heap.size w w' := walk_of w (li_of (lig w)) l h pl hp
end Go.Proofs.Ytmnnmgphiiedgaa.listCounts
