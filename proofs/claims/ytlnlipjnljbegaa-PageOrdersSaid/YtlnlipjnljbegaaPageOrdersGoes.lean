/- The law PageOrders, walked over the program's own code. -/
import Derived.Test.YtlnlipjnljbegaaPageOrdersWalk
import Derived.Test.YtlnlipjnljbegaaPages9
namespace Go.Proofs.Ytlnlipjnljbegaa.pageOrders
open Go.RowKit ListMath PageMath GeoMath
set_option linter.unusedVariables false
theorem walk (w : World) (sz : Int) (hsw : (Lit.int .u8 sz).wf = true) (nn : Int) (hnw : (Lit.int .u8 nn).wf = true) {a : Option Addr} {m cap : Nat} (l : List Int) (h : NumsAt w .u8 (.slice a m cap) l) :
    Calls Try.prog 9 #[.int .u8 sz, .int .u8 nn, .slice a m cap] w fun e w' => e = .returned (.bool true) ∧ Below w.heap.size w w' := walk_of w (pgc w) sz hsw nn hnw l h
end Go.Proofs.Ytlnlipjnljbegaa.pageOrders
