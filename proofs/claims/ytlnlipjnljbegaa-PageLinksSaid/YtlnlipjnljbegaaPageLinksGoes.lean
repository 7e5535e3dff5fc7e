/- The law PageLinks, walked over the program's own code. -/
import Derived.Test.YtlnlipjnljbegaaPageLinksWalk
import Derived.Test.YtlnlipjnljbegaaPages9
namespace Go.Proofs.Ytlnlipjnljbegaa.pageLinks
open Go.RowKit ListMath PageMath GeoMath
set_option linter.unusedVariables false
theorem walk (w : World) (sz : Int) (hsw : (Lit.int .u8 sz).wf = true) (xx : Int) (hxw : (Lit.int .u64 xx).wf = true) :
    Calls Try.prog 8 #[.int .u8 sz, .int .u64 xx] w fun e w' => e = .returned (.bool true) ∧ Below w.heap.size w w' := walk_of w (pgc w) sz hsw xx hxw
end Go.Proofs.Ytlnlipjnljbegaa.pageLinks
