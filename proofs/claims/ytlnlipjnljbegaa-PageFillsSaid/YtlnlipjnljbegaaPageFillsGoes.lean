/- The law PageFills, walked over the program's own code. -/
import Derived.Test.YtlnlipjnljbegaaPageFillsWalk
import Derived.Test.YtlnlipjnljbegaaPages9
namespace Go.Proofs.Ytlnlipjnljbegaa.pageFills
open Go.RowKit Go.Maps ListMath PageMath GeoMath
set_option linter.unusedVariables false
theorem walk (w : World) (sz : Int) (hsw : (Lit.int .u8 sz).wf = true) (nn : Int) (hnw : (Lit.int .u8 nn).wf = true) (ct : Int) (hcw : (Lit.int .u8 ct).wf = true) :
    Calls Try.prog 4 #[.int .u8 sz, .int .u8 nn, .int .u8 ct] w fun e w' => e = .returned (.bool true) ∧ Below w.heap.size w w' := walk_of w (pgc w) sz hsw nn hnw ct hcw
end Go.Proofs.Ytlnlipjnljbegaa.pageFills
