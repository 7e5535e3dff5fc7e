/- The law PagePosts, walked over the program's own code. -/
import Derived.Test.YtlnlipjnljbegaaPagePostsWalk
import Derived.Test.YtlnlipjnljbegaaPages9
namespace Go.Proofs.Ytlnlipjnljbegaa.pagePosts
open Go.RowKit ListMath PageMath GeoMath
set_option linter.unusedVariables false
theorem walk (w : World) {a : Option Addr} {n cap : Nat} (l : List Bool) (h : FlagsAt w (.slice a n cap) l) (sz : Int) (hsw : (Lit.int .u8 sz).wf = true) :
    Calls Try.prog 7 #[.slice a n cap, .int .u8 sz] w fun e w' => e = .returned (.bool true) ∧ Below w.heap.size w w' := walk_of w (pgc w) l h sz hsw
end Go.Proofs.Ytlnlipjnljbegaa.pagePosts
