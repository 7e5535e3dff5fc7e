/- The law ClassFits, walked over the program's own classes. -/
import Derived.Test.YthblggnjfmgonaaDoorClassFitsWalk
import Derived.Test.YthblggnjfmgonaaDoorClassD
namespace Go.Proofs.YthblggnjfmgonaaDoor.classFits
open Go.RowKit ClassMath
theorem walk (w : World) (L : Lay w) (c : Int) (h1 : (Lit.int .u8 c).wf = true) :
    Calls Tryd.prog 6 #[.int .u8 c] w fun e w' => e = .returned (.bool true) ∧ Below w.heap.size w w' := walk_of w (cl L) c h1
end Go.Proofs.YthblggnjfmgonaaDoor.classFits
