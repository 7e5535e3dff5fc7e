/- The law ClassWaste, walked over the program's own classes. -/
import Derived.Test.YthblggnjfmgonaaDoorClassWasteWalk
import Derived.Test.YthblggnjfmgonaaDoorClassD
namespace Go.Proofs.YthblggnjfmgonaaDoor.classWaste
open Go.RowKit ClassMath
theorem walk (w : World) (L : Lay w) (n : Int) (h1 : (Lit.int .u32 n).wf = true) :
    Calls Tryd.prog 9 #[.int .u32 n] w fun e w' => e = .returned (.bool true) ∧ Below w.heap.size w w' := walk_of w (cl L) n h1
end Go.Proofs.YthblggnjfmgonaaDoor.classWaste
