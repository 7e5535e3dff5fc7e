/- The law ClassPlans, walked over the program's own classes. -/
import Derived.Test.YthblggnjfmgonaaDoorClassPlansWalk
import Derived.Test.YthblggnjfmgonaaDoorClassD
namespace Go.Proofs.YthblggnjfmgonaaDoor.classPlans
open Go.RowKit ClassMath
theorem walk (w : World) (L : Lay w) (n : Int) (h1 : (Lit.int .u64 n).wf = true) (a : Int) (h2 : (Lit.int .u64 a).wf = true) :
    Calls Tryd.prog 4 #[.int .u64 n, .int .u64 a] w fun e w' => e = .returned (.bool true) ∧ Below w.heap.size w w' := walk_of w (cl L) n h1 a h2
end Go.Proofs.YthblggnjfmgonaaDoor.classPlans
