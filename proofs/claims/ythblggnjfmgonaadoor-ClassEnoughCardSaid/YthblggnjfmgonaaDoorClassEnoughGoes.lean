/- The law ClassEnough, walked over the program's own classes. -/
import Derived.Test.YthblggnjfmgonaaDoorClassEnoughWalk
import Derived.Test.YthblggnjfmgonaaDoorClassD
namespace Go.Proofs.YthblggnjfmgonaaDoor.classEnough
open Go.RowKit ClassMath
theorem walk (w : World) (L : Lay w) (n : Int) (h1 : (Lit.int .u32 n).wf = true) (bit : Int) (h3 : (Lit.int .u8 bit).wf = true) :
    Calls Tryd.prog 5 #[.int .u32 n, .int .u8 bit] w fun e w' => e = .returned (.bool true) ∧ Below w.heap.size w w' := walk_of w (cl L) n h1 bit h3
end Go.Proofs.YthblggnjfmgonaaDoor.classEnough
