/- The law ClassMore, walked over the program's own classes. -/
import Derived.Test.YthblggnjfmgonaaDoorClassMoreWalk
import Derived.Test.YthblggnjfmgonaaDoorClassD
namespace Go.Proofs.YthblggnjfmgonaaDoor.classMore
open Go.RowKit ClassMath
theorem walk (w : World) (L : Lay w) (n : Int) (h1 : (Lit.int .u32 n).wf = true) (mo : Int) (h2 : (Lit.int .u32 mo).wf = true) (bit : Int) (h3 : (Lit.int .u8 bit).wf = true) :
    Calls Tryd.prog 7 #[.int .u32 n, .int .u32 mo, .int .u8 bit] w fun e w' => e = .returned (.bool true) ∧ Below w.heap.size w w' := walk_of w (cl L) n h1 mo h2 bit h3
end Go.Proofs.YthblggnjfmgonaaDoor.classMore
