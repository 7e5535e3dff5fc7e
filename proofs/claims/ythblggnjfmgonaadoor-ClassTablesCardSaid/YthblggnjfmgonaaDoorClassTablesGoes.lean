/- The law ClassTables, walked over the program's own classes. -/
import Derived.Test.YthblggnjfmgonaaDoorClassTablesWalk
import Derived.Test.YthblggnjfmgonaaDoorClassE
namespace Go.Proofs.YthblggnjfmgonaaDoor.classTables
open Go.RowKit ClassMath
theorem walk (w : World) (L : Lay w) (c : Int) (h1 : (Lit.int .i64 c).wf = true) (n : Int) (h2 : (Lit.int .u64 n).wf = true) {a : Option Addr} {nn cap : Nat} (l : List Int) (h : NumsAt w .i64 (.slice a nn cap) l) :
    Calls Tryd.prog 3 #[.int .i64 c, .int .u64 n, .slice a nn cap] w fun e w' => e = .returned (.bool true) ∧ Below w.heap.size w w' := walk_of w (cl L) (all_any L) c h1 n h2 l h
end Go.Proofs.YthblggnjfmgonaaDoor.classTables
