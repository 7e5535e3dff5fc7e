/- The law PageActs, walked over the program's own code. -/
import Derived.Test.YtlnlipjnljbegaaPageActsWalk
import Derived.Test.YtlnlipjnljbegaaPages9
namespace Go.Proofs.Ytlnlipjnljbegaa.pageActs
open Go.RowKit Go.Maps ListMath PageMath GeoMath
set_option linter.unusedVariables false
theorem walk (w : World) (f : Int) (h1 : (Lit.int .u64 f).wf = true) (s : Int) (h2 : (Lit.int .u64 s).wf = true) (n : Int) (h3 : (Lit.int .i64 n).wf = true) {a : Option Addr} {k cap : Nat} (len : Nat) (F : Nat → Nat → Value) (h : Recs w (.slice a k cap) [.num .i64, .num .i64, .num .u64] len F) :
    Calls Try.prog 3 #[.agg #[.int .u64 f, .int .u64 s, .int .i64 n], .slice a k cap] w fun e w' => e = .returned (.bool true) ∧ Below w.heap.size w w' := walk_of w (pgc w) f h1 s h2 n h3 len F h
end Go.Proofs.Ytlnlipjnljbegaa.pageActs
