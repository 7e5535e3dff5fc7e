/- The law PageAdds, walked over the program's own code. -/
import Derived.Test.YtlnlipjnljbegaaPageAddsWalk
import Derived.Test.YtlnlipjnljbegaaPages9
namespace Go.Proofs.Ytlnlipjnljbegaa.pageAdds
open Go.RowKit Go.Maps ListMath PageMath GeoMath
set_option linter.unusedVariables false
theorem walk (w : World) (sz : Int) (hsw : (Lit.int .u8 sz).wf = true) (nn : Int) (hnw : (Lit.int .u8 nn).wf = true) {a : Option Addr} {n cap : Nat} (len : Nat) (F : Nat → Nat → Value) (h : Recs w (.slice a n cap) [.num .i64, .num .i64, .num .u64] len F) :
    Calls Try.prog 6 #[.int .u8 sz, .int .u8 nn, .slice a n cap] w fun e w' => e = .returned (.bool true) ∧ Below w.heap.size w w' := by
  obtain ⟨rfl, _, _⟩ := h.len
  exact walk_of w (pgc w) sz hsw nn hnw F h
end Go.Proofs.Ytlnlipjnljbegaa.pageAdds
