/- What the law SegApart needs of layer 6's Meet. -/
import Derived.Test.YtomepdgddpajoaaDoorGeoCl
namespace Go.Proofs.YtomepdgddpajoaaDoor
open Go.RowKit GeoMath
set_option linter.unusedVariables false
structure Gm (w0 : World) : Prop where
  meet : ∀ w, Below w0.heap.size w0 w → ∀ (a : Option Addr) (k cap : Nat) (l : List Rn), Seq Elem.runs w (.slice a k cap) l → k ≤ cap → cap ≤ 9223372036854775807 → k ≤ 300 → (∀ x ∈ l, RnB x) →
    Calls Tryd.prog 33 #[.slice a k cap] w fun e w' => e = .returned (.bool (meetN l)) ∧ Below w.heap.size w w'
end Go.Proofs.YtomepdgddpajoaaDoor
