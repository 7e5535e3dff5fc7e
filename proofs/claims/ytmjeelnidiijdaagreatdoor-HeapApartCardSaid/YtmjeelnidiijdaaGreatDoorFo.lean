/- What the laws of layer 12 need of the program's classes. -/
import Derived.Test.YtmjeelnidiijdaaGreatDoorElems
import Derived.Test.YtmjeelnidiijdaaGreatDoorClassMath
import Derived.Test.YtmjeelnidiijdaaGreatDoorClasses12
namespace Go.Proofs.YtmjeelnidiijdaaGreatDoor
open Go.RowKit ClassMath
set_option linter.unusedVariables false
structure Fo (w0 : World) : Prop where
  for_ : ∀ n a : Nat, n ≤ 18446744073709551615 → a ≤ 18446744073709551615 → MadeBy w0 27 #[.int .u64 (n : Int), .int .u64 (a : Int)] (.tuple #[plV (forN n a).1, .int .i64 (forN n a).2])
end Go.Proofs.YtmjeelnidiijdaaGreatDoor
