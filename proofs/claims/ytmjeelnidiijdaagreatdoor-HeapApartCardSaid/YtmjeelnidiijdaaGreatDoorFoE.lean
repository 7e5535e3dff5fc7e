/- The landed classes, as layer 12's laws need them. -/
import Derived.Test.YtmjeelnidiijdaaGreatDoorClasses12
import Derived.Test.YtmjeelnidiijdaaGreatDoorFo
namespace Go.Proofs.YtmjeelnidiijdaaGreatDoor
open Go.RowKit ClassMath
set_option linter.unusedVariables false
theorem fo {w : World} (L : Lay w) : Fo w where
  for_ n a hn ha w' hb := by
    by_cases h : isAl a = true ∧ n ≤ 1048576
    · rw [forN_ok h.1 h.2]; exact for_good (L.below hb) n a h.1 h.2
    · rw [forN_bad h]; exact for_bad n a hn ha h
end Go.Proofs.YtmjeelnidiijdaaGreatDoor
