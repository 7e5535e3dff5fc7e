/- The document's own Same (allotmentref07): two rows of numbers compared: contract. -/
import Derived.Test.YtomepdgddpajoaaDoorElems
namespace Go.Proofs.YtomepdgddpajoaaDoor
open Go.RowKit
set_option linter.unusedVariables false
end Go.Proofs.YtomepdgddpajoaaDoor
