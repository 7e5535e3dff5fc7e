/- The document's own geo (allotmentref06): At, Addr: contracts. -/
import Derived.Test.YtlnlipjnljbegaaAliveG
namespace Go.Proofs.Ytlnlipjnljbegaa
open Go.RowKit GeoMath
set_option linter.unusedVariables false

end Go.Proofs.Ytlnlipjnljbegaa
