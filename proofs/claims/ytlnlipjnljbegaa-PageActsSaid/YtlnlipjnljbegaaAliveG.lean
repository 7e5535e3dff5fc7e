/- The laws' 'alive' of layer 6. -/
import Derived.Test.YtlnlipjnljbegaaGeoCl
namespace Go.Proofs.Ytlnlipjnljbegaa
open Go.RowKit GeoMath
set_option linter.unusedVariables false

end Go.Proofs.Ytlnlipjnljbegaa
