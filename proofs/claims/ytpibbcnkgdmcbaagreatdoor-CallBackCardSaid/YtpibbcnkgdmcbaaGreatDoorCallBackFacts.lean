/- What the law CallBack's row says of the program, computed: in a text of its own, for the memory that it takes. -/
import Derived.Test.YtpibbcnkgdmcbaaGreatDoorRows
import Derived.JoinedOf
import Derived.ProofKit
namespace Go.Proofs.YtpibbcnkgdmcbaaGreatDoor.callBack
open Go.ChangeShapes Go.WideShapes Go.ChangeAt Go.RowKit
theorem facts:joinedFacts Tryz.pinned.checked.prog 3 Tryz.f3 Rows.callBackSpec Rows.callBackRow=true:=by kernel_rfl
end Go.Proofs.YtpibbcnkgdmcbaaGreatDoor.callBack
