/- The landed Meet keeps what the law SegApart needs. -/
import Derived.Test.YtomepdgddpajoaaDoorGm
import Derived.Test.YtomepdgddpajoaaDoorSorts10
namespace Go.Proofs.YtomepdgddpajoaaDoor
open Go.RowKit GeoMath
theorem gm (w0 : World) : Gm w0 := ⟨fun w _ a k cap l hq _ _ hk hb => code_meet w a k cap l hq hk hb⟩
end Go.Proofs.YtomepdgddpajoaaDoor
