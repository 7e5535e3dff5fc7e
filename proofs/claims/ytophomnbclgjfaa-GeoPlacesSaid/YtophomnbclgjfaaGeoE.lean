/- The program's geo keeps what the laws of layer 6 need of it. -/
import Derived.Test.YtophomnbclgjfaaGeoD
namespace Go.Proofs.Ytophomnbclgjfaa
open Go.RowKit GeoMath
set_option linter.unusedVariables false
theorem ge (w : World) : Ge w where
  at_ a h := fun w' _ => code_at w' a h
  addr g l o h1 h2 h3 := fun w' _ => code_addr w' g l o h1 h2 h3
  block f s n i h1 h2 h3 h4 := fun w' _ => code_block w' f s n i h1 h2 h3 h4
  index f s n a h1 h2 h3 h4 := fun w' _ => code_index w' f s n a h1 h2 h3 h4
  end_ f s n h1 h2 h3 := fun w' _ => code_end w' f s n h1 h2 h3
  in_ f s n h1 h2 h3 w' _ a k cap l hl _ _ hk hb := code_in w' f s n h1 h2 h3 a k cap l hl hk hb
  meet w' _ a k cap l hl _ _ hk hb := code_meet w' a k cap l hl hk hb
end Go.Proofs.Ytophomnbclgjfaa
