/- What the laws of layer 10 need of the program's classes. -/
import Derived.Test.YtpibbcnkgdmcbaaGreatDoorElems
import Derived.Test.YtpibbcnkgdmcbaaGreatDoorClassMath
set_option linter.unusedVariables false
namespace Go.Proofs.YtpibbcnkgdmcbaaGreatDoor
open Go.RowKit au
structure Kn (w0:World):Prop where
 size: ∀c:Nat,c<12→uW w0 62 #[.int .i64 (c:Int)] (.tuple #[.int .u64 ((aK c:Nat):Int), .int .i64 0])
 slices: ∀c:Nat,c<12→uW w0 27 #[.int .i64 (c:Int)] (.tuple #[.int .i64 ((aM c:Nat):Int), .int .i64 0])
 blocks: ∀c:Nat,c<12→uW w0 177 #[.int .i64 (c:Int)] (.tuple #[.int .i64 ((bE c:Nat):Int), .int .i64 0])
end Go.Proofs.YtpibbcnkgdmcbaaGreatDoor
