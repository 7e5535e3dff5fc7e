/- What the laws of layer 10 need of the program's classes. -/
import Derived.Test.YtippfeplogkaiaaGreatDoorElems
import Derived.Test.YtippfeplogkaiaaGreatDoorClassMath
namespace Go.Proofs.YtippfeplogkaiaaGreatDoor
open Go.RowKit ClassMath
set_option linter.unusedVariables false
structure Kn (w0:World):Prop where
  size: ∀c:Nat,c<12→MadeBy w0 140 #[.int .i64 (c:Int)] (.tuple #[.int .u64 ((sizeAt c:Nat):Int), .int .i64 0])
  slices: ∀c:Nat,c<12→MadeBy w0 81 #[.int .i64 (c:Int)] (.tuple #[.int .i64 ((slicesAt c:Nat):Int), .int .i64 0])
  blocks: ∀c:Nat,c<12→MadeBy w0 279 #[.int .i64 (c:Int)] (.tuple #[.int .i64 ((blocksAt c:Nat):Int), .int .i64 0])
end Go.Proofs.YtippfeplogkaiaaGreatDoor
