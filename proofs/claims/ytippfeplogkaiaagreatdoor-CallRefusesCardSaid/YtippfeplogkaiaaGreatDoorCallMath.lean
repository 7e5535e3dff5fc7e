/- Layer 14 (call), plain: a system, and a call, step by step. -/
import Derived.Test.YtippfeplogkaiaaGreatDoorUses12
import Derived.Test.YtippfeplogkaiaaGreatDoorStackMath
namespace Go.Proofs.YtippfeplogkaiaaGreatDoor.CallMath
open ListMath GeoMath PageMath ClassMath SegMath QueueMath HeapMath
open ArenaMath (St reserve release)
set_option linter.unusedVariables false
structure SY where
  A:St
  H:Nat→HS
  N:List SG
  S:StackMath.SS
  hu:Nat→Nat
  nb:Nat→Option Nat
def SY.putH (P:SY) (t:Nat) (H:HS) (A:St):SY:={P with H:=fun u=>if u=t then H else P.H u,A:=A}
structure FR where
  t:Nat
  kd:Int
  ad:Nat
  n:Nat
  al:Nat
  z:Bool
  fo:Bool
  took:Nat
  pc:Int
  ps:Int
  pg:Int
  pu:Nat
  pages:List Nat
  seen:Int
  first:Nat
  tag:Nat
  left:Option Nat
  page:Option Nat
  bytes:Nat
  addr:Nat
  err:Int
def SY.all (P:SY):List SG:=(List.range 8).flatMap (fun t=>(P.H t).B)++P.N
theorem putH_same (P:SY) (t:Nat) (H:HS) (A:St):(P.putH t H A).H t=H:=if_pos rfl
theorem putH_ne (P:SY) {t u:Nat} (H:HS) (A:St) (h:u≠t):(P.putH t H A).H u=P.H u:=if_neg h
end Go.Proofs.YtippfeplogkaiaaGreatDoor.CallMath
