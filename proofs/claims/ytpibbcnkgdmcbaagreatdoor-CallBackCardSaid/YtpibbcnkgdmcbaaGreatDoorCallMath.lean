/- Layer 14 (call), plain: a system, and a call, step by step. -/
import Derived.Test.YtpibbcnkgdmcbaaGreatDoorUses12
import Derived.Test.YtpibbcnkgdmcbaaGreatDoorCallsJ
set_option linter.unusedVariables false
namespace Go.Proofs.YtpibbcnkgdmcbaaGreatDoor.bf
open aC aG aF au aI aB aD
open aA (St reserve release)
structure SY where
 A:St
 H:Nat→HS
 N:List SG
 S:bP.SS
 hu:Nat→Nat
 nb:Nat→Option Nat
def SY.oo (P:SY) (t:Nat) (H:HS) (A:St):SY:={P with H:=fun u=>if u=t then H else P.H u,A:=A}
structure FR where
 t:Nat
 kd:Int
 ad:Nat
 n:Nat
 al:Nat
 z:Bool
 fo:Bool
 took:Nat
 pc:Int
 ps:Int
 pg:Int
 pu:Nat
 pages:List Nat
 seen:Int
 first:Nat
 tag:Nat
 left:Option Nat
 page:Option Nat
 bytes:Nat
 addr:Nat
 err:Int
def SY.all (P:SY):List SG:=(List.range 8).flatMap (fun t=>(P.H t).B)++P.N
theorem jo (P:SY) (t:Nat) (H:HS) (A:St):(P.oo t H A).H t=H:=if_pos rfl
theorem wB (P:SY) {t u:Nat} (H:HS) (A:St) (h:u≠t):(P.oo t H A).H u=P.H u:=if_neg h
end Go.Proofs.YtpibbcnkgdmcbaaGreatDoor.bf
