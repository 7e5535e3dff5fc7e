/- Smalls12: texts of layers below, joined (PtrN BoolMap Same7 Quiet). -/
import Derived.LaidEqlPtr
import Derived.Test.YtpibbcnkgdmcbaaGreatDoorElems
import Derived.Maps.OwnOps
import Derived.Maps.OwnSet
import Derived.BigQuiet
set_option linter.unusedVariables false
namespace Go.Proofs.YtpibbcnkgdmcbaaGreatDoor
theorem run_neq_ptr_same {P:Program} {w:World} {tp te:TypeId} {j:TypeInfo} (a:Addr) (hp:P.underlying tp=some (.pointer te)) (hte:P.info? te=some j):
 (binOp .neq tp (.pointer (some a)) (.pointer (some a))).run P w= .ok (.bool false) w:=by
 have h: ∀d:Nat,(Op.equalIn (d+1) tp (.pointer (some a)) (.pointer (some a))).run P w= .ok true w:=fun d=>by
  simp [Op.equalIn,run_underlying hp,sizeOf,typeInfo,hte,run_sameAddr_same]
 simp only [binOp];simp [Op.equal,Op.maxDepth,h 9999]
theorem rH {P:Program} {w:World} {tp te:TypeId} {j:TypeInfo} {a b:Addr} {ca cb:Array Value} {ta tb:TypeId} (hp:P.underlying tp=some (.pointer te)) (hte:P.info? te=some j) (hsz:j.size≠0)
 (hne:a≠b) (ha:w.heap[a.block]? =some (.cells ca ta (0,0))) (hb:w.heap[b.block]? =some (.cells cb tb (0,0))):
 (binOp .neq tp (.pointer (some a)) (.pointer (some b))).run P w= .ok (.bool true) w:=by
 have h: ∀d:Nat,(Op.equalIn (d+1) tp (.pointer (some a)) (.pointer (some b))).run P w= .ok false w:=fun d=>by
  simp [Op.equalIn,run_underlying hp,sizeOf,typeInfo,hte,hsz,run_sameAddr_other w hne ha hb]
 simp only [binOp];simp [Op.equal,Op.maxDepth,h 9999]
end Go.Proofs.YtpibbcnkgdmcbaaGreatDoor
namespace Go.Proofs.YtpibbcnkgdmcbaaGreatDoor
open Go.RowKit Go.Maps
theorem gU {H:Type} {P:Program} {S:Nat→Prop} {w w':World} {k:TypeId} {R:Value→Option (DataW H×List MemPlace)} {b n:Nat} {D:DataW H} (h:w.ownsMap P k R b n D) (u:aH S w w') (hs: ¬S b):w'.ownsMap P k R b n D:=by
 have hlt:=h.lt;obtain ⟨es,clock,hb,F,hn,hD⟩:=h;exact ⟨es,clock,(u.block b hlt hs).trans hb,F,hn,hD⟩
end Go.Proofs.YtpibbcnkgdmcbaaGreatDoor
namespace Go.Proofs.YtpibbcnkgdmcbaaGreatDoor
open Go.RowKit
end Go.Proofs.YtpibbcnkgdmcbaaGreatDoor
namespace Go.Proofs.YtpibbcnkgdmcbaaGreatDoor
open Go.RowKit
theorem j5 {P:Program} {E:Type} (W:E→World) {id:Nat} {Q:Exit→Act→World→Prop} {a:Act} {w:World} {l:List Oper} (x0:E) (h0:w.drew=W x0) (hm:P.follows .mixedOrders=true) (hB:Region.lexB .any l.toArray=true)
 (h:wpQuiet P l.toArray (fun w'=> ∃n,w'=W n) (fun a'=> ∀w',(∃n,w'=W n)→Q .normal a' w') l a):(Code.region id l.toArray true).wp P Q a w:=
 wp_region_quiet (C:=fun w'=> ∃n,w'=W n) hm hB ⟨x0,h0⟩ (by simpa using h)
theorem Kg (S:World→Prop) {w:World} (h:S w.drew): ∃(E:Type) (W:E→World) (x0:E),w.drew=W x0∧(∀w',S w'→ ∃x,w'=W x)∧ ∀x,S (W x):=
 ⟨{w':World//S w'},Subtype.val,⟨w.drew,h⟩,rfl,fun w' hw=>⟨⟨w',hw⟩,rfl⟩,fun x=>x.2⟩
end Go.Proofs.YtpibbcnkgdmcbaaGreatDoor
