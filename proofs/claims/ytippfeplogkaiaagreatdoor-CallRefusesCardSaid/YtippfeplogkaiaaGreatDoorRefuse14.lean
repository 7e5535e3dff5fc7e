/- Refuse14: texts of layers below, joined (Lay CallRefusesGoes CallRefusesFacts). -/
import Derived.Test.YtippfeplogkaiaaGreatDoorClasses12
import Derived.Test.YtippfeplogkaiaaGreatDoorCards
import Derived.Test.YtippfeplogkaiaaGreatDoorTie
import Derived.ProofKit
import Derived.LaidMore
import Derived.OpenShut
import Derived.Stop.Joined
import Derived.Test.YtippfeplogkaiaaGreatDoorCallRefusesWalk
import Derived.Test.YtippfeplogkaiaaGreatDoorRecs12
import Derived.Test.YtippfeplogkaiaaGreatDoorRows
import Derived.JoinedOf
/- From what the statement says of the program's table of sizes to what the walks ask of it. -/
namespace Go.Proofs.YtippfeplogkaiaaGreatDoor
open Go.ChangeShapes Go.WideShapes Go.ChangeAt Go.RowKit ClassMath
set_option linter.unusedVariables false
set_option maxRecDepth 100000
def laidSizes:List (String×DataW Unit):= [("allotment/class.sizes",Rows.laid_allotment_class_sizes)]
theorem gSizes:Tryz.prog.globalNamed "allotment/class.sizes" =some 0:=by kernel_rfl
theorem tSizes:(Tryz.prog.globals[0]?).map (·.type)=some 176:=by kernel_rfl
theorem door_met (os:Os) (args:Array Value):laidMetH Tryz.prog laidSizes ((World.doorLaid Tryz.prog 14 os).forCall (fun _ _=>0) ⟨#[],args, []⟩).memory:=
  laidMetH_of_parts3 (fuel:=8) (laidMet_of_run' 8 (by kernel_rfl) (by kernel_rfl)) (by kernel_rfl) (by kernel_rfl)
theorem sizes_lit (H:Type) (j:Nat) (hj:j<12):([.lit (.int .u64 16), .lit (.int .u64 32), .lit (.int .u64 48), .lit (.int .u64 64), .lit (.int .u64 96), .lit (.int .u64 128), .lit (.int .u64 192), .lit (.int .u64 256), .lit (.int .u64 384), .lit (.int .u64 512), .lit (.int .u64 768), .lit (.int .u64 1024)]:List (DataW H))[j]? =some (.lit (.int .u64 ((sizeAt j:Nat):Int))):=by
  rcases j with _|_|_|_|_|_|_|_|_|_|_|_|j
  all_goals first|omega|rfl
theorem head_of_take {α:Type} {l:List α} {j:Nat} {x:α} (h:(l.drop j).take 1= [x]):l[j]? =some x:=by
  have:((l.drop j).take 1)[0]? =some x:=by rw [h];rfl
  simpa using this
theorem lay_of {W:World} (h:laidMetH Tryz.prog laidSizes W):Lay W:=by
  rw [MakeChecks.laidMetH_plain _ _ _ (by kernel_rfl)] at h
  obtain ⟨ps,⟨g0,t0,cs0,f0,p0,q0,hg0,ht0,hv0,hd0,_,_⟩,_,_⟩:=h
  obtain rfl:=Option.some.inj (gSizes.symm.trans hg0)
  obtain rfl:=Option.some.inj (tSizes.symm.trans ht0)
  obtain ⟨xs,m1,rfl,hx1,hlen,hn,hel⟩:=DataW.trod_array Tryz.underlying176 hd0
  have c1:Tryz.prog.cellsOf 36=1:=by kernel_rfl
  simp only [Prod.mk.injEq,Rows.laid_allotment_class_sizes,DataW.agg.injEq] at hx1
  intro j hj
  have h1:=hel j hj
  rw [c1,Nat.mul_one] at h1
  have h2:=sizes_lit Unit j hj
  rw [hx1.1,List.getElem?_map] at h2
  cases hxj:xs[j]? with
  |none=>rw [hxj] at h2;cases h2
  | some x=>
    rw [hxj] at h1 h2
    obtain ⟨n,e1,e2,_⟩:=DataW.trod_int Tryz.underlying36 h1
    have h3:=Option.some.inj h2
    rw [e2] at h3
    injection h3 with h3
    injection h3 with _ h3
    subst h3
    rw [World.var?_cell hg0 hv0 j]
    have h4:=head_of_take e1
    simpa using h4
end Go.Proofs.YtippfeplogkaiaaGreatDoor
/- The law CallRefuses, walked over the program's own code. -/
namespace Go.Proofs.YtippfeplogkaiaaGreatDoor.callRefuses
open Go.RowKit ListMath PageMath GeoMath SegMath ClassMath HeapMath QueueMath ArenaMath CallMath
set_option linter.unusedVariables false
theorem u64_bd {n:Int} (h:(Lit.int .u64 n).wf=true):0≤n∧n≤18446744073709551615:=by
  simp [Lit.wf,IntKind.min,IntKind.max,IntKind.signed,IntKind.bits] at h;omega
set_option maxHeartbeats 1000000 in
theorem walk (w:World) (L:Lay w) (t:Int) (wt:(Lit.int .i64 t).wf=true) (kd:Int) (wkd:(Lit.int .i64 kd).wf=true) (ad:Int) (wad:(Lit.int .u64 ad).wf=true) (n:Int) (wn:(Lit.int .u64 n).wf=true) (al:Int) (wal:(Lit.int .u64 al).wf=true) (zz fo:Bool):
    Calls Tryz.prog 9 #[.int .i64 t, .agg #[.int .i64 kd, .int .u64 ad, .int .u64 n, .int .u64 al, .bool zz, .bool fo]] w fun e w'=>e= .returned (.bool true)∧Below w.heap.size w w':=by
  have h1:=u64_bd wad;have h2:=u64_bd wn;have h3:=u64_bd wal
  obtain ⟨ad',rfl⟩: ∃k:Nat,ad=(k:Int):=⟨ad.toNat,by omega⟩
  obtain ⟨n',rfl⟩: ∃k:Nat,n=(k:Int):=⟨n.toNat,by omega⟩
  obtain ⟨al',rfl⟩: ∃k:Nat,al=(k:Int):=⟨al.toNat,by omega⟩
  have b1:U64B ad':=by show ad'≤_;omega
  have b2:U64B n':=by show n'≤_;omega
  have b3:U64B al':=by show al'≤_;omega
  by_cases hbad:t<0∨8≤t∨kd<1∨5<kd
  · exact refuses_bad w L hbad
  obtain ⟨t',rfl⟩: ∃k:Nat,t=(k:Int):=⟨t.toNat,by omega⟩
  have ht:t'<8:=by omega
  have hh:kd=1∨kd=2∨kd=3∨kd=4∨kd=5:=by omega
  rcases hh with rfl|rfl|rfl|rfl|rfl
  · exact refuses_mall w L ht b1 b2 b3
  · exact refuses_one w L (by decide) ht b1 b2 b3
  · exact refuses_one w L (by decide) ht b1 b2 b3
  · exact refuses_one w L (by decide) ht b1 b2 b3
  · exact refuses_one w L (by decide) ht b1 b2 b3
end Go.Proofs.YtippfeplogkaiaaGreatDoor.callRefuses
/- What the law CallRefuses's row says of the program, computed: in a text of its own, for the memory that it takes. -/
namespace Go.Proofs.YtippfeplogkaiaaGreatDoor.callRefuses
open Go.ChangeShapes Go.WideShapes Go.ChangeAt Go.RowKit
theorem facts:joinedFacts Tryz.pinned.checked.prog 9 Tryz.f9 Rows.callRefusesSpec Rows.callRefusesRow=true:=by kernel_rfl
end Go.Proofs.YtippfeplogkaiaaGreatDoor.callRefuses
