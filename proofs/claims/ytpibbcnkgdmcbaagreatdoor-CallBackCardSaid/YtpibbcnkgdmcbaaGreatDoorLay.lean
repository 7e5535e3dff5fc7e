/- From what the statement says of the program's table of sizes to what the walks ask of it. -/
import Derived.Test.YtpibbcnkgdmcbaaGreatDoorClasses12
import Derived.Test.YtpibbcnkgdmcbaaGreatDoorCards
import Derived.Test.YtpibbcnkgdmcbaaGreatDoorTie
import Derived.ProofKit
import Derived.LaidMore
import Derived.OpenShut
import Derived.Stop.Joined
set_option linter.unusedVariables false
set_option maxRecDepth 100000
namespace Go.Proofs.YtpibbcnkgdmcbaaGreatDoor
open Go.ChangeShapes Go.WideShapes Go.ChangeAt Go.RowKit au
def lZ:List (String×DataW Unit):= [("allotment/class.sizes",Rows.laid_allotment_class_sizes)]
theorem Xr:Tryz.prog.globalNamed "allotment/class.sizes" =some 0:=by kernel_rfl
theorem Wt:(Tryz.prog.globals[0]?).map (·.type)=some 82:=by kernel_rfl
theorem QM (os:Os) (args:Array Value):laidMetH Tryz.prog lZ ((World.doorLaid Tryz.prog 14 os).forCall (fun _ _=>0) ⟨#[],args, []⟩).memory:=
 laidMetH_of_parts3 (fuel:=8) (laidMet_of_run' 8 (by kernel_rfl) (by kernel_rfl)) (by kernel_rfl) (by kernel_rfl)
theorem KY (H:Type) (j:Nat) (hj:j<12):([.lit (.int .u64 16), .lit (.int .u64 32), .lit (.int .u64 48), .lit (.int .u64 64), .lit (.int .u64 96), .lit (.int .u64 128), .lit (.int .u64 192), .lit (.int .u64 256), .lit (.int .u64 384), .lit (.int .u64 512), .lit (.int .u64 768), .lit (.int .u64 1024)]:List (DataW H))[j]? =some (.lit (.int .u64 ((aK j:Nat):Int))):=by
 rcases j with _|_|_|_|_|_|_|_|_|_|_|_|j
 all_goals first|omega|rfl
theorem Cg {α:Type} {l:List α} {j:Nat} {x:α} (h:(l.drop j).take 1= [x]):l[j]? =some x:=by
 have:((l.drop j).take 1)[0]? =some x:=by rw [h];rfl
 simpa using this
theorem WT {W:World} (h:laidMetH Tryz.prog lZ W):Lay W:=by
 rw [MakeChecks.laidMetH_plain _ _ _ (by kernel_rfl)] at h;obtain ⟨ps,⟨g0,t0,cs0,f0,p0,q0,hg0,ht0,hv0,hd0,_,_⟩,_,_⟩:=h;obtain rfl:=Option.some.inj (Xr.symm.trans hg0);obtain rfl:=Option.some.inj (Wt.symm.trans ht0);obtain ⟨xs,m1,rfl,hx1,hlen,hn,hel⟩:=DataW.trod_array Tryz.underlying82 hd0;have c1:Tryz.prog.cellsOf 22=1:=by kernel_rfl
 simp only [Prod.mk.injEq,Rows.laid_allotment_class_sizes,DataW.agg.injEq] at hx1;intro j hj;have h1:=hel j hj;rw [c1,Nat.mul_one] at h1;have h2:=KY Unit j hj;rw [hx1.1,List.getElem?_map] at h2;cases hxj:xs[j]? with
 |none=>rw [hxj] at h2;cases h2
 |some x=>
  rw [hxj] at h1 h2;obtain ⟨n,e1,e2,_⟩:=DataW.trod_int Tryz.underlying22 h1;have h3:=Option.some.inj h2;rw [e2] at h3;injection h3 with h3
  injection h3 with _ h3
  subst h3;rw [World.var?_cell hg0 hv0 j];have h4:=Cg e1
  simpa using h4
end Go.Proofs.YtpibbcnkgdmcbaaGreatDoor
