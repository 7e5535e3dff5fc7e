/- For every input the law CallRefuses answers true, and its arguments read behind the call as they read before. One condition: the package-level variable class.sizes reads, when the call begins, as its initialiser lays it; the card ties that to the program's text (to the packages that the seat's pruned copy holds). -/
import Derived.Test.YtippfeplogkaiaaGreatDoorRefuse14
import Derived.Test.YtippfeplogkaiaaGreatDoorRecs12
import Derived.SevenTiedAt
import Derived.ProofKit
import Derived.OpenShut
import Derived.ShutString
import Derived.ChangeOld
import Derived.Below
import Derived.Lib.SmallJoins
namespace Go.Proofs.YtippfeplogkaiaaGreatDoor.callRefuses
open Go.ChangeShapes Go.WideShapes Go.ChangeAt Go.RowKit
set_option linter.unusedVariables false
theorem own:ownKnob Tryz.prog.godebug=none:=by kernel_rfl
theorem laidOut:laidOutB Tryz.prog=true:=by kernel_rfl
theorem wide6 (l:List Value) (h:l.length=6) {x0 x1 x2 x3 x4 x5:Value} (h0:l[0]? =some x0) (h1:l[1]? =some x1) (h2:l[2]? =some x2) (h3:l[3]? =some x3) (h4:l[4]? =some x4) (h5:l[5]? =some x5):l= [x0,x1,x2,x3,x4,x5]:=by
  match l,h with
  | [_,_,_,_,_,_],_=>simp_all
set_option maxRecDepth 100000 in
theorem lifted (os:Os) (started:os.Started) (H:Type) (enc:TypeId×Value→H):
    ReturnsInHanded {} Tryz.checked os 9 .any (fun w args=>(Rows.callRefusesSpec.pre enc Tryz.prog Tryz.f9 [] false w args∧laidMetH Tryz.prog laidSizes w)∧sizedMet enc Tryz.prog Tryz.f9 (OpenSpec.ofChange Rows.callRefusesSpec) false w args) (Rows.callRefusesSpec.post enc Tryz.prog Tryz.f9 false true false false):=by
  refine returnsInHanded_of_change_and (C:=Tryz.checked) (X:=fun w _=>laidMetH Tryz.prog laidSizes w) (fun _ _ _ hh h=>h.of_heap hh) own started (by kernel_rfl) Tryz.func9
    (ChangeSpec.witness_shaped (enc:=enc) (C:=Tryz.checked) (os:=os) (X:=fun w _=>laidMetH Tryz.prog laidSizes w) false (World.doorLaid Tryz.prog 14 os) #[.int .i64 0, .agg #[.int .i64 0, .int .u64 0, .int .u64 0, .int .u64 0, .bool false, .bool false]] 8 rfl (World.shaped_of_RefB (by kernel_rfl) (by kernel_rfl)) (by kernel_rfl) (by kernel_rfl) (by kernel_rfl) (door_met os _)) ?_
  intro W base args ds gs before hval0 hW _ _ hL0 _
  have hL:=lay_of hL0
  have hval: ∀(j:Nat) t v,Tryz.f9.params[j]? =some t→args[j]? =some v→Value.okWide Tryz.prog W .any base t v:=hval0
  have hW':=hW
  obtain ⟨p,q,hA0,hV,rfl,hfz,hnd⟩:=hW
  have hA:DataW.TrodAll enc Tryz.prog W 0 (fun _=>true) true Tryz.f9.params.toList args.toList ds p:=hA0
  rw [Tryz.params9] at hA hval
  obtain ⟨v0,vs0,d0,ds0,p0,q0,hargs,rfl,rfl,h0,r0⟩:=trodAll_cons hA
  obtain ⟨v1,vs1,d1,ds1,p1,q1,rfl,rfl,rfl,h1,r1⟩:=trodAll_cons r0
  obtain ⟨rfl,rfl,rfl⟩:=trodAll_nil r1
  obtain rfl:args= #[v0,v1]:=by cases args;simp_all
  obtain ⟨rfl,rfl⟩:=trodVars_none hV
  have k0:=h0
  have lt0: ∀x∈p0,x.block<W.heap.size:=by obtain ⟨m,hm⟩:=k0;exact DataW.trod_lt m _ _ _ hm
  obtain ⟨a0,rfl,_,_,w0⟩:=open_int Tryz.underlying3 (hval 0 3 v0 rfl rfl) h0
  have k1:=h1
  have lt1: ∀x∈p1,x.block<W.heap.size:=by obtain ⟨m,hm⟩:=k1;exact DataW.trod_lt m _ _ _ hm
  obtain ⟨cs1,e1,_⟩:=okWide_struct Tryz.underlying38 (hval 1 38 v1 rfl rfl)
  obtain ⟨fuel1,hf1⟩:=h1
  subst e1
  have hok1:AllOk W [.num .i64, .num .u64, .num .u64, .num .u64, .flag, .flag] cs1.toList:=leaves_ok 2 38 [.num .i64, .num .u64, .num .u64, .num .u64, .flag, .flag] (by kernel_rfl) _ _ _ hf1
  obtain ⟨v1x0,hu1x0,a1x0,e1x0,w1x0⟩:=hok1.2 0 _ rfl
  subst e1x0
  obtain ⟨v1x1,hu1x1,a1x1,e1x1,w1x1⟩:=hok1.2 1 _ rfl
  subst e1x1
  obtain ⟨v1x2,hu1x2,a1x2,e1x2,w1x2⟩:=hok1.2 2 _ rfl
  subst e1x2
  obtain ⟨v1x3,hu1x3,a1x3,e1x3,w1x3⟩:=hok1.2 3 _ rfl
  subst e1x3
  obtain ⟨v1x4,hu1x4,a1x4,e1x4⟩:=hok1.2 4 _ rfl
  subst e1x4
  obtain ⟨v1x5,hu1x5,a1x5,e1x5⟩:=hok1.2 5 _ rfl
  subst e1x5
  obtain rfl:cs1= #[.int .i64 a1x0, .int .u64 a1x1, .int .u64 a1x2, .int .u64 a1x3, .bool a1x4, .bool a1x5]:=by
    apply Array.toList_inj.1
    exact wide6 _ hok1.1 hu1x0 hu1x1 hu1x2 hu1x3 hu1x4 hu1x5
  clear hA0 hval0
  refine (walk W hL a0 w0 a1x0 w1x0 a1x1 w1x1 a1x2 w1x2 a1x3 w1x3 a1x4 a1x5).mono fun e W' ⟨he,bel⟩=> ?_
  subst he
  exact ⟨_,rfl,_,_,_, [],_, [],hW',trodAll_mk1 (shut_bool Tryz.underlying4 _),(trodAll_cons_mk (Below.trod laidOut (by kernel_rfl) (of_decide_eq_true (by kernel_rfl)) k0 bel lt0) (trodAll_cons_mk (Below.trod laidOut (by kernel_rfl) (of_decide_eq_true (by kernel_rfl)) k1 bel lt1) trodAll_mk0)),rfl,bel.frame _,fun h=>by cases h⟩
theorem over:Rows.callRefusesRow.holds Tryz.pinned (OpenSpec.ofChange Rows.callRefusesSpec):=
  OpenClaim.holds_of_wide 9 Tryz.f9 rfl rfl rfl rfl rfl rfl rfl ⟨rfl,rfl,rfl,rfl,rfl⟩ rfl rfl rfl rfl rfl (by kernel_rfl) Tryz.func9 facts
    (of_decide_eq_true (by kernel_rfl)) (by unfold Func.isWrapper;first|(rw [if_pos (by decide+kernel)];kernel_rfl)|(rw [if_neg (by decide+kernel)];exact ⟨rfl,rfl⟩))
    (fun os started H enc _=>lifted os started H enc)
theorem row_tie:Rows.callRefusesRow.laidByTextAt .later Tryz.pinned [.data] true:=callRefuses_row_tie
theorem proved:Rows.CallRefusesCardSaid:=
  Claim7.holds_tied_plain_at .later [] [.data] true Rows.callRefusesCard.stood.harness false
    over (fun _ h=>by cases h) (by kernel_rfl) (fun _ h=>by cases h) row_tie rfl ⟨rfl,rfl⟩ (by kernel_rfl) rfl
    (fun f fn hf hfn=>by
      obtain rfl:f=9:=Option.some.inj ((show Tryz.prog.funcNamed "allotment/allotmentlaw14.CallRefuses" =some 9 by kernel_rfl).symm.trans hf)|>.symm
      obtain rfl:fn=Tryz.f9:=(Option.some.inj (Tryz.func9.symm.trans hfn)).symm
      exact ⟨by kernel_rfl,fun j t ht=>by
        rw [Tryz.params9] at ht
        have hm:t∈ [3,38]:=by simpa using Array.mem_of_getElem? ht
        have hall:([3,38].all fun u=> !Tryz.prog.wantsStandIn u)=true:=by kernel_rfl
        exact (show Tryz.prog.wantsStandIn t=false by simpa using List.all_eq_true.1 hall t hm)⟩)
    (by kernel_rfl)
#print axioms proved
end Go.Proofs.YtippfeplogkaiaaGreatDoor.callRefuses
